import Derived.Test.YtooabooekgphpaaGreatDoorKPMG
set_option linter.all false
open Go.Proofs.Tryz
set_option maxRecDepth 100000
set_option maxHeartbeats 20000000
namespace Go.Proofs.YtooabooekgphpaaGreatDoor
open Go.RowKit
namespace Pn
theorem NK (v : Value) (W : World) : (method 457 208 v "pinset/plan.sameAs").run prog W = .ok (289, v) W := by kernel_rfl
theorem NL (v : Value) (W : World) : (method 457 211 v "pinset/plan.sameAs").run prog W = .ok (291, v) W := by kernel_rfl
theorem NM (v : Value) (W : World) : (method 457 213 v "pinset/plan.sameAs").run prog W = .ok (292, v) W := by kernel_rfl
theorem NN (v : Value) (W : World) : (method 457 89 v "pinset/plan.sameAs").run prog W = .ok (285, v) W := by kernel_rfl
theorem NP (v : Value) (W : World) : (method 457 92 v "pinset/plan.sameAs").run prog W = .ok (287, v) W := by kernel_rfl
end Pn
namespace Pn
open Mf Ed
variable{A z A2:Nat->Prop}{S:Nat->Shf}{w w' W W1 E wf:zW}{I Q J mb G:Nat}{cap:Int}{Y:List Int}{D Z:List Kp}{L:List (zV×zV)}{B M:Nat}{tv O:zV}{V j1:List Tie}{r:Nat}{q:Qn}{k:Kp}{U:List Qn}{j0:List Int}
theorem Eng.less(h:Eng A2 S w I Q J mb G cap Y D L)(hs:∀b,A b->A2 b)(T:A I/\A J/\A Q/\A mb):Eng A S w I Q J mb G cap Y D L:=by
 obtain⟨N,g1,g2⟩:=h.desk.map;exact⟨⟨h.desk.f0,h.desk.f1,h.desk.f2,h.desk.cn,⟨N,g1,g2.more (fun b _ e=>hs b e)⟩,h.desk.ne,T.1,T.2.1⟩,h.shelf,h.on,h.inv,h.ml,h.len,fun b e=>h.hA b (hs b e),⟨T.2.2.1,T.2.2.2⟩,h.ne,h.ok,h.rt⟩
theorem Eng.wide(h:Eng A S w I Q J mb G cap Y D L)(T:zB w w')(P:Nat->Prop)(hP:∀b,P b->w.heap.size<=b/\b<w'.heap.size):Eng (fun b=>A b\/P b) S w' I Q J mb G cap Y D L:=by
 have he:=h.below T;obtain⟨N,g1,g2⟩:=h.desk.map
 have g3:dT (fun b=>A b\/P b) w N D:=g2.more (fun b a0 e=>by
  rcases e with e|e
  ·exact e
  have:=(hP b e).1;omega)
 exact⟨⟨he.desk.f0,he.desk.f1,he.desk.f2,he.desk.cn,⟨N,g1.of_block (T.block J g1.lt),g3.turn (ai.of_below T)⟩,he.desk.ne,oE he.desk.hd,oE he.desk.hf⟩,he.shelf,he.on,he.inv,he.ml,he.len,fun b e=>by
   rcases e with e|e
   ·exact he.hA b e
   exact(hP b e).2,⟨oE he.ns.1,oE he.ns.2⟩,he.ne,he.ok,he.rt⟩
theorem Eng.count(h:Eng A S w I Q J mb G cap Y D L)(j:Nat):Eng A S (w.setCell (tD I (3+j)) (.int .i64 (wrap64 (Y[j]?.getD 0+1)))) I Q J mb G cap (bump Y j) D L:=by
 have T:=h.ne;have e:∀b,b≠I->(w.setCell (tD I (3+j)) (.int .i64 (wrap64 (Y[j]?.getD 0+1)))).heap[b]?=w.heap[b]?:=fun b hb=>aM _ _ _ _ hb
 have hz:(w.setCell (tD I (3+j)) (.int .i64 (wrap64 (Y[j]?.getD 0+1)))).heap.size=w.heap.size:=by simp[World.setCell]
 obtain⟨m,hm⟩:=h.ml;refine⟨h.desk.bump j,h.shelf.of_block (e Q (fun x=>T.1 x.symm)) (e mb (fun x=>T.2.1 x.symm)),h.on,h.inv,⟨m,?_⟩,by unfold bump;rw[List.length_set];exact h.len,fun b hb=>by rw[hz];exact h.hA b hb,h.ns,h.ne,h.ok,h.rt⟩;rw[aZ (w:=w) (a:=(tD 0 0)) (e 0 (fun x=>T.2.2.2.2.1 x.symm))];exact hm
theorem Qd(w:zW)(T o2 o3 o4:Obj):zB w ((((w.alloc T).alloc o2).alloc o3).alloc o4)/\((((w.alloc T).alloc o2).alloc o3).alloc o4).heap[w.heap.size]?=some T/\((((w.alloc T).alloc o2).alloc o3).alloc o4).heap[w.heap.size+1]?=some o2/\((((w.alloc T).alloc o2).alloc o3).alloc o4).heap[w.heap.size+2]?=some o3/\((((w.alloc T).alloc o2).alloc o3).alloc o4).heap[w.heap.size+3]?=some o4:=by
 have b1:zB w (w.alloc T):=(ae _ _).alloc (af _) _;have b2:=b1.alloc b1.size o2;have b3:=b2.alloc b2.size o3;have b4:=b3.alloc b3.size o4;have s1:(w.alloc T).heap.size=w.heap.size+1:=by simp
 have s2:((w.alloc T).alloc o2).heap.size=w.heap.size+2:=by simp
 have s3:(((w.alloc T).alloc o2).alloc o3).heap.size=w.heap.size+3:=by simp
 refine⟨b4,?_,?_,?_,?_⟩
 ·rw[aG _ _ _ (by omega),aG _ _ _ (by omega),aG _ _ _ (by omega)];exact ay _ _
 ·rw[aG _ _ _ (by omega),aG _ _ _ (by omega),<-s1];exact ay _ _
 ·rw[aG _ _ _ (by omega),<-s2];exact ay _ _
 rw[<-s3];exact ay _ _
theorem fP.iface{v:zV}:∀{f:Fi},fP A w v f->∃T u,v=.iface T u
 | .man _ _,⟨_,_,_,h,_⟩=>⟨_,_,h⟩
 | .idx _ _,⟨_,h,_⟩=>⟨_,_,h⟩
 | .wants _ _,⟨_,_,h,_⟩=>⟨_,_,h⟩
 | .list _ _,⟨_,_,h,_⟩=>⟨_,_,h⟩
 | .ord _ _,⟨_,_,h,_⟩=>⟨_,_,h⟩
def uv(S:Nat->Shf)(I Q J mb G:Nat)(cap:Int)(L:List (zV×zV))(F:Find)(g:Nat)(q:Qn):Prop:=
 ∀(A:Nat->Prop)(w:zW)(Y:List Int)(D:List Kp)(B M:Nat),D.length+10000*g<=N15->Tsk A S w B M I Q J mb G cap Y D L (zN) []->
  zC 128 #[zP M,qv q] w fun e w'=>∃A2 O T f Z U V,e=.returned T/\fP A2 w' T f/\Pre F (S G) D (df q) Z (.ret f) V U/\dH A S w B M I Q J mb G cap L (zN) w' A2 (counted Y U) Z O V/\(kP f=q.kind/\yV f/\Small f/\(∀t∈V,jr t)/\V.length<=10000)
def Gl(A:Nat->Prop)(w:zW)(T:zV)(q:Qn):Option Kp->Prop
 |none=>T=.agg #[.nilIface,zN,.int .i64 0,.int .i64 0]
 |some k=>iD A w T k/\kP k.f=q.kind/\Small k.f
open Classical in
noncomputable def fD(G:Nat)(f:Fi):Option Kp->Nat
 |none=>G
 |some k=>if f.ess=k.f.ess then k.changed else G
theorem Ae:∀l:List Tie,l.map pJ=l.flatMap yS
 |[]=>rfl
 |x::l=>by
  rw[bD,jv,Ae l];rfl
theorem Fo{a b c d T b' c' d':zV}(h:Value.agg #[a,b,c,d]=.agg #[T,b',c',d']):a=T/\b=b'/\c=c'/\d=d':=by
 injection h with h;simpa using h
open Classical in
noncomputable def kJ(f:Fi):Option Kp->Bool
 |none=>false
 |some k=>decide (f.ess=k.f.ess)
def AFi(A:Nat->Prop)(w:zW)(a:zV)(f:Fi):Option Kp->Prop
 |none=>a=.nilIface
 |some k=>fP A w a k.f/\kP k.f=kP f
open Classical in
theorem NQ{T:Nat}{fu a:zV}{pr:Nat}{m:Mx}{o:Option Kp}(hf:fP A w (.iface T fu) (.man pr m))(ha:AFi A w a (.man pr m) o)(hs:Small (.man pr m)):T=208/\zC 289 #[fu,a] w fun e w'=>e=.returned (.bool (kJ (.man pr m) o))/\zB w w':=by
 obtain⟨rv,xv,sv,e,h1,h2,h3⟩:=hf;injection e with e1 e2;subst e1;subst e2;refine⟨rfl,?_⟩;cases o with
 |none=>
  obtain rfl:=ha;obtain⟨ra,rc,rfl⟩:=h1.len;obtain⟨xa,xc,rfl⟩:=h2.len;obtain⟨sa,sc,rfl⟩:=h3.len;exact KU pr m.p ra _ rc xa _ xc sa _ sc w
 |some k=>
  obtain⟨hk,hn⟩:=ha;cases hkf:k.f with
  |man a3 m'=>
   rw[hkf] at hk;obtain⟨a4,a6,a5,rfl,a0,a1,a2⟩:=hk;have key:=KT pr a3 m.p m'.p rv a4 m.R m'.R xv a6 m.X m'.X sv a5 m.S m'.S w hs.1 hs.2.1 hs.2.2 h1 h2 h3 a0 a1 a2;refine key.mono ?_;rintro e w' ⟨rfl,hb⟩;refine⟨?_,hb⟩
   congr 2
   show _=decide (Fi.ess (.man pr m)=k.f.ess);rw[hkf];refine decide_eq_decide.2 ?_;obtain⟨p,R,X,S⟩:=m;obtain⟨p',R',X',S'⟩:=m';simp[Fi.ess]
  |_=>rw[hkf] at hn;simp[kP] at hn
open Classical in
theorem NR{T:Nat}{fu a:zV}{pr:Nat}{vs:List zA}{o:Option Kp}(hf:fP A w (.iface T fu) (.idx pr vs))(ha:AFi A w a (.idx pr vs) o)(hs:Small (.idx pr vs)):T=211/\zC 291 #[fu,a] w fun e w'=>e=.returned (.bool (kJ (.idx pr vs) o))/\zB w w':=by
 obtain⟨u,e,h1⟩:=hf;injection e with e1 e2;subst e1;subst e2;refine⟨rfl,?_⟩;cases o with
 |none=>
  obtain rfl:=ha;obtain⟨ra,rc,rfl⟩:=h1.len;exact KW pr ra _ rc w
 |some k=>
  obtain⟨hk,hn⟩:=ha;cases hkf:k.f with
  |idx a1 a2=>
   rw[hkf] at hk;obtain⟨u',rfl,a0⟩:=hk;refine(KV pr a1 u u' vs a2 w hs h1 a0).mono ?_;rintro e w' ⟨rfl,hb⟩;refine⟨?_,hb⟩
   congr 2
   show _=decide (Fi.ess (.idx pr vs)=k.f.ess);rw[hkf];exact decide_eq_decide.2 (by simp[Fi.ess])
  |_=>rw[hkf] at hn;simp[kP] at hn
open Classical in
theorem IU{T:Nat}{fu a:zV}{ms:List Mo}{ps:List Pb}{o:Option Kp}(hf:fP A w (.iface T fu) (.wants ms ps))(ha:AFi A w a (.wants ms ps) o)(hs:Small (.wants ms ps)):T=213/\zC 292 #[fu,a] w fun e w'=>e=.returned (.bool (kJ (.wants ms ps) o))/\zB w w':=by
 obtain⟨u,v,e,h1,h2⟩:=hf;injection e with e1 e2;subst e1;subst e2;refine⟨rfl,?_⟩;cases o with
 |none=>
  obtain rfl:=ha;obtain⟨ra,rc,rfl⟩:=h1.len;obtain⟨xa,xc,rfl⟩:=h2.len;exact Ff ra _ rc xa _ xc w
 |some k=>
  obtain⟨hk,hn⟩:=ha;cases hkf:k.f with
  |wants a2 a3=>
   rw[hkf] at hk;obtain⟨u',v',rfl,a0,a1⟩:=hk;refine(Fb u u' ms a2 v v' ps a3 w hs.1 hs.2 h1 h2 a0 a1).mono ?_;rintro e w' ⟨rfl,hb⟩;refine⟨?_,hb⟩
   congr 2
   show _=decide (Fi.ess (.wants ms ps)=k.f.ess);rw[hkf];exact decide_eq_decide.2 (by simp[Fi.ess])
  |_=>rw[hkf] at hn;simp[kP] at hn
open Classical in
theorem K8{T:Nat}{fu a:zV}{ms:List Mo}{ps:List Pb}{o:Option Kp}(hf:fP A w (.iface T fu) (.list ms ps))(ha:AFi A w a (.list ms ps) o)(hs:Small (.list ms ps)):T=89/\zC 285 #[fu,a] w fun e w'=>e=.returned (.bool (kJ (.list ms ps) o))/\zB w w':=by
 obtain⟨u,v,e,h1,h2⟩:=hf;injection e with e1 e2;subst e1;subst e2;refine⟨rfl,?_⟩;cases o with
 |none=>
  obtain rfl:=ha;obtain⟨ra,rc,rfl⟩:=h1.len;obtain⟨xa,xc,rfl⟩:=h2.len;exact IA ra _ rc xa _ xc w
 |some k=>
  obtain⟨hk,hn⟩:=ha;cases hkf:k.f with
  |list a3 a4=>
   rw[hkf] at hk;obtain⟨u',v',rfl,a0,a1⟩:=hk;obtain⟨xa,xc,hx⟩:=h2.len;obtain⟨a5,a6,a2⟩:=a1.len;refine(Iz u u' ms a3 v v' w hs.1 h1 a0 ⟨_,_,_,hx⟩ ⟨_,_,_,a2⟩).mono ?_;rintro e w' ⟨rfl,hb⟩;refine⟨?_,hb⟩
   congr 2
   show _=decide (Fi.ess (.list ms ps)=k.f.ess);rw[hkf];exact decide_eq_decide.2 (by simp[Fi.ess])
  |_=>rw[hkf] at hn;simp[kP] at hn
open Classical in
theorem NT{T:Nat}{fu a:zV}{ms:List zA}{ps:List Pb}{o:Option Kp}(hf:fP A w (.iface T fu) (.ord ms ps))(ha:AFi A w a (.ord ms ps) o)(hs:Small (.ord ms ps)):T=92/\zC 287 #[fu,a] w fun e w'=>e=.returned (.bool (kJ (.ord ms ps) o))/\zB w w':=by
 obtain⟨u,v,e,h1,h2⟩:=hf;injection e with e1 e2;subst e1;subst e2;refine⟨rfl,?_⟩;cases o with
 |none=>
  obtain rfl:=ha;obtain⟨ra,rc,rfl⟩:=h1.len;obtain⟨xa,xc,rfl⟩:=h2.len;exact KZ ra _ rc xa _ xc w
 |some k=>
  obtain⟨hk,hn⟩:=ha;cases hkf:k.f with
  |ord a2 a3=>
   rw[hkf] at hk;obtain⟨u',v',rfl,a0,a1⟩:=hk;refine(KY u u' ms a2 v v' ps a3 w hs.1 hs.2 h1 h2 a0 a1).mono ?_;rintro e w' ⟨rfl,hb⟩;refine⟨?_,hb⟩
   congr 2
   show _=decide (Fi.ess (.ord ms ps)=k.f.ess);rw[hkf];exact decide_eq_decide.2 (by simp[Fi.ess])
  |_=>rw[hkf] at hn;simp[kP] at hn
theorem sI{F:Find}{g:Nat}(hW:uv S I Q J mb G cap L F g q)(hD:D.length+10000*g<=N15)(av:zV)(o:Option Kp)(w:zW)(h:Eng A S w I Q J mb G cap Y D L)(ha:Gl A w av q o):
  zC 102 #[zP I,qv q,av] w fun e w'=>∃fv b1 f V Z U,e=.returned (.agg #[fv,b1,.int .i64 (fD G f o:Nat),.int .i64 0])/\fP A w' fv f/\RdA A yS w' b1 V/\Pre F (S G) D (df q) Z (.ret f) V U/\Eng A S w' I Q J mb G cap (counted Y (U++[q])) Z L/\ai (fun b=>b=I\/b=J) w w'/\(kP f=q.kind/\yV f/\Small f/\(∀t∈V,jr t)/\V.length<=10000):=by
 obtain⟨a5,a7,a4,a8,rfl⟩:∃a b c d,av=.agg #[a,b,c,d]:=by
  cases o with
  |none=>exact⟨_,_,_,_,ha⟩
  |some k=>obtain⟨⟨fv,tv,e,_⟩,_⟩:=ha;exact⟨_,_,_,_,e⟩
 obtain⟨qk,qp,qw⟩:=q;show zC 102 #[zP I,.agg #[.int .i64 (qk:Nat),tS qp,tS qw],.agg #[a5,a7,a4,a8]] w _;have HE:=zH h;have c7:Hid (Gl A w (.agg #[a5,a7,a4,a8]) ⟨qk,qp,qw⟩ o):=ha;have bp:=Qd w (.cells #[.int .i64 (qk:Nat),tS qp,tS qw] 82) (.cells #[a5,a7,a4,a8] 109) (.cells #[.nilIface,zN,.int .i64 0,.int .i64 0] 109) (.cells #[zP I,zN] 87)
 have HP:Hid (∀b,b=w.heap.size+2\/b=w.heap.size+3->w.heap.size<=b/\b<((((w.alloc (.cells #[.int .i64 (qk:Nat),tS qp,tS qw] 82)).alloc (.cells #[a5,a7,a4,a8] 109)).alloc (.cells #[.nilIface,zN,.int .i64 0,.int .i64 0] 109)).alloc (.cells #[zP I,zN] 87)).heap.size):=fun b e=>by
  simp;omega
 have c3:=h.wide bp.1 (fun b=>b=w.heap.size+2\/b=w.heap.size+3) HP.o;have a6:Hid _:=bp;clear bp;have hF:=fd2 a6.o.2.2.2.2
 have c4:Tsk (fun b=>A b\/(b=w.heap.size+2\/b=w.heap.size+3)) S ((((w.alloc (.cells #[.int .i64 (qk:Nat),tS qp,tS qw] 82)).alloc (.cells #[a5,a7,a4,a8] 109)).alloc (.cells #[.nilIface,zN,.int .i64 0,.int .i64 0] 109)).alloc (.cells #[zP I,zN] 87)) w.heap.size (w.heap.size+3) I Q J mb G cap Y D L (zN) []:=
  ⟨c3,⟨hF.1,hF.2,eM ..,by simp[Value.ownBlock],by omega⟩,fun b e=>by
   rcases e with e|e
   ·exact oS (oS e)
   simp[Value.ownBlock] at e,⟨h.hA _ h.desk.hd,h.hA _ h.desk.hf,h.hA _ h.ns.1,h.hA _ h.ns.2,by have:=h.hA _ h.desk.hd;omega⟩,a6.o.1.size⟩
 have kw:=hW _ _ _ _ _ _ hD c4;clear h ha c3 hF c4 hW hD;go_enter func102,ntmps102
 go_wp2_with (go_at_call 128;fail)
 rw[show w.heap.size+1+1+1=w.heap.size+3 from rfl,show w.heap.size+1+1=w.heap.size+2 from rfl];generalize (((w.alloc (.cells #[.int .i64 (qk:Nat),tS qp,tS qw] 82)).alloc (.cells #[a5,a7,a4,a8] 109)).alloc (.cells #[.nilIface,zN,.int .i64 0,.int .i64 0] 109)).alloc (.cells #[zP I,zN] 87)=W1 at*;go_at_call 128;refine kw.mono ?_;rintro e E ⟨A2,O,fv,f,Z,U,V,rfl,bn,b7,b0,c5⟩
 have HS:Hid (∀b,b<W1.heap.size->w.heap.size<=b->b≠w.heap.size+3->E.heap[b]?=W1.heap[b]?):=fun b hb cx da=>b0.f.block b hb (fun e=>by
  have h1:=HE.o.hA _ HE.o.desk.hd;have h2:=HE.o.hA _ HE.o.desk.hf;rcases e with e|e|e|e
  ·omega
  ·omega
  ·omega
  simp[Value.ownBlock] at e)
 have bk:Hid (W1.heap.size=W1.heap.size/\w.heap.size+3<W1.heap.size):=⟨rfl,ah a6.o.2.2.2.2⟩;have b9:Hid (E.heap[w.heap.size+1]?=some (.cells #[a5,a7,a4,a8] 109)):=(HS.o _ (by have:=bk.o.2;omega) (by omega) (by omega)).trans a6.o.2.2.1;have bd:Hid (E.heap[w.heap.size+2]?=some (.cells #[.nilIface,zN,.int .i64 0,.int .i64 0] 109)):=(HS.o _ (by have:=bk.o.2;omega) (by omega) (by omega)).trans a6.o.2.2.2.1;have T:Hid (dH (fun b=>A b\/(b=w.heap.size+2\/b=w.heap.size+3)) S W1 w.heap.size (w.heap.size+3) I Q J mb G cap L (zN) E A2 (counted Y U) Z O V):=b0;have HO:Hid (Pre F (S G) D (df ⟨qk,qp,qw⟩) Z (.ret f) V U/\(kP f=qk/\yV f/\Small f/\(∀t∈V,jr t)/\V.length<=10000)):=⟨b7,c5⟩;have bs:Hid (fP A2 E fv f):=bn;have kc:=KQ E b0.t.eng.desk bn b0.t.eng.len;clear b0 b7 c5 bn HS kw
 go_wp2_with (go_at_call 129;fail)
 go_at_call 129;refine kc.mono ?_;rintro e w3 ⟨rfl,bq⟩;have b2:Hid (Eng A2 S w3 I Q J mb G cap (bump (counted Y U) (kP f)) Z L):=by rw[bq];exact T.o.t.eng.count _
 have aa:Hid (ai (fun b=>b=I) E w3):=by rw[bq];exact(ai.refl (fun b=>b=I) E).set (a:=⟨I,3+kP f,none⟩) (fun _=>rfl) _
 clear bq kc;have bt:Hid (∀b,w.heap.size<=b->b≠I):=fun b hb e=>by have:=HE.o.hA _ HE.o.desk.hd;omega
 have aq:Hid (fP A2 w3 fv f):=bs.o.turn (aa.o.mono (fun b _ e=>by rw[e];exact b2.o.desk.hd));have ab:Hid (dA w.heap.size w3 (w.heap.size+3) I O V):=T.o.t.task.turn aa.o (fun b e=>by rw[e];exact HE.o.hA _ HE.o.desk.hd);have br:Hid (w3.heap[w.heap.size+1]?=some (.cells #[a5,a7,a4,a8] 109)):=(aa.o.block _ (ah b9.o) (bt.o _ (by omega))).trans b9.o;have bh:Hid (w3.heap[w.heap.size+2]?=some (.cells #[.nilIface,zN,.int .i64 0,.int .i64 0] 109)):=(aa.o.block _ (ah bd.o) (bt.o _ (by omega))).trans bd.o;clear b9 bd bs;have kr:∀W,zB w3 W->zC 32 #[zP Q] W fun e w'=>e=.returned (.int .i64 (G:Nat))/\w'=W:=fun W hb=>tK W (b2.o.shelf.below hb)
 have au:Hid (∀W,zB w3 W->W.cell? (tD (w.heap.size+3) 1)=some O/\W.cell? (tD I 0)=some (zP Q)):=fun W hb=>⟨(ab.o.below hb).t1.1,(b2.o.desk.below hb).f0.1⟩
 obtain⟨p0,p1⟩:=au.o _ (ae _ _);obtain⟨ta,tc,cp⟩:=ax ab.o.row;subst cp;obtain⟨fT,fu,ck⟩:=aq.o.iface;subst ck;go_upto_region 4 with fail
 go_cut [9] (fun xp wx=>∃xb,xp=zP xb/\Hid (zB w3 wx/\w3.heap.size<=xb/\wx.heap[xb]?=some (.cells #[.iface fT fu,.slice ta V.length tc,.int .i64 (G:Nat),.int .i64 0] 109)))
 case first=>
  go_region_held3 (fun w'=>w'.cell? (tD (w.heap.size+3) 1)=some (.slice ta V.length tc)/\w'.cell? (tD I 0)=some (zP Q))
  (first|exact⟨p0,p1⟩|exact au.o _ ((ae _ _).drew)|exact au.o _ (aB ((ae _ _).drew) _)|exact au.o _ (aB (ae _ _) _))
  (first|(go_at_call 32;refine(kr _ ((ae _ _).drew)).mono ?_;rintro e w4 ⟨rfl,rfl⟩)|(go_at_call 32;refine(kr _ (aB ((ae _ _).drew) _)).mono ?_;rintro e w4 ⟨rfl,rfl⟩))
  all_goals
   go_wp2_with fail
   go_meet
   first
    |exact⟨_,rfl,aB (ae _ _) _,af _,ay _ _⟩
    |exact⟨_,rfl,aB ((ae _ _).drew) _,af _,ay _ _⟩
    |exact⟨_,rfl,(aB (ae _ _) _).drew,af _,ay _ _⟩
 case rest=>
  obtain⟨xb,h9,HC⟩:=hcut;rw[h9];clear h9 p0 p1 au kr;obtain⟨wo,cs⟩:∃wo,wo=wc:=⟨_,rfl⟩;subst cs;have bb:Hid (wo.heap[w.heap.size+1]?=some (.cells #[a5,a7,a4,a8] 109)):=(HC.o.1.block _ (ah br.o)).trans br.o;have bx:Hid (wo.heap[w.heap.size+2]?=some (.cells #[.nilIface,zN,.int .i64 0,.int .i64 0] 109)):=(HC.o.1.block _ (ah bh.o)).trans bh.o;obtain⟨⟨a0,_⟩,⟨a1,_⟩,⟨a2,_⟩,⟨a3,_⟩⟩:=fd4 bb.o
  have cb:Hid (ai (fun b=>A2 b) w wo):=by
   have t1:ai (fun b=>A2 b) w W1:=ai.of_below a6.o.1
   have t2:ai (fun b=>A2 b) W1 E:=T.o.f.mono (fun b _ e=>by
    rcases e with e|e|e|e
    ·rw[e];exact T.o.t.eng.desk.hd
    ·rw[e];exact T.o.t.eng.desk.hf
    ·rw[e];exact T.o.sub _ (oS (oS rfl))
    simp[Value.ownBlock] at e)
   have t3:ai (fun b=>A2 b) E w3:=aa.o.mono (fun b _ e=>by rw[e];exact T.o.t.eng.desk.hd);exact((t1.trans t2 (fun _ _ e=>e) (fun _ _ e=>e)).trans t3 (fun _ _ e=>e) (fun _ _ e=>e)).trans (ai.of_below HC.o.1 (p:=fun b=>A2 b)) (fun _ _ e=>e) (fun _ _ e=>e)
  have c9:Hid (∀b,b<w.heap.size->A2 b->A b):=fun b hb e=>by
   rcases T.o.new b e with(e|e)|e
   ·exact e
   ·omega
   have:=a6.o.1.size;omega
  have ad:Hid (AFi A2 wo a5 f o/\∀k0,o=some k0->a4=.int .i64 (k0.changed:Nat)):=by
   have h1:=c7.o;cases o with
   |none=>exact⟨(Fo h1).1,fun k0 e=>by cases e⟩
   |some k0=>
    obtain⟨⟨cv,dj,cf,ch,_⟩,cm,_⟩:=h1;obtain⟨e1,_,e2,_⟩:=Fo cf;refine⟨⟨?_,cm.trans HO.o.2.1.symm⟩,fun k1 e=>by cases e;exact e2⟩;rw[e1];exact(ch.more c9.o).turn cb.o
  have an:Hid (fP A2 wo (.iface fT fu) f):=aq.o.turn (ai.of_below HC.o.1);go_upto_region 5 with fail
  go_cut [29] (fun bv wx=>bv=.bool (kJ f o)/\Hid (zB wo wx))
  case first=>
   have az:=HO.o.2.2.2.1;cases f with
   |man pr m=>
    obtain⟨rfl,ks⟩:=NQ an.o ad.o.1 az;have hm:=NK fu wo;have hc:∀(args:Array zV)(w:zW),(callFunc 289 args).run prog w=.ok (.enter 289 args) w:=fun _ _=>by kernel_rfl
    generalize kJ (.man pr m) o=b4 at*
    go_wp2_with ((go_at_call 289;refine ks.mono ?_;rintro e w6 ⟨rfl,a9⟩))
    go_meet
    exact⟨rfl,a9⟩
   |idx pr vs=>
    obtain⟨rfl,ks⟩:=NR an.o ad.o.1 az;have hm:=NL fu wo;have hc:∀(args:Array zV)(w:zW),(callFunc 291 args).run prog w=.ok (.enter 291 args) w:=fun _ _=>by kernel_rfl
    generalize kJ (.idx pr vs) o=b4 at*
    go_wp2_with ((go_at_call 291;refine ks.mono ?_;rintro e w6 ⟨rfl,a9⟩))
    go_meet
    exact⟨rfl,a9⟩
   |wants ms ps=>
    obtain⟨rfl,ks⟩:=IU an.o ad.o.1 az;have hm:=NM fu wo;have hc:∀(args:Array zV)(w:zW),(callFunc 292 args).run prog w=.ok (.enter 292 args) w:=fun _ _=>by kernel_rfl
    generalize kJ (.wants ms ps) o=b4 at*
    go_wp2_with ((go_at_call 292;refine ks.mono ?_;rintro e w6 ⟨rfl,a9⟩))
    go_meet
    exact⟨rfl,a9⟩
   |list ms ps=>
    obtain⟨rfl,ks⟩:=K8 an.o ad.o.1 az;have hm:=NN fu wo;have hc:∀(args:Array zV)(w:zW),(callFunc 285 args).run prog w=.ok (.enter 285 args) w:=fun _ _=>by kernel_rfl
    generalize kJ (.list ms ps) o=b4 at*
    go_wp2_with ((go_at_call 285;refine ks.mono ?_;rintro e w6 ⟨rfl,a9⟩))
    go_meet
    exact⟨rfl,a9⟩
   |ord ns ps=>
    obtain⟨rfl,ks⟩:=NT an.o ad.o.1 az;have hm:=NP fu wo;have hc:∀(args:Array zV)(w:zW),(callFunc 287 args).run prog w=.ok (.enter 287 args) w:=fun _ _=>by kernel_rfl
    generalize kJ (.ord ns ps) o=b4 at*
    go_wp2_with ((go_at_call 287;refine ks.mono ?_;rintro e w6 ⟨rfl,a9⟩))
    go_meet
    exact⟨rfl,a9⟩
  case rest=>
   obtain⟨c1,HD⟩:=hcut;rw[c1];clear c1 a0 a1 a2 a3;have ak:Hid (zB w3 wc):=HC.o.1.trans (HD.o.mono HC.o.1.size);have c6:Hid (wc.heap[w.heap.size+1]?=some (.cells #[a5,a7,a4,a8] 109)):=(HD.o.block _ (ah bb.o)).trans bb.o;have bi:Hid (wc.heap[w.heap.size+2]?=some (.cells #[.nilIface,zN,.int .i64 0,.int .i64 0] 109)):=(HD.o.block _ (ah bx.o)).trans bx.o;have bm:Hid (wc.heap[xb]?=some (.cells #[.iface fT fu,.slice ta V.length tc,.int .i64 (G:Nat),.int .i64 0] 109)):=(HD.o.block _ (ah HC.o.2.2)).trans HC.o.2.2
   have cd:Hid (xb≠w.heap.size+1/\xb≠w.heap.size+2):=by
    have h1:=HC.o.2.1;have h2:=ah bh.o;exact⟨by omega,by omega⟩
   have c8:Hid (∀k0,o=some k0->a4=.int .i64 (k0.changed:Nat)):=ad.o.2
   have b8:Hid (∀Wf,ai (fun b=>b=xb\/b=w.heap.size+2) wc Wf->fP A Wf (.iface fT fu) f/\RdA A yS Wf (.slice ta V.length tc) V/\Eng A S Wf I Q J mb G cap (counted Y (U++[⟨qk,qp,qw⟩])) Z L/\ai (fun b=>b=I\/b=J) w Wf):=fun Wf b3=>by
    have hx:=HC.o.2.1
    have dc:w.heap.size<=w3.heap.size:=by
     have h2:=a6.o.1.size;have h3:=aa.o.size;have h4:=T.o.f.size;omega
    have c2:∀b,A b->(A2 b\/b=xb):=fun b e=>oE (T.o.sub b (oE e))
    have hp:∀b,(b=xb\/b=w.heap.size+2)->(A2 b\/b=xb):=fun b e=>by
     rcases e with e|e
     ·exact oS e
     rw[e];exact oE (T.o.sub _ (oS (oE rfl)))
    have hz:=ak.o.size;have ct:=ah bm.o;have db:=T.o.t.lt;refine⟨?_,?_,?_,?_⟩
    ·have g1:fP (fun b=>A2 b\/b=xb) w3 (.iface fT fu) f:=aq.o.more (fun b hb e=>by
      rcases e with e|e
      ·exact e
      omega)
     have g2:=g1.turn (ai.of_below ak.o);have g3:=g2.turn (b3.mono (fun b _ e=>hp b e));exact g3.more (fun b _ e=>c2 b e)
    ·refine RdA.own (B:=w.heap.size) (s:=1) (e:=185) (xs:=V.map pJ) ?_ ?_ (fun _=>rfl) HE.o.hA
     ·refine ar (own_below ab.o.row ak.o) (fun b e=>b3.block b ?_ ?_)
      ·have:=(ab.o.row.lt b e).2;omega
      intro e2
      have h1:=(ab.o.row.lt b e).2;rcases e2 with e2|e2
      ·omega
      rcases T.o.own b e with h2|h2
      ·simp[Value.ownBlock] at h2
      have:=bk.o.2;omega
     exact Ae V
    ·have g1:=b2.o.wide ak.o (fun b=>b=xb) (fun b e=>by rw[e];exact⟨hx,ct⟩)
     have g2:=g1.turn b3 (fun b _ e=>hp b e) (by
      refine⟨?_,?_,?_,?_,?_⟩<;>(intro e;rcases e with e|e<;>omega))
     have g3:=g2.less (A:=A) c2 ⟨HE.o.desk.hd,HE.o.desk.hf,HE.o.ns.1,HE.o.ns.2⟩
     have e1:counted Y (U++[⟨qk,qp,qw⟩])=bump (counted Y U) (kP f):=by
      unfold counted;rw[jI,HO.o.2.1];rfl
     rw[e1];exact g3
    have t1:ai (fun b=>b=I\/b=J) w W1:=ai.of_below a6.o.1
    have t2:=t1.trans T.o.f (r:=fun b=>b=I\/b=J) (fun _ _ e=>e) (fun b hb e=>by
     rcases e with e|e|e|e
     ·exact oE e
     ·exact oS e
     ·omega
     simp[Value.ownBlock] at e)
    have t3:=t2.trans aa.o (r:=fun b=>b=I\/b=J) (fun _ _ e=>e) (fun b _ e=>oE e);have t4:=t3.more ak.o
    exact t4.trans b3 (fun _ _ e=>e) (fun b hb e=>by
     have h2:=a6.o.1.size;have h3:=aa.o.size;have h4:=T.o.f.size;rcases e with e|e<;>omega)
   obtain⟨⟨x0,_⟩,⟨x1,_⟩,⟨x2,y2⟩,⟨x3,_⟩⟩:=fd4 bm.o;obtain⟨⟨r0,f0⟩,⟨r1,f1⟩,⟨r2,f2⟩,⟨r3,f3⟩⟩:=fd4 bi.o;obtain⟨⟨a0,_⟩,⟨a1,_⟩,⟨a2,_⟩,⟨a3,_⟩⟩:=fd4 c6.o
   have b6:Hid (∀Wf c,ai (fun b=>b=xb\/b=w.heap.size+2) wc Wf->c=fD G f o->∃fv b1 f1 b5 D1 c0,Ending.returned (.agg #[.iface fT fu,.slice ta V.length tc,.int .i64 (c:Nat),.int .i64 0])=Ending.returned (.agg #[fv,b1,.int .i64 (fD G f1 o:Nat),.int .i64 0])/\fP A Wf fv f1/\RdA A yS Wf b1 b5/\Pre F (S G) D (df ⟨qk,qp,qw⟩) D1 (.ret f1) b5 c0/\Eng A S Wf I Q J mb G cap (counted Y (c0++[⟨qk,qp,qw⟩])) D1 L/\ai (fun b=>b=I\/b=J) w Wf/\(kP f1=qk/\yV f1/\Small f1/\(∀t∈b5,jr t)/\b5.length<=10000)):=fun Wf c ht hc=>by
    have C:=b8.o Wf ht;exact⟨.iface fT fu,.slice ta V.length tc,f,V,Z,U,by rw[hc],C.1,C.2.1,HO.o.1,C.2.2.1,C.2.2.2,HO.o.2⟩
   cases hsb:kJ f o with
   |false=>
    have bc:Hid (G=fD G f o):=by
     show G=fD G f o;cases o with
     |none=>rfl
     |some k0=>
      have cn:¬f.ess=k0.f.ess:=fun e=>by simp[kJ,e] at hsb
      unfold fD;exact(ag cn).symm
    clear hsb b8;go_wp2;refine aI (bG results102 _ _ (w.heap.size+2) 109 _ (0,0) _ rfl (lA bi.o _ _ _ _) underlying109 rfl (by kernel_rfl)) rfl ?_;exact b6.o _ G ((((((ai.refl (fun b=>b=xb\/b=w.heap.size+2) wc).set (a:=(tD (w.heap.size+2) 0)) (fun _=>oS rfl) _).set (a:=(tD (w.heap.size+2) 1)) (fun _=>oS rfl) _).set (a:=(tD (w.heap.size+2) 2)) (fun _=>oS rfl) _).set (a:=(tD (w.heap.size+2) 3)) (fun _=>oS rfl) _)) bc.o
   |true=>
    cases o with
    |none=>simp[kJ] at hsb
    |some k0=>
     have cg:=c8.o k0 rfl;subst cg
     have bc:Hid (k0.changed=fD G f (some k0)):=by
      show k0.changed=fD G f (some k0);have he:f.ess=k0.f.ess:=by simpa[kJ] using hsb
      unfold fD;exact(aj he).symm
     clear hsb b8;go_upto_region 7 with fail;have cc:Hid ((wc.setCell (tD xb 2) (.int .i64 (k0.changed:Nat))).heap[xb]?=some (.cells #[.iface fT fu,.slice ta V.length tc,.int .i64 (k0.changed:Nat),.int .i64 0] 109)):=aU _ _ 2 _ _ _ bm.o;have bu:Hid ((wc.setCell (tD xb 2) (.int .i64 (k0.changed:Nat))).heap[w.heap.size+2]?=some (.cells #[.nilIface,zN,.int .i64 0,.int .i64 0] 109)):=(aM _ _ _ _ (fun e=>cd.o.2 e.symm)).trans bi.o;have ca:Hid (ai (fun b=>b=xb\/b=w.heap.size+2) wc (wc.setCell (tD xb 2) (.int .i64 (k0.changed:Nat)))):=(ai.refl (fun b=>b=xb\/b=w.heap.size+2) wc).set (a:=(tD xb 2)) (fun _=>oE rfl) _;clear x0 x1 x2 y2 x3 r0 f0 r1 f1 r2 f2 r3 f3 a0 a1 a2 a3;generalize wc.setCell (tD xb 2) (.int .i64 (k0.changed:Nat))=W6 at*;obtain⟨⟨x0,_⟩,⟨x1,_⟩,⟨x2,_⟩,⟨x3,_⟩⟩:=fd4 cc.o;obtain⟨⟨r0,f0⟩,⟨r1,f1⟩,⟨r2,f2⟩,⟨r3,f3⟩⟩:=fd4 bu.o;go_wp2;refine aI (bG results102 _ _ (w.heap.size+2) 109 _ (0,0) _ rfl (lA bu.o _ _ _ _) underlying109 rfl (by kernel_rfl)) rfl ?_;exact b6.o _ k0.changed ((((ca.o.set (a:=(tD (w.heap.size+2) 0)) (fun _=>oS rfl) _).set (a:=(tD (w.heap.size+2) 1)) (fun _=>oS rfl) _).set (a:=(tD (w.heap.size+2) 2)) (fun _=>oS rfl) _).set (a:=(tD (w.heap.size+2) 3)) (fun _=>oS rfl) _) bc.o
end Pn
namespace Pn
open Mf Ed
variable{A z A2:Nat->Prop}{S:Nat->Shf}{w w' W W1 E wf:zW}{I Q J mb G:Nat}{cap:Int}{Y:List Int}{D Z:List Kp}{L:List (zV×zV)}{r:Nat}{q:Qn}{k:Kp}{U:List Qn}
theorem IV(a b c d:zV)(W:zW):(Instr.field 109 (.agg #[a,b,c,d]) 2).run prog W=.ok c W:=by kernel_rfl
theorem fF(Y:List Int)(a b:List Qn):counted (counted Y a) b=counted Y (a++b):=by
 unfold counted;rw[jI]
def xO(S:Nat->Shf)(I Q J mb G:Nat)(cap:Int)(L:List (zV×zV))(F:Find)(g:Nat)(P:Qn->Prop):Prop:=
 ∀(A:Nat->Prop)(q:Qn)(w:zW)(Y:List Int)(D:List Kp),P q->q.kind<=4->QOk q->D.length+g<=N15->Eng A S w I Q J mb G cap Y D L->
  zC 74 #[zP I,qv q] w fun e w'=>∃v k Z U,e=.returned v/\iD A w' v k/\F D q k Z U/\Eng A S w' I Q J mb G cap (counted Y U) Z L/\ai (fun b=>b=I\/b=J) w w'
theorem Di:xO S I Q J mb G cap L (fun _ _ _ _ _=>False) 0 (fun _=>False):=fun _ _ _ _ _ h=>h.elim
variable{F:Find}{P:Qn->Prop}{g:Nat}
structure Hd(A:Nat->Prop)(S:Nat->Shf)(w:World)(I Q J mb G:Nat)(cap:Int)(Y:List Int)(D:List Kp)(L:List (zV×zV))(F:Find)(k:Kp)(bx:Nat)(cells:Array zV)(wr:World)(i:Nat)(Z:List Kp)(U:List Qn):Prop where
 e:Eng A S wr I Q J mb G cap (counted Y U) Z L
 t:ai (fun b=>b=I\/b=J) w wr
 c:Chk F (S G) k.checked D (k.ties.take i) Z U
 b:wr.heap[bx]?=some (.cells cells 109)
theorem IW(hF:xO S I Q J mb G cap L F g P)(bk:Adds g F)(hD:D.length+10000*g<=N15)(kv:zV)(w:zW)(h:Eng A S w I Q J mb G cap Y D L)(hk:iD A w kv k)(b2:KOk k)(ly:∀q,Tie.ask q∈k.ties->P q/\q.kind<=4):
  zC 101 #[zP I,kv] w fun e w'=>∃b Z U,e=.returned (.bool b)/\nD F (S G) k.checked D k.ties Z U b/\Eng A S w' I Q J mb G cap (counted Y U) Z L/\ai (fun b=>b=I\/b=J) w w':=by
 obtain⟨fv,tv,rfl,bp,b5⟩:=hk;obtain⟨fT,fu,rfl⟩:=bp.iface;obtain⟨ta,tc,e1⟩:=b5.len;subst e1;have hn:=b2.n;have az:Hid (KOk k/\∀q,Tie.ask q∈k.ties->P q/\q.kind<=4):=⟨b2,ly⟩;have bt:Hid (RdA A yS w (.slice ta k.ties.length tc) k.ties):=b5;have HE:=zH h;have HF:=zH hF;have b6:Hid (Adds g F/\D.length+10000*g<=N15):=⟨bk,hD⟩;clear bp b5 h hF b2 ly bk hD;have b7:Hid (zB w (w.alloc (.cells #[.iface fT fu,.slice ta k.ties.length tc,.int .i64 (k.changed:Nat),.int .i64 (k.checked:Nat)] 109))):=(ae _ _).alloc (af _) _;have aq:Hid (Hd A S w I Q J mb G cap Y D L F k w.heap.size #[.iface fT fu,.slice ta k.ties.length tc,.int .i64 (k.changed:Nat),.int .i64 (k.checked:Nat)] (w.alloc (.cells #[.iface fT fu,.slice ta k.ties.length tc,.int .i64 (k.changed:Nat),.int .i64 (k.checked:Nat)] 109)) 0 D []):=⟨HE.o.below b7.o,ai.of_below b7.o,Chk.start,ay _ _⟩;have bv:Hid (w.alloc (.cells #[.iface fT fu,.slice ta k.ties.length tc,.int .i64 (k.changed:Nat),.int .i64 (k.checked:Nat)] 109)=w.alloc (.cells #[.iface fT fu,.slice ta k.ties.length tc,.int .i64 (k.changed:Nat),.int .i64 (k.checked:Nat)] 109)):=rfl;obtain⟨_,⟨b1,_⟩,_,⟨b3,_⟩⟩:=fd4 aq.o.b;go_enter func101,ntmps101;go_wp2
 go_step3
 go_wp2
 go_step3
 go_wp2;clear bv;generalize w.alloc (.cells #[.iface fT fu,.slice ta k.ties.length tc,.int .i64 (k.changed:Nat),.int .i64 (k.checked:Nat)] 109)=W1 at*;generalize hm:k.ties.length=n at*;go_loopg [5,13] n (fun gg hv iv wr=>∃(i:Nat)(Z:List Kp)(U:List Qn),i<=n/\n-i<=gg/\hv=.int .i64 i/\iv=.int .i64 i/\Hid (Hd A S w I Q J mb G cap Y D L F k w.heap.size #[.iface fT fu,.slice ta n tc,.int .i64 (k.changed:Nat),.int .i64 (k.checked:Nat)] wr i Z U))
 case atStart=>exact⟨0,D,[],by omega,by omega,rfl,rfl,aq⟩
 case round=>
  obtain⟨i,Z,U,hi,hg,rfl,rfl,T⟩:=hrel;clear aq;by_cases cb:i<n
  ·have ij:(i:Int)<(n:Int):=by omega
   have bu:Hid (RdA A yS wr (.slice ta n tc) k.ties):=bt.o.turn (T.o.t.mono (fun b _ e=>by
    rcases e with e|e
    ·rw[e];exact HE.o.desk.hd
    rw[e];exact HE.o.desk.hf))
   have a5:i<k.ties.length:=by omega
   have a4:Hid (k.ties.take (i+1)=k.ties.take i++[k.ties[i]]/\k.ties=k.ties.take i++k.ties[i]::k.ties.drop (i+1)/\jr k.ties[i]/\k.ties[i]∈k.ties):=⟨by rw[iY,aV a5];rfl,by rw[<-cY a5,List.take_append_drop],az.o.1.t _ (dP a5),dP a5⟩;obtain⟨b,o,c,eg,hx⟩:=RdA.at (A:=A) (L:=k.ties) bu.o (s:=1) (fun _=>rfl) (by decide) (ae _ _) i a5;rw[hm] at eg;injection eg with bx c0 c2;clear c0;subst bx;subst c2;have y0:wr.cell? (tD b (o+i))=some (pJ k.ties[i]):=by have:=hx 0 _ rfl;simpa using this
   clear hx;generalize k.ties[i]=tie at*;have b0:Hid (w.heap.size<wr.heap.size):=ah T.o.b;have au:Hid (I<w.heap.size/\J<w.heap.size):=⟨HE.o.hA _ HE.o.desk.hd,HE.o.hA _ HE.o.desk.hf⟩;cases tie with
   |ask q=>
    obtain⟨qk,qp,qw⟩:=q;have y1:wr.cell? (tD b (o+i))=some (.iface 82 (.agg #[.int .i64 (qk:Nat),tS qp,tS qw])):=y0;have b4:=P6 (.agg #[.int .i64 (qk:Nat),tS qp,tS qw]) wr;have c7:=Q8 (.agg #[.int .i64 (qk:Nat),tS qp,tS qw]) wr;have aa:Hid ((wr.alloc (.cells #[.int .i64 (qk:Nat),tS qp,tS qw] 82)).heap[wr.heap.size]?=some (.cells #[.int .i64 (qk:Nat),tS qp,tS qw] 82)):=ay _ _;have a1:Hid (zB wr (wr.alloc (.cells #[.int .i64 (qk:Nat),tS qp,tS qw] 82))):=(ae _ _).alloc (af _) _;have a2:Hid ((wr.alloc (.cells #[.int .i64 (qk:Nat),tS qp,tS qw] 82)).heap[w.heap.size]?=some (.cells #[.iface fT fu,.slice (some (tD b o)) n tc,.int .i64 (k.changed:Nat),.int .i64 (k.checked:Nat)] 109)):=(a1.o.block _ b0.o).trans T.o.b;have a7:Hid (Eng A S (wr.alloc (.cells #[.int .i64 (qk:Nat),tS qp,tS qw] 82)) I Q J mb G cap (counted Y U) Z L):=T.o.e.below a1.o;clear y0;go_upto_region 11 with fail;clear y1 b4 c7;generalize wr.alloc (.cells #[.int .i64 (qk:Nat),tS qp,tS qw] 82)=Wa at*
    have br:Hid (Z.length+g<=N15):=by
     have h1:=vN b6.o.1 T.o.c;have h2:=b6.o.2;rw[jz,Nat.min_eq_left (by omega)] at h1;have h3:(i+1)*g<=10000*g:=eG g (by omega);rw[eJ] at h3;show Z.length+g<=N15;omega
    have KF:Hid (∀W,zB Wa W->zC 74 #[zP I,.agg #[.int .i64 (qk:Nat),tS qp,tS qw]] W fun e w'=>∃v kk D2 W2,e=.returned v/\iD A w' v kk/\F Z ⟨qk,qp,qw⟩ kk D2 W2/\Eng A S w' I Q J mb G cap (counted (counted Y U) W2) D2 L/\ai (fun b=>b=I\/b=J) Wa w'):=fun W hb=>(HF.o A ⟨qk,qp,qw⟩ W _ Z (az.o.2 _ a4.o.2.2.2).1 (az.o.2 _ a4.o.2.2.2).2 a4.o.2.2.1 br.o (a7.o.below hb)).mono (by
     rintro e w' ⟨v,kk,D2,W2,e1,e2,e3,e4,e5⟩;exact⟨v,kk,D2,W2,e1,e2,e3,e4,(ai.of_below hb).trans e5 (fun _ _ h=>h) (fun _ _ h=>h)⟩)
    have a3:Hid (∀W,ai (fun b=>b=I\/b=J) Wa W->(W.cell? (tD wr.heap.size 0)=some (.int .i64 (qk:Nat))/\W.cell? (tD wr.heap.size 1)=some (tS qp)/\W.cell? (tD wr.heap.size 2)=some (tS qw))/\W.cell? (tD w.heap.size 3)=some (.int .i64 (k.checked:Nat))):=fun W ht=>by
     have e1:=ht.block wr.heap.size (ah aa.o) (fun e=>by have h1:=au.o;have h2:=b0.o;rcases e with e|e<;>omega);have e2:=ht.block w.heap.size (ah a2.o) (fun e=>by have h1:=au.o;rcases e with e|e<;>omega);obtain⟨⟨z0,_⟩,⟨z1,_⟩,⟨z2,_⟩⟩:=fd3 (e1.trans aa.o);obtain⟨_,_,_,⟨z3,_⟩⟩:=fd4 (e2.trans a2.o);exact⟨⟨z0,z1,z2⟩,z3⟩
    obtain⟨⟨p0,p1,p2⟩,p3⟩:=a3.o Wa (ai.refl _ _);have c3:=IV
    go_region_held3 (fun w'=>(w'.cell? (tD wr.heap.size 0)=some (.int .i64 (qk:Nat))/\w'.cell? (tD wr.heap.size 1)=some (tS qp)/\w'.cell? (tD wr.heap.size 2)=some (tS qw))/\w'.cell? (tD w.heap.size 3)=some (.int .i64 (k.checked:Nat)))
     (first|exact⟨⟨p0,p1,p2⟩,p3⟩|exact a3.o _ an)
     ((go_at_call 74;refine(KF.o _ ((ae _ _).drew)).mono ?_;rintro e w3 ⟨v,kk,D2,W2,rfl,c6,bn,bm,an⟩;obtain⟨c9,cd,e4,_,_⟩:=c6;subst e4))
    have b8:Hid (w3.heap[w.heap.size]?=some (.cells #[.iface fT fu,.slice (some (tD b o)) n tc,.int .i64 (k.changed:Nat),.int .i64 (k.checked:Nat)] 109)):=(an.block w.heap.size (ah a2.o) (fun e=>by have h1:=au.o;rcases e with e|e<;>omega)).trans a2.o;have bh:Hid (ai (fun b=>b=I\/b=J) w w3):=(T.o.t.more a1.o).trans an (fun _ _ e=>e) (fun _ _ e=>e);have b9:Hid (Eng A S w3 I Q J mb G cap (counted Y (U++W2)) D2 L):=by rw[<-fF];exact bm
    have bd:Hid (F Z ⟨qk,qp,qw⟩ kk D2 W2):=bn;clear p0 p1 p2 p3 bn bm an c3 a3 KF a7 aa;obtain⟨_,⟨c1,_⟩,_,_⟩:=fd4 b8.o;by_cases c5:k.checked<kk.changed
    ·have c4:((k.checked:Nat):Int)<(kk.changed:Nat):=by omega
     have HR:Hid (nD F (S G) k.checked D k.ties D2 (U++W2) false):=nD.ask a4.o.2.1 T.o.c bd.o c5;have bq:(((i:Nat):Int)==(n:Int))=false:=int_ne (by omega);go_wp2
     (try rw[fI])
     go_ret;exact⟨false,D2,_,rfl,HR.o,b9.o,bh.o⟩
    have c4:¬((k.checked:Nat):Int)<(kk.changed:Nat):=by omega
    have HN:Hid (Hd A S w I Q J mb G cap Y D L F k w.heap.size #[.iface fT fu,.slice (some (tD b o)) n tc,.int .i64 (k.changed:Nat),.int .i64 (k.checked:Nat)] w3 (i+1) D2 (U++W2)):=⟨b9.o,bh.o,by rw[a4.o.1];exact Chk.ask T.o.c bd.o (by omega),b8.o⟩;go_wp2;go_roundg (n-(i+1))
    case measure=>omega
    case rel=>exact⟨i+1,D2,_,by omega,by omega,by go_num,by go_num,HN⟩
   |rd p t=>
    have bs:Hid (POk p):=a4.o.2.2.1;have y1:wr.cell? (tD b (o+i))=some (.iface 187 (.agg #[.int .i64 (p.1:Nat),tS p.2.1,tS p.2.2,tS (bF t),.bool t.isSome])):=by rw[y0,Gi]
    clear y0;have bi:Hid (∀W,zB wr W->zC 127 #[zP Q,plV p] W fun e w'=>e=.returned (txV (S G p))/\zB W w'):=fun W hb=>Kw (S G) p W (T.o.e.shelf.below hb) T.o.e.on bs.o
    have HEq:Hid ((S G p=t)\/(S G p≠t/\bF (S G p)=bF t/\((S G p).isSome==t.isSome)=false)\/(S G p≠t/\bF (S G p)≠bF t)):=by
     show _\/_;by_cases h:S G p=t
     ·exact oE h
     right
     by_cases h2:bF (S G p)=bF t
     ·left
      refine⟨h,h2,?_⟩;cases e1:S G p<;>cases e2:t
      ·rw[e1,e2] at h;exact absurd rfl h
      ·rfl
      ·rfl
      rw[e1,e2] at h h2;exact absurd (cV some h2) h
     exact oS ⟨h,h2⟩
    obtain⟨pk,pp,pv⟩:=p;have b4:=Q7 (.agg #[.int .i64 (pk:Nat),tS pp,tS pv,tS (bF t),.bool t.isSome]) wr;have aa:Hid ((wr.alloc (.cells #[.int .i64 (pk:Nat),tS pp,tS pv,tS (bF t),.bool t.isSome] 187)).heap[wr.heap.size]?=some (.cells #[.int .i64 (pk:Nat),tS pp,tS pv,tS (bF t),.bool t.isSome] 187)):=ay _ _;have a1:Hid (zB wr (wr.alloc (.cells #[.int .i64 (pk:Nat),tS pp,tS pv,tS (bF t),.bool t.isSome] 187))):=(ae _ _).alloc (af _) _;have a2:Hid ((wr.alloc (.cells #[.int .i64 (pk:Nat),tS pp,tS pv,tS (bF t),.bool t.isSome] 187)).heap[w.heap.size]?=some (.cells #[.iface fT fu,.slice (some (tD b o)) n tc,.int .i64 (k.changed:Nat),.int .i64 (k.checked:Nat)] 109)):=(a1.o.block _ b0.o).trans T.o.b;have a7:Hid (Eng A S (wr.alloc (.cells #[.int .i64 (pk:Nat),tS pp,tS pv,tS (bF t),.bool t.isSome] 187)) I Q J mb G cap (counted Y U) Z L):=T.o.e.below a1.o
    have KA:Hid (∀W,Below (wr.alloc (.cells #[.int .i64 (pk:Nat),tS pp,tS pv,tS (bF t),.bool t.isSome] 187)).heap.size (wr.alloc (.cells #[.int .i64 (pk:Nat),tS pp,tS pv,tS (bF t),.bool t.isSome] 187)) W->zC 127 #[zP Q,.agg #[.int .i64 (pk:Nat),tS pp,tS pv]] W fun e w'=>e=.returned (.agg #[tS (bF (S G (pk,pp,pv))),.bool (S G (pk,pp,pv)).isSome])/\zB W w'):=fun W hb=>bi.o W (a1.o.trans (hb.mono a1.o.size))
    clear bi;have y2:wr.cell? (tD b (o+i))=some (.iface 187 (.agg #[.int .i64 (pk:Nat),tS pp,tS pv,tS (bF t),.bool t.isSome])):=y1;clear y1;go_upto_region 8 with fail;clear y2 b4;generalize wr.alloc (.cells #[.int .i64 (pk:Nat),tS pp,tS pv,tS (bF t),.bool t.isSome] 187)=Wa at*
    have a3:Hid (∀W,zB Wa W->W.cell? (tD I 0)=some (zP Q)/\(W.cell? (tD wr.heap.size 0)=some (.int .i64 (pk:Nat))/\W.cell? (tD wr.heap.size 1)=some (tS pp)/\W.cell? (tD wr.heap.size 2)=some (tS pv)/\W.cell? (tD wr.heap.size 3)=some (tS (bF t))/\W.cell? (tD wr.heap.size 4)=some (.bool t.isSome))):=fun W hb=>by
     obtain⟨⟨z0,_⟩,⟨z1,_⟩,⟨z2,_⟩,⟨z3,_⟩,⟨z4,_⟩⟩:=fd5 ((hb.block _ (ah aa.o)).trans aa.o);exact⟨(a7.o.desk.below hb).f0.1,z0,z1,z2,z3,z4⟩
    obtain⟨p0,p1,p2,p3,p4,p5⟩:=a3.o Wa (ae _ _);have Rb:Hid (S G (pk,pp,pv)≠t->True):=fun _=>trivial
    rcases HEq.o with heq|⟨La,ak,ca⟩|⟨La,ak⟩
    ·have bc:Hid (S G (pk,pp,pv)=t):=heq
     rw[heq] at KA;clear heq HEq;generalize bF t=a6 at*;generalize t.isSome=a8 at*;have q1:(a6.toList==a6.toList)=true:=by simp
     have q2:(a8==a8)=true:=by simp
     go_region_held3 (fun w'=>w'.cell? (tD I 0)=some (zP Q)/\(w'.cell? (tD wr.heap.size 0)=some (.int .i64 (pk:Nat))/\w'.cell? (tD wr.heap.size 1)=some (tS pp)/\w'.cell? (tD wr.heap.size 2)=some (tS pv)/\w'.cell? (tD wr.heap.size 3)=some (tS a6)/\w'.cell? (tD wr.heap.size 4)=some (.bool a8)))
      (first|exact⟨p0,p1,p2,p3,p4,p5⟩|exact a3.o _ a0)
      ((go_at_call 127;refine(KA.o _ ((ae _ _).drew)).mono ?_;rintro e w6 ⟨rfl,Dj⟩;have a0:zB Wa w6:=((ae Wa.heap.size Wa).drew).trans Dj;clear Dj))
     have a9:Hid (w6.heap[w.heap.size]?=some (.cells #[.iface fT fu,.slice (some (tD b o)) n tc,.int .i64 (k.changed:Nat),.int .i64 (k.checked:Nat)] 109)):=(a0.block _ (ah a2.o)).trans a2.o;have ad:Hid (ai (fun b=>b=I\/b=J) w w6):=(T.o.t.more a1.o).more a0;have ab:Hid (Eng A S w6 I Q J mb G cap (counted Y U) Z L):=a7.o.below a0;clear p0 p1 p2 p3 p4 p5 a0 a3 KA;obtain⟨_,⟨c1,_⟩,_,_⟩:=fd4 a9.o;have HN:Hid (Hd A S w I Q J mb G cap Y D L F k w.heap.size #[.iface fT fu,.slice (some (tD b o)) n tc,.int .i64 (k.changed:Nat),.int .i64 (k.checked:Nat)] w6 (i+1) Z U):=⟨ab.o,ad.o,by rw[a4.o.1];exact Chk.rd T.o.c bc.o,a9.o⟩;go_wp2;go_roundg (n-(i+1))
     case measure=>omega
     case rel=>exact⟨i+1,Z,_,by omega,by omega,by go_num,by go_num,HN⟩
    ·have av:Hid (S G (pk,pp,pv)≠t):=La
     clear La HEq Rb;rw[ak] at KA;clear ak;generalize bF t=a6 at*;generalize t.isSome=a8 at*;generalize (S G (pk,pp,pv)).isSome=c8 at*;have q1:(a6.toList==a6.toList)=true:=by simp
     go_region_held3 (fun w'=>w'.cell? (tD I 0)=some (zP Q)/\(w'.cell? (tD wr.heap.size 0)=some (.int .i64 (pk:Nat))/\w'.cell? (tD wr.heap.size 1)=some (tS pp)/\w'.cell? (tD wr.heap.size 2)=some (tS pv)/\w'.cell? (tD wr.heap.size 3)=some (tS a6)/\w'.cell? (tD wr.heap.size 4)=some (.bool a8)))
      (first|exact⟨p0,p1,p2,p3,p4,p5⟩|exact a3.o _ a0)
      ((go_at_call 127;refine(KA.o _ ((ae _ _).drew)).mono ?_;rintro e w6 ⟨rfl,Dj⟩;have a0:zB Wa w6:=((ae Wa.heap.size Wa).drew).trans Dj;clear Dj))
     have a9:Hid (w6.heap[w.heap.size]?=some (.cells #[.iface fT fu,.slice (some (tD b o)) n tc,.int .i64 (k.changed:Nat),.int .i64 (k.checked:Nat)] 109)):=(a0.block _ (ah a2.o)).trans a2.o;have ad:Hid (ai (fun b=>b=I\/b=J) w w6):=(T.o.t.more a1.o).more a0;have ab:Hid (Eng A S w6 I Q J mb G cap (counted Y U) Z L):=a7.o.below a0;clear p0 p1 p2 p3 p4 p5 a0 a3 KA;obtain⟨_,⟨c1,_⟩,_,_⟩:=fd4 a9.o;have HR:Hid (nD F (S G) k.checked D k.ties Z U false):=nD.rd a4.o.2.1 T.o.c av.o;have bq:(((i:Nat):Int)==(n:Int))=false:=int_ne (by omega);go_wp2
     (try rw[fI])
     go_ret;exact⟨false,Z,_,rfl,HR.o,ab.o,ad.o⟩
    have av:Hid (S G (pk,pp,pv)≠t):=La
    have q1:=Rn.bM ak;clear La HEq Rb ak;generalize bF t=a6 at*;generalize t.isSome=a8 at*;generalize (S G (pk,pp,pv)).isSome=c8 at*;generalize bF (S G (pk,pp,pv))=cf at*
    go_region_held3 (fun w'=>w'.cell? (tD I 0)=some (zP Q)/\(w'.cell? (tD wr.heap.size 0)=some (.int .i64 (pk:Nat))/\w'.cell? (tD wr.heap.size 1)=some (tS pp)/\w'.cell? (tD wr.heap.size 2)=some (tS pv)/\w'.cell? (tD wr.heap.size 3)=some (tS a6)/\w'.cell? (tD wr.heap.size 4)=some (.bool a8)))
     (first|exact⟨p0,p1,p2,p3,p4,p5⟩|exact a3.o _ a0)
     ((go_at_call 127;refine(KA.o _ ((ae _ _).drew)).mono ?_;rintro e w6 ⟨rfl,Dj⟩;have a0:zB Wa w6:=((ae Wa.heap.size Wa).drew).trans Dj;clear Dj))
    have a9:Hid (w6.heap[w.heap.size]?=some (.cells #[.iface fT fu,.slice (some (tD b o)) n tc,.int .i64 (k.changed:Nat),.int .i64 (k.checked:Nat)] 109)):=(a0.block _ (ah a2.o)).trans a2.o;have ad:Hid (ai (fun b=>b=I\/b=J) w w6):=(T.o.t.more a1.o).more a0;have ab:Hid (Eng A S w6 I Q J mb G cap (counted Y U) Z L):=a7.o.below a0;clear p0 p1 p2 p3 p4 p5 a0 a3 KA;obtain⟨_,⟨c1,_⟩,_,_⟩:=fd4 a9.o;have HR:Hid (nD F (S G) k.checked D k.ties Z U false):=nD.rd a4.o.2.1 T.o.c av.o;have bq:(((i:Nat):Int)==(n:Int))=false:=int_ne (by omega);go_wp2
    (try rw[fI])
    go_ret;exact⟨false,Z,_,rfl,HR.o,ab.o,ad.o⟩
  have ij:((i:Int)<(n:Int))=False:=by simp;omega
  have a5:i=n:=by omega
  have HR:Hid (nD F (S G) k.checked D k.ties Z U true):=by
   have h:=T.o.c;rw[a5,fy (by omega)] at h;exact nD.yes h
  have bb:Hid (Eng A S wr I Q J mb G cap (counted Y U) Z L/\ai (fun b=>b=I\/b=J) w wr):=⟨T.o.e,T.o.t⟩;obtain⟨_,⟨c1,_⟩,_,_⟩:=fd4 T.o.b;rw[a5];have cc:(((n:Nat):Int)==(n:Int))=true:=by simp
  clear a5;go_wp2
  (try rw[fI])
  go_ret;exact⟨true,Z,U,rfl,HR.o,bb.o.1,bb.o.2⟩
end Pn
namespace Pn
open Mf Ed
variable{A z A2:Nat->Prop}{S:Nat->Shf}{w w' W W1 E wf:zW}{I Q J mb G:Nat}{cap:Int}{Y:List Int}{D Z:List Kp}{L N:List (zV×zV)}{q:Qn}{k:Kp}
theorem Qe:(82:TypeId)<prog.types.size:=gJ (by kernel_rfl)
theorem NU:(match prog.underlying 82 with|some (.array _ _)|some (.struct _)=>true|_=>false)=true:=by kernel_rfl
theorem NV:prog.keyTypeAt 3 82=true:=by kernel_rfl
theorem Lb:prog.keyType 82=true:=by kernel_rfl
theorem Dk:prog.cellsOf 82=3:=by kernel_rfl
theorem Ld:prog.cellsOf 80=1:=by kernel_rfl
theorem Qf:WideMaps.KeyLaw prog 82:=deep_law_laid Cy (m:=3) (Nat.le_of_ble_eq_true rfl) Qe NV NU
theorem oJ:Maps.Keyed prog 82:=Maps.Keyed.of_law Qf
theorem Fp(d:Nat)(k:Int)(h:(Lit.int .i64 k).wf=true):prog.keyLits (d+1) 80 [.int .i64 k]=some [.int .i64 k]:=by
 unfold Program.keyLits;rw[underlying80];show(if IntKind.i64=IntKind.i64/\(Lit.int .i64 k).wf=true then some [Lit.int .i64 k] else none)=_;rw[aj ⟨rfl,h⟩]
theorem Re(k:Int)(p v:zA)(hk:(Lit.int .i64 k).wf=true)(hp:p.size<=maxLen)(hv:v.size<=maxLen):∃l,keyOf prog 82 (.agg #[.int .i64 k,tS p,tS v])=some l:=by
 have h1:prog.keyLits (prog.types.size+1) 82 [.int .i64 k,tS p,tS v]=some [.int .i64 k,.string p.data.toList,.string v.data.toList]:=by
  rw[F4];unfold Program.keyLits;rw[underlying82];simp only[Dk,bN,jT];rw[aj ⟨trivial,by kernel_rfl⟩];simp only[List.mapM_cons,List.mapM_nil,F5,Ld,List.drop,List.take,Fp 356 k hk,oX 356 p hp,oX 356 v hv]
  rfl
 refine⟨.string (keyBytes [.int .i64 k,.string p.data.toList,.string v.data.toList]),?_⟩;unfold keyOf;rw[underlying82];show(if (prog.keyType 82&&(Value.agg #[.int .i64 k,tS p,tS v]).formed prog 82)=true then (prog.keyLits (prog.types.size+1) 82 [.int .i64 k,tS p,tS v]).map (fun ls=>_) else _)=_;rw[Lb,h1];rw[aj (by simp[Value.formed,underlying82,Dk])]
 rfl
theorem QOk.key(h:QOk q)(T:q.kind<=4):∃l,keyOf prog 82 (qv q)=some l:=Re _ _ _ (C9 _ T) (by have:=h.p;unfold N48 at this;unfold maxLen;omega) (by have:=h.v;unfold N48 at this;unfold maxLen;omega)
theorem Gm(w:zW):(zeroValue 109).run prog w=.ok (.agg #[.nilIface,zN,.int .i64 0,.int .i64 0]) w:=by kernel_rfl
theorem Le{a b:Qn}(h:qv a=qv b):a=b:=by
 obtain⟨k1,p1,v1⟩:=a;obtain⟨k2,p2,v2⟩:=b;injection h with h;simp at h;obtain⟨h1,T,h3⟩:=h;have:k1=k2:=by omega
 subst this;subst T;subst h3
 rfl
theorem dT.get:∀{L:List (zV×zV)} {D:List Kp},dT A w L D->(∀x∈L,∃k∈D,x.1=qv k.q/\iD A w x.2 k)/\(∀k∈D,∃x∈L,x.1=qv k.q/\iD A w x.2 k)
 |[],[],_=>⟨fun x h=>absurd h dC,fun k h=>absurd h dC⟩
 |x::L,k::D,⟨h,h1,h2⟩=>by
  have ih:=dT.get h2;refine⟨fun y hy=>?_,fun j hj=>?_⟩
  ·rcases aP.1 hy with e|e
   ·exact⟨k,bo ..,by rw[e];exact h,by rw[e];exact h1⟩
   obtain⟨j,hj,T⟩:=ih.1 y e
   exact⟨j,cr _ hj,T⟩
  rcases aP.1 hj with e|e
  ·exact⟨x,bo ..,by rw[e];exact h,by rw[e];exact h1⟩
  obtain⟨y,hy,T⟩:=ih.2 j e
  exact⟨y,cr _ hy,T⟩
 |[],_::_,h=>h.elim
 |_::_,[],h=>h.elim
open Classical in
theorem dT.filter(q:Qn):∀{L:List (zV×zV)} {D:List Kp},dT A w L D->dT A w (L.filter fun x=>decide (x.1≠qv q)) (D.filter fun k=>decide (k.q≠q))
 |[],[],_=>trivial
 |x::L,k::D,⟨h,h1,h2⟩=>by
  have T:=dT.filter q h2;by_cases e:k.q=q
  ·have ex:x.1=qv q:=by rw[h,e]
   rw[jV (by simp[ex]),jV (by simp[e])];exact T
  have ex:x.1≠qv q:=fun e2=>e (Le (h.symm.trans e2))
  rw[iM (by simp[ex]),iM (by simp[e])];exact⟨h,h1,T⟩
 |[],_::_,h=>h.elim
 |_::_,[],h=>h.elim
theorem Af(hm:Mp.MapAt prog 82 w J L)(he:dT A w L D)(hq:QOk q)(hk:q.kind<=4):
  (∃k v,k∈D/\k.q=q/\iD A w v k/\(qv q,v)∈L/\∀W,Mp.MapAt prog 82 W J L->(Instr.lookup 72 (.map (some J)) (qv q) true).run prog W=.ok (.tuple #[v,.bool true]) W)\/
  ((∀k∈D,k.q≠q)/\(∀x∈L,x.1≠qv q)/\∀W,Mp.MapAt prog 82 W J L->(Instr.lookup 72 (.map (some J)) (qv q) true).run prog W=.ok (.tuple #[.agg #[.nilIface,zN,.int .i64 0,.int .i64 0],.bool false]) W):=by
 obtain⟨kl,a0⟩:=hq.key hk;have hg:=he.get;by_cases h:∃k∈D,k.q=q
 ·obtain⟨k,T,a1⟩:=h
  obtain⟨x,hx,e1,e2⟩:=hg.2 k T
  left
  have a2:(qv q,x.2)∈L:=by rw[<-a1,<-e1];exact hx
  exact⟨k,x.2,T,a1,e2,a2,fun W hW=>hW.look_some true oJ underlying72 (Gm W) a0 a2⟩
 right
 have hn:∀x∈L,x.1≠qv q:=fun x hx e=>by
  obtain⟨k,T,e1,_⟩:=hg.1 x hx;exact h ⟨k,T,Le (e1.symm.trans e)⟩
 exact⟨fun k T e=>h ⟨k,T,e⟩,hn,fun W hW=>hW.look_none true oJ underlying72 (Gm W) a0 hn⟩
theorem oK{α:Type}{p:α->Bool}{l:List α}(h:∀x∈l,p x=true):l.filter p=l:=List.filter_eq_self.2 h
open Classical in
theorem xP{key old:zV}:∀{l:List (zV×zV)},l.Pairwise (fun p q=>p.1≠q.1)->(key,old)∈l->l.Perm ((key,old)::l.filter fun x=>decide (x.1≠key))
 |x::l,T,hm=>by
  rw[eu] at T;rcases aP.1 hm with e|e
  ·rw[<-e]
   rw[jV (by simp),oK (fun y hy=>by
    have:=T.1 y hy;rw[<-e] at this;simpa using fun e2=>this e2.symm)]
  have hx:x.1≠key:=fun e2=>T.1 _ e e2
  rw[iM (by simp[hx])];exact((xP T.2 e).cons x).trans (List.Perm.swap ..)
open Classical in
theorem cP.stored(h:cP A w I Q J cap Y D)(hq:QOk q)(hk:q.kind<=4)(hl:D.length<9223372036854775807){v:zV}{kn:Kp}(a5:iD A w v kn)(a3:kn.q=q):
  ∃w',(Instr.mapUpdate 72 (.map (some J)) (qv q) v).run prog w=.ok () w'/\cP A w' I Q J cap Y (jD D kn)/\ai (fun b=>b=J) w w':=by
 obtain⟨kl,a2⟩:=hq.key hk;obtain⟨L,hm,he⟩:=h.map;have Sn:=he.filter q
 have fin:∀T,w.mapTurned T J->Mp.MapAt prog 82 T J ((qv q,v)::L.filter fun x=>decide (x.1≠qv q))->cP A T I Q J cap Y (jD D kn)/\ai (fun b=>b=J) w T:=fun T ht a0=>by
  have M:=iA ht;have e1:=M.block I h.f0.lt h.ne;have hT:ai A w T:=M.mono (fun b _ e=>by rw[e];exact h.hf);refine⟨⟨h.f0.of_block e1,h.f1.of_block e1,h.f2.of_block e1,fun j c hj=>(h.cn j c hj).of_block e1,⟨_,a0,?_⟩,h.ne,h.hd,h.hf⟩,M⟩;unfold jD;rw[a3];exact⟨by rw[a3],a5.turn hT,Sn.turn hT⟩
 rcases Af hm he hq hk with⟨k,v0,_,_,_,a4,_⟩|⟨_,hn,_⟩
 ·obtain⟨T,a1,ht,a0⟩:=hm.F3 oJ underlying72 a2 (xP hm.apart a4) v
  exact⟨T,a1,fin T ht a0⟩
 obtain⟨T,a1,ht,a0⟩:=hm.F2 oJ underlying72 (by rw[he.len];unfold maxLen;omega) a2 hn v
 have e:(L.filter fun x=>decide (x.1≠qv q))=L:=oK (fun x hx=>by simpa using hn x hx);exact⟨T,a1,fin T ht (by rw[e];exact a0)⟩
