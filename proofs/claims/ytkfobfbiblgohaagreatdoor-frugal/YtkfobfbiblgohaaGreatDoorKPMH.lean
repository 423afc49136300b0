import Derived.Test.YtkfobfbiblgohaaGreatDoorKPMG
set_option linter.all false
open Go.Proofs.Tryz
set_option maxRecDepth 100000
set_option maxHeartbeats 9000000
namespace Go.Proofs.YtkfobfbiblgohaaGreatDoor
open Go.RowKit
namespace Pn
theorem Oj (v : Value) (W : World) : (method 466 216 v "pinset/plan.sameAs").run prog W = .ok (300, v) W := by kernel_rfl
theorem Ol (v : Value) (W : World) : (method 466 219 v "pinset/plan.sameAs").run prog W = .ok (302, v) W := by kernel_rfl
theorem Om (v : Value) (W : World) : (method 466 221 v "pinset/plan.sameAs").run prog W = .ok (303, v) W := by kernel_rfl
theorem On (v : Value) (W : World) : (method 466 86 v "pinset/plan.sameAs").run prog W = .ok (296, v) W := by kernel_rfl
theorem Oo (v : Value) (W : World) : (method 466 89 v "pinset/plan.sameAs").run prog W = .ok (298, v) W := by kernel_rfl
end Pn
namespace Pn
open Mf Ed
variable{A M A2:Nat->Prop}{S:Nat->Shf}{w w' W W1 V wf:zW}{G J I mb now:Nat}{cap:Int}{cs:List Int}{D Q:List Kp}{L:List (zV×zV)}{B O:Nat}{N U:zV}{Z z:List Tie}{r:Nat}{q:Qn}{k:Kp}{Y:List Qn}{cs':List Int}
theorem Eng.less(h:Eng A2 S w G J I mb now cap cs D L)(hs:∀b,A b->A2 b)(T:A G/\A I/\A J/\A mb):Eng A S w G J I mb now cap cs D L:=by
 obtain⟨E,g1,g2⟩:=h.desk.map;exact⟨⟨h.desk.f0,h.desk.f1,h.desk.f2,h.desk.cn,⟨E,g1,g2.more (fun b _ e=>hs b e)⟩,h.desk.ne,T.1,T.2.1⟩,h.shelf,h.on,h.inv,h.ml,h.len,fun b e=>h.hA b (hs b e),⟨T.2.2.1,T.2.2.2⟩,h.ne,h.ok,h.rt,h.few⟩
theorem Eng.wide(h:Eng A S w G J I mb now cap cs D L)(T:zB w w')(P:Nat->Prop)(hP:∀b,P b->w.heap.size<=b/\b<w'.heap.size):Eng (fun b=>A b\/P b) S w' G J I mb now cap cs D L:=by
 have he:=h.below T;obtain⟨E,g1,g2⟩:=h.desk.map
 have g3:eh (fun b=>A b\/P b) w E D:=g2.more (fun b a0 e=>by
  rcases e with e|e
  ·exact e
  ·have:=(hP b e).1;omega)
 exact⟨⟨he.desk.f0,he.desk.f1,he.desk.f2,he.desk.cn,⟨E,g1.of_block (T.block I g1.lt),g3.turn (ai.of_below T)⟩,he.desk.ne,oE he.desk.hd,oE he.desk.hf⟩,he.shelf,he.on,he.inv,he.ml,he.len,fun b e=>by
   rcases e with e|e
   ·exact he.hA b e
   ·exact(hP b e).2,⟨oE he.ns.1,oE he.ns.2⟩,he.ne,he.ok,he.rt,he.few⟩
theorem Eng.count(h:Eng A S w G J I mb now cap cs D L)(j:Nat):Eng A S (w.setCell (tD G (3+j)) (zI (wrap64 (cs[j]?.getD 0+1)))) G J I mb now cap (bump cs j) D L:=by
 have T:=h.ne;have e:∀b,b≠G->(w.setCell (tD G (3+j)) (zI (wrap64 (cs[j]?.getD 0+1)))).heap[b]?=w.heap[b]?:=fun b hb=>aL _ _ _ _ hb
 have hz:(w.setCell (tD G (3+j)) (zI (wrap64 (cs[j]?.getD 0+1)))).heap.size=w.heap.size:=by simp[World.setCell]
 obtain⟨m,hm⟩:=h.ml;refine⟨h.desk.bump j,h.shelf.of_block (e J (fun x=>T.1 x.symm)) (e mb (fun x=>T.2.1 x.symm)),h.on,h.inv,⟨m,?_⟩,by unfold bump;rw[List.length_set];exact h.len,fun b hb=>by rw[hz];exact h.hA b hb,h.ns,h.ne,h.ok,h.rt,h.few⟩;rw[bg (w:=w) (a:=(tD 0 0)) (e 0 (fun x=>T.2.2.2.2.1 x.symm))];exact hm
theorem QY(w:zW)(T o2 o3 o4:Obj):zB w ((((w.alloc T).alloc o2).alloc o3).alloc o4)/\((((w.alloc T).alloc o2).alloc o3).alloc o4).heap[w.heap.size]?=some T/\((((w.alloc T).alloc o2).alloc o3).alloc o4).heap[w.heap.size+1]?=some o2/\((((w.alloc T).alloc o2).alloc o3).alloc o4).heap[w.heap.size+2]?=some o3/\((((w.alloc T).alloc o2).alloc o3).alloc o4).heap[w.heap.size+3]?=some o4:=by
 have b1:zB w (w.alloc T):=(ae _ _).alloc (ah _) _;have b2:=b1.alloc b1.size o2;have b3:=b2.alloc b2.size o3;have b4:=b3.alloc b3.size o4;have s1:(w.alloc T).heap.size=w.heap.size+1:=by simp
 have s2:((w.alloc T).alloc o2).heap.size=w.heap.size+2:=by simp
 have s3:(((w.alloc T).alloc o2).alloc o3).heap.size=w.heap.size+3:=by simp
 refine⟨b4,?_,?_,?_,?_⟩
 ·rw[aH _ _ _ (by omega),aH _ _ _ (by omega),aH _ _ _ (by omega)];exact aA _ _
 ·rw[aH _ _ _ (by omega),aH _ _ _ (by omega),<-s1];exact aA _ _
 ·rw[aH _ _ _ (by omega),<-s2];exact aA _ _
 ·rw[<-s3];exact aA _ _
theorem fW.iface{v:zV}:∀{f:Fi},fW A w v f->∃T u,v=.iface T u
 | .man _ _,⟨_,_,_,h,_⟩=>⟨_,_,h⟩
 | .idx _ _,⟨_,h,_⟩=>⟨_,_,h⟩
 | .wants _ _,⟨_,_,h,_⟩=>⟨_,_,h⟩
 | .list _ _,⟨_,_,h,_⟩=>⟨_,_,h⟩
 | .ord _ _,⟨_,_,h,_⟩=>⟨_,_,h⟩
def uX(S:Nat->Shf)(G J I mb now:Nat)(cap:Int)(L:List (zV×zV))(F:Find)(g:Nat)(q:Qn):Prop:=
 ∀(A:Nat->Prop)(w:zW)(cs:List Int)(D:List Kp)(B O:Nat),D.length+10000*g<=N15->Tsk A S w B O G J I mb now cap cs D L (zN) []->
  zC 133 #[zP O,qv q] w fun e w'=>∃A2 U T f Q Y Z,e=.returned T/\fW A2 w' T f/\Pre F (S now) D (df q) Q (.ret f) Z Y/\dH A S w B O G J I mb now cap L (zN) w' A2 (counted cs Y) Q U Z/\(kU f=q.kind/\zD f/\Small f/\(∀t∈Z,jB t)/\Z.length<=10000)
def GN(A:Nat->Prop)(w:zW)(T:zV)(q:Qn):Option Kp->Prop
 |none=>T=.agg #[.nilIface,zN,zI 0,zI 0]
 |some k=>iL A w T k/\kU k.f=q.kind/\Small k.f
open Classical in
noncomputable def fH(now:Nat)(f:Fi):Option Kp->Nat
 |none=>now
 |some k=>if f.ess=k.f.ess then k.changed else now
theorem AA:∀l:List Tie,l.map qu=l.flatMap zx
 |[]=>rfl
 |x::l=>by
  rw[bQ,jF,AA l];rfl
theorem FK{a b c d T b' c' d':zV}(h:Value.agg #[a,b,c,d]=.agg #[T,b',c',d']):a=T/\b=b'/\c=c'/\d=d':=by
 injection h with h;simpa using h
open Classical in
noncomputable def kM(f:Fi):Option Kp->Bool
 |none=>false
 |some k=>decide (f.ess=k.f.ess)
def AFi(A:Nat->Prop)(w:zW)(a:zV)(f:Fi):Option Kp->Prop
 |none=>a=.nilIface
 |some k=>fW A w a k.f/\kU k.f=kU f
open Classical in
theorem Oq{T:Nat}{fu a:zV}{pr:Nat}{m:Mx}{o:Option Kp}(hf:fW A w (.iface T fu) (.man pr m))(ha:AFi A w a (.man pr m) o)(hs:Small (.man pr m)):T=216/\zC 300 #[fu,a] w fun e w'=>e=.returned (.bool (kM (.man pr m) o))/\zB w w':=by
 obtain⟨rv,xv,sv,e,h1,h2,h3⟩:=hf;injection e with e1 e2;subst e1;subst e2;refine⟨rfl,?_⟩;cases o with
 |none=>
  obtain rfl:=ha;obtain⟨ra,rc,rfl⟩:=h1.len;obtain⟨xa,xc,rfl⟩:=h2.len;obtain⟨sa,sc,rfl⟩:=h3.len;exact LA pr m.p ra _ rc xa _ xc sa _ sc w
 |some k=>
  obtain⟨hk,hn⟩:=ha;cases hkf:k.f with
  |man a3 m'=>
   rw[hkf] at hk;obtain⟨a4,a6,a5,rfl,a0,a1,a2⟩:=hk;have key:=Lv pr a3 m.p m'.p rv a4 m.R m'.R xv a6 m.X m'.X sv a5 m.S m'.S w hs.1 hs.2.1 hs.2.2 h1 h2 h3 a0 a1 a2;refine key.mono ?_;rintro e w' ⟨rfl,hb⟩;refine⟨?_,hb⟩
   congr 2
   show _=decide (Fi.ess (.man pr m)=k.f.ess);rw[hkf];refine decide_eq_decide.2 ?_;obtain⟨p,R,X,S⟩:=m;obtain⟨p',R',X',S'⟩:=m';simp[Fi.ess]
  |_=>rw[hkf] at hn;simp[kU] at hn
open Classical in
theorem Ot{T:Nat}{fu a:zV}{pr:Nat}{vs:List zA}{o:Option Kp}(hf:fW A w (.iface T fu) (.idx pr vs))(ha:AFi A w a (.idx pr vs) o)(hs:Small (.idx pr vs)):T=219/\zC 302 #[fu,a] w fun e w'=>e=.returned (.bool (kM (.idx pr vs) o))/\zB w w':=by
 obtain⟨u,e,h1⟩:=hf;injection e with e1 e2;subst e1;subst e2;refine⟨rfl,?_⟩;cases o with
 |none=>
  obtain rfl:=ha;obtain⟨ra,rc,rfl⟩:=h1.len;exact LC pr ra _ rc w
 |some k=>
  obtain⟨hk,hn⟩:=ha;cases hkf:k.f with
  |idx a1 a2=>
   rw[hkf] at hk;obtain⟨u',rfl,a0⟩:=hk;refine(LB pr a1 u u' vs a2 w hs h1 a0).mono ?_;rintro e w' ⟨rfl,hb⟩;refine⟨?_,hb⟩
   congr 2
   show _=decide (Fi.ess (.idx pr vs)=k.f.ess);rw[hkf];exact decide_eq_decide.2 (by simp[Fi.ess])
  |_=>rw[hkf] at hn;simp[kU] at hn
open Classical in
theorem Js{T:Nat}{fu a:zV}{ms:List Mo}{ps:List Pb}{o:Option Kp}(hf:fW A w (.iface T fu) (.wants ms ps))(ha:AFi A w a (.wants ms ps) o)(hs:Small (.wants ms ps)):T=221/\zC 303 #[fu,a] w fun e w'=>e=.returned (.bool (kM (.wants ms ps) o))/\zB w w':=by
 obtain⟨u,v,e,h1,h2⟩:=hf;injection e with e1 e2;subst e1;subst e2;refine⟨rfl,?_⟩;cases o with
 |none=>
  obtain rfl:=ha;obtain⟨ra,rc,rfl⟩:=h1.len;obtain⟨xa,xc,rfl⟩:=h2.len;exact FB ra _ rc xa _ xc w
 |some k=>
  obtain⟨hk,hn⟩:=ha;cases hkf:k.f with
  |wants a2 a3=>
   rw[hkf] at hk;obtain⟨u',v',rfl,a0,a1⟩:=hk;refine(Fy u u' ms a2 v v' ps a3 w hs.1 hs.2 h1 h2 a0 a1).mono ?_;rintro e w' ⟨rfl,hb⟩;refine⟨?_,hb⟩
   congr 2
   show _=decide (Fi.ess (.wants ms ps)=k.f.ess);rw[hkf];exact decide_eq_decide.2 (by simp[Fi.ess])
  |_=>rw[hkf] at hn;simp[kU] at hn
open Classical in
theorem LJ{T:Nat}{fu a:zV}{ms:List Mo}{ps:List Pb}{o:Option Kp}(hf:fW A w (.iface T fu) (.list ms ps))(ha:AFi A w a (.list ms ps) o)(hs:Small (.list ms ps)):T=86/\zC 296 #[fu,a] w fun e w'=>e=.returned (.bool (kM (.list ms ps) o))/\zB w w':=by
 obtain⟨u,v,e,h1,h2⟩:=hf;injection e with e1 e2;subst e1;subst e2;refine⟨rfl,?_⟩;cases o with
 |none=>
  obtain rfl:=ha;obtain⟨ra,rc,rfl⟩:=h1.len;obtain⟨xa,xc,rfl⟩:=h2.len;exact Je ra _ rc xa _ xc w
 |some k=>
  obtain⟨hk,hn⟩:=ha;cases hkf:k.f with
  |list a3 a4=>
   rw[hkf] at hk;obtain⟨u',v',rfl,a0,a1⟩:=hk;obtain⟨xa,xc,hx⟩:=h2.len;obtain⟨a5,a6,a2⟩:=a1.len;refine(Jd u u' ms a3 v v' w hs.1 h1 a0 ⟨_,_,_,hx⟩ ⟨_,_,_,a2⟩).mono ?_;rintro e w' ⟨rfl,hb⟩;refine⟨?_,hb⟩
   congr 2
   show _=decide (Fi.ess (.list ms ps)=k.f.ess);rw[hkf];exact decide_eq_decide.2 (by simp[Fi.ess])
  |_=>rw[hkf] at hn;simp[kU] at hn
open Classical in
theorem Ou{T:Nat}{fu a:zV}{ms:List zA}{ps:List Pb}{o:Option Kp}(hf:fW A w (.iface T fu) (.ord ms ps))(ha:AFi A w a (.ord ms ps) o)(hs:Small (.ord ms ps)):T=89/\zC 298 #[fu,a] w fun e w'=>e=.returned (.bool (kM (.ord ms ps) o))/\zB w w':=by
 obtain⟨u,v,e,h1,h2⟩:=hf;injection e with e1 e2;subst e1;subst e2;refine⟨rfl,?_⟩;cases o with
 |none=>
  obtain rfl:=ha;obtain⟨ra,rc,rfl⟩:=h1.len;obtain⟨xa,xc,rfl⟩:=h2.len;exact LF ra _ rc xa _ xc w
 |some k=>
  obtain⟨hk,hn⟩:=ha;cases hkf:k.f with
  |ord a2 a3=>
   rw[hkf] at hk;obtain⟨u',v',rfl,a0,a1⟩:=hk;refine(LD u u' ms a2 v v' ps a3 w hs.1 hs.2 h1 h2 a0 a1).mono ?_;rintro e w' ⟨rfl,hb⟩;refine⟨?_,hb⟩
   congr 2
   show _=decide (Fi.ess (.ord ms ps)=k.f.ess);rw[hkf];exact decide_eq_decide.2 (by simp[Fi.ess])
  |_=>rw[hkf] at hn;simp[kU] at hn
theorem tH{F:Find}{g:Nat}(hW:uX S G J I mb now cap L F g q)(hD:D.length+10000*g<=N15)(av:zV)(o:Option Kp)(w:zW)(h:Eng A S w G J I mb now cap cs D L)(ha:GN A w av q o):
  zC 100 #[zP G,qv q,av] w fun e w'=>∃fv b1 f Z Q Y,e=.returned (.agg #[fv,b1,zI (fH now f o:Nat),zI 0])/\fW A w' fv f/\RdA A zx w' b1 Z/\Pre F (S now) D (df q) Q (.ret f) Z Y/\Eng A S w' G J I mb now cap (counted cs (Y++[q])) Q L/\ai (fun b=>b=G\/b=I) w w'/\(kU f=q.kind/\zD f/\Small f/\(∀t∈Z,jB t)/\Z.length<=10000):=by
 obtain⟨a5,a7,a4,a8,rfl⟩:∃a b c d,av=.agg #[a,b,c,d]:=by
  cases o with
  |none=>exact⟨_,_,_,_,ha⟩
  |some k=>obtain⟨⟨fv,N,e,_⟩,_⟩:=ha;exact⟨_,_,_,_,e⟩
 obtain⟨qk,qp,qw⟩:=q;show zC 100 #[zP G,.agg #[zI (qk:Nat),tS qp,tS qw],.agg #[a5,a7,a4,a8]] w _;have HE:=zH h;have c9:=zH ha;have bp:=QY w (.cells #[zI (qk:Nat),tS qp,tS qw] 115) (.cells #[a5,a7,a4,a8] 142) (.cells #[.nilIface,zN,zI 0,zI 0] 142) (.cells #[zP G,zN] 84)
 have HP:Hid (∀b,b=w.heap.size+2\/b=w.heap.size+3->w.heap.size<=b/\b<((((w.alloc (.cells #[zI (qk:Nat),tS qp,tS qw] 115)).alloc (.cells #[a5,a7,a4,a8] 142)).alloc (.cells #[.nilIface,zN,zI 0,zI 0] 142)).alloc (.cells #[zP G,zN] 84)).heap.size):=fun b e=>by
  simp;omega
 have c4:=h.wide bp.1 (fun b=>b=w.heap.size+2\/b=w.heap.size+3) HP.out;have a6:Hid _:=bp;clear bp;have hF:=fd2 a6.out.2.2.2.2
 have c5:Tsk (fun b=>A b\/(b=w.heap.size+2\/b=w.heap.size+3)) S ((((w.alloc (.cells #[zI (qk:Nat),tS qp,tS qw] 115)).alloc (.cells #[a5,a7,a4,a8] 142)).alloc (.cells #[.nilIface,zN,zI 0,zI 0] 142)).alloc (.cells #[zP G,zN] 84)) w.heap.size (w.heap.size+3) G J I mb now cap cs D L (zN) []:=
  ⟨c4,⟨hF.1,hF.2,eC ..,by simp[Value.ownBlock],by omega⟩,fun b e=>by
   rcases e with e|e
   ·exact oS (oS e)
   ·simp[Value.ownBlock] at e,⟨h.hA _ h.desk.hd,h.hA _ h.desk.hf,h.hA _ h.ns.1,h.hA _ h.ns.2,by have:=h.hA _ h.desk.hd;omega⟩,a6.out.1.size⟩
 have kw:=hW _ _ _ _ _ _ hD c5;clear h ha c4 hF c5 hW hD;go_enter func100,ntmps100
 go_wp2_with (go_at_call 133;fail)
 rw[show w.heap.size+1+1+1=w.heap.size+3 from rfl,show w.heap.size+1+1=w.heap.size+2 from rfl];generalize (((w.alloc (.cells #[zI (qk:Nat),tS qp,tS qw] 115)).alloc (.cells #[a5,a7,a4,a8] 142)).alloc (.cells #[.nilIface,zN,zI 0,zI 0] 142)).alloc (.cells #[zP G,zN] 84)=W1 at*;go_at_call 133;refine kw.mono ?_;rintro e V ⟨A2,U,fv,f,Q,Y,Z,rfl,bn,b7,b0,c6⟩
 have HS:Hid (∀b,b<W1.heap.size->w.heap.size<=b->b≠w.heap.size+3->V.heap[b]?=W1.heap[b]?):=fun b hb dq ds=>b0.f.block b hb (fun e=>by
  have h1:=HE.out.hA _ HE.out.desk.hd;have h2:=HE.out.hA _ HE.out.desk.hf;rcases e with e|e|e|e
  ·omega
  ·omega
  ·omega
  ·simp[Value.ownBlock] at e)
 have bk:Hid (W1.heap.size=W1.heap.size/\w.heap.size+3<W1.heap.size):=⟨rfl,af a6.out.2.2.2.2⟩;have b9:Hid (V.heap[w.heap.size+1]?=some (.cells #[a5,a7,a4,a8] 142)):=(HS.out _ (by have:=bk.out.2;omega) (by omega) (by omega)).trans a6.out.2.2.1;have bd:Hid (V.heap[w.heap.size+2]?=some (.cells #[.nilIface,zN,zI 0,zI 0] 142)):=(HS.out _ (by have:=bk.out.2;omega) (by omega) (by omega)).trans a6.out.2.2.2.1;have T:=zH b0;have HO:Hid (Pre F (S now) D (df ⟨qk,qp,qw⟩) Q (.ret f) Z Y/\(kU f=qk/\zD f/\Small f/\(∀t∈Z,jB t)/\Z.length<=10000)):=⟨b7,c6⟩;have bt:=zH bn;have kc:=Lu V b0.t.eng.desk bn b0.t.eng.len;clear b0 b7 c6 bn HS kw
 go_wp2_with (go_at_call 134;fail)
 go_at_call 134;refine kc.mono ?_;rintro e w3 ⟨rfl,bq⟩;have b2:Hid (Eng A2 S w3 G J I mb now cap (bump (counted cs Y) (kU f)) Q L):=by rw[bq];exact T.out.t.eng.count _
 have aa:Hid (ai (fun b=>b=G) V w3):=by rw[bq];exact(ai.refl (fun b=>b=G) V).set (a:=⟨G,3+kU f,none⟩) (fun _=>rfl) _
 clear bq kc;have bu:Hid (∀b,w.heap.size<=b->b≠G):=fun b hb e=>by have:=HE.out.hA _ HE.out.desk.hd;omega
 have aq:Hid (fW A2 w3 fv f):=bt.out.turn (aa.out.mono (fun b _ e=>by rw[e];exact b2.out.desk.hd));have ab:Hid (dA w.heap.size w3 (w.heap.size+3) G U Z):=T.out.t.task.turn aa.out (fun b e=>by rw[e];exact HE.out.hA _ HE.out.desk.hd);have bs:Hid (w3.heap[w.heap.size+1]?=some (.cells #[a5,a7,a4,a8] 142)):=(aa.out.block _ (af b9.out) (bu.out _ (by omega))).trans b9.out;have bf:Hid (w3.heap[w.heap.size+2]?=some (.cells #[.nilIface,zN,zI 0,zI 0] 142)):=(aa.out.block _ (af bd.out) (bu.out _ (by omega))).trans bd.out;clear b9 bd bt;have kr:∀W,zB w3 W->zC 41 #[zP J] W fun e w'=>e=.returned (zI (now:Nat))/\w'=W:=fun W hb=>uD W (b2.out.shelf.below hb)
 have au:Hid (∀W,zB w3 W->W.cell? (tD (w.heap.size+3) 1)=some U/\W.cell? (tD G 0)=some (zP J)):=fun W hb=>⟨(ab.out.below hb).t1.1,(b2.out.desk.below hb).f0.1⟩
 obtain⟨p0,p1⟩:=au.out _ (ae _ _);obtain⟨ta,tc,db⟩:=aC ab.out.row;subst db;obtain⟨fT,fu,ct⟩:=aq.out.iface;subst ct;go_upto_region 4 with fail
 go_cut [9] (fun xp wx=>∃xb,xp=zP xb/\Hid (zB w3 wx/\w3.heap.size<=xb/\wx.heap[xb]?=some (.cells #[.iface fT fu,.slice ta Z.length tc,zI (now:Nat),zI 0] 142)))
 case first=>
  go_region_held3 (fun w'=>w'.cell? (tD (w.heap.size+3) 1)=some (.slice ta Z.length tc)/\w'.cell? (tD G 0)=some (zP J))
  (first|exact⟨p0,p1⟩|exact au.out _ ((ae _ _).drew)|exact au.out _ (ax ((ae _ _).drew) _)|exact au.out _ (ax (ae _ _) _))
  (first|(go_at_call 41;refine(kr _ ((ae _ _).drew)).mono ?_;rintro e w4 ⟨rfl,rfl⟩)|(go_at_call 41;refine(kr _ (ax ((ae _ _).drew) _)).mono ?_;rintro e w4 ⟨rfl,rfl⟩))
  all_goals
   go_wp2_with fail
   go_meet
   first
    |exact⟨_,rfl,ax (ae _ _) _,ah _,aA _ _⟩
    |exact⟨_,rfl,ax ((ae _ _).drew) _,ah _,aA _ _⟩
    |exact⟨_,rfl,(ax (ae _ _) _).drew,ah _,aA _ _⟩
 case rest=>
  obtain⟨xb,h9,HC⟩:=hcut;rw[h9];clear h9 p0 p1 au kr;obtain⟨wo,dj⟩:∃wo,wo=wc:=⟨_,rfl⟩;subst dj;have bb:=zH ((HC.out.1.block _ (af bs.out)).trans bs.out);have c0:=zH ((HC.out.1.block _ (af bf.out)).trans bf.out);obtain⟨⟨a0,_⟩,⟨a1,_⟩,⟨a2,_⟩,⟨a3,_⟩⟩:=fd4 bb.out
  have cd:Hid (ai (fun b=>A2 b) w wo):=by
   have t1:ai (fun b=>A2 b) w W1:=ai.of_below a6.out.1
   have t2:ai (fun b=>A2 b) W1 V:=T.out.f.mono (fun b _ e=>by
    rcases e with e|e|e|e
    ·rw[e];exact T.out.t.eng.desk.hd
    ·rw[e];exact T.out.t.eng.desk.hf
    ·rw[e];exact T.out.sub _ (oS (oS rfl))
    ·simp[Value.ownBlock] at e)
   have t3:ai (fun b=>A2 b) V w3:=aa.out.mono (fun b _ e=>by rw[e];exact T.out.t.eng.desk.hd);exact((t1.trans t2 (fun _ _ e=>e) (fun _ _ e=>e)).trans t3 (fun _ _ e=>e) (fun _ _ e=>e)).trans (ai.of_below HC.out.1 (p:=fun b=>A2 b)) (fun _ _ e=>e) (fun _ _ e=>e)
  have cb:Hid (∀b,b<w.heap.size->A2 b->A b):=fun b hb e=>by
   rcases T.out.new b e with(e|e)|e
   ·exact e
   ·omega
   ·have:=a6.out.1.size;omega
  have ad:Hid (AFi A2 wo a5 f o/\∀k0,o=some k0->a4=zI (k0.changed:Nat)):=by
   have h1:=c9.out;cases o with
   |none=>exact⟨(FK h1).1,fun k0 e=>by cases e⟩
   |some k0=>
    obtain⟨⟨dp,fb,ck,cp,_⟩,cx,_⟩:=h1;obtain⟨e1,_,e2,_⟩:=FK ck;refine⟨⟨?_,cx.trans HO.out.2.1.symm⟩,fun k1 e=>by cases e;exact e2⟩;rw[e1];exact(cp.more cb.out).turn cd.out
  have an:=zH (aq.out.turn (ai.of_below HC.out.1));go_upto_region 5 with fail
  go_cut [29] (fun bv wx=>bv=.bool (kM f o)/\Hid (zB wo wx))
  case first=>
   have az:=HO.out.2.2.2.1;cases f with
   |man pr m=>
    obtain⟨rfl,ks⟩:=Oq an.out ad.out.1 az;have hm:=Oj fu wo;have hc:∀(args:Array zV)(w:zW),(callFunc 300 args).run prog w=.ok (.enter 300 args) w:=fun _ _=>by kernel_rfl
    generalize kM (.man pr m) o=b4 at*
    go_wp2_with ((go_at_call 300;refine ks.mono ?_;rintro e w6 ⟨rfl,a9⟩))
    go_meet
    exact⟨rfl,a9⟩
   |idx pr vs=>
    obtain⟨rfl,ks⟩:=Ot an.out ad.out.1 az;have hm:=Ol fu wo;have hc:∀(args:Array zV)(w:zW),(callFunc 302 args).run prog w=.ok (.enter 302 args) w:=fun _ _=>by kernel_rfl
    generalize kM (.idx pr vs) o=b4 at*
    go_wp2_with ((go_at_call 302;refine ks.mono ?_;rintro e w6 ⟨rfl,a9⟩))
    go_meet
    exact⟨rfl,a9⟩
   |wants ms ps=>
    obtain⟨rfl,ks⟩:=Js an.out ad.out.1 az;have hm:=Om fu wo;have hc:∀(args:Array zV)(w:zW),(callFunc 303 args).run prog w=.ok (.enter 303 args) w:=fun _ _=>by kernel_rfl
    generalize kM (.wants ms ps) o=b4 at*
    go_wp2_with ((go_at_call 303;refine ks.mono ?_;rintro e w6 ⟨rfl,a9⟩))
    go_meet
    exact⟨rfl,a9⟩
   |list ms ps=>
    obtain⟨rfl,ks⟩:=LJ an.out ad.out.1 az;have hm:=On fu wo;have hc:∀(args:Array zV)(w:zW),(callFunc 296 args).run prog w=.ok (.enter 296 args) w:=fun _ _=>by kernel_rfl
    generalize kM (.list ms ps) o=b4 at*
    go_wp2_with ((go_at_call 296;refine ks.mono ?_;rintro e w6 ⟨rfl,a9⟩))
    go_meet
    exact⟨rfl,a9⟩
   |ord ns ps=>
    obtain⟨rfl,ks⟩:=Ou an.out ad.out.1 az;have hm:=Oo fu wo;have hc:∀(args:Array zV)(w:zW),(callFunc 298 args).run prog w=.ok (.enter 298 args) w:=fun _ _=>by kernel_rfl
    generalize kM (.ord ns ps) o=b4 at*
    go_wp2_with ((go_at_call 298;refine ks.mono ?_;rintro e w6 ⟨rfl,a9⟩))
    go_meet
    exact⟨rfl,a9⟩
  case rest=>
   obtain⟨c2,HD⟩:=hcut;rw[c2];clear c2 a0 a1 a2 a3;have ak:=zH (HC.out.1.trans (HD.out.mono HC.out.1.size));have c8:=zH ((HD.out.block _ (af bb.out)).trans bb.out);have bi:=zH ((HD.out.block _ (af c0.out)).trans c0.out);have bm:=zH ((HD.out.block _ (af HC.out.2.2)).trans HC.out.2.2)
   have ch:Hid (xb≠w.heap.size+1/\xb≠w.heap.size+2):=by
    have h1:=HC.out.2.1;have h2:=af bf.out;exact⟨by omega,by omega⟩
   have ca:=zH ad.out.2
   have b8:Hid (∀Wf,ai (fun b=>b=xb\/b=w.heap.size+2) wc Wf->fW A Wf (.iface fT fu) f/\RdA A zx Wf (.slice ta Z.length tc) Z/\Eng A S Wf G J I mb now cap (counted cs (Y++[⟨qk,qp,qw⟩])) Q L/\ai (fun b=>b=G\/b=I) w Wf):=fun Wf b3=>by
    have hx:=HC.out.2.1
    have fa:w.heap.size<=w3.heap.size:=by
     have h2:=a6.out.1.size;have h3:=aa.out.size;have h4:=T.out.f.size;omega
    have c3:∀b,A b->(A2 b\/b=xb):=fun b e=>oE (T.out.sub b (oE e))
    have hp:∀b,(b=xb\/b=w.heap.size+2)->(A2 b\/b=xb):=fun b e=>by
     rcases e with e|e
     ·exact oS e
     ·rw[e];exact oE (T.out.sub _ (oS (oE rfl)))
    have hz:=ak.out.size;have dk:=af bm.out;have du:=T.out.t.lt;refine⟨?_,?_,?_,?_⟩
    ·have g1:fW (fun b=>A2 b\/b=xb) w3 (.iface fT fu) f:=aq.out.more (fun b hb e=>by
      rcases e with e|e
      ·exact e
      ·omega)
     have g2:=g1.turn (ai.of_below ak.out);have g3:=g2.turn (b3.mono (fun b _ e=>hp b e));exact g3.more (fun b _ e=>c3 b e)
    ·refine RdA.own (B:=w.heap.size) (s:=1) (e:=190) (xs:=Z.map qu) ?_ ?_ (fun _=>rfl) HE.out.hA
     ·refine ar (own_below ab.out.row ak.out) (fun b e=>b3.block b ?_ ?_)
      ·have:=(ab.out.row.lt b e).2;omega
      ·intro e2
       have h1:=(ab.out.row.lt b e).2;rcases e2 with e2|e2
       ·omega
       ·rcases T.out.own b e with h2|h2
        ·simp[Value.ownBlock] at h2
        ·have:=bk.out.2;omega
     ·exact AA Z
    ·have g1:=b2.out.wide ak.out (fun b=>b=xb) (fun b e=>by rw[e];exact⟨hx,dk⟩)
     have g2:=g1.turn b3 (fun b _ e=>hp b e) (by
      refine⟨?_,?_,?_,?_,?_⟩<;>(intro e;rcases e with e|e<;>omega))
     have g3:=g2.less (A:=A) c3 ⟨HE.out.desk.hd,HE.out.desk.hf,HE.out.ns.1,HE.out.ns.2⟩
     have e1:counted cs (Y++[⟨qk,qp,qw⟩])=bump (counted cs Y) (kU f):=by
      unfold counted;rw[pM,HO.out.2.1];rfl
     rw[e1];exact g3
    ·have t1:ai (fun b=>b=G\/b=I) w W1:=ai.of_below a6.out.1
     have t2:=t1.trans T.out.f (r:=fun b=>b=G\/b=I) (fun _ _ e=>e) (fun b hb e=>by
      rcases e with e|e|e|e
      ·exact oE e
      ·exact oS e
      ·omega
      ·simp[Value.ownBlock] at e)
     have t3:=t2.trans aa.out (r:=fun b=>b=G\/b=I) (fun _ _ e=>e) (fun b _ e=>oE e);have t4:=t3.more ak.out
     exact t4.trans b3 (fun _ _ e=>e) (fun b hb e=>by
      have h2:=a6.out.1.size;have h3:=aa.out.size;have h4:=T.out.f.size;rcases e with e|e<;>omega)
   obtain⟨⟨x0,_⟩,⟨x1,_⟩,⟨x2,y2⟩,⟨x3,_⟩⟩:=fd4 bm.out;obtain⟨⟨r0,f0⟩,⟨r1,f1⟩,⟨r2,f2⟩,⟨r3,f3⟩⟩:=fd4 bi.out;obtain⟨⟨a0,_⟩,⟨a1,_⟩,⟨a2,_⟩,⟨a3,_⟩⟩:=fd4 c8.out
   have b6:Hid (∀Wf c,ai (fun b=>b=xb\/b=w.heap.size+2) wc Wf->c=fH now f o->∃fv b1 f1 b5 D1 c1,Ending.returned (.agg #[.iface fT fu,.slice ta Z.length tc,zI (c:Nat),zI 0])=Ending.returned (.agg #[fv,b1,zI (fH now f1 o:Nat),zI 0])/\fW A Wf fv f1/\RdA A zx Wf b1 b5/\Pre F (S now) D (df ⟨qk,qp,qw⟩) D1 (.ret f1) b5 c1/\Eng A S Wf G J I mb now cap (counted cs (c1++[⟨qk,qp,qw⟩])) D1 L/\ai (fun b=>b=G\/b=I) w Wf/\(kU f1=qk/\zD f1/\Small f1/\(∀t∈b5,jB t)/\b5.length<=10000)):=fun Wf c ht hc=>by
    have C:=b8.out Wf ht;exact⟨.iface fT fu,.slice ta Z.length tc,f,Z,Q,Y,by rw[hc],C.1,C.2.1,HO.out.1,C.2.2.1,C.2.2.2,HO.out.2⟩
   cases hsb:kM f o with
   |false=>
    have bc:Hid (now=fH now f o):=by
     show now=fH now f o;cases o with
     |none=>rfl
     |some k0=>
      have da:¬f.ess=k0.f.ess:=fun e=>by simp[kM,e] at hsb
      unfold fH;exact(ag da).symm
    clear hsb b8;go_wp2;refine aI (bG results100 _ _ (w.heap.size+2) 142 _ (0,0) _ rfl (lO bi.out _ _ _ _) underlying142 rfl (by kernel_rfl)) rfl ?_;exact b6.out _ now ((((((ai.refl (fun b=>b=xb\/b=w.heap.size+2) wc).set (a:=(tD (w.heap.size+2) 0)) (fun _=>oS rfl) _).set (a:=(tD (w.heap.size+2) 1)) (fun _=>oS rfl) _).set (a:=(tD (w.heap.size+2) 2)) (fun _=>oS rfl) _).set (a:=(tD (w.heap.size+2) 3)) (fun _=>oS rfl) _)) bc.out
   |true=>
    cases o with
    |none=>simp[kM] at hsb
    |some k0=>
     have cm:=ca.out k0 rfl;subst cm
     have bc:Hid (k0.changed=fH now f (some k0)):=by
      show k0.changed=fH now f (some k0);have he:f.ess=k0.f.ess:=by simpa[kM] using hsb
      unfold fH;exact(aj he).symm
     clear hsb b8;go_upto_region 7 with fail;have cf:Hid ((wc.setCell (tD xb 2) (zI (k0.changed:Nat))).heap[xb]?=some (.cells #[.iface fT fu,.slice ta Z.length tc,zI (k0.changed:Nat),zI 0] 142)):=bo _ _ 2 _ _ _ bm.out;have bx:Hid ((wc.setCell (tD xb 2) (zI (k0.changed:Nat))).heap[w.heap.size+2]?=some (.cells #[.nilIface,zN,zI 0,zI 0] 142)):=(aL _ _ _ _ (fun e=>ch.out.2 e.symm)).trans bi.out;have cc:Hid (ai (fun b=>b=xb\/b=w.heap.size+2) wc (wc.setCell (tD xb 2) (zI (k0.changed:Nat)))):=(ai.refl (fun b=>b=xb\/b=w.heap.size+2) wc).set (a:=(tD xb 2)) (fun _=>oE rfl) _;clear x0 x1 x2 y2 x3 r0 f0 r1 f1 r2 f2 r3 f3 a0 a1 a2 a3;generalize wc.setCell (tD xb 2) (zI (k0.changed:Nat))=W6 at*;obtain⟨⟨x0,_⟩,⟨x1,_⟩,⟨x2,_⟩,⟨x3,_⟩⟩:=fd4 cf.out;obtain⟨⟨r0,f0⟩,⟨r1,f1⟩,⟨r2,f2⟩,⟨r3,f3⟩⟩:=fd4 bx.out;go_wp2;refine aI (bG results100 _ _ (w.heap.size+2) 142 _ (0,0) _ rfl (lO bx.out _ _ _ _) underlying142 rfl (by kernel_rfl)) rfl ?_;exact b6.out _ k0.changed ((((cc.out.set (a:=(tD (w.heap.size+2) 0)) (fun _=>oS rfl) _).set (a:=(tD (w.heap.size+2) 1)) (fun _=>oS rfl) _).set (a:=(tD (w.heap.size+2) 2)) (fun _=>oS rfl) _).set (a:=(tD (w.heap.size+2) 3)) (fun _=>oS rfl) _) bc.out
end Pn
namespace Pn
open Mf Ed
variable{A M A2:Nat->Prop}{S:Nat->Shf}{w w' W W1 V wf:zW}{G J I mb now:Nat}{cap:Int}{cs:List Int}{D Q:List Kp}{L:List (zV×zV)}{r:Nat}{q:Qn}{k:Kp}{Y:List Qn}
theorem Jt(a b c d:zV)(W:zW):(Instr.field 142 (.agg #[a,b,c,d]) 2).run prog W=.ok c W:=by kernel_rfl
theorem fJ(cs:List Int)(a b:List Qn):counted (counted cs a) b=counted cs (a++b):=by
 unfold counted;rw[pM]
def yC(S:Nat->Shf)(G J I mb now:Nat)(cap:Int)(L:List (zV×zV))(F:Find)(g:Nat)(P:Qn->Prop):Prop:=
 ∀(A:Nat->Prop)(q:Qn)(w:zW)(cs:List Int)(D:List Kp),P q->q.kind<=4->QOk q->D.length+g<=N15->Eng A S w G J I mb now cap cs D L->
  zC 79 #[zP G,qv q] w fun e w'=>∃v k Q Y,e=.returned v/\iL A w' v k/\F D q k Q Y/\Eng A S w' G J I mb now cap (counted cs Y) Q L/\ai (fun b=>b=G\/b=I) w w'
theorem D8:yC S G J I mb now cap L (fun _ _ _ _ _=>False) 0 (fun _=>False):=fun _ _ _ _ _ h=>h.elim
variable{F:Find}{P:Qn->Prop}{g:Nat}
structure Hd(A:Nat->Prop)(S:Nat->Shf)(w:World)(G J I mb now:Nat)(cap:Int)(cs:List Int)(D:List Kp)(L:List (zV×zV))(F:Find)(k:Kp)(bx:Nat)(cells:Array zV)(wr:World)(i:Nat)(Q:List Kp)(Y:List Qn):Prop where
 e:Eng A S wr G J I mb now cap (counted cs Y) Q L
 t:ai (fun b=>b=G\/b=I) w wr
 c:Chk F (S now) k.checked D (k.ties.take i) Q Y
 b:wr.heap[bx]?=some (.cells cells 142)
theorem Ju(hF:yC S G J I mb now cap L F g P)(bk:Adds g F)(hD:D.length+10000*g<=N15)(kv:zV)(w:zW)(h:Eng A S w G J I mb now cap cs D L)(hk:iL A w kv k)(b2:KOk k)(lM:∀q,Tie.ask q∈k.ties->P q/\q.kind<=4):
  zC 99 #[zP G,kv] w fun e w'=>∃b Q Y,e=.returned (.bool b)/\oh F (S now) k.checked D k.ties Q Y b/\Eng A S w' G J I mb now cap (counted cs Y) Q L/\ai (fun b=>b=G\/b=I) w w':=by
 obtain⟨fv,N,rfl,bp,b5⟩:=hk;obtain⟨fT,fu,rfl⟩:=bp.iface;obtain⟨ta,tc,e1⟩:=b5.len;subst e1;have hn:=b2.n;have az:Hid (KOk k/\∀q,Tie.ask q∈k.ties->P q/\q.kind<=4):=⟨b2,lM⟩;have bu:=zH b5;have HE:=zH h;have HF:=zH hF;have b6:Hid (Adds g F/\D.length+10000*g<=N15):=⟨bk,hD⟩;clear bp b5 h hF b2 lM bk hD;have b7:Hid (zB w (w.alloc (.cells #[.iface fT fu,.slice ta k.ties.length tc,zI (k.changed:Nat),zI (k.checked:Nat)] 142))):=(ae _ _).alloc (ah _) _;have aq:Hid (Hd A S w G J I mb now cap cs D L F k w.heap.size #[.iface fT fu,.slice ta k.ties.length tc,zI (k.changed:Nat),zI (k.checked:Nat)] (w.alloc (.cells #[.iface fT fu,.slice ta k.ties.length tc,zI (k.changed:Nat),zI (k.checked:Nat)] 142)) 0 D []):=⟨HE.out.below b7.out,ai.of_below b7.out,Chk.start,aA _ _⟩;have bx:Hid (w.alloc (.cells #[.iface fT fu,.slice ta k.ties.length tc,zI (k.changed:Nat),zI (k.checked:Nat)] 142)=w.alloc (.cells #[.iface fT fu,.slice ta k.ties.length tc,zI (k.changed:Nat),zI (k.checked:Nat)] 142)):=rfl;obtain⟨_,⟨b1,_⟩,_,⟨b3,_⟩⟩:=fd4 aq.out.b;go_enter func99,ntmps99;go_wp2
 go_step3
 go_wp2
 go_step3
 go_wp2;clear bx;generalize w.alloc (.cells #[.iface fT fu,.slice ta k.ties.length tc,zI (k.changed:Nat),zI (k.checked:Nat)] 142)=W1 at*;generalize hm:k.ties.length=n at*;go_loopg [5,13] n (fun gg hv iv wr=>∃(i:Nat)(Q:List Kp)(Y:List Qn),i<=n/\n-i<=gg/\hv=zI i/\iv=zI i/\Hid (Hd A S w G J I mb now cap cs D L F k w.heap.size #[.iface fT fu,.slice ta n tc,zI (k.changed:Nat),zI (k.checked:Nat)] wr i Q Y))
 case atStart=>exact⟨0,D,[],by omega,by omega,rfl,rfl,aq⟩
 case round=>
  obtain⟨i,Q,Y,hi,hg,rfl,rfl,T⟩:=hrel;clear aq;by_cases cd:i<n
  ·have gO:(i:Int)<(n:Int):=by omega
   have bv:Hid (RdA A zx wr (.slice ta n tc) k.ties):=bu.out.turn (T.out.t.mono (fun b _ e=>by
    rcases e with e|e
    ·rw[e];exact HE.out.desk.hd
    ·rw[e];exact HE.out.desk.hf))
   have a5:i<k.ties.length:=by omega
   have a4:Hid (k.ties.take (i+1)=k.ties.take i++[k.ties[i]]/\k.ties=k.ties.take i++k.ties[i]::k.ties.drop (i+1)/\jB k.ties[i]/\k.ties[i]∈k.ties):=⟨by rw[wO,aZ a5];rfl,by rw[<-dC a5,List.take_append_drop],az.out.1.t _ (ez a5),ez a5⟩;obtain⟨b,o,c,eg,hx⟩:=RdA.at (A:=A) (L:=k.ties) bv.out (s:=1) (fun _=>rfl) (by decide) (ae _ _) i a5;rw[hm] at eg;injection eg with c0 c2 c3;clear c2;subst c0;subst c3;have y0:wr.cell? (tD b (o+i))=some (qu k.ties[i]):=by have:=hx 0 _ rfl;simpa using this
   clear hx;generalize k.ties[i]=tie at*;have b0:=zH (af T.out.b);have au:Hid (G<w.heap.size/\I<w.heap.size):=⟨HE.out.hA _ HE.out.desk.hd,HE.out.hA _ HE.out.desk.hf⟩;cases tie with
   |ask q=>
    obtain⟨qk,qp,qw⟩:=q;have y1:wr.cell? (tD b (o+i))=some (.iface 115 (.agg #[zI (qk:Nat),tS qp,tS qw])):=y0;have b4:=QQ (.agg #[zI (qk:Nat),tS qp,tS qw]) wr;have c9:=Sn (.agg #[zI (qk:Nat),tS qp,tS qw]) wr;have aa:Hid ((wr.alloc (.cells #[zI (qk:Nat),tS qp,tS qw] 115)).heap[wr.heap.size]?=some (.cells #[zI (qk:Nat),tS qp,tS qw] 115)):=aA _ _;have a1:Hid (zB wr (wr.alloc (.cells #[zI (qk:Nat),tS qp,tS qw] 115))):=(ae _ _).alloc (ah _) _;have a2:=zH ((a1.out.block _ b0.out).trans T.out.b);have a7:=zH (T.out.e.below a1.out);clear y0;go_upto_region 11 with fail;clear y1 b4 c9;generalize wr.alloc (.cells #[zI (qk:Nat),tS qp,tS qw] 115)=Wa at*
    have bs:Hid (Q.length+g<=N15):=by
     have h1:=wW b6.out.1 T.out.c;have h2:=b6.out.2;rw[qN,Nat.min_eq_left (by omega)] at h1;have h3:(i+1)*g<=10000*g:=eA g (by omega);rw[gj] at h3;show Q.length+g<=N15;omega
    have KF:Hid (∀W,zB Wa W->zC 79 #[zP G,.agg #[zI (qk:Nat),tS qp,tS qw]] W fun e w'=>∃v kk D2 W2,e=.returned v/\iL A w' v kk/\F Q ⟨qk,qp,qw⟩ kk D2 W2/\Eng A S w' G J I mb now cap (counted (counted cs Y) W2) D2 L/\ai (fun b=>b=G\/b=I) Wa w'):=fun W hb=>(HF.out A ⟨qk,qp,qw⟩ W _ Q (az.out.2 _ a4.out.2.2.2).1 (az.out.2 _ a4.out.2.2.2).2 a4.out.2.2.1 bs.out (a7.out.below hb)).mono (by
     rintro e w' ⟨v,kk,D2,W2,e1,e2,e3,e4,e5⟩;exact⟨v,kk,D2,W2,e1,e2,e3,e4,(ai.of_below hb).trans e5 (fun _ _ h=>h) (fun _ _ h=>h)⟩)
    have a3:Hid (∀W,ai (fun b=>b=G\/b=I) Wa W->(W.cell? (tD wr.heap.size 0)=some (zI (qk:Nat))/\W.cell? (tD wr.heap.size 1)=some (tS qp)/\W.cell? (tD wr.heap.size 2)=some (tS qw))/\W.cell? (tD w.heap.size 3)=some (zI (k.checked:Nat))):=fun W ht=>by
     have e1:=ht.block wr.heap.size (af aa.out) (fun e=>by have h1:=au.out;have h2:=b0.out;rcases e with e|e<;>omega);have e2:=ht.block w.heap.size (af a2.out) (fun e=>by have h1:=au.out;rcases e with e|e<;>omega);obtain⟨⟨z0,_⟩,⟨z1,_⟩,⟨z2,_⟩⟩:=fd3 (e1.trans aa.out);obtain⟨_,_,_,⟨z3,_⟩⟩:=fd4 (e2.trans a2.out);exact⟨⟨z0,z1,z2⟩,z3⟩
    obtain⟨⟨p0,p1,p2⟩,p3⟩:=a3.out Wa (ai.refl _ _);have c4:=Jt
    go_region_held3 (fun w'=>(w'.cell? (tD wr.heap.size 0)=some (zI (qk:Nat))/\w'.cell? (tD wr.heap.size 1)=some (tS qp)/\w'.cell? (tD wr.heap.size 2)=some (tS qw))/\w'.cell? (tD w.heap.size 3)=some (zI (k.checked:Nat)))
     (first|exact⟨⟨p0,p1,p2⟩,p3⟩|exact a3.out _ an)
     ((go_at_call 79;refine(KF.out _ ((ae _ _).drew)).mono ?_;rintro e w3 ⟨v,kk,D2,W2,rfl,c8,bn,bm,an⟩;obtain⟨cb,ch,e4,_,_⟩:=c8;subst e4))
    have b8:Hid (w3.heap[w.heap.size]?=some (.cells #[.iface fT fu,.slice (some (tD b o)) n tc,zI (k.changed:Nat),zI (k.checked:Nat)] 142)):=(an.block w.heap.size (af a2.out) (fun e=>by have h1:=au.out;rcases e with e|e<;>omega)).trans a2.out;have bf:Hid (ai (fun b=>b=G\/b=I) w w3):=(T.out.t.more a1.out).trans an (fun _ _ e=>e) (fun _ _ e=>e);have b9:Hid (Eng A S w3 G J I mb now cap (counted cs (Y++W2)) D2 L):=by rw[<-fJ];exact bm
    have bd:=zH bn;clear p0 p1 p2 p3 bn bm an c4 a3 KF a7 aa;obtain⟨_,⟨c1,_⟩,_,_⟩:=fd4 b8.out;by_cases c6:k.checked<kk.changed
    ·have c5:((k.checked:Nat):Int)<(kk.changed:Nat):=by omega
     have HR:=zH (oh.ask a4.out.2.1 T.out.c bd.out c6);have bq:(((i:Nat):Int)==(n:Int))=false:=int_ne (by omega);go_wp2
     (try rw[fO])
     go_ret;exact⟨false,D2,_,rfl,HR.out,b9.out,bf.out⟩
    ·have c5:¬((k.checked:Nat):Int)<(kk.changed:Nat):=by omega
     have HN:Hid (Hd A S w G J I mb now cap cs D L F k w.heap.size #[.iface fT fu,.slice (some (tD b o)) n tc,zI (k.changed:Nat),zI (k.checked:Nat)] w3 (i+1) D2 (Y++W2)):=⟨b9.out,bf.out,by rw[a4.out.1];exact Chk.ask T.out.c bd.out (by omega),b8.out⟩;go_wp2;go_roundg (n-(i+1))
     case measure=>omega
     case rel=>exact⟨i+1,D2,_,by omega,by omega,by go_num,by go_num,HN⟩
   |rd p t=>
    have bt:=zH a4.out.2.2.1;have y1:wr.cell? (tD b (o+i))=some (.iface 192 (.agg #[zI (p.1:Nat),tS p.2.1,tS p.2.2,tS (bU t),.bool t.isSome])):=by rw[y0,GK]
    clear y0;have bi:Hid (∀W,zB wr W->zC 132 #[zP J,plV p] W fun e w'=>e=.returned (txV (S now p))/\zB W w'):=fun W hb=>Lf (S now) p W (T.out.e.shelf.below hb) T.out.e.on bt.out
    have HEq:Hid ((S now p=t)\/(S now p≠t/\bU (S now p)=bU t/\((S now p).isSome==t.isSome)=false)\/(S now p≠t/\bU (S now p)≠bU t)):=by
     show _\/_;by_cases h:S now p=t
     ·exact oE h
     ·right
      by_cases h2:bU (S now p)=bU t
      ·left
       refine⟨h,h2,?_⟩;cases e1:S now p<;>cases e2:t
       ·rw[e1,e2] at h;exact absurd rfl h
       ·rfl
       ·rfl
       ·rw[e1,e2] at h h2;exact absurd (bz some h2) h
      ·exact oS ⟨h,h2⟩
    obtain⟨pk,pp,pv⟩:=p;have b4:=Sl (.agg #[zI (pk:Nat),tS pp,tS pv,tS (bU t),.bool t.isSome]) wr;have aa:Hid ((wr.alloc (.cells #[zI (pk:Nat),tS pp,tS pv,tS (bU t),.bool t.isSome] 192)).heap[wr.heap.size]?=some (.cells #[zI (pk:Nat),tS pp,tS pv,tS (bU t),.bool t.isSome] 192)):=aA _ _;have a1:Hid (zB wr (wr.alloc (.cells #[zI (pk:Nat),tS pp,tS pv,tS (bU t),.bool t.isSome] 192))):=(ae _ _).alloc (ah _) _;have a2:=zH ((a1.out.block _ b0.out).trans T.out.b);have a7:=zH (T.out.e.below a1.out)
    have KA:Hid (∀W,Below (wr.alloc (.cells #[zI (pk:Nat),tS pp,tS pv,tS (bU t),.bool t.isSome] 192)).heap.size (wr.alloc (.cells #[zI (pk:Nat),tS pp,tS pv,tS (bU t),.bool t.isSome] 192)) W->zC 132 #[zP J,.agg #[zI (pk:Nat),tS pp,tS pv]] W fun e w'=>e=.returned (.agg #[tS (bU (S now (pk,pp,pv))),.bool (S now (pk,pp,pv)).isSome])/\zB W w'):=fun W hb=>bi.out W (a1.out.trans (hb.mono a1.out.size))
    clear bi;have y2:wr.cell? (tD b (o+i))=some (.iface 192 (.agg #[zI (pk:Nat),tS pp,tS pv,tS (bU t),.bool t.isSome])):=y1;clear y1;go_upto_region 8 with fail;clear y2 b4;generalize wr.alloc (.cells #[zI (pk:Nat),tS pp,tS pv,tS (bU t),.bool t.isSome] 192)=Wa at*
    have a3:Hid (∀W,zB Wa W->W.cell? (tD G 0)=some (zP J)/\(W.cell? (tD wr.heap.size 0)=some (zI (pk:Nat))/\W.cell? (tD wr.heap.size 1)=some (tS pp)/\W.cell? (tD wr.heap.size 2)=some (tS pv)/\W.cell? (tD wr.heap.size 3)=some (tS (bU t))/\W.cell? (tD wr.heap.size 4)=some (.bool t.isSome))):=fun W hb=>by
     obtain⟨⟨z0,_⟩,⟨z1,_⟩,⟨z2,_⟩,⟨z3,_⟩,⟨z4,_⟩⟩:=fd5 ((hb.block _ (af aa.out)).trans aa.out);exact⟨(a7.out.desk.below hb).f0.1,z0,z1,z2,z3,z4⟩
    obtain⟨p0,p1,p2,p3,p4,p5⟩:=a3.out Wa (ae _ _);have Sz:Hid (S now (pk,pp,pv)≠t->True):=fun _=>trivial
    rcases HEq.out with heq|⟨LK,ak,cc⟩|⟨LK,ak⟩
    ·have bc:=zH heq
     rw[heq] at KA;clear heq HEq;generalize bU t=a6 at*;generalize t.isSome=a8 at*;have q1:(a6.toList==a6.toList)=true:=by simp
     have q2:(a8==a8)=true:=by simp
     go_region_held3 (fun w'=>w'.cell? (tD G 0)=some (zP J)/\(w'.cell? (tD wr.heap.size 0)=some (zI (pk:Nat))/\w'.cell? (tD wr.heap.size 1)=some (tS pp)/\w'.cell? (tD wr.heap.size 2)=some (tS pv)/\w'.cell? (tD wr.heap.size 3)=some (tS a6)/\w'.cell? (tD wr.heap.size 4)=some (.bool a8)))
      (first|exact⟨p0,p1,p2,p3,p4,p5⟩|exact a3.out _ a0)
      ((go_at_call 132;refine(KA.out _ ((ae _ _).drew)).mono ?_;rintro e w6 ⟨rfl,D9⟩;have a0:zB Wa w6:=((ae Wa.heap.size Wa).drew).trans D9;clear D9))
     have a9:=zH ((a0.block _ (af a2.out)).trans a2.out);have ad:=zH ((T.out.t.more a1.out).more a0);have ab:=zH (a7.out.below a0);clear p0 p1 p2 p3 p4 p5 a0 a3 KA;obtain⟨_,⟨c1,_⟩,_,_⟩:=fd4 a9.out;have HN:Hid (Hd A S w G J I mb now cap cs D L F k w.heap.size #[.iface fT fu,.slice (some (tD b o)) n tc,zI (k.changed:Nat),zI (k.checked:Nat)] w6 (i+1) Q Y):=⟨ab.out,ad.out,by rw[a4.out.1];exact Chk.rd T.out.c bc.out,a9.out⟩;go_wp2;go_roundg (n-(i+1))
     case measure=>omega
     case rel=>exact⟨i+1,Q,_,by omega,by omega,by go_num,by go_num,HN⟩
    ·have av:=zH LK
     clear LK HEq Sz;rw[ak] at KA;clear ak;generalize bU t=a6 at*;generalize t.isSome=a8 at*;generalize (S now (pk,pp,pv)).isSome=ca at*;have q1:(a6.toList==a6.toList)=true:=by simp
     go_region_held3 (fun w'=>w'.cell? (tD G 0)=some (zP J)/\(w'.cell? (tD wr.heap.size 0)=some (zI (pk:Nat))/\w'.cell? (tD wr.heap.size 1)=some (tS pp)/\w'.cell? (tD wr.heap.size 2)=some (tS pv)/\w'.cell? (tD wr.heap.size 3)=some (tS a6)/\w'.cell? (tD wr.heap.size 4)=some (.bool a8)))
      (first|exact⟨p0,p1,p2,p3,p4,p5⟩|exact a3.out _ a0)
      ((go_at_call 132;refine(KA.out _ ((ae _ _).drew)).mono ?_;rintro e w6 ⟨rfl,D9⟩;have a0:zB Wa w6:=((ae Wa.heap.size Wa).drew).trans D9;clear D9))
     have a9:=zH ((a0.block _ (af a2.out)).trans a2.out);have ad:=zH ((T.out.t.more a1.out).more a0);have ab:=zH (a7.out.below a0);clear p0 p1 p2 p3 p4 p5 a0 a3 KA;obtain⟨_,⟨c1,_⟩,_,_⟩:=fd4 a9.out;have HR:=zH (oh.rd a4.out.2.1 T.out.c av.out);have bq:(((i:Nat):Int)==(n:Int))=false:=int_ne (by omega);go_wp2
     (try rw[fO])
     go_ret;exact⟨false,Q,_,rfl,HR.out,ab.out,ad.out⟩
    ·have av:=zH LK
     have q1:=Rn.dm ak;clear LK HEq Sz ak;generalize bU t=a6 at*;generalize t.isSome=a8 at*;generalize (S now (pk,pp,pv)).isSome=ca at*;generalize bU (S now (pk,pp,pv))=ck at*
     go_region_held3 (fun w'=>w'.cell? (tD G 0)=some (zP J)/\(w'.cell? (tD wr.heap.size 0)=some (zI (pk:Nat))/\w'.cell? (tD wr.heap.size 1)=some (tS pp)/\w'.cell? (tD wr.heap.size 2)=some (tS pv)/\w'.cell? (tD wr.heap.size 3)=some (tS a6)/\w'.cell? (tD wr.heap.size 4)=some (.bool a8)))
      (first|exact⟨p0,p1,p2,p3,p4,p5⟩|exact a3.out _ a0)
      ((go_at_call 132;refine(KA.out _ ((ae _ _).drew)).mono ?_;rintro e w6 ⟨rfl,D9⟩;have a0:zB Wa w6:=((ae Wa.heap.size Wa).drew).trans D9;clear D9))
     have a9:=zH ((a0.block _ (af a2.out)).trans a2.out);have ad:=zH ((T.out.t.more a1.out).more a0);have ab:=zH (a7.out.below a0);clear p0 p1 p2 p3 p4 p5 a0 a3 KA;obtain⟨_,⟨c1,_⟩,_,_⟩:=fd4 a9.out;have HR:=zH (oh.rd a4.out.2.1 T.out.c av.out);have bq:(((i:Nat):Int)==(n:Int))=false:=int_ne (by omega);go_wp2
     (try rw[fO])
     go_ret;exact⟨false,Q,_,rfl,HR.out,ab.out,ad.out⟩
  ·have gO:((i:Int)<(n:Int))=False:=by simp;omega
   have a5:i=n:=by omega
   have HR:Hid (oh F (S now) k.checked D k.ties Q Y true):=by
    have h:=T.out.c;rw[a5,oy (by omega)] at h;exact oh.yes h
   have bb:Hid (Eng A S wr G J I mb now cap (counted cs Y) Q L/\ai (fun b=>b=G\/b=I) w wr):=⟨T.out.e,T.out.t⟩;obtain⟨_,⟨c1,_⟩,_,_⟩:=fd4 T.out.b;rw[a5];have cf:(((n:Nat):Int)==(n:Int))=true:=by simp
   clear a5;go_wp2
   (try rw[fO])
   go_ret;exact⟨true,Q,Y,rfl,HR.out,bb.out.1,bb.out.2⟩
end Pn
namespace Pn
open Mf Ed
variable{A M A2:Nat->Prop}{S:Nat->Shf}{w w' W W1 V wf:zW}{G J I mb now:Nat}{cap:Int}{cs:List Int}{D Q:List Kp}{L E:List (zV×zV)}{q:Qn}{k:Kp}
theorem QZ:(115:TypeId)<prog.types.size:=gD (by kernel_rfl)
theorem Ov:(match prog.underlying 115 with|some (.array _ _)|some (.struct _)=>true|_=>false)=true:=by kernel_rfl
theorem Ow:prog.keyTypeAt 3 115=true:=by kernel_rfl
theorem LN:prog.keyType 115=true:=by kernel_rfl
theorem Ea:prog.cellsOf 115=3:=by kernel_rfl
theorem LO:prog.cellsOf 113=1:=by kernel_rfl
theorem Q0:WideMaps.KeyLaw prog 115:=deep_law_laid C8 (m:=3) (Nat.le_of_ble_eq_true rfl) QZ Ow Ov
theorem pE:Maps.Keyed prog 115:=Maps.Keyed.of_law Q0
theorem FL(d:Nat)(k:Int)(h:(Lit.int .i64 k).wf=true):prog.keyLits (d+1) 113 [zI k]=some [.int .i64 k]:=by
 unfold Program.keyLits;rw[underlying113];show(if IntKind.i64=IntKind.i64/\(Lit.int .i64 k).wf=true then some [Lit.int .i64 k] else none)=_;rw[aj ⟨rfl,h⟩]
theorem SA(k:Int)(p v:zA)(hk:(Lit.int .i64 k).wf=true)(hp:p.size<=maxLen)(hv:v.size<=maxLen):∃l,keyOf prog 115 (.agg #[zI k,tS p,tS v])=some l:=by
 have T:prog.keyLits (prog.types.size+1) 115 [zI k,tS p,tS v]=some [.int .i64 k,.string p.data.toList,.string v.data.toList]:=by
  rw[Gh];unfold Program.keyLits;rw[underlying115];simp only[Ea,bW,gU];rw[aj ⟨trivial,by kernel_rfl⟩];simp only[List.mapM_cons,List.mapM_nil,Gi,LO,List.drop,List.take,FL 365 k hk,pS 365 p hp,pS 365 v hv]
  rfl
 refine⟨.string (keyBytes [.int .i64 k,.string p.data.toList,.string v.data.toList]),?_⟩;unfold keyOf;rw[underlying115];show(if (prog.keyType 115&&(Value.agg #[zI k,tS p,tS v]).formed prog 115)=true then (prog.keyLits (prog.types.size+1) 115 [zI k,tS p,tS v]).map (fun ls=>_) else _)=_;rw[LN,T];rw[aj (by simp[Value.formed,underlying115,Ea])]
 rfl
theorem QOk.key(h:QOk q)(T:q.kind<=4):∃l,keyOf prog 115 (qv q)=some l:=SA _ _ _ (DR _ T) (by have:=h.p;unfold N48 at this;unfold maxLen;omega) (by have:=h.v;unfold N48 at this;unfold maxLen;omega)
theorem GQ(w:zW):(zeroValue 142).run prog w=.ok (.agg #[.nilIface,zN,zI 0,zI 0]) w:=by kernel_rfl
theorem LP{a b:Qn}(h:qv a=qv b):a=b:=by
 obtain⟨k1,p1,v1⟩:=a;obtain⟨k2,p2,v2⟩:=b;injection h with h;simp at h;obtain⟨h1,T,h3⟩:=h;have:k1=k2:=by omega
 subst this;subst T;subst h3
 rfl
theorem eh.get:∀{L:List (zV×zV)} {D:List Kp},eh A w L D->(∀x∈L,∃k∈D,x.1=qv k.q/\iL A w x.2 k)/\(∀k∈D,∃x∈L,x.1=qv k.q/\iL A w x.2 k)
 |[],[],_=>⟨fun x h=>absurd h aQ,fun k h=>absurd h aQ⟩
 |x::L,k::D,⟨h,h1,h2⟩=>by
  have ih:=eh.get h2;refine⟨fun y hy=>?_,fun j hj=>?_⟩
  ·rcases aK.1 hy with e|e
   ·exact⟨k,bE ..,by rw[e];exact h,by rw[e];exact h1⟩
   ·obtain⟨j,hj,T⟩:=ih.1 y e
    exact⟨j,cy _ hj,T⟩
  ·rcases aK.1 hj with e|e
   ·exact⟨x,bE ..,by rw[e];exact h,by rw[e];exact h1⟩
   ·obtain⟨y,hy,T⟩:=ih.2 j e
    exact⟨y,cy _ hy,T⟩
 |[],_::_,h=>h.elim
 |_::_,[],h=>h.elim
open Classical in
theorem eh.filter(q:Qn):∀{L:List (zV×zV)} {D:List Kp},eh A w L D->eh A w (L.filter fun x=>decide (x.1≠qv q)) (D.filter fun k=>decide (k.q≠q))
 |[],[],_=>trivial
 |x::L,k::D,⟨h,h1,h2⟩=>by
  have T:=eh.filter q h2;by_cases e:k.q=q
  ·have ex:x.1=qv q:=by rw[h,e]
   rw[ox (by simp[ex]),ox (by simp[e])];exact T
  ·have ex:x.1≠qv q:=fun e2=>e (LP (h.symm.trans e2))
   rw[lF (by simp[ex]),lF (by simp[e])];exact⟨h,h1,T⟩
 |[],_::_,h=>h.elim
 |_::_,[],h=>h.elim
theorem AB(hm:Mp.MapAt prog 115 w I L)(he:eh A w L D)(hq:QOk q)(hk:q.kind<=4):
  (∃k v,k∈D/\k.q=q/\iL A w v k/\(qv q,v)∈L/\∀W,Mp.MapAt prog 115 W I L->(Instr.lookup 103 (.map (some I)) (qv q) true).run prog W=.ok (.tuple #[v,.bool true]) W)\/
  ((∀k∈D,k.q≠q)/\(∀x∈L,x.1≠qv q)/\∀W,Mp.MapAt prog 115 W I L->(Instr.lookup 103 (.map (some I)) (qv q) true).run prog W=.ok (.tuple #[.agg #[.nilIface,zN,zI 0,zI 0],.bool false]) W):=by
 obtain⟨kl,a0⟩:=hq.key hk;have hg:=he.get;by_cases h:∃k∈D,k.q=q
 ·obtain⟨k,T,a1⟩:=h
  obtain⟨x,hx,e1,e2⟩:=hg.2 k T
  left
  have a2:(qv q,x.2)∈L:=by rw[<-a1,<-e1];exact hx
  exact⟨k,x.2,T,a1,e2,a2,fun W hW=>hW.look_some true pE underlying103 (GQ W) a0 a2⟩
 ·right
  have hn:∀x∈L,x.1≠qv q:=fun x hx e=>by
   obtain⟨k,T,e1,_⟩:=hg.1 x hx;exact h ⟨k,T,LP (e1.symm.trans e)⟩
  exact⟨fun k T e=>h ⟨k,T,e⟩,hn,fun W hW=>hW.look_none true pE underlying103 (GQ W) a0 hn⟩
theorem vS{α:Type}{p:α->Bool}{l:List α}(h:∀x∈l,p x=true):l.filter p=l:=List.filter_eq_self.2 h
open Classical in
theorem yD{key old:zV}:∀{l:List (zV×zV)},l.Pairwise (fun p q=>p.1≠q.1)->(key,old)∈l->l.Perm ((key,old)::l.filter fun x=>decide (x.1≠key))
 |x::l,T,hm=>by
  rw[lD] at T;rcases aK.1 hm with e|e
  ·rw[<-e]
   rw[ox (by simp),vS (fun y hy=>by
    have:=T.1 y hy;rw[<-e] at this;simpa using fun e2=>this e2.symm)]
  ·have hx:x.1≠key:=fun e2=>T.1 _ e e2
   rw[lF (by simp[hx])];exact((yD T.2 e).cons x).trans (List.Perm.swap ..)
open Classical in
theorem eY.stored(h:eY A w G J I cap cs D)(hq:QOk q)(hk:q.kind<=4)(hl:D.length<9223372036854775807){v:zV}{kn:Kp}(a5:iL A w v kn)(a3:kn.q=q):
  ∃w',(Instr.mapUpdate 103 (.map (some I)) (qv q) v).run prog w=.ok () w'/\eY A w' G J I cap cs (gZ D kn)/\ai (fun b=>b=I) w w':=by
 obtain⟨kl,a2⟩:=hq.key hk;obtain⟨L,hm,he⟩:=h.map;have T7:=he.filter q
 have fin:∀T,w.mapTurned T I->Mp.MapAt prog 115 T I ((qv q,v)::L.filter fun x=>decide (x.1≠qv q))->eY A T G J I cap cs (gZ D kn)/\ai (fun b=>b=I) w T:=fun T ht a0=>by
  have O:=iF ht;have e1:=O.block G h.f0.lt h.ne;have hT:ai A w T:=O.mono (fun b _ e=>by rw[e];exact h.hf);refine⟨⟨h.f0.of_block e1,h.f1.of_block e1,h.f2.of_block e1,fun j c hj=>(h.cn j c hj).of_block e1,⟨_,a0,?_⟩,h.ne,h.hd,h.hf⟩,O⟩;unfold gZ;rw[a3];exact⟨by rw[a3],a5.turn hT,T7.turn hT⟩
 rcases AB hm he hq hk with⟨k,v0,_,_,_,a4,_⟩|⟨_,hn,_⟩
 ·obtain⟨T,a1,ht,a0⟩:=hm.Gg pE underlying103 a2 (yD hm.apart a4) v
  exact⟨T,a1,fin T ht a0⟩
 ·obtain⟨T,a1,ht,a0⟩:=hm.Gf pE underlying103 (by rw[he.len];unfold maxLen;omega) a2 hn v
  have e:(L.filter fun x=>decide (x.1≠qv q))=L:=vS (fun x hx=>by simpa using hn x hx);exact⟨T,a1,fin T ht (by rw[e];exact a0)⟩
