import Derived.Test.YtelmkfkgpnadnaaGreatDoorJPMG
import Derived.Deep.DeepCutAuto
import Derived.WalkMore
set_option linter.all false
open Go.Proofs.Tryz
set_option maxRecDepth 100000
set_option maxHeartbeats 4000000
namespace Go.Proofs.YtelmkfkgpnadnaaGreatDoor
open Go.RowKit
namespace Pn
theorem NL (v : Value) (W : World) : (method 566 386 v "pinset/plan.sameAs").run prog W = .ok (393, v) W := by kernel_rfl
theorem NM (v : Value) (W : World) : (method 566 389 v "pinset/plan.sameAs").run prog W = .ok (395, v) W := by kernel_rfl
theorem NN (v : Value) (W : World) : (method 566 391 v "pinset/plan.sameAs").run prog W = .ok (396, v) W := by kernel_rfl
theorem NP (v : Value) (W : World) : (method 566 176 v "pinset/plan.sameAs").run prog W = .ok (389, v) W := by kernel_rfl
theorem NQ (v : Value) (W : World) : (method 566 179 v "pinset/plan.sameAs").run prog W = .ok (391, v) W := by kernel_rfl
end Pn
namespace Pn
open Mf Ed
variable{A A1 A2:Nat→Prop}{S:Nat→Shf}{w w' W W1 w2 wf:zW}{db sb fb mb now:Nat}{cap:Int}{cs:List Int}{D D':List Kp}{L:List (zV×zV)}{B tb:Nat}{tv tv':zV}{ts ts':List Tie}{r:Nat}{q:Qn}{k:Kp}{Wk:List Qn}{cs':List Int}
theorem Eng.less(h:Eng A2 S w db sb fb mb now cap cs D L)(hs:∀b,A b→A2 b)(h1:A db∧A fb∧A sb∧A mb):Eng A S w db sb fb mb now cap cs D L:=by
 obtain⟨L',g1,g2⟩:=h.desk.map;exact⟨⟨h.desk.f0,h.desk.f1,h.desk.f2,h.desk.cn,⟨L',g1,g2.more (fun b _ e=>hs b e)⟩,h.desk.ne,h1.1,h1.2.1⟩,h.shelf,h.on,h.inv,h.ml,h.len,fun b e=>h.hA b (hs b e),⟨h1.2.2.1,h1.2.2.2⟩,h.ne,h.ok,h.rt,h.few⟩
theorem Eng.wide(h:Eng A S w db sb fb mb now cap cs D L)(hb:zB w w')(P:Nat→Prop)(hP:∀b,P b→w.heap.size≤b∧b<w'.heap.size):Eng (fun b=>A b∨P b) S w' db sb fb mb now cap cs D L:=by
 have he:=h.below hb;obtain⟨L',g1,g2⟩:=h.desk.map
 have g3:dP (fun b=>A b∨P b) w L' D:=g2.more (fun b hb2 e=>by
  rcases e with e|e
  ·exact e
  ·have:=(hP b e).1;omega)
 exact⟨⟨he.desk.f0,he.desk.f1,he.desk.f2,he.desk.cn,⟨L',g1.of_block (hb.block fb g1.lt),g3.turn (aj.of_below hb)⟩,he.desk.ne,Or.inl he.desk.hd,Or.inl he.desk.hf⟩,he.shelf,he.on,he.inv,he.ml,he.len,fun b e=>by
   rcases e with e|e
   ·exact he.hA b e
   ·exact(hP b e).2,⟨Or.inl he.ns.1,Or.inl he.ns.2⟩,he.ne,he.ok,he.rt,he.few⟩
theorem Eng.count(h:Eng A S w db sb fb mb now cap cs D L)(j:Nat):Eng A S (w.setCell ⟨db,3+j,none⟩ (zI (wrap64 (cs[j]?.getD 0+1)))) db sb fb mb now cap (bump cs j) D L:=by
 have hne:=h.ne;have e:∀b,b≠db→(w.setCell ⟨db,3+j,none⟩ (zI (wrap64 (cs[j]?.getD 0+1)))).heap[b]?=w.heap[b]?:=fun b hb=>aL _ _ _ _ hb
 have hz:(w.setCell ⟨db,3+j,none⟩ (zI (wrap64 (cs[j]?.getD 0+1)))).heap.size=w.heap.size:=by simp[World.setCell]
 obtain⟨m,hm⟩:=h.ml;refine⟨h.desk.bump j,h.shelf.of_block (e sb (fun x=>hne.1 x.symm)) (e mb (fun x=>hne.2.1 x.symm)),h.on,h.inv,⟨m,?_⟩,by unfold bump;rw[List.length_set];exact h.len,fun b hb=>by rw[hz];exact h.hA b hb,h.ns,h.ne,h.ok,h.rt,h.few⟩;rw[aW (w:=w) (a:=⟨0,0,none⟩) (e 0 (fun x=>hne.2.2.2.2.1 x.symm))];exact hm
theorem P7(w:zW)(o1 o2 o3 o4:Obj):zB w ((((w.alloc o1).alloc o2).alloc o3).alloc o4)∧((((w.alloc o1).alloc o2).alloc o3).alloc o4).heap[w.heap.size]?=some o1∧((((w.alloc o1).alloc o2).alloc o3).alloc o4).heap[w.heap.size+1]?=some o2∧((((w.alloc o1).alloc o2).alloc o3).alloc o4).heap[w.heap.size+2]?=some o3∧((((w.alloc o1).alloc o2).alloc o3).alloc o4).heap[w.heap.size+3]?=some o4:=by
 have b1:zB w (w.alloc o1):=(ae _ _).alloc (ag _) _;have b2:=b1.alloc b1.size o2;have b3:=b2.alloc b2.size o3;have b4:=b3.alloc b3.size o4;have s1:(w.alloc o1).heap.size=w.heap.size+1:=by simp
 have s2:((w.alloc o1).alloc o2).heap.size=w.heap.size+2:=by simp
 have s3:(((w.alloc o1).alloc o2).alloc o3).heap.size=w.heap.size+3:=by simp
 refine⟨b4,?_,?_,?_,?_⟩
 ·rw[aG _ _ _ (by omega),aG _ _ _ (by omega),aG _ _ _ (by omega)];exact aD _ _
 ·rw[aG _ _ _ (by omega),aG _ _ _ (by omega),←s1];exact aD _ _
 ·rw[aG _ _ _ (by omega),←s2];exact aD _ _
 ·rw[←s3];exact aD _ _
theorem fK.iface{v:zV}:∀{f:Fi},fK A w v f→∃T u,v=.iface T u
 | .man _ _,⟨_,_,_,h,_⟩=>⟨_,_,h⟩
 | .idx _ _,⟨_,h,_⟩=>⟨_,_,h⟩
 | .wants _ _,⟨_,_,h,_⟩=>⟨_,_,h⟩
 | .list _ _,⟨_,_,h,_⟩=>⟨_,_,h⟩
 | .ord _ _,⟨_,_,h,_⟩=>⟨_,_,h⟩
def uG(S:Nat→Shf)(db sb fb mb now:Nat)(cap:Int)(L:List (zV×zV))(F:Find)(g:Nat)(q:Qn):Prop:=
 ∀(A:Nat→Prop)(w:zW)(cs:List Int)(D:List Kp)(B tb:Nat),D.length+10000*g≤N15→Tsk A S w B tb db sb fb mb now cap cs D L (zN) []→
  zC 283 #[zP tb,qv q] w fun e w'=>∃A2 tv' fv f D' Wk ts,e=.returned fv∧fK A2 w' fv f∧Pre F (S now) D (dh q) D' (.ret f) ts Wk∧dE A S w B tb db sb fb mb now cap L (zN) w' A2 (counted cs Wk) D' tv' ts∧(kM f=q.kind∧zg f∧Small f∧(∀t∈ts,jg t)∧ts.length≤10000)
def Gk(A:Nat→Prop)(w:zW)(av:zV)(q:Qn):Option Kp→Prop
 |none=>av=.agg #[.nilIface,zN,zI 0,zI 0]
 |some k=>iB A w av k∧kM k.f=q.kind∧Small k.f
open Classical in
noncomputable def fj(now:Nat)(f:Fi):Option Kp→Nat
 |none=>now
 |some k=>if f.ess=k.f.ess then k.changed else now
theorem Ag:∀l:List Tie,l.map qx=l.flatMap yZ
 |[]=>rfl
 |x::l=>by
  rw[bH,ig,Ag l];rfl
theorem Fb{a b c d a' b' c' d':zV}(h:Value.agg #[a,b,c,d]=.agg #[a',b',c',d']):a=a'∧b=b'∧c=c'∧d=d':=by
 injection h with h;simpa using h
open Classical in
noncomputable def kD(f:Fi):Option Kp→Bool
 |none=>false
 |some k=>decide (f.ess=k.f.ess)
def AFi(A:Nat→Prop)(w:zW)(a:zV)(f:Fi):Option Kp→Prop
 |none=>a=.nilIface
 |some k=>fK A w a k.f∧kM k.f=kM f
open Classical in
theorem NR{T:Nat}{fu a:zV}{pr:Nat}{m:Mx}{o:Option Kp}(hf:fK A w (.iface T fu) (.man pr m))(ha:AFi A w a (.man pr m) o)(hs:Small (.man pr m)):T=386∧zC 393 #[fu,a] w fun e w'=>e=.returned (.bool (kD (.man pr m) o))∧zB w w':=by
 obtain⟨rv,xv,sv,e,h1,h2,h3⟩:=hf;injection e with e1 e2;subst e1;subst e2;refine⟨rfl,?_⟩;cases o with
 |none=>
  obtain rfl:=ha;obtain⟨ra,rc,rfl⟩:=h1.len;obtain⟨xa,xc,rfl⟩:=h2.len;obtain⟨sa,sc,rfl⟩:=h3.len;exact KT pr m.p ra _ rc xa _ xc sa _ sc w
 |some k=>
  obtain⟨hk,hn⟩:=ha;cases hkf:k.f with
  |man pr' m'=>
   rw[hkf] at hk;obtain⟨rv',xv',sv',rfl,h1',h2',h3'⟩:=hk;have key:=KQ pr pr' m.p m'.p rv rv' m.R m'.R xv xv' m.X m'.X sv sv' m.S m'.S w hs.1 hs.2.1 hs.2.2 h1 h2 h3 h1' h2' h3';refine key.mono ?_;rintro e w' ⟨rfl,hb⟩;refine⟨?_,hb⟩
   congr 2
   show _=decide (Fi.ess (.man pr m)=k.f.ess);rw[hkf];refine decide_eq_decide.2 ?_;obtain⟨p,R,X,S⟩:=m;obtain⟨p',R',X',S'⟩:=m';simp[Fi.ess]
  |_=>rw[hkf] at hn;simp[kM] at hn
open Classical in
theorem NT{T:Nat}{fu a:zV}{pr:Nat}{vs:List zA}{o:Option Kp}(hf:fK A w (.iface T fu) (.idx pr vs))(ha:AFi A w a (.idx pr vs) o)(hs:Small (.idx pr vs)):T=389∧zC 395 #[fu,a] w fun e w'=>e=.returned (.bool (kD (.idx pr vs) o))∧zB w w':=by
 obtain⟨u,e,h1⟩:=hf;injection e with e1 e2;subst e1;subst e2;refine⟨rfl,?_⟩;cases o with
 |none=>
  obtain rfl:=ha;obtain⟨ra,rc,rfl⟩:=h1.len;exact KV pr ra _ rc w
 |some k=>
  obtain⟨hk,hn⟩:=ha;cases hkf:k.f with
  |idx pr' vs'=>
   rw[hkf] at hk;obtain⟨u',rfl,h1'⟩:=hk;refine(KU pr pr' u u' vs vs' w hs h1 h1').mono ?_;rintro e w' ⟨rfl,hb⟩;refine⟨?_,hb⟩
   congr 2
   show _=decide (Fi.ess (.idx pr vs)=k.f.ess);rw[hkf];exact decide_eq_decide.2 (by simp[Fi.ess])
  |_=>rw[hkf] at hn;simp[kM] at hn
open Classical in
theorem IB{T:Nat}{fu a:zV}{ms:List Mo}{ps:List Pb}{o:Option Kp}(hf:fK A w (.iface T fu) (.wants ms ps))(ha:AFi A w a (.wants ms ps) o)(hs:Small (.wants ms ps)):T=391∧zC 396 #[fu,a] w fun e w'=>e=.returned (.bool (kD (.wants ms ps) o))∧zB w w':=by
 obtain⟨u,v,e,h1,h2⟩:=hf;injection e with e1 e2;subst e1;subst e2;refine⟨rfl,?_⟩;cases o with
 |none=>
  obtain rfl:=ha;obtain⟨ra,rc,rfl⟩:=h1.len;obtain⟨xa,xc,rfl⟩:=h2.len;exact E7 ra _ rc xa _ xc w
 |some k=>
  obtain⟨hk,hn⟩:=ha;cases hkf:k.f with
  |wants ms' ps'=>
   rw[hkf] at hk;obtain⟨u',v',rfl,h1',h2'⟩:=hk;refine(E4 u u' ms ms' v v' ps ps' w hs.1 hs.2 h1 h2 h1' h2').mono ?_;rintro e w' ⟨rfl,hb⟩;refine⟨?_,hb⟩
   congr 2
   show _=decide (Fi.ess (.wants ms ps)=k.f.ess);rw[hkf];exact decide_eq_decide.2 (by simp[Fi.ess])
  |_=>rw[hkf] at hn;simp[kM] at hn
open Classical in
theorem K1{T:Nat}{fu a:zV}{ms:List Mo}{ps:List Pb}{o:Option Kp}(hf:fK A w (.iface T fu) (.list ms ps))(ha:AFi A w a (.list ms ps) o)(hs:Small (.list ms ps)):T=176∧zC 389 #[fu,a] w fun e w'=>e=.returned (.bool (kD (.list ms ps) o))∧zB w w':=by
 obtain⟨u,v,e,h1,h2⟩:=hf;injection e with e1 e2;subst e1;subst e2;refine⟨rfl,?_⟩;cases o with
 |none=>
  obtain rfl:=ha;obtain⟨ra,rc,rfl⟩:=h1.len;obtain⟨xa,xc,rfl⟩:=h2.len;exact Io ra _ rc xa _ xc w
 |some k=>
  obtain⟨hk,hn⟩:=ha;cases hkf:k.f with
  |list ms' ps'=>
   rw[hkf] at hk;obtain⟨u',v',rfl,h1',h2'⟩:=hk;obtain⟨xa,xc,hx⟩:=h2.len;obtain⟨xa',xc',hx'⟩:=h2'.len;refine(Im u u' ms ms' v v' w hs.1 h1 h1' ⟨_,_,_,hx⟩ ⟨_,_,_,hx'⟩).mono ?_;rintro e w' ⟨rfl,hb⟩;refine⟨?_,hb⟩
   congr 2
   show _=decide (Fi.ess (.list ms ps)=k.f.ess);rw[hkf];exact decide_eq_decide.2 (by simp[Fi.ess])
  |_=>rw[hkf] at hn;simp[kM] at hn
open Classical in
theorem NU{T:Nat}{fu a:zV}{ms:List zA}{ps:List Pb}{o:Option Kp}(hf:fK A w (.iface T fu) (.ord ms ps))(ha:AFi A w a (.ord ms ps) o)(hs:Small (.ord ms ps)):T=179∧zC 391 #[fu,a] w fun e w'=>e=.returned (.bool (kD (.ord ms ps) o))∧zB w w':=by
 obtain⟨u,v,e,h1,h2⟩:=hf;injection e with e1 e2;subst e1;subst e2;refine⟨rfl,?_⟩;cases o with
 |none=>
  obtain rfl:=ha;obtain⟨ra,rc,rfl⟩:=h1.len;obtain⟨xa,xc,rfl⟩:=h2.len;exact KY ra _ rc xa _ xc w
 |some k=>
  obtain⟨hk,hn⟩:=ha;cases hkf:k.f with
  |ord ms' ps'=>
   rw[hkf] at hk;obtain⟨u',v',rfl,h1',h2'⟩:=hk;refine(KW u u' ms ms' v v' ps ps' w hs.1 hs.2 h1 h2 h1' h2').mono ?_;rintro e w' ⟨rfl,hb⟩;refine⟨?_,hb⟩
   congr 2
   show _=decide (Fi.ess (.ord ms ps)=k.f.ess);rw[hkf];exact decide_eq_decide.2 (by simp[Fi.ess])
  |_=>rw[hkf] at hn;simp[kM] at hn
theorem sX{F:Find}{g:Nat}(hW:uG S db sb fb mb now cap L F g q)(hD:D.length+10000*g≤N15)(av:zV)(o:Option Kp)(w:zW)(h:Eng A S w db sb fb mb now cap cs D L)(ha:Gk A w av q o):
  zC 229 #[zP db,qv q,av] w fun e w'=>∃fv tvv f ts D' Wk,e=.returned (.agg #[fv,tvv,zI (fj now f o:Nat),zI 0])∧fK A w' fv f∧RdA A yZ w' tvv ts∧Pre F (S now) D (dh q) D' (.ret f) ts Wk∧Eng A S w' db sb fb mb now cap (counted cs (Wk++[q])) D' L∧aj (fun b=>b=db∨b=fb) w w'∧(kM f=q.kind∧zg f∧Small f∧(∀t∈ts,jg t)∧ts.length≤10000):=by
 obtain⟨av0,av1,av2,av3,rfl⟩:∃a b c d,av=.agg #[a,b,c,d]:=by
  cases o with
  |none=>exact⟨_,_,_,_,ha⟩
  |some k=>obtain⟨⟨fv,tv,e,_⟩,_⟩:=ha;exact⟨_,_,_,_,e⟩
 obtain⟨qk,qp,qw⟩:=q;show zC 229 #[zP db,.agg #[zI (qk:Nat),.string qp,.string qw],.agg #[av0,av1,av2,av3]] w _;have HE:Hid (Eng A S w db sb fb mb now cap cs D L):=h;have HAh:Hid (Gk A w (.agg #[av0,av1,av2,av3]) ⟨qk,qp,qw⟩ o):=ha;have hq4:=P7 w (.cells #[zI (qk:Nat),.string qp,.string qw] 201) (.cells #[av0,av1,av2,av3] 259) (.cells #[.nilIface,zN,zI 0,zI 0] 259) (.cells #[zP db,zN] 174)
 have HP:Hid (∀b,b=w.heap.size+2∨b=w.heap.size+3→w.heap.size≤b∧b<((((w.alloc (.cells #[zI (qk:Nat),.string qp,.string qw] 201)).alloc (.cells #[av0,av1,av2,av3] 259)).alloc (.cells #[.nilIface,zN,zI 0,zI 0] 259)).alloc (.cells #[zP db,zN] 174)).heap.size):=fun b e=>by
  simp;omega
 have hEw:=h.wide hq4.1 (fun b=>b=w.heap.size+2∨b=w.heap.size+3) HP.out;have HQ4:Hid _:=hq4;clear hq4;have hF:=fd2 HQ4.out.2.2.2.2
 have hTk:Tsk (fun b=>A b∨(b=w.heap.size+2∨b=w.heap.size+3)) S ((((w.alloc (.cells #[zI (qk:Nat),.string qp,.string qw] 201)).alloc (.cells #[av0,av1,av2,av3] 259)).alloc (.cells #[.nilIface,zN,zI 0,zI 0] 259)).alloc (.cells #[zP db,zN] 174)) w.heap.size (w.heap.size+3) db sb fb mb now cap cs D L (zN) []:=
  ⟨hEw,⟨hF.1,hF.2,ew ..,by simp[Value.ownBlock],by omega⟩,fun b e=>by
   rcases e with e|e
   ·exact Or.inr (Or.inr e)
   ·simp[Value.ownBlock] at e,⟨h.hA _ h.desk.hd,h.hA _ h.desk.hf,h.hA _ h.ns.1,h.hA _ h.ns.2,by have:=h.hA _ h.desk.hd;omega⟩,HQ4.out.1.size⟩
 have kw:=hW _ _ _ _ _ _ hD hTk;clear h ha hEw hF hTk hW hD;go_enter func229,ntmps229
 go_wp2_with (go_at_call 283;fail)
 rw[show w.heap.size+1+1+1=w.heap.size+3 from rfl,show w.heap.size+1+1=w.heap.size+2 from rfl];generalize (((w.alloc (.cells #[zI (qk:Nat),.string qp,.string qw] 201)).alloc (.cells #[av0,av1,av2,av3] 259)).alloc (.cells #[.nilIface,zN,zI 0,zI 0] 259)).alloc (.cells #[zP db,zN] 174)=W1 at*;go_at_call 283;refine kw.mono ?_;rintro e w2 ⟨A2,tv',fv,f,D',Wk,ts,rfl,hfv,hpre,hwt,hok⟩
 have HS:Hid (∀b,b<W1.heap.size→w.heap.size≤b→b≠w.heap.size+3→w2.heap[b]?=W1.heap[b]?):=fun b hb hb2 hb3=>hwt.f.block b hb (fun e=>by
  have h1:=HE.out.hA _ HE.out.desk.hd;have h2:=HE.out.hA _ HE.out.desk.hf;rcases e with e|e|e|e
  ·omega
  ·omega
  ·omega
  ·simp[Value.ownBlock] at e)
 have HW1:Hid (W1.heap.size=W1.heap.size∧w.heap.size+3<W1.heap.size):=⟨rfl,ai HQ4.out.2.2.2.2⟩;have HA2:Hid (w2.heap[w.heap.size+1]?=some (.cells #[av0,av1,av2,av3] 259)):=(HS.out _ (by have:=HW1.out.2;omega) (by omega) (by omega)).trans HQ4.out.2.2.1;have HR2:Hid (w2.heap[w.heap.size+2]?=some (.cells #[.nilIface,zN,zI 0,zI 0] 259)):=(HS.out _ (by have:=HW1.out.2;omega) (by omega) (by omega)).trans HQ4.out.2.2.2.1;have HW2:Hid (dE (fun b=>A b∨(b=w.heap.size+2∨b=w.heap.size+3)) S W1 w.heap.size (w.heap.size+3) db sb fb mb now cap L (zN) w2 A2 (counted cs Wk) D' tv' ts):=hwt;have HO:Hid (Pre F (S now) D (dh ⟨qk,qp,qw⟩) D' (.ret f) ts Wk∧(kM f=qk∧zg f∧Small f∧(∀t∈ts,jg t)∧ts.length≤10000)):=⟨hpre,hok⟩;have HFv:Hid (fK A2 w2 fv f):=hfv;have kc:=KP w2 hwt.t.eng.desk hfv hwt.t.eng.len;clear hwt hpre hok hfv HS kw
 go_wp2_with (go_at_call 284;fail)
 go_at_call 284;refine kc.mono ?_;rintro e w3 ⟨rfl,hw3⟩;have HE3:Hid (Eng A2 S w3 db sb fb mb now cap (bump (counted cs Wk) (kM f)) D' L):=by rw[hw3];exact HW2.out.t.eng.count _
 have HT3:Hid (aj (fun b=>b=db) w2 w3):=by rw[hw3];exact(aj.refl (fun b=>b=db) w2).set (a:=⟨db,3+kM f,none⟩) (fun _=>rfl) _
 clear hw3 kc;have HNd:Hid (∀b,w.heap.size≤b→b≠db):=fun b hb e=>by have:=HE.out.hA _ HE.out.desk.hd;omega
 have HFv3:Hid (fK A2 w3 fv f):=HFv.out.turn (HT3.out.mono (fun b _ e=>by rw[e];exact HE3.out.desk.hd));have HTk3:Hid (dy w.heap.size w3 (w.heap.size+3) db tv' ts):=HW2.out.t.task.turn HT3.out (fun b e=>by rw[e];exact HE.out.hA _ HE.out.desk.hd);have HA3:Hid (w3.heap[w.heap.size+1]?=some (.cells #[av0,av1,av2,av3] 259)):=(HT3.out.block _ (ai HA2.out) (HNd.out _ (by omega))).trans HA2.out;have HR3:Hid (w3.heap[w.heap.size+2]?=some (.cells #[.nilIface,zN,zI 0,zI 0] 259)):=(HT3.out.block _ (ai HR2.out) (HNd.out _ (by omega))).trans HR2.out;clear HA2 HR2 HFv;have kr:∀W,zB w3 W→zC 71 #[zP sb] W fun e w'=>e=.returned (zI (now:Nat))∧w'=W:=fun W hb=>uv W (HE3.out.shelf.below hb)
 have HPd:Hid (∀W,zB w3 W→W.cell? ⟨w.heap.size+3,1,none⟩=some tv'∧W.cell? ⟨db,0,none⟩=some (zP sb)):=fun W hb=>⟨(HTk3.out.below hb).t1.1,(HE3.out.desk.below hb).f0.1⟩
 obtain⟨p0,p1⟩:=HPd.out _ (ae _ _);obtain⟨ta,tc,htv⟩:=ay HTk3.out.row;subst htv;obtain⟨fT,fu,hfT⟩:=HFv3.out.iface;subst hfT;go_upto_region 4 with fail
 go_cut [9] (fun xp wx=>∃xb,xp=zP xb∧Hid (zB w3 wx∧w3.heap.size≤xb∧wx.heap[xb]?=some (.cells #[.iface fT fu,.slice ta ts.length tc,zI (now:Nat),zI 0] 259)))
 case first=>
  go_region_held3 (fun w'=>w'.cell? ⟨w.heap.size+3,1,none⟩=some (.slice ta ts.length tc)∧w'.cell? ⟨db,0,none⟩=some (zP sb))
  (first|exact⟨p0,p1⟩|exact HPd.out _ ((ae _ _).drew)|exact HPd.out _ (aB ((ae _ _).drew) _)|exact HPd.out _ (aB (ae _ _) _))
  (first|(go_at_call 71;refine(kr _ ((ae _ _).drew)).mono ?_;rintro e w4 ⟨rfl,rfl⟩)|(go_at_call 71;refine(kr _ (aB ((ae _ _).drew) _)).mono ?_;rintro e w4 ⟨rfl,rfl⟩))
  all_goals
   go_wp2_with fail
   go_meet
   first
    |exact⟨_,rfl,aB (ae _ _) _,ag _,aD _ _⟩
    |exact⟨_,rfl,aB ((ae _ _).drew) _,ag _,aD _ _⟩
    |exact⟨_,rfl,(aB (ae _ _) _).drew,ag _,aD _ _⟩
 case rest=>
  obtain⟨xb,h9,HC⟩:=hcut;rw[h9];clear h9 p0 p1 HPd kr;obtain⟨wo,hwo⟩:∃wo,wo=wc:=⟨_,rfl⟩;subst hwo;have HAc:Hid (wo.heap[w.heap.size+1]?=some (.cells #[av0,av1,av2,av3] 259)):=(HC.out.1.block _ (ai HA3.out)).trans HA3.out;have HRc:Hid (wo.heap[w.heap.size+2]?=some (.cells #[.nilIface,zN,zI 0,zI 0] 259)):=(HC.out.1.block _ (ai HR3.out)).trans HR3.out;obtain⟨⟨a0,_⟩,⟨a1,_⟩,⟨a2,_⟩,⟨a3,_⟩⟩:=fd4 HAc.out
  have HTw:Hid (aj (fun b=>A2 b) w wo):=by
   have t1:aj (fun b=>A2 b) w W1:=aj.of_below HQ4.out.1
   have t2:aj (fun b=>A2 b) W1 w2:=HW2.out.f.mono (fun b _ e=>by
    rcases e with e|e|e|e
    ·rw[e];exact HW2.out.t.eng.desk.hd
    ·rw[e];exact HW2.out.t.eng.desk.hf
    ·rw[e];exact HW2.out.sub _ (Or.inr (Or.inr rfl))
    ·simp[Value.ownBlock] at e)
   have t3:aj (fun b=>A2 b) w2 w3:=HT3.out.mono (fun b _ e=>by rw[e];exact HW2.out.t.eng.desk.hd);exact((t1.trans t2 (fun _ _ e=>e) (fun _ _ e=>e)).trans t3 (fun _ _ e=>e) (fun _ _ e=>e)).trans (aj.of_below HC.out.1 (p:=fun b=>A2 b)) (fun _ _ e=>e) (fun _ _ e=>e)
  have HLs:Hid (∀b,b<w.heap.size→A2 b→A b):=fun b hb e=>by
   rcases HW2.out.new b e with(e|e)|e
   ·exact e
   ·omega
   ·have:=HQ4.out.1.size;omega
  have HAf:Hid (AFi A2 wo av0 f o∧∀k0,o=some k0→av2=zI (k0.changed:Nat)):=by
   have h1:=HAh.out;cases o with
   |none=>exact⟨(Fb h1).1,fun k0 e=>by cases e⟩
   |some k0=>
    obtain⟨⟨fv0,tv0,e0',hf0,_⟩,hn0,_⟩:=h1;obtain⟨e1,_,e2,_⟩:=Fb e0';refine⟨⟨?_,hn0.trans HO.out.2.1.symm⟩,fun k1 e=>by cases e;exact e2⟩;rw[e1];exact(hf0.more HLs.out).turn HTw.out
  have HFc:Hid (fK A2 wo (.iface fT fu) f):=HFv3.out.turn (aj.of_below HC.out.1);go_upto_region 5 with fail
  go_cut [29] (fun bv wx=>bv=.bool (kD f o)∧Hid (zB wo wx))
  case first=>
   have hsm:=HO.out.2.2.2.1;cases f with
   |man pr m=>
    obtain⟨rfl,ks⟩:=NR HFc.out HAf.out.1 hsm;have hm:=NL fu wo;have hc:∀(args:Array zV)(w:zW),(callFunc 393 args).run prog w=.ok (.enter 393 args) w:=fun _ _=>by kernel_rfl
    generalize kD (.man pr m) o=sb0 at*
    go_wp2_with ((go_at_call 393;refine ks.mono ?_;rintro e w6 ⟨rfl,hb6⟩))
    go_meet
    exact⟨rfl,hb6⟩
   |idx pr vs=>
    obtain⟨rfl,ks⟩:=NT HFc.out HAf.out.1 hsm;have hm:=NM fu wo;have hc:∀(args:Array zV)(w:zW),(callFunc 395 args).run prog w=.ok (.enter 395 args) w:=fun _ _=>by kernel_rfl
    generalize kD (.idx pr vs) o=sb0 at*
    go_wp2_with ((go_at_call 395;refine ks.mono ?_;rintro e w6 ⟨rfl,hb6⟩))
    go_meet
    exact⟨rfl,hb6⟩
   |wants ms ps=>
    obtain⟨rfl,ks⟩:=IB HFc.out HAf.out.1 hsm;have hm:=NN fu wo;have hc:∀(args:Array zV)(w:zW),(callFunc 396 args).run prog w=.ok (.enter 396 args) w:=fun _ _=>by kernel_rfl
    generalize kD (.wants ms ps) o=sb0 at*
    go_wp2_with ((go_at_call 396;refine ks.mono ?_;rintro e w6 ⟨rfl,hb6⟩))
    go_meet
    exact⟨rfl,hb6⟩
   |list ms ps=>
    obtain⟨rfl,ks⟩:=K1 HFc.out HAf.out.1 hsm;have hm:=NP fu wo;have hc:∀(args:Array zV)(w:zW),(callFunc 389 args).run prog w=.ok (.enter 389 args) w:=fun _ _=>by kernel_rfl
    generalize kD (.list ms ps) o=sb0 at*
    go_wp2_with ((go_at_call 389;refine ks.mono ?_;rintro e w6 ⟨rfl,hb6⟩))
    go_meet
    exact⟨rfl,hb6⟩
   |ord ns ps=>
    obtain⟨rfl,ks⟩:=NU HFc.out HAf.out.1 hsm;have hm:=NQ fu wo;have hc:∀(args:Array zV)(w:zW),(callFunc 391 args).run prog w=.ok (.enter 391 args) w:=fun _ _=>by kernel_rfl
    generalize kD (.ord ns ps) o=sb0 at*
    go_wp2_with ((go_at_call 391;refine ks.mono ?_;rintro e w6 ⟨rfl,hb6⟩))
    go_meet
    exact⟨rfl,hb6⟩
  case rest=>
   obtain⟨h29,HD⟩:=hcut;rw[h29];clear h29 a0 a1 a2 a3;have HB3:Hid (zB w3 wc):=HC.out.1.trans (HD.out.mono HC.out.1.size);have HAd:Hid (wc.heap[w.heap.size+1]?=some (.cells #[av0,av1,av2,av3] 259)):=(HD.out.block _ (ai HAc.out)).trans HAc.out;have HRd:Hid (wc.heap[w.heap.size+2]?=some (.cells #[.nilIface,zN,zI 0,zI 0] 259)):=(HD.out.block _ (ai HRc.out)).trans HRc.out;have HXd:Hid (wc.heap[xb]?=some (.cells #[.iface fT fu,.slice ta ts.length tc,zI (now:Nat),zI 0] 259)):=(HD.out.block _ (ai HC.out.2.2)).trans HC.out.2.2
   have HXn:Hid (xb≠w.heap.size+1∧xb≠w.heap.size+2):=by
    have h1:=HC.out.2.1;have h2:=ai HR3.out;exact⟨by omega,by omega⟩
   have HAv:Hid (∀k0,o=some k0→av2=zI (k0.changed:Nat)):=HAf.out.2
   have FIN:Hid (∀Wf,aj (fun b=>b=xb∨b=w.heap.size+2) wc Wf→fK A Wf (.iface fT fu) f∧RdA A yZ Wf (.slice ta ts.length tc) ts∧Eng A S Wf db sb fb mb now cap (counted cs (Wk++[⟨qk,qp,qw⟩])) D' L∧aj (fun b=>b=db∨b=fb) w Wf):=fun Wf hWf=>by
    have hx:=HC.out.2.1
    have hs3:w.heap.size≤w3.heap.size:=by
     have h2:=HQ4.out.1.size;have h3:=HT3.out.size;have h4:=HW2.out.f.size;omega
    have hA3:∀b,A b→(A2 b∨b=xb):=fun b e=>Or.inl (HW2.out.sub b (Or.inl e))
    have hp:∀b,(b=xb∨b=w.heap.size+2)→(A2 b∨b=xb):=fun b e=>by
     rcases e with e|e
     ·exact Or.inr e
     ·rw[e];exact Or.inl (HW2.out.sub _ (Or.inr (Or.inl rfl)))
    have hz:=HB3.out.size;have hxl:=ai HXd.out;have hlt:=HW2.out.t.lt;refine⟨?_,?_,?_,?_⟩
    ·have g1:fK (fun b=>A2 b∨b=xb) w3 (.iface fT fu) f:=HFv3.out.more (fun b hb e=>by
      rcases e with e|e
      ·exact e
      ·omega)
     have g2:=g1.turn (aj.of_below HB3.out);have g3:=g2.turn (hWf.mono (fun b _ e=>hp b e));exact g3.more (fun b _ e=>hA3 b e)
    ·refine RdA.own (B:=w.heap.size) (s:=1) (e:=367) (xs:=ts.map qx) ?_ ?_ (fun _=>rfl) HE.out.hA
     ·refine ar (own_below HTk3.out.row HB3.out) (fun b e=>hWf.block b ?_ ?_)
      ·have:=(HTk3.out.row.lt b e).2;omega
      ·intro e2
       have h1:=(HTk3.out.row.lt b e).2;rcases e2 with e2|e2
       ·omega
       ·rcases HW2.out.own b e with h2|h2
        ·simp[Value.ownBlock] at h2
        ·have:=HW1.out.2;omega
     ·exact Ag ts
    ·have g1:=HE3.out.wide HB3.out (fun b=>b=xb) (fun b e=>by rw[e];exact⟨hx,hxl⟩)
     have g2:=g1.turn hWf (fun b _ e=>hp b e) (by
      refine⟨?_,?_,?_,?_,?_⟩<;>(intro e;rcases e with e|e<;>omega))
     have g3:=g2.less (A:=A) hA3 ⟨HE.out.desk.hd,HE.out.desk.hf,HE.out.ns.1,HE.out.ns.2⟩
     have e1:counted cs (Wk++[⟨qk,qp,qw⟩])=bump (counted cs Wk) (kM f):=by
      unfold counted;rw[pK,HO.out.2.1];rfl
     rw[e1];exact g3
    ·have t1:aj (fun b=>b=db∨b=fb) w W1:=aj.of_below HQ4.out.1
     have t2:=t1.trans HW2.out.f (r:=fun b=>b=db∨b=fb) (fun _ _ e=>e) (fun b hb e=>by
      rcases e with e|e|e|e
      ·exact Or.inl e
      ·exact Or.inr e
      ·omega
      ·simp[Value.ownBlock] at e)
     have t3:=t2.trans HT3.out (r:=fun b=>b=db∨b=fb) (fun _ _ e=>e) (fun b _ e=>Or.inl e);have t4:=t3.more HB3.out
     exact t4.trans hWf (fun _ _ e=>e) (fun b hb e=>by
      have h2:=HQ4.out.1.size;have h3:=HT3.out.size;have h4:=HW2.out.f.size;rcases e with e|e<;>omega)
   obtain⟨⟨x0,_⟩,⟨x1,_⟩,⟨x2,y2⟩,⟨x3,_⟩⟩:=fd4 HXd.out;obtain⟨⟨r0,f0⟩,⟨r1,f1⟩,⟨r2,f2⟩,⟨r3,f3⟩⟩:=fd4 HRd.out;obtain⟨⟨a0,_⟩,⟨a1,_⟩,⟨a2,_⟩,⟨a3,_⟩⟩:=fd4 HAd.out
   have HFin:Hid (∀Wf c,aj (fun b=>b=xb∨b=w.heap.size+2) wc Wf→c=fj now f o→∃fv tvv f1 ts1 D1 Wk1,Ending.returned (.agg #[.iface fT fu,.slice ta ts.length tc,zI (c:Nat),zI 0])=Ending.returned (.agg #[fv,tvv,zI (fj now f1 o:Nat),zI 0])∧fK A Wf fv f1∧RdA A yZ Wf tvv ts1∧Pre F (S now) D (dh ⟨qk,qp,qw⟩) D1 (.ret f1) ts1 Wk1∧Eng A S Wf db sb fb mb now cap (counted cs (Wk1++[⟨qk,qp,qw⟩])) D1 L∧aj (fun b=>b=db∨b=fb) w Wf∧(kM f1=qk∧zg f1∧Small f1∧(∀t∈ts1,jg t)∧ts1.length≤10000)):=fun Wf c ht hc=>by
    have C:=FIN.out Wf ht;exact⟨.iface fT fu,.slice ta ts.length tc,f,ts,D',Wk,by rw[hc],C.1,C.2.1,HO.out.1,C.2.2.1,C.2.2.2,HO.out.2⟩
   cases hsb:kD f o with
   |false=>
    have HCh:Hid (now=fj now f o):=by
     show now=fj now f o;cases o with
     |none=>rfl
     |some k0=>
      have hne:¬f.ess=k0.f.ess:=fun e=>by simp[kD,e] at hsb
      unfold fj;exact(af hne).symm
    clear hsb FIN;go_wp2;refine aI (bM results229 _ _ (w.heap.size+2) 259 _ (0,0) _ rfl (lQ HRd.out _ _ _ _) underlying259 rfl (by kernel_rfl)) rfl ?_;exact HFin.out _ now ((((((aj.refl (fun b=>b=xb∨b=w.heap.size+2) wc).set (a:=⟨w.heap.size+2,0,none⟩) (fun _=>Or.inr rfl) _).set (a:=⟨w.heap.size+2,1,none⟩) (fun _=>Or.inr rfl) _).set (a:=⟨w.heap.size+2,2,none⟩) (fun _=>Or.inr rfl) _).set (a:=⟨w.heap.size+2,3,none⟩) (fun _=>Or.inr rfl) _)) HCh.out
   |true=>
    cases o with
    |none=>simp[kD] at hsb
    |some k0=>
     have hav:=HAv.out k0 rfl;subst hav
     have HCh:Hid (k0.changed=fj now f (some k0)):=by
      show k0.changed=fj now f (some k0);have he:f.ess=k0.f.ess:=by simpa[kD] using hsb
      unfold fj;exact(ah he).symm
     clear hsb FIN;go_upto_region 7 with fail;have HX6:Hid ((wc.setCell ⟨xb,2,none⟩ (zI (k0.changed:Nat))).heap[xb]?=some (.cells #[.iface fT fu,.slice ta ts.length tc,zI (k0.changed:Nat),zI 0] 259)):=cg _ _ 2 _ _ _ HXd.out;have HR6:Hid ((wc.setCell ⟨xb,2,none⟩ (zI (k0.changed:Nat))).heap[w.heap.size+2]?=some (.cells #[.nilIface,zN,zI 0,zI 0] 259)):=(aL _ _ _ _ (fun e=>HXn.out.2 e.symm)).trans HRd.out;have HT6:Hid (aj (fun b=>b=xb∨b=w.heap.size+2) wc (wc.setCell ⟨xb,2,none⟩ (zI (k0.changed:Nat)))):=(aj.refl (fun b=>b=xb∨b=w.heap.size+2) wc).set (a:=⟨xb,2,none⟩) (fun _=>Or.inl rfl) _;clear x0 x1 x2 y2 x3 r0 f0 r1 f1 r2 f2 r3 f3 a0 a1 a2 a3;generalize wc.setCell ⟨xb,2,none⟩ (zI (k0.changed:Nat))=W6 at*;obtain⟨⟨x0,_⟩,⟨x1,_⟩,⟨x2,_⟩,⟨x3,_⟩⟩:=fd4 HX6.out;obtain⟨⟨r0,f0⟩,⟨r1,f1⟩,⟨r2,f2⟩,⟨r3,f3⟩⟩:=fd4 HR6.out;go_wp2;refine aI (bM results229 _ _ (w.heap.size+2) 259 _ (0,0) _ rfl (lQ HR6.out _ _ _ _) underlying259 rfl (by kernel_rfl)) rfl ?_;exact HFin.out _ k0.changed ((((HT6.out.set (a:=⟨w.heap.size+2,0,none⟩) (fun _=>Or.inr rfl) _).set (a:=⟨w.heap.size+2,1,none⟩) (fun _=>Or.inr rfl) _).set (a:=⟨w.heap.size+2,2,none⟩) (fun _=>Or.inr rfl) _).set (a:=⟨w.heap.size+2,3,none⟩) (fun _=>Or.inr rfl) _) HCh.out
end Pn
namespace Pn
open Mf Ed
variable{A A1 A2:Nat→Prop}{S:Nat→Shf}{w w' W W1 w2 wf:zW}{db sb fb mb now:Nat}{cap:Int}{cs:List Int}{D D':List Kp}{L:List (zV×zV)}{r:Nat}{q:Qn}{k:Kp}{Wk:List Qn}
theorem IC(a b c d:zV)(W:zW):(Instr.field 259 (.agg #[a,b,c,d]) 2).run prog W=.ok c W:=by kernel_rfl
theorem fz(cs:List Int)(a b:List Qn):counted (counted cs a) b=counted cs (a++b):=by
 unfold counted;rw[pK]
def xZ(S:Nat→Shf)(db sb fb mb now:Nat)(cap:Int)(L:List (zV×zV))(F:Find)(g:Nat)(P:Qn→Prop):Prop:=
 ∀(A:Nat→Prop)(q:Qn)(w:zW)(cs:List Int)(D:List Kp),P q→q.kind≤4→QOk q→D.length+g≤N15→Eng A S w db sb fb mb now cap cs D L→
  zC 192 #[zP db,qv q] w fun e w'=>∃v k D' Wk,e=.returned v∧iB A w' v k∧F D q k D' Wk∧Eng A S w' db sb fb mb now cap (counted cs Wk) D' L∧aj (fun b=>b=db∨b=fb) w w'
theorem Dw:xZ S db sb fb mb now cap L (fun _ _ _ _ _=>False) 0 (fun _=>False):=fun _ _ _ _ _ h=>h.elim
variable{F:Find}{P:Qn→Prop}{g:Nat}
structure Hd(A:Nat→Prop)(S:Nat→Shf)(w:World)(db sb fb mb now:Nat)(cap:Int)(cs:List Int)(D:List Kp)(L:List (zV×zV))(F:Find)(k:Kp)(bx:Nat)(cells:Array zV)(wr:World)(i:Nat)(D':List Kp)(Wk:List Qn):Prop where
 e:Eng A S wr db sb fb mb now cap (counted cs Wk) D' L
 t:aj (fun b=>b=db∨b=fb) w wr
 c:Chk F (S now) k.checked D (k.ties.take i) D' Wk
 b:wr.heap[bx]?=some (.cells cells 259)
theorem IE(hF:xZ S db sb fb mb now cap L F g P)(hAd:Adds g F)(hD:D.length+10000*g≤N15)(kv:zV)(w:zW)(h:Eng A S w db sb fb mb now cap cs D L)(hk:iB A w kv k)(hok:KOk k)(lM:∀q,Tie.ask q∈k.ties→P q∧q.kind≤4):
  zC 228 #[zP db,kv] w fun e w'=>∃b D' Wk,e=.returned (.bool b)∧od F (S now) k.checked D k.ties D' Wk b∧Eng A S w' db sb fb mb now cap (counted cs Wk) D' L∧aj (fun b=>b=db∨b=fb) w w':=by
 obtain⟨fv,tv,rfl,hfv,htv⟩:=hk;obtain⟨fT,fu,rfl⟩:=hfv.iface;obtain⟨ta,tc,e1⟩:=htv.len;subst e1;have hn:=hok.n;have HOK:Hid (KOk k∧∀q,Tie.ask q∈k.ties→P q∧q.kind≤4):=⟨hok,lM⟩;have HTV:Hid (RdA A yZ w (.slice ta k.ties.length tc) k.ties):=htv;have HE:Hid (Eng A S w db sb fb mb now cap cs D L):=h;have HF:Hid (xZ S db sb fb mb now cap L F g P):=hF;have HAd:Hid (Adds g F∧D.length+10000*g≤N15):=⟨hAd,hD⟩;clear hfv htv h hF hok lM hAd hD;have HB1:Hid (zB w (w.alloc (.cells #[.iface fT fu,.slice ta k.ties.length tc,zI (k.changed:Nat),zI (k.checked:Nat)] 259))):=(ae _ _).alloc (ag _) _;have HD0:Hid (Hd A S w db sb fb mb now cap cs D L F k w.heap.size #[.iface fT fu,.slice ta k.ties.length tc,zI (k.changed:Nat),zI (k.checked:Nat)] (w.alloc (.cells #[.iface fT fu,.slice ta k.ties.length tc,zI (k.changed:Nat),zI (k.checked:Nat)] 259)) 0 D []):=⟨HE.out.below HB1.out,aj.of_below HB1.out,Chk.start,aD _ _⟩;have HXX:Hid (w.alloc (.cells #[.iface fT fu,.slice ta k.ties.length tc,zI (k.changed:Nat),zI (k.checked:Nat)] 259)=w.alloc (.cells #[.iface fT fu,.slice ta k.ties.length tc,zI (k.changed:Nat),zI (k.checked:Nat)] 259)):=rfl;obtain⟨_,⟨b1,_⟩,_,⟨b3,_⟩⟩:=fd4 HD0.out.b;go_enter func228,ntmps228;go_wp2
 go_step3
 go_wp2
 go_step3
 go_wp2;clear HXX;generalize w.alloc (.cells #[.iface fT fu,.slice ta k.ties.length tc,zI (k.changed:Nat),zI (k.checked:Nat)] 259)=W1 at*;generalize hm:k.ties.length=n at*;go_loopg [5,13] n (fun gg hv iv wr=>∃(i:Nat)(D':List Kp)(Wk:List Qn),i≤n∧n-i≤gg∧hv=zI i∧iv=zI i∧Hid (Hd A S w db sb fb mb now cap cs D L F k w.heap.size #[.iface fT fu,.slice ta n tc,zI (k.changed:Nat),zI (k.checked:Nat)] wr i D' Wk))
 case atStart=>exact⟨0,D,[],by omega,by omega,rfl,rfl,HD0⟩
 case round=>
  obtain⟨i,D',Wk,hi,hg,rfl,rfl,HDi⟩:=hrel;clear HD0;by_cases hlt:i<n
  ·have gN:(i:Int)<(n:Int):=by omega
   have HTr:Hid (RdA A yZ wr (.slice ta n tc) k.ties):=HTV.out.turn (HDi.out.t.mono (fun b _ e=>by
    rcases e with e|e
    ·rw[e];exact HE.out.desk.hd
    ·rw[e];exact HE.out.desk.hf))
   have hin:i<k.ties.length:=by omega
   have HTm:Hid (k.ties.take (i+1)=k.ties.take i++[k.ties[i]]∧k.ties=k.ties.take i++k.ties[i]::k.ties.drop (i+1)∧jg k.ties[i]∧k.ties[i]∈k.ties):=⟨by rw[jB,aO hin];rfl,by rw[←dt hin,List.take_append_drop],HOK.out.1.t _ (bL hin),bL hin⟩;obtain⟨b,o,c,eg,hx⟩:=RdA.at (A:=A) (L:=k.ties) HTr.out (s:=1) (fun _=>rfl) (by decide) (ae _ _) i hin;rw[hm] at eg;injection eg with eg1 eg2 eg3;clear eg2;subst eg1;subst eg3;have y0:wr.cell? ⟨b,o+i,none⟩=some (qx k.ties[i]):=by have:=hx 0 _ rfl;simpa using this
   clear hx;generalize k.ties[i]=tie at*;have HW0:Hid (w.heap.size<wr.heap.size):=ai HDi.out.b;have HDb:Hid (db<w.heap.size∧fb<w.heap.size):=⟨HE.out.hA _ HE.out.desk.hd,HE.out.hA _ HE.out.desk.hf⟩;cases tie with
   |ask q=>
    obtain⟨qk,qp,qw⟩:=q;have y1:wr.cell? ⟨b,o+i,none⟩=some (.iface 201 (.agg #[zI (qk:Nat),.string qp,.string qw])):=y0;have hta:=PY (.agg #[zI (qk:Nat),.string qp,.string qw]) wr;have htb:=QU (.agg #[zI (qk:Nat),.string qp,.string qw]) wr;have HX1:Hid ((wr.alloc (.cells #[zI (qk:Nat),.string qp,.string qw] 201)).heap[wr.heap.size]?=some (.cells #[zI (qk:Nat),.string qp,.string qw] 201)):=aD _ _;have HBa:Hid (zB wr (wr.alloc (.cells #[zI (qk:Nat),.string qp,.string qw] 201))):=(ae _ _).alloc (ag _) _;have HBx:Hid ((wr.alloc (.cells #[zI (qk:Nat),.string qp,.string qw] 201)).heap[w.heap.size]?=some (.cells #[.iface fT fu,.slice (some ⟨b,o,none⟩) n tc,zI (k.changed:Nat),zI (k.checked:Nat)] 259)):=(HBa.out.block _ HW0.out).trans HDi.out.b;have HEa:Hid (Eng A S (wr.alloc (.cells #[zI (qk:Nat),.string qp,.string qw] 201)) db sb fb mb now cap (counted cs Wk) D' L):=HDi.out.e.below HBa.out;clear y0;go_upto_region 11 with fail;clear y1 hta htb;generalize wr.alloc (.cells #[zI (qk:Nat),.string qp,.string qw] 201)=Wa at*
    have HDl:Hid (D'.length+g≤N15):=by
     have h1:=wq HAd.out.1 HDi.out.c;have h2:=HAd.out.2;rw[jP,Nat.min_eq_left (by omega)] at h1;have h3:(i+1)*g≤10000*g:=eF g (by omega);rw[fR] at h3;show D'.length+g≤N15;omega
    have KF:Hid (∀W,zB Wa W→zC 192 #[zP db,.agg #[zI (qk:Nat),.string qp,.string qw]] W fun e w'=>∃v kk D2 W2,e=.returned v∧iB A w' v kk∧F D' ⟨qk,qp,qw⟩ kk D2 W2∧Eng A S w' db sb fb mb now cap (counted (counted cs Wk) W2) D2 L∧aj (fun b=>b=db∨b=fb) Wa w'):=fun W hb=>(HF.out A ⟨qk,qp,qw⟩ W _ D' (HOK.out.2 _ HTm.out.2.2.2).1 (HOK.out.2 _ HTm.out.2.2.2).2 HTm.out.2.2.1 HDl.out (HEa.out.below hb)).mono (by
     rintro e w' ⟨v,kk,D2,W2,e1,e2,e3,e4,e5⟩;exact⟨v,kk,D2,W2,e1,e2,e3,e4,(aj.of_below hb).trans e5 (fun _ _ h=>h) (fun _ _ h=>h)⟩)
    have HPd:Hid (∀W,aj (fun b=>b=db∨b=fb) Wa W→(W.cell? ⟨wr.heap.size,0,none⟩=some (zI (qk:Nat))∧W.cell? ⟨wr.heap.size,1,none⟩=some (.string qp)∧W.cell? ⟨wr.heap.size,2,none⟩=some (.string qw))∧W.cell? ⟨w.heap.size,3,none⟩=some (zI (k.checked:Nat))):=fun W ht=>by
     have e1:=ht.block wr.heap.size (ai HX1.out) (fun e=>by have h1:=HDb.out;have h2:=HW0.out;rcases e with e|e<;>omega);have e2:=ht.block w.heap.size (ai HBx.out) (fun e=>by have h1:=HDb.out;rcases e with e|e<;>omega);obtain⟨⟨z0,_⟩,⟨z1,_⟩,⟨z2,_⟩⟩:=fd3 (e1.trans HX1.out);obtain⟨_,_,_,⟨z3,_⟩⟩:=fd4 (e2.trans HBx.out);exact⟨⟨z0,z1,z2⟩,z3⟩
    obtain⟨⟨p0,p1,p2⟩,p3⟩:=HPd.out Wa (aj.refl _ _);have hfq:=IC
    go_region_held3 (fun w'=>(w'.cell? ⟨wr.heap.size,0,none⟩=some (zI (qk:Nat))∧w'.cell? ⟨wr.heap.size,1,none⟩=some (.string qp)∧w'.cell? ⟨wr.heap.size,2,none⟩=some (.string qw))∧w'.cell? ⟨w.heap.size,3,none⟩=some (zI (k.checked:Nat)))
     (first|exact⟨⟨p0,p1,p2⟩,p3⟩|exact HPd.out _ ht3)
     ((go_at_call 192;refine(KF.out _ ((ae _ _).drew)).mono ?_;rintro e w3 ⟨v,kk,D2,W2,rfl,hk3,hf3,he3,ht3⟩;obtain⟨fv3,kv3,e4,_,_⟩:=hk3;subst e4))
    have HB3:Hid (w3.heap[w.heap.size]?=some (.cells #[.iface fT fu,.slice (some ⟨b,o,none⟩) n tc,zI (k.changed:Nat),zI (k.checked:Nat)] 259)):=(ht3.block w.heap.size (ai HBx.out) (fun e=>by have h1:=HDb.out;rcases e with e|e<;>omega)).trans HBx.out;have HT3:Hid (aj (fun b=>b=db∨b=fb) w w3):=(HDi.out.t.more HBa.out).trans ht3 (fun _ _ e=>e) (fun _ _ e=>e);have HE3:Hid (Eng A S w3 db sb fb mb now cap (counted cs (Wk++W2)) D2 L):=by rw[←fz];exact he3
    have HF3:Hid (F D' ⟨qk,qp,qw⟩ kk D2 W2):=hf3;clear p0 p1 p2 p3 hf3 he3 ht3 hfq HPd KF HEa HX1;obtain⟨_,⟨c1,_⟩,_,_⟩:=fd4 HB3.out;by_cases hgt:k.checked<kk.changed
    ·have hgI:((k.checked:Nat):Int)<(kk.changed:Nat):=by omega
     have HR:Hid (od F (S now) k.checked D k.ties D2 (Wk++W2) false):=od.ask HTm.out.2.1 HDi.out.c HF3.out hgt;have hne:(((i:Nat):Int)==(n:Int))=false:=int_ne (by omega);go_wp2
     (try rw[fD])
     go_ret;exact⟨false,D2,_,rfl,HR.out,HE3.out,HT3.out⟩
    ·have hgI:¬((k.checked:Nat):Int)<(kk.changed:Nat):=by omega
     have HN:Hid (Hd A S w db sb fb mb now cap cs D L F k w.heap.size #[.iface fT fu,.slice (some ⟨b,o,none⟩) n tc,zI (k.changed:Nat),zI (k.checked:Nat)] w3 (i+1) D2 (Wk++W2)):=⟨HE3.out,HT3.out,by rw[HTm.out.1];exact Chk.ask HDi.out.c HF3.out (by omega),HB3.out⟩;go_wp2;go_roundg (n-(i+1))
     case measure=>omega
     case rel=>exact⟨i+1,D2,_,by omega,by omega,by go_num,by go_num,HN⟩
   |rd p t=>
    have HPo:Hid (POk p):=HTm.out.2.2.1;have y1:wr.cell? ⟨b,o+i,none⟩=some (.iface 369 (.agg #[zI (p.1:Nat),.string p.2.1,.string p.2.2,.string (bF t),.bool t.isSome])):=by rw[y0,Gh]
    clear y0;have KA0:Hid (∀W,zB wr W→zC 282 #[zP sb,plV p] W fun e w'=>e=.returned (txV (S now p))∧zB W w'):=fun W hb=>Ky (S now) p W (HDi.out.e.shelf.below hb) HDi.out.e.on HPo.out
    have HEq:Hid ((S now p=t)∨(S now p≠t∧bF (S now p)=bF t∧((S now p).isSome==t.isSome)=false)∨(S now p≠t∧bF (S now p)≠bF t)):=by
     show _∨_;by_cases h:S now p=t
     ·exact Or.inl h
     ·right
      by_cases h2:bF (S now p)=bF t
      ·left
       refine⟨h,h2,?_⟩;cases e1:S now p<;>cases e2:t
       ·rw[e1,e2] at h;exact absurd rfl h
       ·rfl
       ·rfl
       ·rw[e1,e2] at h h2;exact absurd (bW some h2) h
      ·exact Or.inr ⟨h,h2⟩
    obtain⟨pk,pp,pv⟩:=p;have hta:=QT (.agg #[zI (pk:Nat),.string pp,.string pv,.string (bF t),.bool t.isSome]) wr;have HX1:Hid ((wr.alloc (.cells #[zI (pk:Nat),.string pp,.string pv,.string (bF t),.bool t.isSome] 369)).heap[wr.heap.size]?=some (.cells #[zI (pk:Nat),.string pp,.string pv,.string (bF t),.bool t.isSome] 369)):=aD _ _;have HBa:Hid (zB wr (wr.alloc (.cells #[zI (pk:Nat),.string pp,.string pv,.string (bF t),.bool t.isSome] 369))):=(ae _ _).alloc (ag _) _;have HBx:Hid ((wr.alloc (.cells #[zI (pk:Nat),.string pp,.string pv,.string (bF t),.bool t.isSome] 369)).heap[w.heap.size]?=some (.cells #[.iface fT fu,.slice (some ⟨b,o,none⟩) n tc,zI (k.changed:Nat),zI (k.checked:Nat)] 259)):=(HBa.out.block _ HW0.out).trans HDi.out.b;have HEa:Hid (Eng A S (wr.alloc (.cells #[zI (pk:Nat),.string pp,.string pv,.string (bF t),.bool t.isSome] 369)) db sb fb mb now cap (counted cs Wk) D' L):=HDi.out.e.below HBa.out
    have KA:Hid (∀W,Below (wr.alloc (.cells #[zI (pk:Nat),.string pp,.string pv,.string (bF t),.bool t.isSome] 369)).heap.size (wr.alloc (.cells #[zI (pk:Nat),.string pp,.string pv,.string (bF t),.bool t.isSome] 369)) W→zC 282 #[zP sb,.agg #[zI (pk:Nat),.string pp,.string pv]] W fun e w'=>e=.returned (.agg #[.string (bF (S now (pk,pp,pv))),.bool (S now (pk,pp,pv)).isSome])∧zB W w'):=fun W hb=>KA0.out W (HBa.out.trans (hb.mono HBa.out.size))
    clear KA0;have y2:wr.cell? ⟨b,o+i,none⟩=some (.iface 369 (.agg #[zI (pk:Nat),.string pp,.string pv,.string (bF t),.bool t.isSome])):=y1;clear y1;go_upto_region 8 with fail;clear y2 hta;generalize wr.alloc (.cells #[zI (pk:Nat),.string pp,.string pv,.string (bF t),.bool t.isSome] 369)=Wa at*
    have HPd:Hid (∀W,zB Wa W→W.cell? ⟨db,0,none⟩=some (zP sb)∧(W.cell? ⟨wr.heap.size,0,none⟩=some (zI (pk:Nat))∧W.cell? ⟨wr.heap.size,1,none⟩=some (.string pp)∧W.cell? ⟨wr.heap.size,2,none⟩=some (.string pv)∧W.cell? ⟨wr.heap.size,3,none⟩=some (.string (bF t))∧W.cell? ⟨wr.heap.size,4,none⟩=some (.bool t.isSome))):=fun W hb=>by
     obtain⟨⟨z0,_⟩,⟨z1,_⟩,⟨z2,_⟩,⟨z3,_⟩,⟨z4,_⟩⟩:=fd5 ((hb.block _ (ai HX1.out)).trans HX1.out);exact⟨(HEa.out.desk.below hb).f0.1,z0,z1,z2,z3,z4⟩
    obtain⟨p0,p1,p2,p3,p4,p5⟩:=HPd.out Wa (ae _ _);have QV:Hid (S now (pk,pp,pv)≠t→True):=fun _=>trivial
    rcases HEq.out with heq|⟨K2,heb,hib⟩|⟨K2,heb⟩
    ·have HEqq:Hid (S now (pk,pp,pv)=t):=heq
     rw[heq] at KA;clear heq HEq;generalize bF t=tb0 at*;generalize t.isSome=ti0 at*;have q1:(tb0.toList==tb0.toList)=true:=by simp
     have q2:(ti0==ti0)=true:=by simp
     go_region_held3 (fun w'=>w'.cell? ⟨db,0,none⟩=some (zP sb)∧(w'.cell? ⟨wr.heap.size,0,none⟩=some (zI (pk:Nat))∧w'.cell? ⟨wr.heap.size,1,none⟩=some (.string pp)∧w'.cell? ⟨wr.heap.size,2,none⟩=some (.string pv)∧w'.cell? ⟨wr.heap.size,3,none⟩=some (.string tb0)∧w'.cell? ⟨wr.heap.size,4,none⟩=some (.bool ti0)))
      (first|exact⟨p0,p1,p2,p3,p4,p5⟩|exact HPd.out _ hb6)
      ((go_at_call 282;refine(KA.out _ ((ae _ _).drew)).mono ?_;rintro e w6 ⟨rfl,Dx⟩;have hb6:zB Wa w6:=((ae Wa.heap.size Wa).drew).trans Dx;clear Dx))
     have HB6:Hid (w6.heap[w.heap.size]?=some (.cells #[.iface fT fu,.slice (some ⟨b,o,none⟩) n tc,zI (k.changed:Nat),zI (k.checked:Nat)] 259)):=(hb6.block _ (ai HBx.out)).trans HBx.out;have HT6:Hid (aj (fun b=>b=db∨b=fb) w w6):=(HDi.out.t.more HBa.out).more hb6;have HE6:Hid (Eng A S w6 db sb fb mb now cap (counted cs Wk) D' L):=HEa.out.below hb6;clear p0 p1 p2 p3 p4 p5 hb6 HPd KA;obtain⟨_,⟨c1,_⟩,_,_⟩:=fd4 HB6.out;have HN:Hid (Hd A S w db sb fb mb now cap cs D L F k w.heap.size #[.iface fT fu,.slice (some ⟨b,o,none⟩) n tc,zI (k.changed:Nat),zI (k.checked:Nat)] w6 (i+1) D' Wk):=⟨HE6.out,HT6.out,by rw[HTm.out.1];exact Chk.rd HDi.out.c HEqq.out,HB6.out⟩;go_wp2;go_roundg (n-(i+1))
     case measure=>omega
     case rel=>exact⟨i+1,D',_,by omega,by omega,by go_num,by go_num,HN⟩
    ·have HNe:Hid (S now (pk,pp,pv)≠t):=K2
     clear K2 HEq QV;rw[heb] at KA;clear heb;generalize bF t=tb0 at*;generalize t.isSome=ti0 at*;generalize (S now (pk,pp,pv)).isSome=si0 at*;have q1:(tb0.toList==tb0.toList)=true:=by simp
     go_region_held3 (fun w'=>w'.cell? ⟨db,0,none⟩=some (zP sb)∧(w'.cell? ⟨wr.heap.size,0,none⟩=some (zI (pk:Nat))∧w'.cell? ⟨wr.heap.size,1,none⟩=some (.string pp)∧w'.cell? ⟨wr.heap.size,2,none⟩=some (.string pv)∧w'.cell? ⟨wr.heap.size,3,none⟩=some (.string tb0)∧w'.cell? ⟨wr.heap.size,4,none⟩=some (.bool ti0)))
      (first|exact⟨p0,p1,p2,p3,p4,p5⟩|exact HPd.out _ hb6)
      ((go_at_call 282;refine(KA.out _ ((ae _ _).drew)).mono ?_;rintro e w6 ⟨rfl,Dx⟩;have hb6:zB Wa w6:=((ae Wa.heap.size Wa).drew).trans Dx;clear Dx))
     have HB6:Hid (w6.heap[w.heap.size]?=some (.cells #[.iface fT fu,.slice (some ⟨b,o,none⟩) n tc,zI (k.changed:Nat),zI (k.checked:Nat)] 259)):=(hb6.block _ (ai HBx.out)).trans HBx.out;have HT6:Hid (aj (fun b=>b=db∨b=fb) w w6):=(HDi.out.t.more HBa.out).more hb6;have HE6:Hid (Eng A S w6 db sb fb mb now cap (counted cs Wk) D' L):=HEa.out.below hb6;clear p0 p1 p2 p3 p4 p5 hb6 HPd KA;obtain⟨_,⟨c1,_⟩,_,_⟩:=fd4 HB6.out;have HR:Hid (od F (S now) k.checked D k.ties D' Wk false):=od.rd HTm.out.2.1 HDi.out.c HNe.out;have hne:(((i:Nat):Int)==(n:Int))=false:=int_ne (by omega);go_wp2
     (try rw[fD])
     go_ret;exact⟨false,D',_,rfl,HR.out,HE6.out,HT6.out⟩
    ·have HNe:Hid (S now (pk,pp,pv)≠t):=K2
     have q1:=Rn.dr heb;clear K2 HEq QV heb;generalize bF t=tb0 at*;generalize t.isSome=ti0 at*;generalize (S now (pk,pp,pv)).isSome=si0 at*;generalize bF (S now (pk,pp,pv))=sb0 at*
     go_region_held3 (fun w'=>w'.cell? ⟨db,0,none⟩=some (zP sb)∧(w'.cell? ⟨wr.heap.size,0,none⟩=some (zI (pk:Nat))∧w'.cell? ⟨wr.heap.size,1,none⟩=some (.string pp)∧w'.cell? ⟨wr.heap.size,2,none⟩=some (.string pv)∧w'.cell? ⟨wr.heap.size,3,none⟩=some (.string tb0)∧w'.cell? ⟨wr.heap.size,4,none⟩=some (.bool ti0)))
      (first|exact⟨p0,p1,p2,p3,p4,p5⟩|exact HPd.out _ hb6)
      ((go_at_call 282;refine(KA.out _ ((ae _ _).drew)).mono ?_;rintro e w6 ⟨rfl,Dx⟩;have hb6:zB Wa w6:=((ae Wa.heap.size Wa).drew).trans Dx;clear Dx))
     have HB6:Hid (w6.heap[w.heap.size]?=some (.cells #[.iface fT fu,.slice (some ⟨b,o,none⟩) n tc,zI (k.changed:Nat),zI (k.checked:Nat)] 259)):=(hb6.block _ (ai HBx.out)).trans HBx.out;have HT6:Hid (aj (fun b=>b=db∨b=fb) w w6):=(HDi.out.t.more HBa.out).more hb6;have HE6:Hid (Eng A S w6 db sb fb mb now cap (counted cs Wk) D' L):=HEa.out.below hb6;clear p0 p1 p2 p3 p4 p5 hb6 HPd KA;obtain⟨_,⟨c1,_⟩,_,_⟩:=fd4 HB6.out;have HR:Hid (od F (S now) k.checked D k.ties D' Wk false):=od.rd HTm.out.2.1 HDi.out.c HNe.out;have hne:(((i:Nat):Int)==(n:Int))=false:=int_ne (by omega);go_wp2
     (try rw[fD])
     go_ret;exact⟨false,D',_,rfl,HR.out,HE6.out,HT6.out⟩
  ·have gN:((i:Int)<(n:Int))=False:=by simp;omega
   have hin:i=n:=by omega
   have HR:Hid (od F (S now) k.checked D k.ties D' Wk true):=by
    have h:=HDi.out.c;rw[hin,oy (by omega)] at h;exact od.yes h
   have HEn:Hid (Eng A S wr db sb fb mb now cap (counted cs Wk) D' L∧aj (fun b=>b=db∨b=fb) w wr):=⟨HDi.out.e,HDi.out.t⟩;obtain⟨_,⟨c1,_⟩,_,_⟩:=fd4 HDi.out.b;rw[hin];have hqq:(((n:Nat):Int)==(n:Int))=true:=by simp
   clear hin;go_wp2
   (try rw[fD])
   go_ret;exact⟨true,D',Wk,rfl,HR.out,HEn.out.1,HEn.out.2⟩
end Pn
namespace Pn
open Mf Ed
variable{A A1 A2:Nat→Prop}{S:Nat→Shf}{w w' W W1 w2 wf:zW}{db sb fb mb now:Nat}{cap:Int}{cs:List Int}{D D':List Kp}{L L':List (zV×zV)}{q:Qn}{k:Kp}
theorem P8:(201:TypeId)<prog.types.size:=gH (by kernel_rfl)
theorem NV:(match prog.underlying 201 with|some (.array _ _)|some (.struct _)=>true|_=>false)=true:=by kernel_rfl
theorem NW:prog.keyTypeAt 3 201=true:=by kernel_rfl
theorem K4:prog.keyType 201=true:=by kernel_rfl
theorem Dy:prog.cellsOf 201=3:=by kernel_rfl
theorem K6:prog.cellsOf 199=1:=by kernel_rfl
theorem P9:WideMaps.KeyLaw prog 201:=deep_law_laid CZ (m:=3) (Nat.le_of_ble_eq_true rfl) P8 NW NV
theorem pC:Maps.Keyed prog 201:=Maps.Keyed.of_law P9
theorem Fc(d:Nat)(k:Int)(h:(Lit.int .i64 k).wf=true):prog.keyLits (d+1) 199 [.int .i64 k]=some [.int .i64 k]:=by
 unfold Program.keyLits;rw[underlying199];show(if IntKind.i64=IntKind.i64∧(Lit.int .i64 k).wf=true then some [Lit.int .i64 k] else none)=_;rw[ah ⟨rfl,h⟩]
theorem QW(k:Int)(p v:zA)(hk:(Lit.int .i64 k).wf=true)(hp:p.size≤maxLen)(hv:v.size≤maxLen):∃l,keyOf prog 201 (.agg #[.int .i64 k,.string p,.string v])=some l:=by
 have h1:prog.keyLits (prog.types.size+1) 201 [.int .i64 k,.string p,.string v]=some [.int .i64 k,.string p.data.toList,.string v.data.toList]:=by
  rw[F8];unfold Program.keyLits;rw[underlying201];simp only[Dy,bX,jm];rw[ah ⟨trivial,by kernel_rfl⟩];simp only[List.mapM_cons,List.mapM_nil,F9,K6,List.drop,List.take,Fc 465 k hk,pV 465 p hp,pV 465 v hv]
  rfl
 refine⟨.string (keyBytes [.int .i64 k,.string p.data.toList,.string v.data.toList]),?_⟩;unfold keyOf;rw[underlying201];show(if (prog.keyType 201&&(Value.agg #[.int .i64 k,.string p,.string v]).formed prog 201)=true then (prog.keyLits (prog.types.size+1) 201 [.int .i64 k,.string p,.string v]).map (fun ls=>_) else _)=_;rw[K4,h1];rw[ah (by simp[Value.formed,underlying201,Dy])]
 rfl
theorem QOk.key(h:QOk q)(hk:q.kind≤4):∃l,keyOf prog 201 (qv q)=some l:=QW _ _ _ (Dj _ hk) (by have:=h.p;unfold N48 at this;unfold maxLen;omega) (by have:=h.v;unfold N48 at this;unfold maxLen;omega)
theorem Gl(w:zW):(zeroValue 259).run prog w=.ok (.agg #[.nilIface,zN,.int .i64 0,.int .i64 0]) w:=by kernel_rfl
theorem K7{a b:Qn}(h:qv a=qv b):a=b:=by
 obtain⟨k1,p1,v1⟩:=a;obtain⟨k2,p2,v2⟩:=b;injection h with h;simp at h;obtain⟨h1,h2,h3⟩:=h;have:k1=k2:=by omega
 subst this;subst h2;subst h3
 rfl
theorem dP.get:∀{L:List (zV×zV)} {D:List Kp},dP A w L D→(∀x∈L,∃k∈D,x.1=qv k.q∧iB A w x.2 k)∧(∀k∈D,∃x∈L,x.1=qv k.q∧iB A w x.2 k)
 |[],[],_=>⟨fun x h=>absurd h di,fun k h=>absurd h di⟩
 |x::L,k::D,⟨h,h1,h2⟩=>by
  have ih:=dP.get h2;refine⟨fun y hy=>?_,fun j hj=>?_⟩
  ·rcases aV.1 hy with e|e
   ·exact⟨k,bz ..,by rw[e];exact h,by rw[e];exact h1⟩
   ·obtain⟨j,hj,e1⟩:=ih.1 y e
    exact⟨j,cK _ hj,e1⟩
  ·rcases aV.1 hj with e|e
   ·exact⟨x,bz ..,by rw[e];exact h,by rw[e];exact h1⟩
   ·obtain⟨y,hy,e1⟩:=ih.2 j e
    exact⟨y,cK _ hy,e1⟩
 |[],_::_,h=>h.elim
 |_::_,[],h=>h.elim
open Classical in
theorem dP.filter(q:Qn):∀{L:List (zV×zV)} {D:List Kp},dP A w L D→dP A w (L.filter fun x=>decide (x.1≠qv q)) (D.filter fun k=>decide (k.q≠q))
 |[],[],_=>trivial
 |x::L,k::D,⟨h,h1,h2⟩=>by
  have ih:=dP.filter q h2;by_cases e:k.q=q
  ·have ex:x.1=qv q:=by rw[h,e]
   rw[ou (by simp[ex]),ou (by simp[e])];exact ih
  ·have ex:x.1≠qv q:=fun e2=>e (K7 (h.symm.trans e2))
   rw[lD (by simp[ex]),lD (by simp[e])];exact⟨h,h1,ih⟩
 |[],_::_,h=>h.elim
 |_::_,[],h=>h.elim
theorem Ah(hm:Mp.MapAt prog 201 w fb L)(he:dP A w L D)(hq:QOk q)(hk:q.kind≤4):
  (∃k v,k∈D∧k.q=q∧iB A w v k∧(qv q,v)∈L∧∀W,Mp.MapAt prog 201 W fb L→(Instr.lookup 192 (.map (some fb)) (qv q) true).run prog W=.ok (.tuple #[v,.bool true]) W)∨
  ((∀k∈D,k.q≠q)∧(∀x∈L,x.1≠qv q)∧∀W,Mp.MapAt prog 201 W fb L→(Instr.lookup 192 (.map (some fb)) (qv q) true).run prog W=.ok (.tuple #[.agg #[.nilIface,zN,.int .i64 0,.int .i64 0],.bool false]) W):=by
 obtain⟨kl,hkey⟩:=hq.key hk;have hg:=he.get;by_cases h:∃k∈D,k.q=q
 ·obtain⟨k,hkD,hkq⟩:=h
  obtain⟨x,hx,e1,e2⟩:=hg.2 k hkD
  left
  have hxm:(qv q,x.2)∈L:=by rw[←hkq,←e1];exact hx
  exact⟨k,x.2,hkD,hkq,e2,hxm,fun W hW=>hW.look_some true pC underlying192 (Gl W) hkey hxm⟩
 ·right
  have hn:∀x∈L,x.1≠qv q:=fun x hx e=>by
   obtain⟨k,hkD,e1,_⟩:=hg.1 x hx;exact h ⟨k,hkD,K7 (e1.symm.trans e)⟩
  exact⟨fun k hkD e=>h ⟨k,hkD,e⟩,hn,fun W hW=>hW.look_none true pC underlying192 (Gl W) hkey hn⟩
theorem pD{α:Type}{p:α→Bool}{l:List α}(h:∀x∈l,p x=true):l.filter p=l:=List.filter_eq_self.2 h
open Classical in
theorem yb{key old:zV}:∀{l:List (zV×zV)},l.Pairwise (fun p q=>p.1≠q.1)→(key,old)∈l→l.Perm ((key,old)::l.filter fun x=>decide (x.1≠key))
 |x::l,hp,hm=>by
  rw[fB] at hp;rcases aV.1 hm with e|e
  ·rw[←e]
   rw[ou (by simp),pD (fun y hy=>by
    have:=hp.1 y hy;rw[←e] at this;simpa using fun e2=>this e2.symm)]
  ·have hx:x.1≠key:=fun e2=>hp.1 _ e e2
   rw[lD (by simp[hx])];exact((yb hp.2 e).cons x).trans (List.Perm.swap ..)
open Classical in
theorem dG.stored(h:dG A w db sb fb cap cs D)(hq:QOk q)(hk:q.kind≤4)(hl:D.length<9223372036854775807){v:zV}{kn:Kp}(hkn:iB A w v kn)(hkq:kn.q=q):
  ∃w',(Instr.mapUpdate 192 (.map (some fb)) (qv q) v).run prog w=.ok () w'∧dG A w' db sb fb cap cs (jq D kn)∧aj (fun b=>b=fb) w w':=by
 obtain⟨kl,hkey⟩:=hq.key hk;obtain⟨L,hm,he⟩:=h.map;have Sj:=he.filter q
 have fin:∀w1,w.mapTurned w1 fb→Mp.MapAt prog 201 w1 fb ((qv q,v)::L.filter fun x=>decide (x.1≠qv q))→dG A w1 db sb fb cap cs (jq D kn)∧aj (fun b=>b=fb) w w1:=fun w1 ht hm1=>by
  have tb:=iy ht;have e1:=tb.block db h.f0.lt h.ne;have hT:aj A w w1:=tb.mono (fun b _ e=>by rw[e];exact h.hf);refine⟨⟨h.f0.of_block e1,h.f1.of_block e1,h.f2.of_block e1,fun j c hj=>(h.cn j c hj).of_block e1,⟨_,hm1,?_⟩,h.ne,h.hd,h.hf⟩,tb⟩;unfold jq;rw[hkq];exact⟨by rw[hkq],hkn.turn hT,Sj.turn hT⟩
 rcases Ah hm he hq hk with⟨k,v0,_,_,_,hmem,_⟩|⟨_,hn,_⟩
 ·obtain⟨w1,hrun,ht,hm1⟩:=hm.F7 pC underlying192 hkey (yb hm.apart hmem) v
  exact⟨w1,hrun,fin w1 ht hm1⟩
 ·obtain⟨w1,hrun,ht,hm1⟩:=hm.F6 pC underlying192 (by rw[he.len];unfold maxLen;omega) hkey hn v
  have e:(L.filter fun x=>decide (x.1≠qv q))=L:=pD (fun x hx=>by simpa using hn x hx);exact⟨w1,hrun,fin w1 ht (by rw[e];exact hm1)⟩
