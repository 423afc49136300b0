import Derived.Test.YtelmkfkgpnadnaaGreatDoorKPMG
import Derived.Deep.DeepCutAuto
import Derived.WalkMore
set_option linter.all false
open Go.Proofs.Tryz
set_option maxRecDepth 100000
set_option maxHeartbeats 4000000
namespace Go.Proofs.YtelmkfkgpnadnaaGreatDoor
open Go.RowKit
namespace Pn
theorem meth386 (v : Value) (W : World) : (method 566 386 v "pinset/plan.sameAs").run prog W = .ok (393, v) W := by kernel_rfl
theorem meth389 (v : Value) (W : World) : (method 566 389 v "pinset/plan.sameAs").run prog W = .ok (395, v) W := by kernel_rfl
theorem meth391 (v : Value) (W : World) : (method 566 391 v "pinset/plan.sameAs").run prog W = .ok (396, v) W := by kernel_rfl
theorem meth176 (v : Value) (W : World) : (method 566 176 v "pinset/plan.sameAs").run prog W = .ok (389, v) W := by kernel_rfl
theorem meth179 (v : Value) (W : World) : (method 566 179 v "pinset/plan.sameAs").run prog W = .ok (391, v) W := by kernel_rfl
end Pn
namespace Pn
open Mf Ed
variable{A A1 A2:Nat→Prop}{S:Nat→Shf}{w w' W W1 w2 wf:World}{db sb fb mb now:Nat}{cap:Int}{cs:List Int}{D D':List Kp}{L:List (Value×Value)}{B tb:Nat}{tv tv':Value}{ts ts':List Tie}{r:Nat}{q:Qn}{k:Kp}{Wk:List Qn}{cs':List Int}
theorem Eng.less(h:Eng A2 S w db sb fb mb now cap cs D L)(hs:∀b,A b→A2 b)(h1:A db∧A fb∧A sb∧A mb):Eng A S w db sb fb mb now cap cs D L:=by
 obtain⟨L',g1,g2⟩:=h.aN.map;exact⟨⟨h.aN.f0,h.aN.f1,h.aN.f2,h.aN.cn,⟨L',g1,g2.more (fun b _ e=>hs b e)⟩,h.aN.ne,h1.1,h1.2.1⟩,h.shelf,h.on,h.inv,h.ml,h.len,fun b e=>h.hA b (hs b e),⟨h1.2.2.1,h1.2.2.2⟩,h.ne,h.ok,h.rt,h.few⟩
theorem Eng.wide(h:Eng A S w db sb fb mb now cap cs D L)(hb:Below w.heap.size w w')(P:Nat→Prop)(hP:∀b,P b→w.heap.size≤b∧b<w'.heap.size):Eng (fun b=>A b∨P b) S w' db sb fb mb now cap cs D L:=by
 have he:=h.below hb;obtain⟨L',g1,g2⟩:=h.aN.map
 have g3:dM (fun b=>A b∨P b) w L' D:=g2.more (fun b hb2 e=>by
  rcases e with e|e
  ·exact e
  ·have:=(hP b e).1;omega)
 exact⟨⟨he.aN.f0,he.aN.f1,he.aN.f2,he.aN.cn,⟨L',g1.of_block (hb.block fb g1.lt),g3.turn (aj.of_below hb)⟩,he.aN.ne,Or.inl he.aN.hd,Or.inl he.aN.hf⟩,he.shelf,he.on,he.inv,he.ml,he.len,fun b e=>by
   rcases e with e|e
   ·exact he.hA b e
   ·exact(hP b e).2,⟨Or.inl he.ns.1,Or.inl he.ns.2⟩,he.ne,he.ok,he.rt,he.few⟩
theorem Eng.count(h:Eng A S w db sb fb mb now cap cs D L)(j:Nat):Eng A S (w.setCell ⟨db,3+j,none⟩ (.int .i64 (wrap64 (cs[j]?.getD 0+1)))) db sb fb mb now cap (bump cs j) D L:=by
 have hne:=h.ne;have e:∀b,b≠db→(w.setCell ⟨db,3+j,none⟩ (.int .i64 (wrap64 (cs[j]?.getD 0+1)))).heap[b]?=w.heap[b]?:=fun b hb=>aM _ _ _ _ hb
 have hz:(w.setCell ⟨db,3+j,none⟩ (.int .i64 (wrap64 (cs[j]?.getD 0+1)))).heap.size=w.heap.size:=by simp[World.setCell]
 obtain⟨m,hm⟩:=h.ml;refine⟨h.aN.bump j,h.shelf.of_block (e sb (fun x=>hne.1 x.symm)) (e mb (fun x=>hne.2.1 x.symm)),h.on,h.inv,⟨m,?_⟩,by unfold bump;rw[List.length_set];exact h.len,fun b hb=>by rw[hz];exact h.hA b hb,h.ns,h.ne,h.ok,h.rt,h.few⟩;rw[aV (w:=w) (a:=⟨0,0,none⟩) (e 0 (fun x=>hne.2.2.2.2.1 x.symm))];exact hm
theorem Oc(w:World)(o1 o2 o3 o4:Obj):Below w.heap.size w ((((w.alloc o1).alloc o2).alloc o3).alloc o4)∧((((w.alloc o1).alloc o2).alloc o3).alloc o4).heap[w.heap.size]?=some o1∧((((w.alloc o1).alloc o2).alloc o3).alloc o4).heap[w.heap.size+1]?=some o2∧((((w.alloc o1).alloc o2).alloc o3).alloc o4).heap[w.heap.size+2]?=some o3∧((((w.alloc o1).alloc o2).alloc o3).alloc o4).heap[w.heap.size+3]?=some o4:=by
 have b1:Below w.heap.size w (w.alloc o1):=(ae _ _).alloc (ag _) _;have b2:=b1.alloc b1.size o2;have b3:=b2.alloc b2.size o3;have b4:=b3.alloc b3.size o4;have s1:(w.alloc o1).heap.size=w.heap.size+1:=by simp
 have s2:((w.alloc o1).alloc o2).heap.size=w.heap.size+2:=by simp
 have s3:(((w.alloc o1).alloc o2).alloc o3).heap.size=w.heap.size+3:=by simp
 refine⟨b4,?_,?_,?_,?_⟩
 ·rw[aI _ _ _ (by omega),aI _ _ _ (by omega),aI _ _ _ (by omega)];exact aB _ _
 ·rw[aI _ _ _ (by omega),aI _ _ _ (by omega),←s1];exact aB _ _
 ·rw[aI _ _ _ (by omega),←s2];exact aB _ _
 ·rw[←s3];exact aB _ _
theorem fc.iface{v:Value}:∀{f:Fi},fc A w v f→∃T u,v=.iface T u
 | .man _ _,⟨_,_,_,h,_⟩=>⟨_,_,h⟩
 | .idx _ _,⟨_,h,_⟩=>⟨_,_,h⟩
 | .wants _ _,⟨_,_,h,_⟩=>⟨_,_,h⟩
 | .list _ _,⟨_,_,h,_⟩=>⟨_,_,h⟩
 | .ord _ _,⟨_,_,h,_⟩=>⟨_,_,h⟩
def s9(S:Nat→Shf)(db sb fb mb now:Nat)(cap:Int)(L:List (Value×Value))(F:Find)(g:Nat)(q:Qn):Prop:=
 ∀(A:Nat→Prop)(w:World)(cs:List Int)(D:List Kp)(B tb:Nat),D.length+10000*g≤N15→Tsk A S w B tb db sb fb mb now cap cs D L (.slice none 0 0) []→
  Calls prog 283 #[.pointer (some ⟨tb,0,none⟩),qv q] w fun e w'=>∃A2 tv' fv f D' Wk ts,e=.returned fv∧fc A2 w' fv f∧Pre F (S now) D (cM q) D' (.ret f) ts Wk∧dx A S w B tb db sb fb mb now cap L (.slice none 0 0) w' A2 (counted cs Wk) D' tv' ts∧(jI f=q.kind∧xH f∧Small f∧(∀t∈ts,iN t)∧ts.length≤10000)
def EH(A:Nat→Prop)(w:World)(av:Value)(q:Qn):Option Kp→Prop
 |none=>av=.agg #[.nilIface,.slice none 0 0,.int .i64 0,.int .i64 0]
 |some k=>gW A w av k∧jI k.f=q.kind∧Small k.f
open Classical in
noncomputable def eL(now:Nat)(f:Fi):Option Kp→Nat
 |none=>now
 |some k=>if f.ess=k.f.ess then k.changed else now
theorem yB:∀l:List Tie,l.map pd=l.flatMap xE
 |[]=>rfl
 |x::l=>by
  rw[bG,gK,yB l];rfl
theorem Du{a b c d a' b' c' d':Value}(h:Value.agg #[a,b,c,d]=.agg #[a',b',c',d']):a=a'∧b=b'∧c=c'∧d=d':=by
 injection h with h;simpa using h
open Classical in
noncomputable def jE(f:Fi):Option Kp→Bool
 |none=>false
 |some k=>decide (f.ess=k.f.ess)
def AFi(A:Nat→Prop)(w:World)(a:Value)(f:Fi):Option Kp→Prop
 |none=>a=.nilIface
 |some k=>fc A w a k.f∧jI k.f=jI f
open Classical in
theorem LO{T:Nat}{fu a:Value}{pr:Nat}{m:Mx}{o:Option Kp}(hf:fc A w (.iface T fu) (.man pr m))(ha:AFi A w a (.man pr m) o)(hs:Small (.man pr m)):T=386∧Calls prog 393 #[fu,a] w fun e w'=>e=.returned (.bool (jE (.man pr m) o))∧Below w.heap.size w w':=by
 obtain⟨rv,xv,sv,e,h1,h2,h3⟩:=hf;injection e with e1 e2;subst e1;subst e2;refine⟨rfl,?_⟩;cases o with
 |none=>
  obtain rfl:=ha;obtain⟨ra,rc,rfl⟩:=h1.len;obtain⟨xa,xc,rfl⟩:=h2.len;obtain⟨sa,sc,rfl⟩:=h3.len;exact IW pr m.p ra _ rc xa _ xc sa _ sc w
 |some k=>
  obtain⟨hk,hn⟩:=ha;cases hkf:k.f with
  |man pr' m'=>
   rw[hkf] at hk;obtain⟨rv',xv',sv',rfl,h1',h2',h3'⟩:=hk;have key:=IV pr pr' m.p m'.p rv rv' m.R m'.R xv xv' m.X m'.X sv sv' m.S m'.S w hs.1 hs.2.1 hs.2.2 h1 h2 h3 h1' h2' h3';refine key.mono ?_;rintro e w' ⟨rfl,hb⟩;refine⟨?_,hb⟩
   congr 2
   show _=decide (Fi.ess (.man pr m)=k.f.ess);rw[hkf];refine decide_eq_decide.2 ?_;obtain⟨p,R,X,S⟩:=m;obtain⟨p',R',X',S'⟩:=m';simp[Fi.ess]
  |_=>rw[hkf] at hn;simp[jI] at hn
open Classical in
theorem LP{T:Nat}{fu a:Value}{pr:Nat}{vs:List ByteArray}{o:Option Kp}(hf:fc A w (.iface T fu) (.idx pr vs))(ha:AFi A w a (.idx pr vs) o)(hs:Small (.idx pr vs)):T=389∧Calls prog 395 #[fu,a] w fun e w'=>e=.returned (.bool (jE (.idx pr vs) o))∧Below w.heap.size w w':=by
 obtain⟨u,e,h1⟩:=hf;injection e with e1 e2;subst e1;subst e2;refine⟨rfl,?_⟩;cases o with
 |none=>
  obtain rfl:=ha;obtain⟨ra,rc,rfl⟩:=h1.len;exact IZ pr ra _ rc w
 |some k=>
  obtain⟨hk,hn⟩:=ha;cases hkf:k.f with
  |idx pr' vs'=>
   rw[hkf] at hk;obtain⟨u',rfl,h1'⟩:=hk;refine(IX pr pr' u u' vs vs' w hs h1 h1').mono ?_;rintro e w' ⟨rfl,hb⟩;refine⟨?_,hb⟩
   congr 2
   show _=decide (Fi.ess (.idx pr vs)=k.f.ess);rw[hkf];exact decide_eq_decide.2 (by simp[Fi.ess])
  |_=>rw[hkf] at hn;simp[jI] at hn
open Classical in
theorem Gm{T:Nat}{fu a:Value}{ms:List Mo}{ps:List Pb}{o:Option Kp}(hf:fc A w (.iface T fu) (.wants ms ps))(ha:AFi A w a (.wants ms ps) o)(hs:Small (.wants ms ps)):T=391∧Calls prog 396 #[fu,a] w fun e w'=>e=.returned (.bool (jE (.wants ms ps) o))∧Below w.heap.size w w':=by
 obtain⟨u,v,e,h1,h2⟩:=hf;injection e with e1 e2;subst e1;subst e2;refine⟨rfl,?_⟩;cases o with
 |none=>
  obtain rfl:=ha;obtain⟨ra,rc,rfl⟩:=h1.len;obtain⟨xa,xc,rfl⟩:=h2.len;exact Dn ra _ rc xa _ xc w
 |some k=>
  obtain⟨hk,hn⟩:=ha;cases hkf:k.f with
  |wants ms' ps'=>
   rw[hkf] at hk;obtain⟨u',v',rfl,h1',h2'⟩:=hk;refine(Dk u u' ms ms' v v' ps ps' w hs.1 hs.2 h1 h2 h1' h2').mono ?_;rintro e w' ⟨rfl,hb⟩;refine⟨?_,hb⟩
   congr 2
   show _=decide (Fi.ess (.wants ms ps)=k.f.ess);rw[hkf];exact decide_eq_decide.2 (by simp[Fi.ess])
  |_=>rw[hkf] at hn;simp[jI] at hn
open Classical in
theorem I8{T:Nat}{fu a:Value}{ms:List Mo}{ps:List Pb}{o:Option Kp}(hf:fc A w (.iface T fu) (.list ms ps))(ha:AFi A w a (.list ms ps) o)(hs:Small (.list ms ps)):T=176∧Calls prog 389 #[fu,a] w fun e w'=>e=.returned (.bool (jE (.list ms ps) o))∧Below w.heap.size w w':=by
 obtain⟨u,v,e,h1,h2⟩:=hf;injection e with e1 e2;subst e1;subst e2;refine⟨rfl,?_⟩;cases o with
 |none=>
  obtain rfl:=ha;obtain⟨ra,rc,rfl⟩:=h1.len;obtain⟨xa,xc,rfl⟩:=h2.len;exact Gb ra _ rc xa _ xc w
 |some k=>
  obtain⟨hk,hn⟩:=ha;cases hkf:k.f with
  |list ms' ps'=>
   rw[hkf] at hk;obtain⟨u',v',rfl,h1',h2'⟩:=hk;obtain⟨xa,xc,hx⟩:=h2.len;obtain⟨xa',xc',hx'⟩:=h2'.len;refine(Ga u u' ms ms' v v' w hs.1 h1 h1' ⟨_,_,_,hx⟩ ⟨_,_,_,hx'⟩).mono ?_;rintro e w' ⟨rfl,hb⟩;refine⟨?_,hb⟩
   congr 2
   show _=decide (Fi.ess (.list ms ps)=k.f.ess);rw[hkf];exact decide_eq_decide.2 (by simp[Fi.ess])
  |_=>rw[hkf] at hn;simp[jI] at hn
open Classical in
theorem LQ{T:Nat}{fu a:Value}{ms:List ByteArray}{ps:List Pb}{o:Option Kp}(hf:fc A w (.iface T fu) (.ord ms ps))(ha:AFi A w a (.ord ms ps) o)(hs:Small (.ord ms ps)):T=179∧Calls prog 391 #[fu,a] w fun e w'=>e=.returned (.bool (jE (.ord ms ps) o))∧Below w.heap.size w w':=by
 obtain⟨u,v,e,h1,h2⟩:=hf;injection e with e1 e2;subst e1;subst e2;refine⟨rfl,?_⟩;cases o with
 |none=>
  obtain rfl:=ha;obtain⟨ra,rc,rfl⟩:=h1.len;obtain⟨xa,xc,rfl⟩:=h2.len;exact I5 ra _ rc xa _ xc w
 |some k=>
  obtain⟨hk,hn⟩:=ha;cases hkf:k.f with
  |ord ms' ps'=>
   rw[hkf] at hk;obtain⟨u',v',rfl,h1',h2'⟩:=hk;refine(I4 u u' ms ms' v v' ps ps' w hs.1 hs.2 h1 h2 h1' h2').mono ?_;rintro e w' ⟨rfl,hb⟩;refine⟨?_,hb⟩
   congr 2
   show _=decide (Fi.ess (.ord ms ps)=k.f.ess);rw[hkf];exact decide_eq_decide.2 (by simp[Fi.ess])
  |_=>rw[hkf] at hn;simp[jI] at hn
theorem rK{F:Find}{g:Nat}(hW:s9 S db sb fb mb now cap L F g q)(hD:D.length+10000*g≤N15)(av:Value)(o:Option Kp)(w:World)(h:Eng A S w db sb fb mb now cap cs D L)(ha:EH A w av q o):
  Calls prog 229 #[.pointer (some ⟨db,0,none⟩),qv q,av] w fun e w'=>∃fv tvv f ts D' Wk,e=.returned (.agg #[fv,tvv,.int .i64 (eL now f o:Nat),.int .i64 0])∧fc A w' fv f∧RdA A xE w' tvv ts∧Pre F (S now) D (cM q) D' (.ret f) ts Wk∧Eng A S w' db sb fb mb now cap (counted cs (Wk++[q])) D' L∧aj (fun b=>b=db∨b=fb) w w'∧(jI f=q.kind∧xH f∧Small f∧(∀t∈ts,iN t)∧ts.length≤10000):=by
 obtain⟨av0,av1,av2,av3,rfl⟩:∃a b c d,av=.agg #[a,b,c,d]:=by
  cases o with
  |none=>exact⟨_,_,_,_,ha⟩
  |some k=>obtain⟨⟨fv,tv,e,_⟩,_⟩:=ha;exact⟨_,_,_,_,e⟩
 obtain⟨qk,qp,qw⟩:=q;show Calls prog 229 #[.pointer (some ⟨db,0,none⟩),.agg #[.int .i64 (qk:Nat),.string qp,.string qw],.agg #[av0,av1,av2,av3]] w _;have HE:Hid (Eng A S w db sb fb mb now cap cs D L):=h;have HAh:Hid (EH A w (.agg #[av0,av1,av2,av3]) ⟨qk,qp,qw⟩ o):=ha;have hq4:=Oc w (.cells #[.int .i64 (qk:Nat),.string qp,.string qw] 201) (.cells #[av0,av1,av2,av3] 259) (.cells #[.nilIface,.slice none 0 0,.int .i64 0,.int .i64 0] 259) (.cells #[.pointer (some ⟨db,0,none⟩),.slice none 0 0] 174)
 have HP:Hid (∀b,b=w.heap.size+2∨b=w.heap.size+3→w.heap.size≤b∧b<((((w.alloc (.cells #[.int .i64 (qk:Nat),.string qp,.string qw] 201)).alloc (.cells #[av0,av1,av2,av3] 259)).alloc (.cells #[.nilIface,.slice none 0 0,.int .i64 0,.int .i64 0] 259)).alloc (.cells #[.pointer (some ⟨db,0,none⟩),.slice none 0 0] 174)).heap.size):=fun b e=>by
  simp;omega
 have hEw:=h.wide hq4.1 (fun b=>b=w.heap.size+2∨b=w.heap.size+3) HP.out;have HQ4:Hid _:=hq4;clear hq4;have hF:=fd2 HQ4.out.2.2.2.2
 have hTk:Tsk (fun b=>A b∨(b=w.heap.size+2∨b=w.heap.size+3)) S ((((w.alloc (.cells #[.int .i64 (qk:Nat),.string qp,.string qw] 201)).alloc (.cells #[av0,av1,av2,av3] 259)).alloc (.cells #[.nilIface,.slice none 0 0,.int .i64 0,.int .i64 0] 259)).alloc (.cells #[.pointer (some ⟨db,0,none⟩),.slice none 0 0] 174)) w.heap.size (w.heap.size+3) db sb fb mb now cap cs D L (.slice none 0 0) []:=
  ⟨hEw,⟨hF.1,hF.2,dP ..,by simp[Value.ownBlock],by omega⟩,fun b e=>by
   rcases e with e|e
   ·exact Or.inr (Or.inr e)
   ·simp[Value.ownBlock] at e,⟨h.hA _ h.aN.hd,h.hA _ h.aN.hf,h.hA _ h.ns.1,h.hA _ h.ns.2,by have:=h.hA _ h.aN.hd;omega⟩,HQ4.out.1.size⟩
 have kw:=hW _ _ _ _ _ _ hD hTk;clear h ha hEw hF hTk hW hD;go_enter func229,ntmps229
 go_wp2_with (go_at_call 283;fail)
 rw[show w.heap.size+1+1+1=w.heap.size+3 from rfl,show w.heap.size+1+1=w.heap.size+2 from rfl];generalize (((w.alloc (.cells #[.int .i64 (qk:Nat),.string qp,.string qw] 201)).alloc (.cells #[av0,av1,av2,av3] 259)).alloc (.cells #[.nilIface,.slice none 0 0,.int .i64 0,.int .i64 0] 259)).alloc (.cells #[.pointer (some ⟨db,0,none⟩),.slice none 0 0] 174)=W1 at*;go_at_call 283;refine kw.mono ?_;rintro e w2 ⟨A2,tv',fv,f,D',Wk,ts,rfl,hfv,hpre,hwt,hok⟩
 have HS:Hid (∀b,b<W1.heap.size→w.heap.size≤b→b≠w.heap.size+3→w2.heap[b]?=W1.heap[b]?):=fun b hb hb2 hb3=>hwt.f.block b hb (fun e=>by
  have h1:=HE.out.hA _ HE.out.aN.hd;have h2:=HE.out.hA _ HE.out.aN.hf;rcases e with e|e|e|e
  ·omega
  ·omega
  ·omega
  ·simp[Value.ownBlock] at e)
 have HW1:Hid (W1.heap.size=W1.heap.size∧w.heap.size+3<W1.heap.size):=⟨rfl,ah HQ4.out.2.2.2.2⟩;have HA2:Hid (w2.heap[w.heap.size+1]?=some (.cells #[av0,av1,av2,av3] 259)):=(HS.out _ (by have:=HW1.out.2;omega) (by omega) (by omega)).trans HQ4.out.2.2.1;have HR2:Hid (w2.heap[w.heap.size+2]?=some (.cells #[.nilIface,.slice none 0 0,.int .i64 0,.int .i64 0] 259)):=(HS.out _ (by have:=HW1.out.2;omega) (by omega) (by omega)).trans HQ4.out.2.2.2.1;have HW2:Hid (dx (fun b=>A b∨(b=w.heap.size+2∨b=w.heap.size+3)) S W1 w.heap.size (w.heap.size+3) db sb fb mb now cap L (.slice none 0 0) w2 A2 (counted cs Wk) D' tv' ts):=hwt;have HO:Hid (Pre F (S now) D (cM ⟨qk,qp,qw⟩) D' (.ret f) ts Wk∧(jI f=qk∧xH f∧Small f∧(∀t∈ts,iN t)∧ts.length≤10000)):=⟨hpre,hok⟩;have HFv:Hid (fc A2 w2 fv f):=hfv;have kc:=IU w2 hwt.t.eng.aN hfv hwt.t.eng.len;clear hwt hpre hok hfv HS kw
 go_wp2_with (go_at_call 284;fail)
 go_at_call 284;refine kc.mono ?_;rintro e w3 ⟨rfl,hw3⟩;have HE3:Hid (Eng A2 S w3 db sb fb mb now cap (bump (counted cs Wk) (jI f)) D' L):=by rw[hw3];exact HW2.out.t.eng.count _
 have HT3:Hid (aj (fun b=>b=db) w2 w3):=by rw[hw3];exact(aj.refl (fun b=>b=db) w2).set (a:=⟨db,3+jI f,none⟩) (fun _=>rfl) _
 clear hw3 kc;have HNd:Hid (∀b,w.heap.size≤b→b≠db):=fun b hb e=>by have:=HE.out.hA _ HE.out.aN.hd;omega
 have Od:Hid (fc A2 w3 fv f):=HFv.out.turn (HT3.out.mono (fun b _ e=>by rw[e];exact HE3.out.aN.hd));have I9:Hid (dh w.heap.size w3 (w.heap.size+3) db tv' ts):=HW2.out.t.task.turn HT3.out (fun b e=>by rw[e];exact HE.out.hA _ HE.out.aN.hd);have HA3:Hid (w3.heap[w.heap.size+1]?=some (.cells #[av0,av1,av2,av3] 259)):=(HT3.out.block _ (ah HA2.out) (HNd.out _ (by omega))).trans HA2.out;have HR3:Hid (w3.heap[w.heap.size+2]?=some (.cells #[.nilIface,.slice none 0 0,.int .i64 0,.int .i64 0] 259)):=(HT3.out.block _ (ah HR2.out) (HNd.out _ (by omega))).trans HR2.out;clear HA2 HR2 HFv;have kr:∀W,Below w3.heap.size w3 W→Calls prog 71 #[.pointer (some ⟨sb,0,none⟩)] W fun e w'=>e=.returned (.int .i64 (now:Nat))∧w'=W:=fun W hb=>sQ W (HE3.out.shelf.below hb)
 have HPd:Hid (∀W,Below w3.heap.size w3 W→W.cell? ⟨w.heap.size+3,1,none⟩=some tv'∧W.cell? ⟨db,0,none⟩=some (.pointer (some ⟨sb,0,none⟩))):=fun W hb=>⟨(I9.out.below hb).t1.1,(HE3.out.aN.below hb).f0.1⟩
 obtain⟨p0,p1⟩:=HPd.out _ (ae _ _);obtain⟨ta,tc,htv⟩:=ax I9.out.row;subst htv;obtain⟨fT,fu,hfT⟩:=Od.out.iface;subst hfT;go_upto_region 4 with fail
 go_cut [9] (fun xp wx=>∃xb,xp=.pointer (some ⟨xb,0,none⟩)∧Hid (Below w3.heap.size w3 wx∧w3.heap.size≤xb∧wx.heap[xb]?=some (.cells #[.iface fT fu,.slice ta ts.length tc,.int .i64 (now:Nat),.int .i64 0] 259)))
 case first=>
  go_region_held3 (fun w'=>w'.cell? ⟨w.heap.size+3,1,none⟩=some (.slice ta ts.length tc)∧w'.cell? ⟨db,0,none⟩=some (.pointer (some ⟨sb,0,none⟩)))
  (first|exact⟨p0,p1⟩|exact HPd.out _ ((ae _ _).drew)|exact HPd.out _ (aA ((ae _ _).drew) _)|exact HPd.out _ (aA (ae _ _) _))
  (first|(go_at_call 71;refine(kr _ ((ae _ _).drew)).mono ?_;rintro e w4 ⟨rfl,rfl⟩)|(go_at_call 71;refine(kr _ (aA ((ae _ _).drew) _)).mono ?_;rintro e w4 ⟨rfl,rfl⟩))
  all_goals
   go_wp2_with fail
   go_meet
   first
    |exact⟨_,rfl,aA (ae _ _) _,ag _,aB _ _⟩
    |exact⟨_,rfl,aA ((ae _ _).drew) _,ag _,aB _ _⟩
    |exact⟨_,rfl,(aA (ae _ _) _).drew,ag _,aB _ _⟩
 case rest=>
  obtain⟨xb,h9,HC⟩:=hcut;rw[h9];clear h9 p0 p1 HPd kr;obtain⟨wo,hwo⟩:∃wo,wo=wc:=⟨_,rfl⟩;subst hwo;have HAc:Hid (wo.heap[w.heap.size+1]?=some (.cells #[av0,av1,av2,av3] 259)):=(HC.out.1.block _ (ah HA3.out)).trans HA3.out;have HRc:Hid (wo.heap[w.heap.size+2]?=some (.cells #[.nilIface,.slice none 0 0,.int .i64 0,.int .i64 0] 259)):=(HC.out.1.block _ (ah HR3.out)).trans HR3.out;obtain⟨⟨a0,_⟩,⟨a1,_⟩,⟨a2,_⟩,⟨a3,_⟩⟩:=fd4 HAc.out
  have HTw:Hid (aj (fun b=>A2 b) w wo):=by
   have t1:aj (fun b=>A2 b) w W1:=aj.of_below HQ4.out.1
   have t2:aj (fun b=>A2 b) W1 w2:=HW2.out.f.mono (fun b _ e=>by
    rcases e with e|e|e|e
    ·rw[e];exact HW2.out.t.eng.aN.hd
    ·rw[e];exact HW2.out.t.eng.aN.hf
    ·rw[e];exact HW2.out.sub _ (Or.inr (Or.inr rfl))
    ·simp[Value.ownBlock] at e)
   have t3:aj (fun b=>A2 b) w2 w3:=HT3.out.mono (fun b _ e=>by rw[e];exact HW2.out.t.eng.aN.hd);exact((t1.trans t2 (fun _ _ e=>e) (fun _ _ e=>e)).trans t3 (fun _ _ e=>e) (fun _ _ e=>e)).trans (aj.of_below HC.out.1 (p:=fun b=>A2 b)) (fun _ _ e=>e) (fun _ _ e=>e)
  have HLs:Hid (∀b,b<w.heap.size→A2 b→A b):=fun b hb e=>by
   rcases HW2.out.new b e with(e|e)|e
   ·exact e
   ·omega
   ·have:=HQ4.out.1.size;omega
  have HAf:Hid (AFi A2 wo av0 f o∧∀k0,o=some k0→av2=.int .i64 (k0.changed:Nat)):=by
   have h1:=HAh.out;cases o with
   |none=>exact⟨(Du h1).1,fun k0 e=>by cases e⟩
   |some k0=>
    obtain⟨⟨fv0,tv0,e0',hf0,_⟩,hn0,_⟩:=h1;obtain⟨e1,_,e2,_⟩:=Du e0';refine⟨⟨?_,hn0.trans HO.out.2.1.symm⟩,fun k1 e=>by cases e;exact e2⟩;rw[e1];exact(hf0.more HLs.out).turn HTw.out
  have HFc:Hid (fc A2 wo (.iface fT fu) f):=Od.out.turn (aj.of_below HC.out.1);go_upto_region 5 with fail
  go_cut [29] (fun bv wx=>bv=.bool (jE f o)∧Hid (Below wo.heap.size wo wx))
  case first=>
   have hsm:=HO.out.2.2.2.1;cases f with
   |man pr m=>
    obtain⟨rfl,ks⟩:=LO HFc.out HAf.out.1 hsm;have hm:=meth386 fu wo;have hc:∀(args:Array Value)(w:World),(callFunc 393 args).run prog w=.ok (.enter 393 args) w:=fun _ _=>by kernel_rfl
    generalize jE (.man pr m) o=sb0 at*
    go_wp2_with ((go_at_call 393;refine ks.mono ?_;rintro e w6 ⟨rfl,hb6⟩))
    go_meet
    exact⟨rfl,hb6⟩
   |idx pr vs=>
    obtain⟨rfl,ks⟩:=LP HFc.out HAf.out.1 hsm;have hm:=meth389 fu wo;have hc:∀(args:Array Value)(w:World),(callFunc 395 args).run prog w=.ok (.enter 395 args) w:=fun _ _=>by kernel_rfl
    generalize jE (.idx pr vs) o=sb0 at*
    go_wp2_with ((go_at_call 395;refine ks.mono ?_;rintro e w6 ⟨rfl,hb6⟩))
    go_meet
    exact⟨rfl,hb6⟩
   |wants ms ps=>
    obtain⟨rfl,ks⟩:=Gm HFc.out HAf.out.1 hsm;have hm:=meth391 fu wo;have hc:∀(args:Array Value)(w:World),(callFunc 396 args).run prog w=.ok (.enter 396 args) w:=fun _ _=>by kernel_rfl
    generalize jE (.wants ms ps) o=sb0 at*
    go_wp2_with ((go_at_call 396;refine ks.mono ?_;rintro e w6 ⟨rfl,hb6⟩))
    go_meet
    exact⟨rfl,hb6⟩
   |list ms ps=>
    obtain⟨rfl,ks⟩:=I8 HFc.out HAf.out.1 hsm;have hm:=meth176 fu wo;have hc:∀(args:Array Value)(w:World),(callFunc 389 args).run prog w=.ok (.enter 389 args) w:=fun _ _=>by kernel_rfl
    generalize jE (.list ms ps) o=sb0 at*
    go_wp2_with ((go_at_call 389;refine ks.mono ?_;rintro e w6 ⟨rfl,hb6⟩))
    go_meet
    exact⟨rfl,hb6⟩
   |ord ns ps=>
    obtain⟨rfl,ks⟩:=LQ HFc.out HAf.out.1 hsm;have hm:=meth179 fu wo;have hc:∀(args:Array Value)(w:World),(callFunc 391 args).run prog w=.ok (.enter 391 args) w:=fun _ _=>by kernel_rfl
    generalize jE (.ord ns ps) o=sb0 at*
    go_wp2_with ((go_at_call 391;refine ks.mono ?_;rintro e w6 ⟨rfl,hb6⟩))
    go_meet
    exact⟨rfl,hb6⟩
  case rest=>
   obtain⟨h29,HD⟩:=hcut;rw[h29];clear h29 a0 a1 a2 a3;have HB3:Hid (Below w3.heap.size w3 wc):=HC.out.1.trans (HD.out.mono HC.out.1.size);have HAd:Hid (wc.heap[w.heap.size+1]?=some (.cells #[av0,av1,av2,av3] 259)):=(HD.out.block _ (ah HAc.out)).trans HAc.out;have HRd:Hid (wc.heap[w.heap.size+2]?=some (.cells #[.nilIface,.slice none 0 0,.int .i64 0,.int .i64 0] 259)):=(HD.out.block _ (ah HRc.out)).trans HRc.out;have HXd:Hid (wc.heap[xb]?=some (.cells #[.iface fT fu,.slice ta ts.length tc,.int .i64 (now:Nat),.int .i64 0] 259)):=(HD.out.block _ (ah HC.out.2.2)).trans HC.out.2.2
   have HXn:Hid (xb≠w.heap.size+1∧xb≠w.heap.size+2):=by
    have h1:=HC.out.2.1;have h2:=ah HR3.out;exact⟨by omega,by omega⟩
   have HAv:Hid (∀k0,o=some k0→av2=.int .i64 (k0.changed:Nat)):=HAf.out.2
   have FIN:Hid (∀Wf,aj (fun b=>b=xb∨b=w.heap.size+2) wc Wf→fc A Wf (.iface fT fu) f∧RdA A xE Wf (.slice ta ts.length tc) ts∧Eng A S Wf db sb fb mb now cap (counted cs (Wk++[⟨qk,qp,qw⟩])) D' L∧aj (fun b=>b=db∨b=fb) w Wf):=fun Wf hWf=>by
    have hx:=HC.out.2.1
    have hs3:w.heap.size≤w3.heap.size:=by
     have h2:=HQ4.out.1.size;have h3:=HT3.out.size;have h4:=HW2.out.f.size;omega
    have hA3:∀b,A b→(A2 b∨b=xb):=fun b e=>Or.inl (HW2.out.sub b (Or.inl e))
    have hp:∀b,(b=xb∨b=w.heap.size+2)→(A2 b∨b=xb):=fun b e=>by
     rcases e with e|e
     ·exact Or.inr e
     ·rw[e];exact Or.inl (HW2.out.sub _ (Or.inr (Or.inl rfl)))
    have hz:=HB3.out.size;have hxl:=ah HXd.out;have hlt:=HW2.out.t.lt;refine⟨?_,?_,?_,?_⟩
    ·have g1:fc (fun b=>A2 b∨b=xb) w3 (.iface fT fu) f:=Od.out.more (fun b hb e=>by
      rcases e with e|e
      ·exact e
      ·omega)
     have g2:=g1.turn (aj.of_below HB3.out);have g3:=g2.turn (hWf.mono (fun b _ e=>hp b e));exact g3.more (fun b _ e=>hA3 b e)
    ·refine RdA.own (B:=w.heap.size) (s:=1) (e:=367) (xs:=ts.map pd) ?_ ?_ (fun _=>rfl) HE.out.hA
     ·refine ar (own_below I9.out.row HB3.out) (fun b e=>hWf.block b ?_ ?_)
      ·have:=(I9.out.row.lt b e).2;omega
      ·intro e2
       have h1:=(I9.out.row.lt b e).2;rcases e2 with e2|e2
       ·omega
       ·rcases HW2.out.own b e with h2|h2
        ·simp[Value.ownBlock] at h2
        ·have:=HW1.out.2;omega
     ·exact yB ts
    ·have g1:=HE3.out.wide HB3.out (fun b=>b=xb) (fun b e=>by rw[e];exact⟨hx,hxl⟩)
     have g2:=g1.turn hWf (fun b _ e=>hp b e) (by
      refine⟨?_,?_,?_,?_,?_⟩<;>(intro e;rcases e with e|e<;>omega))
     have g3:=g2.less (A:=A) hA3 ⟨HE.out.aN.hd,HE.out.aN.hf,HE.out.ns.1,HE.out.ns.2⟩
     have e1:counted cs (Wk++[⟨qk,qp,qw⟩])=bump (counted cs Wk) (jI f):=by
      unfold counted;rw[lx,HO.out.2.1];rfl
     rw[e1];exact g3
    ·have t1:aj (fun b=>b=db∨b=fb) w W1:=aj.of_below HQ4.out.1
     have t2:=t1.trans HW2.out.f (r:=fun b=>b=db∨b=fb) (fun _ _ e=>e) (fun b hb e=>by
      rcases e with e|e|e|e
      ·exact Or.inl e
      ·exact Or.inr e
      ·omega
      ·simp[Value.ownBlock] at e)
     have t3:=t2.trans HT3.out (r:=fun b=>b=db∨b=fb) (fun _ _ e=>e) (fun b _ e=>Or.inl e);have t4:=t3.more HB3.out
     exact t4.trans hWf (fun _ _ e=>e) (fun b hb e=>by
      have h2:=HQ4.out.1.size;have h3:=HT3.out.size;have h4:=HW2.out.f.size;rcases e with e|e<;>omega)
   obtain⟨⟨x0,_⟩,⟨x1,_⟩,⟨x2,y2⟩,⟨x3,_⟩⟩:=fd4 HXd.out;obtain⟨⟨r0,f0⟩,⟨r1,f1⟩,⟨r2,f2⟩,⟨r3,f3⟩⟩:=fd4 HRd.out;obtain⟨⟨a0,_⟩,⟨a1,_⟩,⟨a2,_⟩,⟨a3,_⟩⟩:=fd4 HAd.out
   have iu:Hid (∀Wf c,aj (fun b=>b=xb∨b=w.heap.size+2) wc Wf→c=eL now f o→∃fv tvv f1 ts1 D1 Wk1,Ending.returned (.agg #[.iface fT fu,.slice ta ts.length tc,.int .i64 (c:Nat),.int .i64 0])=Ending.returned (.agg #[fv,tvv,.int .i64 (eL now f1 o:Nat),.int .i64 0])∧fc A Wf fv f1∧RdA A xE Wf tvv ts1∧Pre F (S now) D (cM ⟨qk,qp,qw⟩) D1 (.ret f1) ts1 Wk1∧Eng A S Wf db sb fb mb now cap (counted cs (Wk1++[⟨qk,qp,qw⟩])) D1 L∧aj (fun b=>b=db∨b=fb) w Wf∧(jI f1=qk∧xH f1∧Small f1∧(∀t∈ts1,iN t)∧ts1.length≤10000)):=fun Wf c ht hc=>by
    have C:=FIN.out Wf ht;exact⟨.iface fT fu,.slice ta ts.length tc,f,ts,D',Wk,by rw[hc],C.1,C.2.1,HO.out.1,C.2.2.1,C.2.2.2,HO.out.2⟩
   cases hsb:jE f o with
   |false=>
    have HCh:Hid (now=eL now f o):=by
     show now=eL now f o;cases o with
     |none=>rfl
     |some k0=>
      have hne:¬f.ess=k0.f.ess:=fun e=>by simp[jE,e] at hsb
      unfold eL;exact(af hne).symm
    clear hsb FIN;go_wp2;refine aJ (bJ results229 _ _ (w.heap.size+2) 259 _ (0,0) _ rfl (kH HRd.out _ _ _ _) underlying259 rfl (by kernel_rfl)) rfl ?_;exact iu.out _ now ((((((aj.refl (fun b=>b=xb∨b=w.heap.size+2) wc).set (a:=⟨w.heap.size+2,0,none⟩) (fun _=>Or.inr rfl) _).set (a:=⟨w.heap.size+2,1,none⟩) (fun _=>Or.inr rfl) _).set (a:=⟨w.heap.size+2,2,none⟩) (fun _=>Or.inr rfl) _).set (a:=⟨w.heap.size+2,3,none⟩) (fun _=>Or.inr rfl) _)) HCh.out
   |true=>
    cases o with
    |none=>simp[jE] at hsb
    |some k0=>
     have hav:=HAv.out k0 rfl;subst hav
     have HCh:Hid (k0.changed=eL now f (some k0)):=by
      show k0.changed=eL now f (some k0);have he:f.ess=k0.f.ess:=by simpa[jE] using hsb
      unfold eL;exact(ai he).symm
     clear hsb FIN;go_upto_region 7 with fail;have HX6:Hid ((wc.setCell ⟨xb,2,none⟩ (.int .i64 (k0.changed:Nat))).heap[xb]?=some (.cells #[.iface fT fu,.slice ta ts.length tc,.int .i64 (k0.changed:Nat),.int .i64 0] 259)):=bU _ _ 2 _ _ _ HXd.out;have HR6:Hid ((wc.setCell ⟨xb,2,none⟩ (.int .i64 (k0.changed:Nat))).heap[w.heap.size+2]?=some (.cells #[.nilIface,.slice none 0 0,.int .i64 0,.int .i64 0] 259)):=(aM _ _ _ _ (fun e=>HXn.out.2 e.symm)).trans HRd.out;have HT6:Hid (aj (fun b=>b=xb∨b=w.heap.size+2) wc (wc.setCell ⟨xb,2,none⟩ (.int .i64 (k0.changed:Nat)))):=(aj.refl (fun b=>b=xb∨b=w.heap.size+2) wc).set (a:=⟨xb,2,none⟩) (fun _=>Or.inl rfl) _;clear x0 x1 x2 y2 x3 r0 f0 r1 f1 r2 f2 r3 f3 a0 a1 a2 a3;generalize wc.setCell ⟨xb,2,none⟩ (.int .i64 (k0.changed:Nat))=W6 at*;obtain⟨⟨x0,_⟩,⟨x1,_⟩,⟨x2,_⟩,⟨x3,_⟩⟩:=fd4 HX6.out;obtain⟨⟨r0,f0⟩,⟨r1,f1⟩,⟨r2,f2⟩,⟨r3,f3⟩⟩:=fd4 HR6.out;go_wp2;refine aJ (bJ results229 _ _ (w.heap.size+2) 259 _ (0,0) _ rfl (kH HR6.out _ _ _ _) underlying259 rfl (by kernel_rfl)) rfl ?_;exact iu.out _ k0.changed ((((HT6.out.set (a:=⟨w.heap.size+2,0,none⟩) (fun _=>Or.inr rfl) _).set (a:=⟨w.heap.size+2,1,none⟩) (fun _=>Or.inr rfl) _).set (a:=⟨w.heap.size+2,2,none⟩) (fun _=>Or.inr rfl) _).set (a:=⟨w.heap.size+2,3,none⟩) (fun _=>Or.inr rfl) _) HCh.out
end Pn
namespace Pn
open Mf Ed
variable{A A1 A2:Nat→Prop}{S:Nat→Shf}{w w' W W1 w2 wf:World}{db sb fb mb now:Nat}{cap:Int}{cs:List Int}{D D':List Kp}{L:List (Value×Value)}{r:Nat}{q:Qn}{k:Kp}{Wk:List Qn}
theorem Gn(a b c d:Value)(W:World):(Instr.field 259 (.agg #[a,b,c,d]) 2).run prog W=.ok c W:=by kernel_rfl
theorem eN(cs:List Int)(a b:List Qn):counted (counted cs a) b=counted cs (a++b):=by
 unfold counted;rw[lx]
def wz(S:Nat→Shf)(db sb fb mb now:Nat)(cap:Int)(L:List (Value×Value))(F:Find)(g:Nat)(P:Qn→Prop):Prop:=
 ∀(A:Nat→Prop)(q:Qn)(w:World)(cs:List Int)(D:List Kp),P q→q.kind≤4→QOk q→D.length+g≤N15→Eng A S w db sb fb mb now cap cs D L→
  Calls prog 192 #[.pointer (some ⟨db,0,none⟩),qv q] w fun e w'=>∃v k D' Wk,e=.returned v∧gW A w' v k∧F D q k D' Wk∧Eng A S w' db sb fb mb now cap (counted cs Wk) D' L∧aj (fun b=>b=db∨b=fb) w w'
theorem BI:wz S db sb fb mb now cap L (fun _ _ _ _ _=>False) 0 (fun _=>False):=fun _ _ _ _ _ h=>h.elim
variable{F:Find}{P:Qn→Prop}{g:Nat}
structure Hd(A:Nat→Prop)(S:Nat→Shf)(w:World)(db sb fb mb now:Nat)(cap:Int)(cs:List Int)(D:List Kp)(L:List (Value×Value))(F:Find)(k:Kp)(bx:Nat)(cells:Array Value)(wr:World)(i:Nat)(D':List Kp)(Wk:List Qn):Prop where
 e:Eng A S wr db sb fb mb now cap (counted cs Wk) D' L
 t:aj (fun b=>b=db∨b=fb) w wr
 c:Chk F (S now) k.checked D (k.ties.take i) D' Wk
 b:wr.heap[bx]?=some (.cells cells 259)
theorem Gp(hF:wz S db sb fb mb now cap L F g P)(hAd:Adds g F)(hD:D.length+10000*g≤N15)(kv:Value)(w:World)(h:Eng A S w db sb fb mb now cap cs D L)(hk:gW A w kv k)(hok:KOk k)(kz:∀q,Tie.ask q∈k.ties→P q∧q.kind≤4):
  Calls prog 228 #[.pointer (some ⟨db,0,none⟩),kv] w fun e w'=>∃b D' Wk,e=.returned (.bool b)∧mH F (S now) k.checked D k.ties D' Wk b∧Eng A S w' db sb fb mb now cap (counted cs Wk) D' L∧aj (fun b=>b=db∨b=fb) w w':=by
 obtain⟨fv,tv,rfl,hfv,htv⟩:=hk;obtain⟨fT,fu,rfl⟩:=hfv.iface;obtain⟨ta,tc,e1⟩:=htv.len;subst e1;have hn:=hok.n;have HOK:Hid (KOk k∧∀q,Tie.ask q∈k.ties→P q∧q.kind≤4):=⟨hok,kz⟩;have HTV:Hid (RdA A xE w (.slice ta k.ties.length tc) k.ties):=htv;have HE:Hid (Eng A S w db sb fb mb now cap cs D L):=h;have HF:Hid (wz S db sb fb mb now cap L F g P):=hF;have HAd:Hid (Adds g F∧D.length+10000*g≤N15):=⟨hAd,hD⟩;clear hfv htv h hF hok kz hAd hD;have HB1:Hid (Below w.heap.size w (w.alloc (.cells #[.iface fT fu,.slice ta k.ties.length tc,.int .i64 (k.changed:Nat),.int .i64 (k.checked:Nat)] 259))):=(ae _ _).alloc (ag _) _;have HD0:Hid (Hd A S w db sb fb mb now cap cs D L F k w.heap.size #[.iface fT fu,.slice ta k.ties.length tc,.int .i64 (k.changed:Nat),.int .i64 (k.checked:Nat)] (w.alloc (.cells #[.iface fT fu,.slice ta k.ties.length tc,.int .i64 (k.changed:Nat),.int .i64 (k.checked:Nat)] 259)) 0 D []):=⟨HE.out.below HB1.out,aj.of_below HB1.out,Chk.start,aB _ _⟩;have HXX:Hid (w.alloc (.cells #[.iface fT fu,.slice ta k.ties.length tc,.int .i64 (k.changed:Nat),.int .i64 (k.checked:Nat)] 259)=w.alloc (.cells #[.iface fT fu,.slice ta k.ties.length tc,.int .i64 (k.changed:Nat),.int .i64 (k.checked:Nat)] 259)):=rfl;obtain⟨_,⟨b1,_⟩,_,⟨b3,_⟩⟩:=fd4 HD0.out.b;go_enter func228,ntmps228;go_wp2
 go_step3
 go_wp2
 go_step3
 go_wp2;clear HXX;generalize w.alloc (.cells #[.iface fT fu,.slice ta k.ties.length tc,.int .i64 (k.changed:Nat),.int .i64 (k.checked:Nat)] 259)=W1 at*;generalize hm:k.ties.length=n at*;go_loopg [5,13] n (fun gg hv iv wr=>∃(i:Nat)(D':List Kp)(Wk:List Qn),i≤n∧n-i≤gg∧hv=.int .i64 i∧iv=.int .i64 i∧Hid (Hd A S w db sb fb mb now cap cs D L F k w.heap.size #[.iface fT fu,.slice ta n tc,.int .i64 (k.changed:Nat),.int .i64 (k.checked:Nat)] wr i D' Wk))
 case atStart=>exact⟨0,D,[],by omega,by omega,rfl,rfl,HD0⟩
 case round=>
  obtain⟨i,D',Wk,hi,hg,rfl,rfl,HDi⟩:=hrel;clear HD0;by_cases hlt:i<n
  ·have fQ:(i:Int)<(n:Int):=by omega
   have HTr:Hid (RdA A xE wr (.slice ta n tc) k.ties):=HTV.out.turn (HDi.out.t.mono (fun b _ e=>by
    rcases e with e|e
    ·rw[e];exact HE.out.aN.hd
    ·rw[e];exact HE.out.aN.hf))
   have hin:i<k.ties.length:=by omega
   have HTm:Hid (k.ties.take (i+1)=k.ties.take i++[k.ties[i]]∧k.ties=k.ties.take i++k.ties[i]::k.ties.drop (i+1)∧iN k.ties[i]∧k.ties[i]∈k.ties):=⟨by rw[oD,bg hin];rfl,by rw[←di hin,List.take_append_drop],HOK.out.1.t _ (cH hin),cH hin⟩;obtain⟨b,o,c,eg,hx⟩:=RdA.at (A:=A) (L:=k.ties) HTr.out (s:=1) (fun _=>rfl) (by decide) (ae _ _) i hin;rw[hm] at eg;injection eg with eg1 eg2 eg3;clear eg2;subst eg1;subst eg3;have y0:wr.cell? ⟨b,o+i,none⟩=some (pd k.ties[i]):=by have:=hx 0 _ rfl;simpa using this
   clear hx;generalize k.ties[i]=tie at*;have HW0:Hid (w.heap.size<wr.heap.size):=ah HDi.out.b;have HDb:Hid (db<w.heap.size∧fb<w.heap.size):=⟨HE.out.hA _ HE.out.aN.hd,HE.out.hA _ HE.out.aN.hf⟩;cases tie with
   |ask q=>
    obtain⟨qk,qp,qw⟩:=q;have y1:wr.cell? ⟨b,o+i,none⟩=some (.iface 201 (.agg #[.int .i64 (qk:Nat),.string qp,.string qw])):=y0;have hta:=N3 (.agg #[.int .i64 (qk:Nat),.string qp,.string qw]) wr;have htb:=Pt (.agg #[.int .i64 (qk:Nat),.string qp,.string qw]) wr;have HX1:Hid ((wr.alloc (.cells #[.int .i64 (qk:Nat),.string qp,.string qw] 201)).heap[wr.heap.size]?=some (.cells #[.int .i64 (qk:Nat),.string qp,.string qw] 201)):=aB _ _;have HBa:Hid (Below wr.heap.size wr (wr.alloc (.cells #[.int .i64 (qk:Nat),.string qp,.string qw] 201))):=(ae _ _).alloc (ag _) _;have HBx:Hid ((wr.alloc (.cells #[.int .i64 (qk:Nat),.string qp,.string qw] 201)).heap[w.heap.size]?=some (.cells #[.iface fT fu,.slice (some ⟨b,o,none⟩) n tc,.int .i64 (k.changed:Nat),.int .i64 (k.checked:Nat)] 259)):=(HBa.out.block _ HW0.out).trans HDi.out.b;have HEa:Hid (Eng A S (wr.alloc (.cells #[.int .i64 (qk:Nat),.string qp,.string qw] 201)) db sb fb mb now cap (counted cs Wk) D' L):=HDi.out.e.below HBa.out;clear y0;go_upto_region 11 with fail;clear y1 hta htb;generalize wr.alloc (.cells #[.int .i64 (qk:Nat),.string qp,.string qw] 201)=Wa at*
    have HDl:Hid (D'.length+g≤N15):=by
     have h1:=uL HAd.out.1 HDi.out.c;have h2:=HAd.out.2;rw[jZ,Nat.min_eq_left (by omega)] at h1;have h3:(i+1)*g≤10000*g:=d9 g (by omega);rw[fx] at h3;show D'.length+g≤N15;omega
    have KF:Hid (∀W,Below Wa.heap.size Wa W→Calls prog 192 #[.pointer (some ⟨db,0,none⟩),.agg #[.int .i64 (qk:Nat),.string qp,.string qw]] W fun e w'=>∃v kk D2 W2,e=.returned v∧gW A w' v kk∧F D' ⟨qk,qp,qw⟩ kk D2 W2∧Eng A S w' db sb fb mb now cap (counted (counted cs Wk) W2) D2 L∧aj (fun b=>b=db∨b=fb) Wa w'):=fun W hb=>(HF.out A ⟨qk,qp,qw⟩ W _ D' (HOK.out.2 _ HTm.out.2.2.2).1 (HOK.out.2 _ HTm.out.2.2.2).2 HTm.out.2.2.1 HDl.out (HEa.out.below hb)).mono (by
     rintro e w' ⟨v,kk,D2,W2,e1,e2,e3,e4,e5⟩;exact⟨v,kk,D2,W2,e1,e2,e3,e4,(aj.of_below hb).trans e5 (fun _ _ h=>h) (fun _ _ h=>h)⟩)
    have HPd:Hid (∀W,aj (fun b=>b=db∨b=fb) Wa W→(W.cell? ⟨wr.heap.size,0,none⟩=some (.int .i64 (qk:Nat))∧W.cell? ⟨wr.heap.size,1,none⟩=some (.string qp)∧W.cell? ⟨wr.heap.size,2,none⟩=some (.string qw))∧W.cell? ⟨w.heap.size,3,none⟩=some (.int .i64 (k.checked:Nat))):=fun W ht=>by
     have e1:=ht.block wr.heap.size (ah HX1.out) (fun e=>by have h1:=HDb.out;have h2:=HW0.out;rcases e with e|e<;>omega);have e2:=ht.block w.heap.size (ah HBx.out) (fun e=>by have h1:=HDb.out;rcases e with e|e<;>omega);obtain⟨⟨z0,_⟩,⟨z1,_⟩,⟨z2,_⟩⟩:=fd3 (e1.trans HX1.out);obtain⟨_,_,_,⟨z3,_⟩⟩:=fd4 (e2.trans HBx.out);exact⟨⟨z0,z1,z2⟩,z3⟩
    obtain⟨⟨p0,p1,p2⟩,p3⟩:=HPd.out Wa (aj.refl _ _);have hfq:=Gn
    go_region_held3 (fun w'=>(w'.cell? ⟨wr.heap.size,0,none⟩=some (.int .i64 (qk:Nat))∧w'.cell? ⟨wr.heap.size,1,none⟩=some (.string qp)∧w'.cell? ⟨wr.heap.size,2,none⟩=some (.string qw))∧w'.cell? ⟨w.heap.size,3,none⟩=some (.int .i64 (k.checked:Nat)))
     (first|exact⟨⟨p0,p1,p2⟩,p3⟩|exact HPd.out _ ht3)
     ((go_at_call 192;refine(KF.out _ ((ae _ _).drew)).mono ?_;rintro e w3 ⟨v,kk,D2,W2,rfl,hk3,hf3,he3,ht3⟩;obtain⟨fv3,kv3,e4,_,_⟩:=hk3;subst e4))
    have HB3:Hid (w3.heap[w.heap.size]?=some (.cells #[.iface fT fu,.slice (some ⟨b,o,none⟩) n tc,.int .i64 (k.changed:Nat),.int .i64 (k.checked:Nat)] 259)):=(ht3.block w.heap.size (ah HBx.out) (fun e=>by have h1:=HDb.out;rcases e with e|e<;>omega)).trans HBx.out;have HT3:Hid (aj (fun b=>b=db∨b=fb) w w3):=(HDi.out.t.more HBa.out).trans ht3 (fun _ _ e=>e) (fun _ _ e=>e);have HE3:Hid (Eng A S w3 db sb fb mb now cap (counted cs (Wk++W2)) D2 L):=by rw[←eN];exact he3
    have HF3:Hid (F D' ⟨qk,qp,qw⟩ kk D2 W2):=hf3;clear p0 p1 p2 p3 hf3 he3 ht3 hfq HPd KF HEa HX1;obtain⟨_,⟨c1,_⟩,_,_⟩:=fd4 HB3.out;by_cases hgt:k.checked<kk.changed
    ·have hgI:((k.checked:Nat):Int)<(kk.changed:Nat):=by omega
     have HR:Hid (mH F (S now) k.checked D k.ties D2 (Wk++W2) false):=mH.ask HTm.out.2.1 HDi.out.c HF3.out hgt;have hne:(((i:Nat):Int)==(n:Int))=false:=int_ne (by omega);go_wp2
     (try rw[eQ])
     go_ret;exact⟨false,D2,_,rfl,HR.out,HE3.out,HT3.out⟩
    ·have hgI:¬((k.checked:Nat):Int)<(kk.changed:Nat):=by omega
     have HN:Hid (Hd A S w db sb fb mb now cap cs D L F k w.heap.size #[.iface fT fu,.slice (some ⟨b,o,none⟩) n tc,.int .i64 (k.changed:Nat),.int .i64 (k.checked:Nat)] w3 (i+1) D2 (Wk++W2)):=⟨HE3.out,HT3.out,by rw[HTm.out.1];exact Chk.ask HDi.out.c HF3.out (by omega),HB3.out⟩;go_wp2;go_roundg (n-(i+1))
     case measure=>omega
     case rel=>exact⟨i+1,D2,_,by omega,by omega,by go_num,by go_num,HN⟩
   |rd p t=>
    have HPo:Hid (POk p):=HTm.out.2.2.1;have y1:wr.cell? ⟨b,o+i,none⟩=some (.iface 369 (.agg #[.int .i64 (p.1:Nat),.string p.2.1,.string p.2.2,.string (bE t),.bool t.isSome])):=by rw[y0,ED]
    clear y0;have KA0:Hid (∀W,Below wr.heap.size wr W→Calls prog 282 #[.pointer (some ⟨sb,0,none⟩),plV p] W fun e w'=>e=.returned (txV (S now p))∧Below W.heap.size W w'):=fun W hb=>IE (S now) p W (HDi.out.e.shelf.below hb) HDi.out.e.on HPo.out
    have HEq:Hid ((S now p=t)∨(S now p≠t∧bE (S now p)=bE t∧((S now p).isSome==t.isSome)=false)∨(S now p≠t∧bE (S now p)≠bE t)):=by
     show _∨_;by_cases h:S now p=t
     ·exact Or.inl h
     ·right
      by_cases h2:bE (S now p)=bE t
      ·left
       refine⟨h,h2,?_⟩;cases e1:S now p<;>cases e2:t
       ·rw[e1,e2] at h;exact absurd rfl h
       ·rfl
       ·rfl
       ·rw[e1,e2] at h h2;exact absurd (bZ some h2) h
      ·exact Or.inr ⟨h,h2⟩
    obtain⟨pk,pp,pv⟩:=p;have hta:=Pr (.agg #[.int .i64 (pk:Nat),.string pp,.string pv,.string (bE t),.bool t.isSome]) wr;have HX1:Hid ((wr.alloc (.cells #[.int .i64 (pk:Nat),.string pp,.string pv,.string (bE t),.bool t.isSome] 369)).heap[wr.heap.size]?=some (.cells #[.int .i64 (pk:Nat),.string pp,.string pv,.string (bE t),.bool t.isSome] 369)):=aB _ _;have HBa:Hid (Below wr.heap.size wr (wr.alloc (.cells #[.int .i64 (pk:Nat),.string pp,.string pv,.string (bE t),.bool t.isSome] 369))):=(ae _ _).alloc (ag _) _;have HBx:Hid ((wr.alloc (.cells #[.int .i64 (pk:Nat),.string pp,.string pv,.string (bE t),.bool t.isSome] 369)).heap[w.heap.size]?=some (.cells #[.iface fT fu,.slice (some ⟨b,o,none⟩) n tc,.int .i64 (k.changed:Nat),.int .i64 (k.checked:Nat)] 259)):=(HBa.out.block _ HW0.out).trans HDi.out.b;have HEa:Hid (Eng A S (wr.alloc (.cells #[.int .i64 (pk:Nat),.string pp,.string pv,.string (bE t),.bool t.isSome] 369)) db sb fb mb now cap (counted cs Wk) D' L):=HDi.out.e.below HBa.out
    have KA:Hid (∀W,Below (wr.alloc (.cells #[.int .i64 (pk:Nat),.string pp,.string pv,.string (bE t),.bool t.isSome] 369)).heap.size (wr.alloc (.cells #[.int .i64 (pk:Nat),.string pp,.string pv,.string (bE t),.bool t.isSome] 369)) W→Calls prog 282 #[.pointer (some ⟨sb,0,none⟩),.agg #[.int .i64 (pk:Nat),.string pp,.string pv]] W fun e w'=>e=.returned (.agg #[.string (bE (S now (pk,pp,pv))),.bool (S now (pk,pp,pv)).isSome])∧Below W.heap.size W w'):=fun W hb=>KA0.out W (HBa.out.trans (hb.mono HBa.out.size))
    clear KA0;have y2:wr.cell? ⟨b,o+i,none⟩=some (.iface 369 (.agg #[.int .i64 (pk:Nat),.string pp,.string pv,.string (bE t),.bool t.isSome])):=y1;clear y1;go_upto_region 8 with fail;clear y2 hta;generalize wr.alloc (.cells #[.int .i64 (pk:Nat),.string pp,.string pv,.string (bE t),.bool t.isSome] 369)=Wa at*
    have HPd:Hid (∀W,Below Wa.heap.size Wa W→W.cell? ⟨db,0,none⟩=some (.pointer (some ⟨sb,0,none⟩))∧(W.cell? ⟨wr.heap.size,0,none⟩=some (.int .i64 (pk:Nat))∧W.cell? ⟨wr.heap.size,1,none⟩=some (.string pp)∧W.cell? ⟨wr.heap.size,2,none⟩=some (.string pv)∧W.cell? ⟨wr.heap.size,3,none⟩=some (.string (bE t))∧W.cell? ⟨wr.heap.size,4,none⟩=some (.bool t.isSome))):=fun W hb=>by
     obtain⟨⟨z0,_⟩,⟨z1,_⟩,⟨z2,_⟩,⟨z3,_⟩,⟨z4,_⟩⟩:=fd5 ((hb.block _ (ah HX1.out)).trans HX1.out);exact⟨(HEa.out.aN.below hb).f0.1,z0,z1,z2,z3,z4⟩
    obtain⟨p0,p1,p2,p3,p4,p5⟩:=HPd.out Wa (ae _ _);have Px:Hid (S now (pk,pp,pv)≠t→True):=fun _=>trivial
    rcases HEq.out with heq|⟨Ja,heb,hib⟩|⟨Ja,heb⟩
    ·have Q8:Hid (S now (pk,pp,pv)=t):=heq
     rw[heq] at KA;clear heq HEq;generalize bE t=tb0 at*;generalize t.isSome=ti0 at*;have q1:(tb0.toList==tb0.toList)=true:=by simp
     have q2:(ti0==ti0)=true:=by simp
     go_region_held3 (fun w'=>w'.cell? ⟨db,0,none⟩=some (.pointer (some ⟨sb,0,none⟩))∧(w'.cell? ⟨wr.heap.size,0,none⟩=some (.int .i64 (pk:Nat))∧w'.cell? ⟨wr.heap.size,1,none⟩=some (.string pp)∧w'.cell? ⟨wr.heap.size,2,none⟩=some (.string pv)∧w'.cell? ⟨wr.heap.size,3,none⟩=some (.string tb0)∧w'.cell? ⟨wr.heap.size,4,none⟩=some (.bool ti0)))
      (first|exact⟨p0,p1,p2,p3,p4,p5⟩|exact HPd.out _ hb6)
      ((go_at_call 282;refine(KA.out _ ((ae _ _).drew)).mono ?_;rintro e w6 ⟨rfl,BJ⟩;have hb6:Below Wa.heap.size Wa w6:=((ae Wa.heap.size Wa).drew).trans BJ;clear BJ))
     have HB6:Hid (w6.heap[w.heap.size]?=some (.cells #[.iface fT fu,.slice (some ⟨b,o,none⟩) n tc,.int .i64 (k.changed:Nat),.int .i64 (k.checked:Nat)] 259)):=(hb6.block _ (ah HBx.out)).trans HBx.out;have HT6:Hid (aj (fun b=>b=db∨b=fb) w w6):=(HDi.out.t.more HBa.out).more hb6;have HE6:Hid (Eng A S w6 db sb fb mb now cap (counted cs Wk) D' L):=HEa.out.below hb6;clear p0 p1 p2 p3 p4 p5 hb6 HPd KA;obtain⟨_,⟨c1,_⟩,_,_⟩:=fd4 HB6.out;have HN:Hid (Hd A S w db sb fb mb now cap cs D L F k w.heap.size #[.iface fT fu,.slice (some ⟨b,o,none⟩) n tc,.int .i64 (k.changed:Nat),.int .i64 (k.checked:Nat)] w6 (i+1) D' Wk):=⟨HE6.out,HT6.out,by rw[HTm.out.1];exact Chk.rd HDi.out.c Q8.out,HB6.out⟩;go_wp2;go_roundg (n-(i+1))
     case measure=>omega
     case rel=>exact⟨i+1,D',_,by omega,by omega,by go_num,by go_num,HN⟩
    ·have HNe:Hid (S now (pk,pp,pv)≠t):=Ja
     clear Ja HEq Px;rw[heb] at KA;clear heb;generalize bE t=tb0 at*;generalize t.isSome=ti0 at*;generalize (S now (pk,pp,pv)).isSome=si0 at*;have q1:(tb0.toList==tb0.toList)=true:=by simp
     go_region_held3 (fun w'=>w'.cell? ⟨db,0,none⟩=some (.pointer (some ⟨sb,0,none⟩))∧(w'.cell? ⟨wr.heap.size,0,none⟩=some (.int .i64 (pk:Nat))∧w'.cell? ⟨wr.heap.size,1,none⟩=some (.string pp)∧w'.cell? ⟨wr.heap.size,2,none⟩=some (.string pv)∧w'.cell? ⟨wr.heap.size,3,none⟩=some (.string tb0)∧w'.cell? ⟨wr.heap.size,4,none⟩=some (.bool ti0)))
      (first|exact⟨p0,p1,p2,p3,p4,p5⟩|exact HPd.out _ hb6)
      ((go_at_call 282;refine(KA.out _ ((ae _ _).drew)).mono ?_;rintro e w6 ⟨rfl,BJ⟩;have hb6:Below Wa.heap.size Wa w6:=((ae Wa.heap.size Wa).drew).trans BJ;clear BJ))
     have HB6:Hid (w6.heap[w.heap.size]?=some (.cells #[.iface fT fu,.slice (some ⟨b,o,none⟩) n tc,.int .i64 (k.changed:Nat),.int .i64 (k.checked:Nat)] 259)):=(hb6.block _ (ah HBx.out)).trans HBx.out;have HT6:Hid (aj (fun b=>b=db∨b=fb) w w6):=(HDi.out.t.more HBa.out).more hb6;have HE6:Hid (Eng A S w6 db sb fb mb now cap (counted cs Wk) D' L):=HEa.out.below hb6;clear p0 p1 p2 p3 p4 p5 hb6 HPd KA;obtain⟨_,⟨c1,_⟩,_,_⟩:=fd4 HB6.out;have HR:Hid (mH F (S now) k.checked D k.ties D' Wk false):=mH.rd HTm.out.2.1 HDi.out.c HNe.out;have hne:(((i:Nat):Int)==(n:Int))=false:=int_ne (by omega);go_wp2
     (try rw[eQ])
     go_ret;exact⟨false,D',_,rfl,HR.out,HE6.out,HT6.out⟩
    ·have HNe:Hid (S now (pk,pp,pv)≠t):=Ja
     have q1:=Rn.dn heb;clear Ja HEq Px heb;generalize bE t=tb0 at*;generalize t.isSome=ti0 at*;generalize (S now (pk,pp,pv)).isSome=si0 at*;generalize bE (S now (pk,pp,pv))=sb0 at*
     go_region_held3 (fun w'=>w'.cell? ⟨db,0,none⟩=some (.pointer (some ⟨sb,0,none⟩))∧(w'.cell? ⟨wr.heap.size,0,none⟩=some (.int .i64 (pk:Nat))∧w'.cell? ⟨wr.heap.size,1,none⟩=some (.string pp)∧w'.cell? ⟨wr.heap.size,2,none⟩=some (.string pv)∧w'.cell? ⟨wr.heap.size,3,none⟩=some (.string tb0)∧w'.cell? ⟨wr.heap.size,4,none⟩=some (.bool ti0)))
      (first|exact⟨p0,p1,p2,p3,p4,p5⟩|exact HPd.out _ hb6)
      ((go_at_call 282;refine(KA.out _ ((ae _ _).drew)).mono ?_;rintro e w6 ⟨rfl,BJ⟩;have hb6:Below Wa.heap.size Wa w6:=((ae Wa.heap.size Wa).drew).trans BJ;clear BJ))
     have HB6:Hid (w6.heap[w.heap.size]?=some (.cells #[.iface fT fu,.slice (some ⟨b,o,none⟩) n tc,.int .i64 (k.changed:Nat),.int .i64 (k.checked:Nat)] 259)):=(hb6.block _ (ah HBx.out)).trans HBx.out;have HT6:Hid (aj (fun b=>b=db∨b=fb) w w6):=(HDi.out.t.more HBa.out).more hb6;have HE6:Hid (Eng A S w6 db sb fb mb now cap (counted cs Wk) D' L):=HEa.out.below hb6;clear p0 p1 p2 p3 p4 p5 hb6 HPd KA;obtain⟨_,⟨c1,_⟩,_,_⟩:=fd4 HB6.out;have HR:Hid (mH F (S now) k.checked D k.ties D' Wk false):=mH.rd HTm.out.2.1 HDi.out.c HNe.out;have hne:(((i:Nat):Int)==(n:Int))=false:=int_ne (by omega);go_wp2
     (try rw[eQ])
     go_ret;exact⟨false,D',_,rfl,HR.out,HE6.out,HT6.out⟩
  ·have fQ:((i:Int)<(n:Int))=False:=by simp;omega
   have hin:i=n:=by omega
   have HR:Hid (mH F (S now) k.checked D k.ties D' Wk true):=by
    have h:=HDi.out.c;rw[hin,pJ (by omega)] at h;exact mH.yes h
   have HEn:Hid (Eng A S wr db sb fb mb now cap (counted cs Wk) D' L∧aj (fun b=>b=db∨b=fb) w wr):=⟨HDi.out.e,HDi.out.t⟩;obtain⟨_,⟨c1,_⟩,_,_⟩:=fd4 HDi.out.b;rw[hin];have hqq:(((n:Nat):Int)==(n:Int))=true:=by simp
   clear hin;go_wp2
   (try rw[eQ])
   go_ret;exact⟨true,D',Wk,rfl,HR.out,HEn.out.1,HEn.out.2⟩
end Pn
namespace Pn
open Mf Ed
variable{A A1 A2:Nat→Prop}{S:Nat→Shf}{w w' W W1 w2 wf:World}{db sb fb mb now:Nat}{cap:Int}{cs:List Int}{D D':List Kp}{L L':List (Value×Value)}{q:Qn}{k:Kp}
theorem Oe:(201:TypeId)<prog.types.size:=ik (by kernel_rfl)
theorem LR:(match prog.underlying 201 with|some (.array _ _)|some (.struct _)=>true|_=>false)=true:=by kernel_rfl
theorem LS:prog.keyTypeAt 3 201=true:=by kernel_rfl
theorem Jb:prog.keyType 201=true:=by kernel_rfl
theorem BK:prog.cellsOf 201=3:=by kernel_rfl
theorem Jc:prog.cellsOf 199=1:=by kernel_rfl
theorem Og:WideMaps.KeyLaw prog 201:=deep_law_laid AY (m:=3) (Nat.le_of_ble_eq_true rfl) Oe LS LR
theorem oh:Maps.Keyed prog 201:=Maps.Keyed.of_law Og
theorem Dv(d:Nat)(k:Int)(h:(Lit.int .i64 k).wf=true):prog.keyLits (d+1) 199 [.int .i64 k]=some [.int .i64 k]:=by
 unfold Program.keyLits;rw[underlying199];show(if IntKind.i64=IntKind.i64∧(Lit.int .i64 k).wf=true then some [Lit.int .i64 k] else none)=_;rw[ai ⟨rfl,h⟩]
theorem Py(k:Int)(p v:ByteArray)(hk:(Lit.int .i64 k).wf=true)(hp:p.size≤maxLen)(hv:v.size≤maxLen):∃l,keyOf prog 201 (.agg #[.int .i64 k,.string p,.string v])=some l:=by
 have h1:prog.keyLits (prog.types.size+1) 201 [.int .i64 k,.string p,.string v]=some [.int .i64 k,.string p.data.toList,.string v.data.toList]:=by
  rw[Eu];unfold Program.keyLits;rw[underlying201];simp only[BK,bS,il];rw[ai ⟨trivial,by kernel_rfl⟩];simp only[List.mapM_cons,List.mapM_nil,Ev,Jc,List.drop,List.take,Dv 465 k hk,oQ 465 p hp,oQ 465 v hv]
  rfl
 refine⟨.string (keyBytes [.int .i64 k,.string p.data.toList,.string v.data.toList]),?_⟩;unfold keyOf;rw[underlying201];show(if (prog.keyType 201&&(Value.agg #[.int .i64 k,.string p,.string v]).formed prog 201)=true then (prog.keyLits (prog.types.size+1) 201 [.int .i64 k,.string p,.string v]).map (fun ls=>_) else _)=_;rw[Jb,h1];rw[ai (by simp[Value.formed,underlying201,BK])]
 rfl
theorem QOk.key(h:QOk q)(hk:q.kind≤4):∃l,keyOf prog 201 (qv q)=some l:=Py _ _ _ (Bt _ hk) (by have:=h.p;unfold N48 at this;unfold maxLen;omega) (by have:=h.v;unfold N48 at this;unfold maxLen;omega)
theorem EI(w:World):(zeroValue 259).run prog w=.ok (.agg #[.nilIface,.slice none 0 0,.int .i64 0,.int .i64 0]) w:=by kernel_rfl
theorem Jd{a b:Qn}(h:qv a=qv b):a=b:=by
 obtain⟨k1,p1,v1⟩:=a;obtain⟨k2,p2,v2⟩:=b;injection h with h;simp at h;obtain⟨h1,h2,h3⟩:=h;have:k1=k2:=by omega
 subst this;subst h2;subst h3
 rfl
theorem dM.get:∀{L:List (Value×Value)} {D:List Kp},dM A w L D→(∀x∈L,∃k∈D,x.1=qv k.q∧gW A w x.2 k)∧(∀k∈D,∃x∈L,x.1=qv k.q∧gW A w x.2 k)
 |[],[],_=>⟨fun x h=>absurd h cW,fun k h=>absurd h cW⟩
 |x::L,k::D,⟨h,h1,h2⟩=>by
  have ih:=dM.get h2;refine⟨fun y hy=>?_,fun j hj=>?_⟩
  ·rcases aY.1 hy with e|e
   ·exact⟨k,bQ ..,by rw[e];exact h,by rw[e];exact h1⟩
   ·obtain⟨j,hj,e1⟩:=ih.1 y e
    exact⟨j,cV _ hj,e1⟩
  ·rcases aY.1 hj with e|e
   ·exact⟨x,bQ ..,by rw[e];exact h,by rw[e];exact h1⟩
   ·obtain⟨y,hy,e1⟩:=ih.2 j e
    exact⟨y,cV _ hy,e1⟩
 |[],_::_,h=>h.elim
 |_::_,[],h=>h.elim
open Classical in
theorem dM.filter(q:Qn):∀{L:List (Value×Value)} {D:List Kp},dM A w L D→dM A w (L.filter fun x=>decide (x.1≠qv q)) (D.filter fun k=>decide (k.q≠q))
 |[],[],_=>trivial
 |x::L,k::D,⟨h,h1,h2⟩=>by
  have ih:=dM.filter q h2;by_cases e:k.q=q
  ·have ex:x.1=qv q:=by rw[h,e]
   rw[mN (by simp[ex]),mN (by simp[e])];exact ih
  ·have ex:x.1≠qv q:=fun e2=>e (Jd (h.symm.trans e2))
   rw[jY (by simp[ex]),jY (by simp[e])];exact⟨h,h1,ih⟩
 |[],_::_,h=>h.elim
 |_::_,[],h=>h.elim
theorem yC(hm:Mp.MapAt prog 201 w fb L)(he:dM A w L D)(hq:QOk q)(hk:q.kind≤4):
  (∃k v,k∈D∧k.q=q∧gW A w v k∧(qv q,v)∈L∧∀W,Mp.MapAt prog 201 W fb L→(Instr.lookup 192 (.map (some fb)) (qv q) true).run prog W=.ok (.tuple #[v,.bool true]) W)∨
  ((∀k∈D,k.q≠q)∧(∀x∈L,x.1≠qv q)∧∀W,Mp.MapAt prog 201 W fb L→(Instr.lookup 192 (.map (some fb)) (qv q) true).run prog W=.ok (.tuple #[.agg #[.nilIface,.slice none 0 0,.int .i64 0,.int .i64 0],.bool false]) W):=by
 obtain⟨kl,hkey⟩:=hq.key hk;have hg:=he.get;by_cases h:∃k∈D,k.q=q
 ·obtain⟨k,hkD,hkq⟩:=h
  obtain⟨x,hx,e1,e2⟩:=hg.2 k hkD
  left
  have hxm:(qv q,x.2)∈L:=by rw[←hkq,←e1];exact hx
  exact⟨k,x.2,hkD,hkq,e2,hxm,fun W hW=>hW.oP true oh underlying192 (EI W) hkey hxm⟩
 ·right
  have hn:∀x∈L,x.1≠qv q:=fun x hx e=>by
   obtain⟨k,hkD,e1,_⟩:=hg.1 x hx;exact h ⟨k,hkD,Jd (e1.symm.trans e)⟩
  exact⟨fun k hkD e=>h ⟨k,hkD,e⟩,hn,fun W hW=>hW.oO true oh underlying192 (EI W) hkey hn⟩
theorem oo{α:Type}{p:α→Bool}{l:List α}(h:∀x∈l,p x=true):l.filter p=l:=List.filter_eq_self.2 h
open Classical in
theorem wC{key old:Value}:∀{l:List (Value×Value)},l.Pairwise (fun p q=>p.1≠q.1)→(key,old)∈l→l.Perm ((key,old)::l.filter fun x=>decide (x.1≠key))
 |x::l,hp,hm=>by
  rw[fH] at hp;rcases aY.1 hm with e|e
  ·rw[←e]
   rw[mN (by simp),oo (fun y hy=>by
    have:=hp.1 y hy;rw[←e] at this;simpa using fun e2=>this e2.symm)]
  ·have hx:x.1≠key:=fun e2=>hp.1 _ e e2
   rw[jY (by simp[hx])];exact((wC hp.2 e).cons x).trans (List.Perm.swap ..)
open Classical in
theorem dz.stored(h:dz A w db sb fb cap cs D)(hq:QOk q)(hk:q.kind≤4)(hl:D.length<9223372036854775807){v:Value}{kn:Kp}(hkn:gW A w v kn)(hkq:kn.q=q):
  ∃w',(Instr.mapUpdate 192 (.map (some fb)) (qv q) v).run prog w=.ok () w'∧dz A w' db sb fb cap cs (iV D kn)∧aj (fun b=>b=fb) w w':=by
 obtain⟨kl,hkey⟩:=hq.key hk;obtain⟨L,hm,he⟩:=h.map;have Q9:=he.filter q
 have fin:∀w1,w.mapTurned w1 fb→Mp.MapAt prog 201 w1 fb ((qv q,v)::L.filter fun x=>decide (x.1≠qv q))→dz A w1 db sb fb cap cs (iV D kn)∧aj (fun b=>b=fb) w w1:=fun w1 ht hm1=>by
  have tb:=gU ht;have e1:=tb.block db h.f0.lt h.ne;have hT:aj A w w1:=tb.mono (fun b _ e=>by rw[e];exact h.hf);refine⟨⟨h.f0.of_block e1,h.f1.of_block e1,h.f2.of_block e1,fun j c hj=>(h.cn j c hj).of_block e1,⟨_,hm1,?_⟩,h.ne,h.hd,h.hf⟩,tb⟩;unfold iV;rw[hkq];exact⟨by rw[hkq],hkn.turn hT,Q9.turn hT⟩
 rcases yC hm he hq hk with⟨k,v0,_,_,_,hmem,_⟩|⟨_,hn,_⟩
 ·obtain⟨w1,hrun,ht,hm1⟩:=hm.Et oh underlying192 hkey (wC hm.apart hmem) v
  exact⟨w1,hrun,fin w1 ht hm1⟩
 ·obtain⟨w1,hrun,ht,hm1⟩:=hm.Es oh underlying192 (by rw[he.len];unfold maxLen;omega) hkey hn v
  have e:(L.filter fun x=>decide (x.1≠qv q))=L:=oo (fun x hx=>by simpa using hn x hx);exact⟨w1,hrun,fin w1 ht (by rw[e];exact hm1)⟩
