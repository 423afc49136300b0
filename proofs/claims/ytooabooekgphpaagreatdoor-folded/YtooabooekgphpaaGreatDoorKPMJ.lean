import Derived.Test.YtooabooekgphpaaGreatDoorKPM21
set_option linter.all false
open Go.Proofs.Tryz
set_option maxRecDepth 100000
set_option maxHeartbeats 20000000
namespace Go.Proofs.YtooabooekgphpaaGreatDoor
open Go.RowKit
namespace Pn
open Mf Ed
variable{A A1 A2:Nat->Prop}{S:Nat->Shf}{w w' W W1 w2 wf:zW}{Z V Y mb G:Nat}{cap:Int}{T E:List Int}{D O:List Kp}{L L':List (zV×zV)}{B U:Nat}{z I:zV}{ts J:List Tie}{q:Qn}{k:Kp}{F:Find}{g:Nat}
def gf(A:Nat->Prop)(S:Nat->Shf)(w:zW)(B U Z V Y mb G:Nat)(cap:Int)(T:List Int)(D:List Kp)(L:List (zV×zV))(F:Find)(q:Qn)(fv:zV)(w':zW):Prop:=
 ∃A2 I f O d ts,fP A2 w' fv f/\Pre F (S G) D (df q) O (.ret f) ts d/\dH A S w B U Z V Y mb G cap L (zN) w' A2 (counted T d) O I ts/\(kP f=q.kind/\yV f/\Small f/\(∀t∈ts,jr t)/\ts.length<=10000)
theorem dH.under(hb:zB w W1)(hk:dH A S W1 B U Z V Y mb G cap L z w2 A2 E O I J):dH A S w B U Z V Y mb G cap L z w2 A2 E O I J:=by
 have hs:=hb.size;refine⟨hk.t,(ai.of_below hb).trans hk.f (fun _ _ e=>e) (fun _ _ e=>e),hk.sub,fun b e=>?_,fun b e=>?_⟩
 ·rcases hk.new b e with e|e
  ·exact oE e
  exact oS (by omega)
 rcases hk.own b e with e|e
 ·exact oE e
 exact oS (by omega)
theorem dH.over(hk:dH A S w B U Z V Y mb G cap L z w2 A2 E O I J)(hb:zB w2 W1):dH A S w B U Z V Y mb G cap L z W1 A2 E O I J:=
 ⟨hk.t.below hb,hk.f.trans (ai.of_below hb) (fun _ _ e=>e) (fun _ _ e=>e),hk.sub,hk.new,hk.own⟩
theorem gf.under{fv:zV}(hb:zB w W1)(hk:gf A S W1 B U Z V Y mb G cap T D L F q fv w2):gf A S w B U Z V Y mb G cap T D L F q fv w2:=by
 obtain⟨A2,I,f,O,d,ts,h1,h2,h3,h4⟩:=hk;exact⟨A2,I,f,O,d,ts,h1,h2,h3.under hb,h4⟩
def Gp(S:Nat->Shf)(Z V Y mb G:Nat)(cap:Int)(L:List (zV×zV))(F:Find)(g:Nat):Prop:=
 ∀(A:Nat->Prop)(w:zW)(T:List Int)(D:List Kp)(B U:Nat)(m1 m2:zA),m1.size<=N48->m2.size<=N48->D.length+10000*g<=N15->Tsk A S w B U Z V Y mb G cap T D L (zN) []->
  zC 144 #[zP U,.agg #[tS m1,tS m2]] w fun e w'=>∃v,e=.returned v/\gf A S w B U Z V Y mb G cap T D L F ⟨2,m1,m2⟩ (.iface 213 v) w'
def Lg(S:Nat->Shf)(Z V Y mb G:Nat)(cap:Int)(L:List (zV×zV))(F:Find)(g:Nat):Prop:=
 ∀(A:Nat->Prop)(w:zW)(T:List Int)(D:List Kp)(B U:Nat),D.length+10000*g<=N15->Tsk A S w B U Z V Y mb G cap T D L (zN) []->
  zC 145 #[zP U] w fun e w'=>∃v,e=.returned v/\gf A S w B U Z V Y mb G cap T D L F ⟨3,e0,e0⟩ (.iface 89 v) w'
def OC(S:Nat->Shf)(Z V Y mb G:Nat)(cap:Int)(L:List (zV×zV))(F:Find)(g:Nat):Prop:=
 ∀(A:Nat->Prop)(w:zW)(T:List Int)(D:List Kp)(B U:Nat),D.length+10000*g<=N15->Tsk A S w B U Z V Y mb G cap T D L (zN) []->
  zC 146 #[zP U] w fun e w'=>∃v,e=.returned v/\gf A S w B U Z V Y mb G cap T D L F ⟨4,e0,e0⟩ (.iface 92 v) w'
theorem xQ(t:Option zA):kP (eN t)=0/\yV (eN t)/\Small (eN t):=by
 have a0:∀n,yV (.man n ⟨e0,[],[],[]⟩)/\Small (.man n ⟨e0,[],[],[]⟩):=fun n=>⟨⟨aL _,(fun x hx=>by simp at hx),(fun x hx=>by simp at hx),(fun x hx=>by simp at hx)⟩,aL _,aL _,aL _⟩
 cases t with
 |none=>exact⟨rfl,a0 _⟩
 |some s=>
  by_cases h:bg s=[]
  ·rw[sF h]
   obtain⟨h1,h2,h3,h4⟩:=xC h;refine⟨rfl,⟨h1.p,fun x hx=>h1.R x ((Ss.cy _).mem_iff.1 hx),fun x hx=>h1.X x ((Ss.cy _).mem_iff.1 hx),fun x hx=>h1.S x ((Ss.cy _).mem_iff.1 hx)⟩,?_,?_,?_⟩
   ·show(Ss.aN _ _).length<=_;rw[Ss.cu];omega
   ·show(Ss.aN _ _).length<=_;rw[Ss.cu];omega
   show(Ss.aN _ _).length<=_;rw[Ss.cu];omega
  have e:eN (some s)=.man 3 ⟨e0,[],[],[]⟩:=ag h
  rw[e];exact⟨rfl,a0 _⟩
theorem xR(t:Option zA):kP (idxOf t)=1/\yV (idxOf t)/\Small (idxOf t):=by
 cases t with
 |none=>exact⟨rfl,(fun x hx=>by simp at hx),aL _⟩
 |some s=>
  by_cases h:dM s=[]
  ·have e:idxOf (some s)=.idx 0 (fM s):=aj h
   rw[e];have:=Ib h;exact⟨rfl,this.1,by have:=this.2;show _<=_;omega⟩
  have e:idxOf (some s)=.idx 6 []:=ag h
  rw[e];exact⟨rfl,(fun x hx=>by simp at hx),aL _⟩
theorem lh(hk:q.kind<=4)(hq:QOk q)(h2:q.kind=2->Gp S Z V Y mb G cap L F g)(h3:q.kind=3->Lg S Z V Y mb G cap L F g)(h4:q.kind=4->OC S Z V Y mb G cap L F g):uv S Z V Y mb G cap L F g q:=by
 intro A w T D B U hD h
 suffices hc:zC 128 #[zP U,qv q] w fun e w'=>∃fv,e=.returned fv/\gf A S w B U Z V Y mb G cap T D L F q fv w' by
  refine hc.mono ?_;rintro e w' ⟨fv,rfl,A2,I,f,O,d,ts,h1,h2,h3,h4⟩;exact⟨A2,I,fv,f,O,d,ts,rfl,h1,h2,h3,h4⟩
 obtain⟨qk,qp,qw⟩:=q;show zC 128 #[zP U,.agg #[zI (qk:Nat),tS qp,tS qw]] w _;have a0:Hid (zB w (w.alloc (.cells #[zI (qk:Nat),tS qp,tS qw] 82))):=(ae _ _).alloc (af _) _;have hX:(w.alloc (.cells #[zI (qk:Nat),tS qp,tS qw] 82)).heap[w.heap.size]?=some (.cells #[zI (qk:Nat),tS qp,tS qw] 82):=ay _ _;obtain⟨⟨c0,_⟩,⟨c1,_⟩,⟨c2,_⟩⟩:=fd3 hX;have HT:Hid (Tsk A S (w.alloc (.cells #[zI (qk:Nat),tS qp,tS qw] 82)) B U Z V Y mb G cap T D L (zN) []):=h.below a0.o;have a1:qk<=4:=hk;clear hX h;rcases(by omega:qk=0\/qk=1\/qk=2\/qk=3\/qk=4) with rfl|rfl|rfl|rfl|rfl
 ·have HQ:Hid (QOk ⟨0,qp,qw⟩):=hq
  have HP:Hid (POk (0,qp,qw)):=⟨by show 0<=4;omega,by have h1:=hq.p;have h2:qp.size<=2000:=h1;show qp.size<=_;omega,by have h1:=hq.v;have h2:qw.size<=2000:=h1;show qw.size<=_;omega⟩;have kr:=xN (0,qp,qw) HP.o _ HT.o (by show 0<=_;omega);clear hk hq h2 h3 h4 a1;go_enter func128,ntmps128
  go_wp2_with (go_at_call 142;fail)
  go_at_call 142;refine kr.mono ?_;rintro e w2 ⟨A2,I,rfl,hw⟩;have HW:Hid (dH A S (w.alloc (.cells #[zI ((0:Nat):Int),tS qp,tS qw] 82)) B U Z V Y mb G cap L (zN) w2 A2 T D I ([]++[.rd (0,qp,qw) (S G (0,qp,qw))])):=hw;have km:=ui (A:=A2) (S G (0,qp,qw)) w2 hw.t.eng.ml hw.t.eng.hA;clear hw kr
  go_wp2_with (go_at_call 141;fail)
  go_at_call 141;refine km.mono ?_;rintro e w3 ⟨v,rfl,hf,hb⟩;have HF:Hid (fP A2 w3 (.iface 208 v) (eN (S G (0,qp,qw)))/\zB w2 w3):=⟨hf,hb⟩;clear hf hb km;go_wp2
  (try rw[fI])
  go_ret;refine⟨_,rfl,gf.under (W1:=w.alloc (.cells #[zI ((0:Nat):Int),tS qp,tS qw] 82)) (q:=⟨0,qp,qw⟩) a0.o ⟨A2,I,eN (S G (0,qp,qw)),D,[],[.rd (0,qp,qw) (S G (0,qp,qw))],HF.o.1,Pre.rd Pre.start,HW.o.over HF.o.2,(xQ _).1,(xQ _).2.1,(xQ _).2.2,fun t ht=>?_,by show 1<=_;omega⟩⟩;have e:t=.rd (0,qp,qw) (S G (0,qp,qw)):=by simpa using ht
  rw[e];exact HP.o
 ·have HQ:Hid (QOk ⟨1,qp,qw⟩):=hq
  have HP:Hid (POk (1,qp,e0)):=⟨by show 1<=4;omega,by have h1:=hq.p;have h2:qp.size<=2000:=h1;show qp.size<=_;omega,aL _⟩;have kr:=xN (1,qp,e0) HP.o _ HT.o (by show 0<=_;omega);clear hk hq h2 h3 h4 a1;go_enter func128,ntmps128
  go_wp2_with (go_at_call 142;fail)
  go_at_call 142;refine kr.mono ?_;rintro e w2 ⟨A2,I,rfl,hw⟩;have HW:Hid (dH A S (w.alloc (.cells #[zI ((1:Nat):Int),tS qp,tS qw] 82)) B U Z V Y mb G cap L (zN) w2 A2 T D I ([]++[.rd (1,qp,e0) (S G (1,qp,e0))])):=hw;have km:=yT (A:=A2) (S G (1,qp,e0)) w2 hw.t.eng.ml hw.t.eng.hA;clear hw kr
  go_wp2_with (go_at_call 143;fail)
  go_at_call 143;refine km.mono ?_;rintro e w3 ⟨v,rfl,hf,hb⟩;have HF:Hid (fP A2 w3 (.iface 211 v) (idxOf (S G (1,qp,e0)))/\zB w2 w3):=⟨hf,hb⟩;clear hf hb km;go_wp2
  (try rw[fI])
  go_ret;refine⟨_,rfl,gf.under (W1:=w.alloc (.cells #[zI ((1:Nat):Int),tS qp,tS qw] 82)) (q:=⟨1,qp,qw⟩) a0.o ⟨A2,I,idxOf (S G (1,qp,e0)),D,[],[.rd (1,qp,e0) (S G (1,qp,e0))],HF.o.1,Pre.rd Pre.start,HW.o.over HF.o.2,(xR _).1,(xR _).2.1,(xR _).2.2,fun t ht=>?_,by show 1<=_;omega⟩⟩;have e:t=.rd (1,qp,e0) (S G (1,qp,e0)):=by simpa using ht
  rw[e];exact HP.o
 ·have kw:=h2 rfl A _ T D B U qp qw hq.p hq.v hD HT.o
  clear hk hq h2 h3 h4 a1;go_enter func128,ntmps128
  go_wp2_with (go_at_call 144;fail)
  go_at_call 144;refine kw.mono ?_;rintro e w3 ⟨v,rfl,hw⟩;have HW:Hid (gf A S (w.alloc (.cells #[zI ((2:Nat):Int),tS qp,tS qw] 82)) B U Z V Y mb G cap T D L F ⟨2,qp,qw⟩ (.iface 213 v) w3):=hw;clear hw kw;go_wp2
  (try rw[fI])
  go_ret;exact⟨_,rfl,HW.o.under a0.o⟩
 ·have kw:=h3 rfl A _ T D B U hD HT.o
  clear hk hq h2 h3 h4 a1;go_enter func128,ntmps128
  go_wp2_with (go_at_call 145;fail)
  go_at_call 145;refine kw.mono ?_;rintro e w3 ⟨v,rfl,hw⟩;have HW:Hid (gf A S (w.alloc (.cells #[zI ((3:Nat):Int),tS qp,tS qw] 82)) B U Z V Y mb G cap T D L F ⟨3,qp,qw⟩ (.iface 89 v) w3):=hw;clear hw kw;go_wp2
  (try rw[fI])
  go_ret;exact⟨_,rfl,HW.o.under a0.o⟩
 have kw:=h4 rfl A _ T D B U hD HT.o
 clear hk hq h2 h3 h4 a1;go_enter func128,ntmps128
 go_wp2_with (go_at_call 146;fail)
 go_at_call 146;refine kw.mono ?_;rintro e w3 ⟨v,rfl,hw⟩;have HW:Hid (gf A S (w.alloc (.cells #[zI ((4:Nat):Int),tS qp,tS qw] 82)) B U Z V Y mb G cap T D L F ⟨4,qp,qw⟩ (.iface 92 v) w3):=hw;clear hw kw;go_wp2
 (try rw[fI])
 go_ret;exact⟨_,rfl,HW.o.under a0.o⟩
variable{r:Nat}
theorem Lh(hk:q.kind<=4)(hr:rk q=0)(hq:QOk q):uv S Z V Y mb G cap L F g q:=
 lh hk hq (fun e=>by unfold rk at hr;rw[e] at hr;simp at hr) (fun e=>by unfold rk at hr;rw[e] at hr;simp at hr) (fun e=>by unfold rk at hr;rw[e] at hr;simp at hr)
theorem Ag:eC S Z V Y mb G cap L 0:=by
 intro A q w T D hr hk hq hD h;have hg:(20000*0+1:Nat)=grow 0:=rfl;exact Dl (m:=0) Di (fun _ _ _ _ _ h=>h.elim) (fun _ _ _ _ _ _ h=>absurd h (dY _)) (Lh hk (Nat.le_zero.1 hr) hq) (fun q' h' _=>by omega) hr hk hq w (by rw[hg];exact hD) h
theorem uw(hF:eC S Z V Y mb G cap L r)(hW:∀q,rk q<=r+1->q.kind<=4->QOk q->uv S Z V Y mb G cap L (fnd (S G) G r) (grow r) q):eC S Z V Y mb G cap L (r+1):=by
 intro A q w T D hr hk hq hD h;exact Dl (m:=r+1) (P:=fun q=>rk q<=r) hF (lI _ _ r) (lH r) (hW q hr hk hq) (fun q' h' _=>by omega) hr hk hq w hD h
end Pn
namespace Pn
open Mf Ed
variable{A A1 A2 A3:Nat->Prop}{S:Nat->Shf}{w w' W W1 w2 w3 wf:zW}{Z V Y mb G:Nat}{cap:Int}{T E:List Int}{D O:List Kp}{L L':List (zV×zV)}{B U:Nat}{z I:zV}{ts J:List Tie}{q:Qn}{k:Kp}{F:Find}{g:Nat}{n n1 b:Nat}{o:Obj}
theorem dH.refl(h:Tsk A S w B U Z V Y mb G cap T D L z ts):dH A S w B U Z V Y mb G cap L z w A T D z ts:=
 ⟨h,ai.refl _ _,fun _ e=>e,fun _ e=>oE e,fun _ e=>oE e⟩
theorem dH.put{p Q:Nat->Prop}(h:Tsk A S w B U Z V Y mb G cap T D L z ts)(hk:dH A S w B U Z V Y mb G cap L z W A2 E O I J)(ht:ai p W w')(hp:∀b,b<W.heap.size->p b->A2 b/\w.heap.size<=b/\I.ownBlock≠some b)(hQ:∀b,Q b->W.heap.size<=b/\b<w'.heap.size):
  dH A S w B U Z V Y mb G cap L z w' (fun b=>A2 b\/Q b) E O I J:=by
 have hB:=h.hB;have hT:=hk.t;have a0:ai (fun b=>b<W.heap.size/\p b) W w':=ht.mono (fun b hb e=>⟨hb,e⟩)
 have h2:Tsk A2 S w' B U Z V Y mb G cap E O L I J:=hT.turn a0 (fun b hb e=>(hp b hb e.2).1) (fun b e=>⟨by have:=(hp b e.1 e.2).2.1;omega,fun e2=>by
  have h3:=hp b e.1 e.2;rcases e2 with e2|e2
  ·have:=h.task.t0.lt;omega
  exact h3.2.2 e2⟩)
 obtain⟨L',g1,g2⟩:=hT.eng.desk.map
 have g3:dT (fun b=>A2 b\/Q b) W L' O:=g2.more (fun b a2 e=>by
  rcases e with e|e
  ·exact e
  have:=(hQ b e).1;omega)
 have g4:dT (fun b=>A2 b\/Q b) w' L' O:=g3.turn (ht.mono (fun b hb e=>oE (hp b hb e).1))
 have a1:w'.heap[Y]?=W.heap[Y]?:=ht.block Y (hT.eng.hA _ hT.eng.desk.hf) (fun e=>by
  have h3:=(hp Y (hT.eng.hA _ hT.eng.desk.hf) e).2.1;have:=h.lt;omega)
 have he:=h2.eng;have hs:=ht.size;have a3:=hk.f.size;refine⟨⟨⟨⟨he.desk.f0,he.desk.f1,he.desk.f2,he.desk.cn,⟨L',g1.of_block a1,g4⟩,he.desk.ne,oE he.desk.hd,oE he.desk.hf⟩,he.shelf,he.on,he.inv,he.ml,he.len,fun b e=>?_,⟨oE he.ns.1,oE he.ns.2⟩,he.ne,he.ok,he.rt⟩,h2.task,fun b e=>oE (h2.pr b e),h2.lt,h2.hB⟩,?_,fun b e=>oE (hk.sub b e),fun b e=>?_,hk.own⟩
 ·rcases e with e|e
  ·exact he.hA b e
  exact(hQ b e).2
 ·exact hk.f.trans a0 (fun _ _ e=>e) (fun b hb e=>by have:=(hp b e.1 e.2).2.1;omega)
 rcases e with e|e
 ·exact hk.new b e
 right;have:=(hQ b e).1;omega
theorem dH.less(hk:dH A S w B U Z V Y mb G cap L z W A2 E O I J)(h1:∀b,A3 b->A2 b)(h2:∀b,A b->A3 b)(h3:∀b,Own U I b->A3 b)(h4:A Z/\A Y/\A V/\A mb):dH A S w B U Z V Y mb G cap L z W A3 E O I J:=
 ⟨⟨hk.t.eng.less h1 ⟨h2 _ h4.1,h2 _ h4.2.1,h2 _ h4.2.2.1,h2 _ h4.2.2.2⟩,hk.t.task,h3,hk.t.lt,hk.t.hB⟩,hk.f,h2,fun b e=>hk.new b (h1 b e),hk.own⟩
structure Lc(n:Nat)(z:zV)(W:World)(b:Nat)(o:Obj):Prop where
 h:W.heap[b]?=some o
 le:n<=b
 ne:z.ownBlock≠some b
theorem Lc.lt(h:Lc n z W b o):b<W.heap.size:=by
 have:=h.h;exact(nG.1 this).1
theorem Lc.went(hn:Z<n/\Y<n/\U<n)(h:Lc n z W1 b o)(hk:dH A1 S W1 B U Z V Y mb G cap L z w2 A2 E O I J):Lc n I w2 b o:=by
 have a0:=h.le;have a1:=h.lt;refine⟨(hk.f.block b h.lt (fun e=>?_)).trans h.h,h.le,fun e=>?_⟩
 ·rcases e with e|e|e|e
  ·omega
  ·omega
  ·omega
  exact h.ne e
 rcases hk.own b e with e|e
 ·exact h.ne e
 omega
theorem Lc.below(h:Lc n z W b o)(hb:zB W W1):Lc n z W1 b o:=⟨(hb.block b h.lt).trans h.h,h.le,h.ne⟩
theorem Lc.turn{p:Nat->Prop}(h:Lc n z W b o)(ht:ai p W W1)(hp:¬p b):Lc n z W1 b o:=⟨(ht.block b h.lt hp).trans h.h,h.le,h.ne⟩
theorem Lc.new(W:zW)(o:Obj)(hn:n<=W.heap.size)(ht:∀b,z.ownBlock=some b->b<W.heap.size):Lc n z (W.alloc o) W.heap.size o:=⟨ay _ _,hn,fun e=>by have:=ht _ e;omega⟩
structure Rw(n1:Nat)(A:Nat->Prop)(z:zV)(W:World)(e s:Nat)(v:zV)(k:Nat)(xs:List zV):Prop where
 row:W.ownsRow n1 e s v k xs
 own:∀b,v.ownBlock=some b->A b/\z.ownBlock≠some b
variable{e s kk:Nat}{v:zV}{xs:List zV}
theorem Rw.went(hn:Z<n1/\Y<n1/\U<n1)(h:Rw n1 A1 z W1 e s v kk xs)(hk:dH A1 S W1 B U Z V Y mb G cap L z w2 A2 E O I J):Rw n1 A2 I w2 e s v kk xs:=by
 refine⟨ar h.row (fun b e=>hk.f.block b (h.row.lt b e).2 (fun e2=>?_)),fun b e=>⟨hk.sub b (h.own b e).1,fun e2=>?_⟩⟩
 ·have hl:=h.row.lt b e
  rcases e2 with e2|e2|e2|e2
  ·omega
  ·omega
  ·omega
  exact(h.own b e).2 e2
 have hl:=h.row.lt b e
 rcases hk.own b e2 with e2|e2
 ·exact(h.own b e).2 e2
 omega
theorem Rw.turn{p:Nat->Prop}(h:Rw n1 A z W e s v kk xs)(ht:ai p W W1)(hp:∀b,v.ownBlock=some b->¬p b)(hA:∀b,A b->A2 b):Rw n1 A2 z W1 e s v kk xs:=
 ⟨ar h.row (fun b e=>ht.block b (h.row.lt b e).2 (hp b e)),fun b e=>⟨hA b (h.own b e).1,(h.own b e).2⟩⟩
theorem Rw.below(h:Rw n1 A z W e s v kk xs)(hb:zB W W1):Rw n1 A z W1 e s v kk xs:=h.turn (ai.of_below (p:=fun _=>False) hb) (fun _ _ e=>e) (fun _ e=>e)
theorem Rw.nil(e s:Nat):Rw n1 A z W e s (zN) 0 []:=⟨gi _ _ _ _,fun b e=>by simp[Value.ownBlock] at e⟩
theorem RdA.Fq{α:Type}{enc:α->List zV}{v:zV}{L:List α}{B e s:Nat}{xs:List zV}(h:w.ownsRow B e s v L.length xs)(hx:xs=L.flatMap enc)(hl:∀x,(enc x).length=s)(hA:∀b,v.ownBlock=some b->¬A b):RdA A enc w v L:=by
 rcases h.2 with⟨h1,h2⟩|⟨g,c,a1,h1,h2⟩
 ·exact oE ⟨h1,qf h2⟩
 subst h1
 refine oS ⟨g,0,c,rfl,⟨hA g rfl,h2.2.2.1,h2.2.2.2.1,(h.lt g rfl).2⟩,fun j u hj=>?_⟩
 have a0:j<L.length*s:=by
  have:=(dv.1 hj).1;rw[Ss.fA hl] at this;exact this
 rw[cZ,h.cellAt j a0,hx];exact hj
theorem Rw.grow{p:Nat->Prop}{v':zV}{k':Nat}{a1:List zV}(a0:W1.ownsRow n1 e s v' k' a1)(hv:∀b,v.ownBlock=some b->A b/\z.ownBlock≠some b)(a2:∀b,v'.ownBlock=some b->v.ownBlock=some b\/W.heap.size<=b)(a3:∀b,z.ownBlock=some b->b<W.heap.size)(ht:ai p W1 w2)(hp:∀b,v'.ownBlock=some b->¬p b):Rw n1 (fun b=>A b\/(v'.ownBlock=some b/\W.heap.size<=b)) z w2 e s v' k' a1:=by
 refine⟨ar a0 (fun b e=>ht.block b (a0.lt b e).2 (hp b e)),fun b e=>?_⟩;rcases a2 b e with e2|e2
 ·exact⟨oE (hv b e2).1,(hv b e2).2⟩
 exact⟨oS ⟨e,e2⟩,fun e3=>by have:=a3 b e3;omega⟩
end Pn
namespace Pn
open Mf Ed
variable{A A1 A2 A3:Nat->Prop}{S:Nat->Shf}{w w' wr wx W W1 w1 w2 w3 wf:zW}{Z V Y mb G:Nat}{cap:Int}{T E:List Int}{D O D3:List Kp}{L L':List (zV×zV)}{B U:Nat}{z I j4:zV}{ts J:List Tie}{q:Qn}{kk:Kp}{F:Find}{g:Nat}{n n1 b:Nat}{o:Obj}
structure Wt(A:Nat->Prop)(S:Nat->Shf)(w:World)(B U Z V Y mb G:Nat)(cap:Int)(L:List (zV×zV))(T:List Int)(D:List Kp)(F:Find)(cm:Cm Fi)(n1 N b5 b6 M:Nat)(root:zA)(rl:Mx)(j0 xv sv rv:zV)(R:List Mo)(wr:World)(c:Cm Fi)(A2:Nat->Prop)(O:List Kp)(I:zV)(J:List Tie)(d:List Qn)(ms:List Mo)(ps:List Pb)(mv pv:zV):Prop where
 h0:Tsk A S w B U Z V Y mb G cap T D L (zN) []
 went:dH A S w B U Z V Y mb G cap L (zN) wr A2 (counted T d) O I J
 pre:Pre F (S G) D cm O c J d
 rx:RdA A2 Sm.mc wr xv rl.X
 rr:RdA A2 Sm.mc wr rv R
 l4:Lc w.heap.size I wr N (.cells #[zN,zN] 213)
 l5:Lc w.heap.size I wr b5 (.cells #[tS root,tS e0] 63)
 l6:Lc w.heap.size I wr b6 (.cells #[tS rl.p,j0,xv,sv] 206)
 lw:Lc w.heap.size I wr M (.cells #[mv,pv] 213)
 mr:Rw n1 A2 I wr 63 2 mv ms.length (mcs ms)
 pr:Rw n1 A2 I wr 65 3 pv ps.length (ps.flatMap aJ)
 mp:∀b,mv.ownBlock=some b->pv.ownBlock≠some b
 hA:A2 N/\A2 M
 hn:N<n1/\b5<n1/\b6<n1/\M<n1/\n1<=wr.heap.size/\w.heap.size<=n1/\N≠M/\b5≠M/\b6≠M
 ok:(∀t∈J,jr t)/\(∀x∈ms,x.1.size<=N48/\x.2.size<=N48)
variable{cm c:Cm Fi}{N b5 b6 M:Nat}{root:zA}{rl:Mx}{j0 xv sv rv:zV}{R:List Mo}{d j1:List Qn}{ms:List Mo}{ps:List Pb}{mv pv:zV}
theorem Wt.below(h:Wt A S w B U Z V Y mb G cap L T D F cm n1 N b5 b6 M root rl j0 xv sv rv R wr c A2 O I J d ms ps mv pv)(hb:zB wr W):
  Wt A S w B U Z V Y mb G cap L T D F cm n1 N b5 b6 M root rl j0 xv sv rv R W c A2 O I J d ms ps mv pv:=
 ⟨h.h0,h.went.over hb,h.pre,h.rx.below hb,h.rr.below hb,h.l4.below hb,h.l5.below hb,h.l6.below hb,h.lw.below hb,h.mr.below hb,h.pr.below hb,h.mp,h.hA,by have:=h.hn;have:=hb.size;omega,h.ok⟩
theorem dH.fr(h:Tsk A2 S wr B U Z V Y mb G cap T D L I J)(hk:dH A2 S wr B U Z V Y mb G cap L I wx A3 E O j4 ts):ai A3 wr wx:=
 hk.f.mono (fun b _ e=>by
  rcases e with e|e|e
  ·rw[e];exact hk.sub _ h.eng.desk.hd
  ·rw[e];exact hk.sub _ h.eng.desk.hf
  exact hk.sub _ (h.pr b e))
theorem RdA.went{α:Type}{enc:α->List zV}{v:zV}{l:List α}(h:RdA A2 enc wr v l)(hT:Tsk A2 S wr B U Z V Y mb G cap T D L I J)(hk:dH A2 S wr B U Z V Y mb G cap L I wx A3 E O j4 ts):RdA A3 enc wx v l:=
 (h.more (fun b hb e=>by
  rcases hk.new b e with e|e
  ·exact e
  omega)).turn (hk.fr hT)
theorem Wt.asked{k:Fi->Cm Fi}(h:Wt A S w B U Z V Y mb G cap L T D F cm n1 N b5 b6 M root rl j0 xv sv rv R wr (.ask q k) A2 O I J d ms ps mv pv)(hk:dH A2 S wr B U Z V Y mb G cap L I wx A3 (counted (counted T d) j1) D3 j4 (J++[.ask q]))(hf:F O q kk D3 j1)(hq:QOk q):
  Wt A S w B U Z V Y mb G cap L T D F cm n1 N b5 b6 M root rl j0 xv sv rv R wx (k kk.f.ess) A3 D3 j4 (J++[.ask q]) (d++j1) ms ps mv pv:=by
 have a0:Z<w.heap.size/\Y<w.heap.size/\U<w.heap.size:=by
  have h1:=h.h0.lt;have h2:=h.h0.hB;have h3:=h.h0.task.t0.lt;omega
 have hn:=h.hn;have hs:=hk.f.size;have Li:Z<n1/\Y<n1/\U<n1:=by omega
 refine⟨h.h0,?_,Pre.ask h.pre hf,h.rx.went h.went.t hk,h.rr.went h.went.t hk,h.l4.went a0 hk,h.l5.went a0 hk,h.l6.went a0 hk,h.lw.went a0 hk,h.mr.went Li hk,h.pr.went Li hk,h.mp,⟨hk.sub _ h.hA.1,hk.sub _ h.hA.2⟩,by omega,fun t ht=>?_,h.ok.2⟩
 ·rw[<-fF];exact h.went.trans hk
 rcases bH.1 ht with ht|ht
 ·exact h.ok.1 t ht
 have e:t=.ask q:=by simpa using ht
 rw[e];exact hq
theorem Wt.tvlt(h:Wt A S w B U Z V Y mb G cap L T D F cm n1 N b5 b6 M root rl j0 xv sv rv R wr c A2 O I J d ms ps mv pv):∀b,I.ownBlock=some b->b<wr.heap.size:=fun b e=>(h.went.t.task.row.lt b e).2
theorem Wt.putM{m:Mo}{a0:zV}(h:Wt A S w B U Z V Y mb G cap L T D F cm n1 N b5 b6 M root rl j0 xv sv rv R W c A2 O I J d ms ps mv pv)(hg:W.grownBy w1 mv.ownBlock)(a1:w1.ownsRow n1 63 2 a0 (ms.length+1) (mcs (ms++[m])))(a5:∀b,a0.ownBlock=some b->mv.ownBlock=some b\/W.heap.size<=b)(hm:m.1.size<=N48/\m.2.size<=N48):
  Wt A S w B U Z V Y mb G cap L T D F cm n1 N b5 b6 M root rl j0 xv sv rv R (w1.setCell (tD M 0) a0) c (fun b=>A2 b\/(a0.ownBlock=some b/\W.heap.size<=b)) O I J d (ms++[m]) ps a0 pv:=by
 have hn:=h.hn;have a2:∀b,mv.ownBlock=some b->n1<=b/\b<W.heap.size:=fun b e=>h.mr.row.lt b e
 have a7:∀b,pv.ownBlock=some b->n1<=b/\b<W.heap.size:=fun b e=>h.pr.row.lt b e
 have a9:ai (fun b=>mv.ownBlock=some b) W w1:=(ai.refl _ W).grown hg (fun b _ e=>e);have a4:ai (fun b=>b=M) w1 (w1.setCell (tD M 0) a0):=(ai.refl (fun b=>b=M) w1).set (a:=(tD M 0)) (fun _=>rfl) _;have ht:ai (fun b=>mv.ownBlock=some b\/b=M) W (w1.setCell (tD M 0) a0):=a9.trans a4 (fun _ _ e=>oE e) (fun _ _ e=>oS e)
 have a6:∀b,b<W.heap.size->(mv.ownBlock=some b\/b=M)->A2 b/\w.heap.size<=b/\I.ownBlock≠some b:=fun b _ e=>by
  rcases e with e|e
  ·exact⟨(h.mr.own b e).1,by have:=a2 b e;omega,(h.mr.own b e).2⟩
  rw[e];exact⟨h.hA.2,h.lw.le,h.lw.ne⟩
 have hQ:∀b,(a0.ownBlock=some b/\W.heap.size<=b)->W.heap.size<=b/\b<(w1.setCell (tD M 0) a0).heap.size:=fun b e=>⟨e.2,by
  have h1:=(a1.lt b e.1).2;have h2:=a4.size;omega⟩
 have a3:∀b,b<n1->b≠M->¬(mv.ownBlock=some b\/b=M):=fun b hb aa e=>by
  rcases e with e|e
  ·have:=a2 b e;omega
  exact aa e
 have a8:∀{α:Type} {enc:α->List zV} {v:zV} {l:List α},RdA A2 enc W v l->RdA (fun b=>A2 b\/(a0.ownBlock=some b/\W.heap.size<=b)) enc (w1.setCell (tD M 0) a0) v l:=fun hr=>
  (hr.more (fun b hb e=>by
   rcases e with e|e
   ·exact e
   omega)).turn (ht.mono (fun b hb e=>oE (a6 b hb e).1))
 refine⟨h.h0,h.went.put h.h0 ht a6 hQ,h.pre,a8 h.rx,a8 h.rr,h.l4.turn ht (a3 _ hn.1 hn.2.2.2.2.2.2.1),h.l5.turn ht (a3 _ hn.2.1 hn.2.2.2.2.2.2.2.1),h.l6.turn ht (a3 _ hn.2.2.1 hn.2.2.2.2.2.2.2.2),⟨?_,h.lw.le,h.lw.ne⟩,?_,h.pr.turn ht (fun b e e2=>?_) (fun b e=>oE e),fun b e e2=>?_,⟨oE h.hA.1,oE h.hA.2⟩,by have:=ht.size;omega,h.ok.1,fun x hx=>?_⟩
 ·exact aU _ _ 0 _ _ _ ((a9.block M h.lw.lt (fun e=>by have:=a2 M e;omega)).trans h.lw.h)
 ·rw[aW]
  exact Rw.grow a1 h.mr.own a5 h.tvlt a4 (fun b e e2=>by have:=(a1.lt b e).1;omega)
 ·rcases e2 with e2|e2
  ·exact h.mp b e2 e
  have:=a7 b e;omega
 ·rcases a5 b e with e3|e3
  ·exact h.mp b e3 e2
  have:=a7 b e2;omega
 rcases bH.1 hx with hx|hx
 ·exact h.ok.2 x hx
 have e:x=m:=by simpa using hx
 rw[e];exact hm
theorem Wt.putP{p:Pb}{a0:zV}(h:Wt A S w B U Z V Y mb G cap L T D F cm n1 N b5 b6 M root rl j0 xv sv rv R W c A2 O I J d ms ps mv pv)(hg:W.grownBy w1 pv.ownBlock)(a1:w1.ownsRow n1 65 3 a0 (ps.length+1) ((ps++[p]).flatMap aJ))(a5:∀b,a0.ownBlock=some b->pv.ownBlock=some b\/W.heap.size<=b):
  Wt A S w B U Z V Y mb G cap L T D F cm n1 N b5 b6 M root rl j0 xv sv rv R (w1.setCell (tD M 1) a0) c (fun b=>A2 b\/(a0.ownBlock=some b/\W.heap.size<=b)) O I J d ms (ps++[p]) mv a0:=by
 have hn:=h.hn;have a6:∀b,mv.ownBlock=some b->n1<=b/\b<W.heap.size:=fun b e=>h.mr.row.lt b e
 have a3:∀b,pv.ownBlock=some b->n1<=b/\b<W.heap.size:=fun b e=>h.pr.row.lt b e
 have a9:ai (fun b=>pv.ownBlock=some b) W w1:=(ai.refl _ W).grown hg (fun b _ e=>e);have a4:ai (fun b=>b=M) w1 (w1.setCell (tD M 1) a0):=(ai.refl (fun b=>b=M) w1).set (a:=(tD M 1)) (fun _=>rfl) _;have ht:ai (fun b=>pv.ownBlock=some b\/b=M) W (w1.setCell (tD M 1) a0):=a9.trans a4 (fun _ _ e=>oE e) (fun _ _ e=>oS e)
 have a7:∀b,b<W.heap.size->(pv.ownBlock=some b\/b=M)->A2 b/\w.heap.size<=b/\I.ownBlock≠some b:=fun b _ e=>by
  rcases e with e|e
  ·exact⟨(h.pr.own b e).1,by have:=a3 b e;omega,(h.pr.own b e).2⟩
  rw[e];exact⟨h.hA.2,h.lw.le,h.lw.ne⟩
 have hQ:∀b,(a0.ownBlock=some b/\W.heap.size<=b)->W.heap.size<=b/\b<(w1.setCell (tD M 1) a0).heap.size:=fun b e=>⟨e.2,by
  have h1:=(a1.lt b e.1).2;have h2:=a4.size;omega⟩
 have a2:∀b,b<n1->b≠M->¬(pv.ownBlock=some b\/b=M):=fun b hb aa e=>by
  rcases e with e|e
  ·have:=a3 b e;omega
  exact aa e
 have a8:∀{α:Type} {enc:α->List zV} {v:zV} {l:List α},RdA A2 enc W v l->RdA (fun b=>A2 b\/(a0.ownBlock=some b/\W.heap.size<=b)) enc (w1.setCell (tD M 1) a0) v l:=fun hr=>
  (hr.more (fun b hb e=>by
   rcases e with e|e
   ·exact e
   omega)).turn (ht.mono (fun b hb e=>oE (a7 b hb e).1))
 refine⟨h.h0,h.went.put h.h0 ht a7 hQ,h.pre,a8 h.rx,a8 h.rr,h.l4.turn ht (a2 _ hn.1 hn.2.2.2.2.2.2.1),h.l5.turn ht (a2 _ hn.2.1 hn.2.2.2.2.2.2.2.1),h.l6.turn ht (a2 _ hn.2.2.1 hn.2.2.2.2.2.2.2.2),⟨?_,h.lw.le,h.lw.ne⟩,h.mr.turn ht (fun b e e2=>?_) (fun b e=>oE e),?_,fun b e e2=>?_,⟨oE h.hA.1,oE h.hA.2⟩,by have:=ht.size;omega,h.ok⟩
 ·exact aU _ _ 1 _ _ _ ((a9.block M h.lw.lt (fun e=>by have:=a3 M e;omega)).trans h.lw.h)
 ·rcases e2 with e2|e2
  ·exact h.mp b e e2
  have:=a6 b e;omega
 ·rw[aW]
  exact Rw.grow a1 h.pr.own a5 h.tvlt a4 (fun b e e2=>by have:=(a1.lt b e).1;omega)
 rcases a5 b e2 with e3|e3
 ·exact h.mp b e e3
 have:=a6 b e;omega
theorem Wt.done{m1 m2:zA}(h:Wt A S w B U Z V Y mb G cap L T D F (df ⟨2,m1,m2⟩) n1 N b5 b6 M root rl j0 xv sv rv R wr (.ret (.wants ms ps)) A2 O I J d ms ps mv pv)(hl:ms.length<=3000/\ps.length<=3000/\J.length<=10000):
  gf A S w B U Z V Y mb G cap T D L F ⟨2,m1,m2⟩ (.iface 213 (.agg #[mv,pv])) ((wr.setCell (tD N 0) mv).setCell (tD N 1) pv):=by
 have hn:=h.hn;have a0:∀b,mv.ownBlock=some b->n1<=b/\b<wr.heap.size:=fun b e=>h.mr.row.lt b e
 have a1:∀b,pv.ownBlock=some b->n1<=b/\b<wr.heap.size:=fun b e=>h.pr.row.lt b e
 have ht:ai (fun b=>b=N) wr ((wr.setCell (tD N 0) mv).setCell (tD N 1) pv):=((ai.refl (fun b=>b=N) wr).set (a:=(tD N 0)) (fun _=>rfl) _).set (a:=(tD N 1)) (fun _=>rfl) _;have hw:=h.went.put (Q:=fun _=>False) h.h0 ht (fun b _ e=>by rw[e];exact⟨h.hA.1,h.l4.le,h.l4.ne⟩) (fun b e=>e.elim);have a2:∀b,A b->b<w.heap.size:=h.h0.eng.hA
 have a3:dH A S w B U Z V Y mb G cap L (zN) _ (fun b=>A2 b/\mv.ownBlock≠some b/\pv.ownBlock≠some b) (counted T d) O I J:=hw.less (fun b e=>oE e.1) (fun b e=>⟨h.went.sub b e,fun e2=>by have:=a0 b e2;have:=a2 b e;omega,fun e2=>by have:=a1 b e2;have:=a2 b e;omega⟩) (fun b e=>by
   refine⟨h.went.t.pr b e,fun e2=>?_,fun e2=>?_⟩
   ·rcases e with e|e
    ·have h1:=a0 b e2;have h2:=h.h0.task.t0.lt;omega
    exact(h.mr.own b e2).2 e
   rcases e with e|e
   ·have h1:=a1 b e2;have h2:=h.h0.task.t0.lt;omega
   exact(h.pr.own b e2).2 e) ⟨h.h0.eng.desk.hd,h.h0.eng.desk.hf,h.h0.eng.ns.1,h.h0.eng.ns.2⟩
 have a4:=h.mr.turn (A2:=A2) ht (fun b e e2=>by have:=a0 b e;omega) (fun _ e=>e);have a5:=h.pr.turn (A2:=A2) ht (fun b e e2=>by have:=a1 b e;omega) (fun _ e=>e);refine⟨_,I,.wants ms ps,O,d,J,⟨mv,pv,rfl,RdA.Fq a4.row rfl (fun _=>rfl) (fun b e e2=>e2.2.1 e),RdA.Fq a5.row rfl (fun _=>rfl) (fun b e e2=>e2.2.2 e)⟩,h.pre,a3,rfl,h.ok.2,⟨by omega,by omega⟩,h.ok.1,hl.2.2⟩
end Pn
namespace Pn
open Mf Ed
variable{A A1 A2 A3:Nat->Prop}{S:Nat->Shf}{w w' wr wx W W1 w1 w2 w3 wf:zW}{Z V Y mb G:Nat}{cap:Int}{T E j3:List Int}{D O D1 D2 D3:List Kp}{L L':List (zV×zV)}{B U:Nat}{z I j2 j4:zV}{ts J j5:List Tie}{q:Qn}{k kk:Kp}{F:Find}{g:Nat}{n n1 b:Nat}{o:Obj}{d:List Qn}
theorem kK{r:Nat}(hI:Inv S G D)(hf:fnd (S G) G r D q k O d)(hr:rk q<=r)(hq:q.kind<=4)(a0:∀k∈O,KOk k):k.f=val (S G) q/\KOk k:=by
 have h:=lH r D q k O d hI (nL hr) hq hf;exact⟨h.2.2.2.2.2,a0 k h.2.2.1⟩
theorem Lj{s:Shf}{p v:zA}{pr:Nat}{m:Mx}(h:val s ⟨0,p,v⟩=.man pr m):m.R.length<=2001:=by
 rw[qO s (aL 1)] at h;have h:eN (s (0,p,v))=.man pr m:=h;cases e:s (0,p,v) with
 |none=>
  rw[e] at h;injection h with _ h;rw[<-h];exact aL _
 |some t=>
  rw[e] at h;by_cases h2:bg t=[]
  ·rw[sF h2] at h
   injection h with _ h;rw[<-h];show(Ss.aN _ _).length<=_;rw[Ss.cu];exact(xC h2).2.1
  have e2:eN (some t)=.man 3 ⟨e0,[],[],[]⟩:=ag h2
  rw[e2] at h;injection h with _ h;rw[<-h];exact aL _
theorem Ll(root:zA){s:Shf}{p v:zA}{f:Fi}(h:f=val s ⟨0,p,v⟩)(hf:yV f)(hs:Small f):(xB N48 (bT root f)/\(bT root f).X.length<=100000/\(bT root f).S.length<=100000)/\f.ess=f:=by
 obtain⟨pr,m,e⟩:=Bw s p v;rw[e] at h;subst h;have a0:xB N48 (⟨e0,[],[],[]⟩:Mx):=⟨aL _,(fun x hx=>by simp at hx),(fun x hx=>by simp at hx),(fun x hx=>by simp at hx)⟩;refine⟨?_,rfl⟩;unfold bT;by_cases hp:dK (kY (.man pr m)) root≠0
 ·rw[aj hp];exact⟨a0,aL _,aL _⟩
 rw[ag hp];exact⟨hf,hs.2.1,hs.2.2⟩
theorem uZ{m1 m2:zA}(h1:m1.size<=N48)(h2:m2.size<=N48):∀(l:List So),(∀x∈l,x.1.size<=N48/\x.2.1.size<=N48/\x.2.2.size<=N48)->(replaced (m1,m2) l).1.size<=N48/\(replaced (m1,m2) l).2.size<=N48
 |[],_=>⟨h1,h2⟩
 |x::l,h=>by
  rw[pV]
  split
  ·exact⟨(h x (by simp)).1,(h x (by simp)).2.2⟩
  exact uZ h1 h2 l (fun y hy=>h y (by simp[hy]))
theorem IX{s:Shf}{m1 m2 root s1 s2:zA}{rl:Mx}{kA kB:Kp}{Wa Wb:List Qn}{pr:Nat}{m:Mx}(oL:root=rootOf (s aA))(a2:rl=bT root kA.f.ess)(hs:(s1,s2)=replaced (m1,m2) rl.S)(a0:F D ⟨0,root,e0⟩ kA D1 Wa)(a1:F D1 ⟨0,s1,s2⟩ kB D2 Wb)(hB:kB.f=.man pr m):
  Pre F s D (df ⟨2,m1,m2⟩) D2 (if dK (pr,m) m1≠0 then .ret (.wants [] [(dK (pr,m) m1,s1,s2)]) else bf root rl.X m.R [] []) (([]++[.rd aA (s aA)])++[.ask ⟨0,root,e0⟩]++[.ask ⟨0,s1,s2⟩]) (([]++Wa)++Wb):=by
 subst oL;subst a2;have e1:s1=(replaced (m1,m2) (bT (rootOf (s aA)) kA.f.ess).S).1:=cV Prod.fst hs;have e2:s2=(replaced (m1,m2) (bT (rootOf (s aA)) kA.f.ess).S).2:=cV Prod.snd hs;subst e1;subst e2;have h0:Pre F s D (df ⟨2,m1,m2⟩) D (gP (m1,m2)) [] []:=Pre.start;have h1:=Pre.ask (Pre.ask (Pre.rd h0) a0) a1;rw[hB] at h1;exact h1
noncomputable def xS(root:zA)(X rest ms:List Mo)(ps:List Pb):Mo ⊕ Pb->Cm Fi
 | .inl m=>bf root X rest (ms++[m]) ps
 | .inr p=>bf root X rest ms (ps++[p])
theorem IY{root:zA}{X R ms:List Mo}{ps:List Pb}{i:Nat}{x:Mo}(h:R[i]?=some x)(e:x.1=root):bf root X (R.drop i) ms ps=bf root X (R.drop (i+1)) ms ps:=by
 obtain⟨hi,e1⟩:=dv.1 h;rw[cY hi,e1,bf,aj e]
theorem Lp{root:zA}{X R ms:List Mo}{ps:List Pb}{i:Nat}{x:Mo}(h:R[i]?=some x)(e:x.1≠root):bf root X (R.drop i) ms ps=.ask ⟨1,x.1,e0⟩ fun f=>xS root X (R.drop (i+1)) ms ps (choose x (oF f) X):=by
 obtain⟨hi,e1⟩:=dv.1 h;rw[cY hi,e1,bf,ag e]
 congr 1
theorem Lq{root:zA}{X R ms:List Mo}{ps:List Pb}:bf root X (R.drop R.length) ms ps=.ret (.wants ms ps):=by
 rw[List.drop_length,bf]
def Lcs(n:Nat)(z:zV)(W:zW)(l:List (Nat×Obj)):Prop:=∀x∈l,Lc n z W x.1 x.2
structure Stp(A:Nat->Prop)(S:Nat->Shf)(w:World)(B U Z V Y mb G:Nat)(cap:Int)(L:List (zV×zV))(T:List Int)(D:List Kp)(W:World)(A2:Nat->Prop)(E:List Int)(O:List Kp)(I:zV)(J:List Tie)(l:List (Nat×Obj)):Prop where
 h0:Tsk A S w B U Z V Y mb G cap T D L (zN) []
 went:dH A S w B U Z V Y mb G cap L (zN) W A2 E O I J
 lcs:Lcs w.heap.size I W l
variable{l:List (Nat×Obj)}
theorem Stp.lt(h:Stp A S w B U Z V Y mb G cap L T D W A2 E O I J l):Z<w.heap.size/\Y<w.heap.size/\U<w.heap.size:=by
 have h1:=h.h0.lt;have h2:=h.h0.hB;have h3:=h.h0.task.t0.lt;omega
theorem Stp.start(h0:Tsk A S w B U Z V Y mb G cap T D L (zN) [])(hb:zB w W)(P:Nat->Prop)(hP:∀b,P b->w.heap.size<=b/\b<W.heap.size)(l:List (Nat×Obj))(hl:∀x∈l,W.heap[x.1]?=some x.2/\w.heap.size<=x.1):
  Stp A S w B U Z V Y mb G cap L T D W (fun b=>A b\/P b) T D (zN) [] l:=
 ⟨h0,dH.put h0 (dH.refl h0) (ai.of_below hb:ai (fun _=>False) w W) (fun _ _ e=>e.elim) hP,fun x hx=>⟨(hl x hx).1,(hl x hx).2,by simp[Value.ownBlock]⟩⟩
theorem Stp.Qg(h0:Tsk A S w B U Z V Y mb G cap T D L (zN) [])(o1 o2:Obj):
  Stp A S w B U Z V Y mb G cap L T D ((w.alloc o1).alloc o2) (fun b=>A b\/b=w.heap.size+1) T D (zN) [] [(w.heap.size+1,o2),(w.heap.size,o1)]:=by
 have a0:zB w (w.alloc o1):=(ae _ _).alloc (af _) _;refine Stp.start h0 (a0.alloc a0.size o2) (fun b=>b=w.heap.size+1) (fun b e=>by rw[e];exact⟨bS _,by simp⟩) _ (fun x hx=>?_);rcases aP.1 hx with e|e
 ·rw[e];exact⟨eA w _ _,bS _⟩
 have e:x=(w.heap.size,o1):=by simpa using e
 rw[e];exact⟨(aG _ _ _ (by simp)).trans (ay _ _),af _⟩
theorem Stp.call(h:Stp A S w B U Z V Y mb G cap L T D W A2 E O I J l)(hk:dH A2 S W B U Z V Y mb G cap L I w2 A3 j3 D2 j2 j5):Stp A S w B U Z V Y mb G cap L T D w2 A3 j3 D2 j2 j5 l:=
 ⟨h.h0,h.went.trans hk,fun x hx=>(h.lcs x hx).went h.lt hk⟩
theorem Stp.below(h:Stp A S w B U Z V Y mb G cap L T D W A2 E O I J l)(hb:zB W W1):Stp A S w B U Z V Y mb G cap L T D W1 A2 E O I J l:=
 ⟨h.h0,h.went.over hb,fun x hx=>(h.lcs x hx).below hb⟩
theorem Stp.tvlt(h:Stp A S w B U Z V Y mb G cap L T D W A2 E O I J l):∀b,I.ownBlock=some b->b<W.heap.size:=fun b e=>(h.went.t.task.row.lt b e).2
theorem Stp.lay(h:Stp A S w B U Z V Y mb G cap L T D W A2 E O I J l)(o:Obj):Stp A S w B U Z V Y mb G cap L T D (W.alloc o) A2 E O I J ((W.heap.size,o)::l):=by
 have hb:zB W (W.alloc o):=(ae _ _).alloc (af _) _;refine⟨h.h0,(h.below hb).went,fun x hx=>?_⟩;rcases aP.1 hx with e|e
 ·rw[e];exact Lc.new W o h.went.f.size h.tvlt
 exact(h.lcs x e).below hb
theorem Stp.at(h:Stp A S w B U Z V Y mb G cap L T D W A2 E O I J l)(hx:(b,o)∈l):W.heap[b]?=some o:=(h.lcs _ hx).h
theorem Stp.bad{pq:Nat}{s1 s2 m1 m2:zA}{N:Nat}(h:Stp A S w B U Z V Y mb G cap L T D W A2 (counted T d) O I J l)(hr:(N,.cells #[zN,zN] 213)∈l)(hA:A2 N)(pre:Pre F (S G) D (df ⟨2,m1,m2⟩) O (.ret (.wants [] [(pq,s1,s2)])) J d)(a1:∀t∈J,jr t)(hl:J.length<=10000):
  gf A S w B U Z V Y mb G cap T D L F ⟨2,m1,m2⟩ (.iface 213 (.agg #[zN,.slice (some (tD W.heap.size 0)) 1 1])) (((W.alloc (.cells #[zI (pq:Nat),tS s1,tS s2] 65)).setCell (tD N 0) (zN)).setCell (tD N 1) (.slice (some (tD W.heap.size 0)) 1 1)):=by
 have hL:=h.lcs _ hr;have a0:W.heap.size≠N:=by have:=hL.lt;show _≠_;intro e;exact absurd this (by rw[<-e];exact Nat.lt_irrefl _)
 have ht:ai (fun b=>b=N) W (((W.alloc (.cells #[zI (pq:Nat),tS s1,tS s2] 65)).setCell (tD N 0) (zN)).setCell (tD N 1) (.slice (some (tD W.heap.size 0)) 1 1)):=(((ai.refl (fun b=>b=N) W).alloc _).set (a:=(tD N 0)) (fun _=>rfl) _).set (a:=(tD N 1)) (fun _=>rfl) _;have hw:=h.went.put (Q:=fun _=>False) h.h0 ht (fun b _ e=>by rw[e];exact⟨hA,hL.le,hL.ne⟩) (fun b e=>e.elim)
 have hN:(((W.alloc (.cells #[zI (pq:Nat),tS s1,tS s2] 65)).setCell (tD N 0) (zN)).setCell (tD N 1) (.slice (some (tD W.heap.size 0)) 1 1)).heap[W.heap.size]?=some (.cells #[zI (pq:Nat),tS s1,tS s2] 65):=by
  rw[aM _ _ _ _ a0,aM _ _ _ _ a0];exact ay _ _
 obtain⟨⟨c0,_⟩,⟨c1,_⟩,⟨c2,_⟩⟩:=fd3 hN;refine⟨_,I,.wants [] [(pq,s1,s2)],O,d,J,⟨_,_,rfl,RdA.nil _,oS ⟨W.heap.size,0,1,rfl,⟨fun e=>?_,af _,by unfold maxLen;omega,ah hN⟩,fun j u hj=>?_⟩⟩,pre,hw,rfl,(fun x hx=>by simp at hx),⟨aL _,by show 1<=_;omega⟩,a1,hl⟩
 ·rcases e with e|e
  ·have:=h.went.t.eng.hA _ e;omega
  exact e
 rw[cZ]
 have hj:[Value.int .i64 (pq:Nat),tS s1,tS s2][j]?=some u:=hj;rcases j with _|_|_|j
 ·injection hj with hj;rw[<-hj];exact c0
 ·injection hj with hj;rw[<-hj];exact c1
 ·injection hj with hj;rw[<-hj];exact c2
 simp at hj
theorem Wt.start{cm c:Cm Fi}{N b5 b6:Nat}{root:zA}{rl:Mx}{j0 xv sv rv:zV}{R:List Mo}(h:Stp A S w B U Z V Y mb G cap L T D W A2 (counted T d) O I J l)(l4:(N,.cells #[zN,zN] 213)∈l)(l5:(b5,.cells #[tS root,tS e0] 63)∈l)(l6:(b6,.cells #[tS rl.p,j0,xv,sv] 206)∈l)(rx:RdA A2 Sm.mc W xv rl.X)(rr:RdA A2 Sm.mc W rv R)(hA:A2 N)(pre:Pre F (S G) D cm O c J d)(a2:∀t∈J,jr t):
  Wt A S w B U Z V Y mb G cap L T D F cm (W.heap.size+1) N b5 b6 W.heap.size root rl j0 xv sv rv R (W.alloc (.cells #[zN,zN] 213)) c (fun b=>A2 b\/b=W.heap.size) O I J d [] [] (zN) (zN):=by
 have hb:zB W (W.alloc (.cells #[zN,zN] 213)):=(ae _ _).alloc (af _) _;have hs:=h.lay (.cells #[zN,zN] 213);have hz:(W.alloc (.cells #[zN,zN] 213)).heap.size=W.heap.size+1:=by simp
 have a1:=h.went.f.size;have x4:=(h.lcs _ l4).lt;have x5:=(h.lcs _ l5).lt;have x6:=(h.lcs _ l6).lt
 have a0:∀{α:Type} {enc:α->List zV} {v:zV} {l:List α},RdA A2 enc W v l->RdA (fun b=>A2 b\/b=W.heap.size) enc (W.alloc (.cells #[zN,zN] 213)) v l:=fun hr=>(hr.more (fun b hb e=>by
  rcases e with e|e
  ·exact e
  omega)).below hb
 refine⟨h.h0,h.went.put (p:=fun _=>False) (Q:=fun b=>b=W.heap.size) h.h0 (ai.of_below hb) (fun _ _ e=>e.elim) (fun b e=>by rw[e,hz];exact⟨af _,jy _⟩),pre,a0 rx,a0 rr,(h.lcs _ l4).below hb,(h.lcs _ l5).below hb,(h.lcs _ l6).below hb,Lc.new W _ a1 h.tvlt,Rw.nil 63 2,Rw.nil 65 3,fun b e=>by simp[Value.ownBlock] at e,⟨oE hA,oS rfl⟩,?_,a2,fun x hx=>by simp at hx⟩;have x4:N<W.heap.size:=x4;have x5:b5<W.heap.size:=x5;have x6:b6<W.heap.size:=x6;rw[hz];refine⟨by omega,by omega,by omega,by omega,by omega,by omega,by omega,by omega,by omega⟩
