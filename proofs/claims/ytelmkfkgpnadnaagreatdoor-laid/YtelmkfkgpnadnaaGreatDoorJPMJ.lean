import Derived.Test.YtelmkfkgpnadnaaGreatDoorJPM21
import Derived.Test.YtelmkfkgpnadnaaGreatDoorJPLA
set_option linter.all false
open Go.Proofs.Tryz
set_option maxRecDepth 100000
set_option maxHeartbeats 4000000
namespace Go.Proofs.YtelmkfkgpnadnaaGreatDoor
open Go.RowKit
namespace Pn
open Mf Ed
variable{A A1 A2:Nat→Prop}{S:Nat→Shf}{w w' W W1 w2 wf:zW}{db sb fb mb now:Nat}{cap:Int}{cs cs':List Int}{D D':List Kp}{L L':List (zV×zV)}{B tb:Nat}{tv tv':zV}{ts ts':List Tie}{q:Qn}{k:Kp}{F:Find}{g:Nat}
def fY(A:Nat→Prop)(S:Nat→Shf)(w:zW)(B tb db sb fb mb now:Nat)(cap:Int)(cs:List Int)(D:List Kp)(L:List (zV×zV))(F:Find)(q:Qn)(fv:zV)(w':zW):Prop:=
 ∃A2 tv' f D' Wk ts,fK A2 w' fv f∧Pre F (S now) D (dh q) D' (.ret f) ts Wk∧dE A S w B tb db sb fb mb now cap L (zN) w' A2 (counted cs Wk) D' tv' ts∧(kM f=q.kind∧zg f∧Small f∧(∀t∈ts,jg t)∧ts.length≤10000)
theorem dE.under(hb:Below w.heap.size w W1)(hk:dE A S W1 B tb db sb fb mb now cap L tv w2 A2 cs' D' tv' ts'):dE A S w B tb db sb fb mb now cap L tv w2 A2 cs' D' tv' ts':=by
 have hs:=hb.size;refine⟨hk.t,(aj.of_below hb).trans hk.f (fun _ _ e=>e) (fun _ _ e=>e),hk.sub,fun b e=>?_,fun b e=>?_⟩
 ·rcases hk.new b e with e|e
  ·exact Or.inl e
  ·exact Or.inr (by omega)
 ·rcases hk.own b e with e|e
  ·exact Or.inl e
  ·exact Or.inr (by omega)
theorem dE.over(hk:dE A S w B tb db sb fb mb now cap L tv w2 A2 cs' D' tv' ts')(hb:Below w2.heap.size w2 W1):dE A S w B tb db sb fb mb now cap L tv W1 A2 cs' D' tv' ts':=
 ⟨hk.t.below hb,hk.f.trans (aj.of_below hb) (fun _ _ e=>e) (fun _ _ e=>e),hk.sub,hk.new,hk.own⟩
theorem fY.under{fv:zV}(hb:Below w.heap.size w W1)(hk:fY A S W1 B tb db sb fb mb now cap cs D L F q fv w2):fY A S w B tb db sb fb mb now cap cs D L F q fv w2:=by
 obtain⟨A2,tv',f,D',Wk,ts,h1,h2,h3,h4⟩:=hk;exact⟨A2,tv',f,D',Wk,ts,h1,h2,h3.under hb,h4⟩
def Gm(S:Nat→Shf)(db sb fb mb now:Nat)(cap:Int)(L:List (zV×zV))(F:Find)(g:Nat):Prop:=
 ∀(A:Nat→Prop)(w:zW)(cs:List Int)(D:List Kp)(B tb:Nat)(m1 m2:zA),m1.size≤N48→m2.size≤N48→D.length+10000*g≤N15→Tsk A S w B tb db sb fb mb now cap cs D L (zN) []→
  zC 310 #[zP tb,.agg #[.string m1,.string m2]] w fun e w'=>∃v,e=.returned v∧fY A S w B tb db sb fb mb now cap cs D L F ⟨2,m1,m2⟩ (.iface 391 v) w'
def K9(S:Nat→Shf)(db sb fb mb now:Nat)(cap:Int)(L:List (zV×zV))(F:Find)(g:Nat):Prop:=
 ∀(A:Nat→Prop)(w:zW)(cs:List Int)(D:List Kp)(B tb:Nat),D.length+10000*g≤N15→Tsk A S w B tb db sb fb mb now cap cs D L (zN) []→
  zC 311 #[zP tb] w fun e w'=>∃v,e=.returned v∧fY A S w B tb db sb fb mb now cap cs D L F ⟨3,e0,e0⟩ (.iface 176 v) w'
def Ow(S:Nat→Shf)(db sb fb mb now:Nat)(cap:Int)(L:List (zV×zV))(F:Find)(g:Nat):Prop:=
 ∀(A:Nat→Prop)(w:zW)(cs:List Int)(D:List Kp)(B tb:Nat),D.length+10000*g≤N15→Tsk A S w B tb db sb fb mb now cap cs D L (zN) []→
  zC 312 #[zP tb] w fun e w'=>∃v,e=.returned v∧fY A S w B tb db sb fb mb now cap cs D L F ⟨4,e0,e0⟩ (.iface 179 v) w'
theorem ye(t:Option zA):kM (dW t)=0∧zg (dW t)∧Small (dW t):=by
 have hno:∀n,zg (.man n ⟨e0,[],[],[]⟩)∧Small (.man n ⟨e0,[],[],[]⟩):=fun n=>⟨⟨aK _,(fun x hx=>by simp at hx),(fun x hx=>by simp at hx),(fun x hx=>by simp at hx)⟩,aK _,aK _,aK _⟩
 cases t with
 |none=>exact⟨rfl,hno _⟩
 |some s=>
  by_cases h:br s=[]
  ·rw[sT h]
   obtain⟨h1,h2,h3,h4⟩:=xF h;refine⟨rfl,⟨h1.p,fun x hx=>h1.R x ((Ss.bY _).mem_iff.1 hx),fun x hx=>h1.X x ((Ss.bY _).mem_iff.1 hx),fun x hx=>h1.S x ((Ss.bY _).mem_iff.1 hx)⟩,?_,?_,?_⟩
   ·show(Ss.aJ _ _).length≤_;rw[Ss.df];omega
   ·show(Ss.aJ _ _).length≤_;rw[Ss.df];omega
   ·show(Ss.aJ _ _).length≤_;rw[Ss.df];omega
  ·have e:dW (some s)=.man 3 ⟨e0,[],[],[]⟩:=af h
   rw[e];exact⟨rfl,hno _⟩
theorem yf(t:Option zA):kM (idxOf t)=1∧zg (idxOf t)∧Small (idxOf t):=by
 cases t with
 |none=>exact⟨rfl,(fun x hx=>by simp at hx),aK _⟩
 |some s=>
  by_cases h:dB s=[]
  ·have e:idxOf (some s)=.idx 0 (fh s):=ah h
   rw[e];have:=Hg h;exact⟨rfl,this.1,by have:=this.2;show _≤_;omega⟩
  ·have e:idxOf (some s)=.idx 6 []:=af h
   rw[e];exact⟨rfl,(fun x hx=>by simp at hx),aK _⟩
theorem lx(hk:q.kind≤4)(hq:QOk q)(h2:q.kind=2→Gm S db sb fb mb now cap L F g)(h3:q.kind=3→K9 S db sb fb mb now cap L F g)(h4:q.kind=4→Ow S db sb fb mb now cap L F g):uG S db sb fb mb now cap L F g q:=by
 intro A w cs D B tb hD h
 suffices hc:zC 283 #[zP tb,qv q] w fun e w'=>∃fv,e=.returned fv∧fY A S w B tb db sb fb mb now cap cs D L F q fv w' by
  refine hc.mono ?_;rintro e w' ⟨fv,rfl,A2,tv',f,D',Wk,ts,h1,h2,h3,h4⟩;exact⟨A2,tv',fv,f,D',Wk,ts,rfl,h1,h2,h3,h4⟩
 obtain⟨qk,qp,qw⟩:=q;show zC 283 #[zP tb,.agg #[zI (qk:Nat),.string qp,.string qw]] w _;have HB1:Hid (Below w.heap.size w (w.alloc (.cells #[zI (qk:Nat),.string qp,.string qw] 201))):=(ae _ _).alloc (ag _) _;have hX:(w.alloc (.cells #[zI (qk:Nat),.string qp,.string qw] 201)).heap[w.heap.size]?=some (.cells #[zI (qk:Nat),.string qp,.string qw] 201):=aD _ _;obtain⟨⟨c0,_⟩,⟨c1,_⟩,⟨c2,_⟩⟩:=fd3 hX;have HT:Hid (Tsk A S (w.alloc (.cells #[zI (qk:Nat),.string qp,.string qw] 201)) B tb db sb fb mb now cap cs D L (zN) []):=h.below HB1.out;have hk':qk≤4:=hk;clear hX h;rcases(by omega:qk=0∨qk=1∨qk=2∨qk=3∨qk=4) with rfl|rfl|rfl|rfl|rfl
 ·have HQ:Hid (QOk ⟨0,qp,qw⟩):=hq
  have HP:Hid (POk (0,qp,qw)):=⟨by show 0≤4;omega,by have h1:=hq.p;have h2:qp.size≤2000:=h1;show qp.size≤_;omega,by have h1:=hq.v;have h2:qw.size≤2000:=h1;show qw.size≤_;omega⟩;have kr:=xY (0,qp,qw) HP.out _ HT.out (by show 0≤_;omega);clear hk hq h2 h3 h4 hk';go_enter func283,ntmps283
  go_wp2_with (go_at_call 308;fail)
  go_at_call 308;refine kr.mono ?_;rintro e w2 ⟨A2,tv',rfl,hw⟩;have HW:Hid (dE A S (w.alloc (.cells #[zI ((0:Nat):Int),.string qp,.string qw] 201)) B tb db sb fb mb now cap L (zN) w2 A2 cs D tv' ([]++[.rd (0,qp,qw) (S now (0,qp,qw))])):=hw;have km:=uC (A:=A2) (S now (0,qp,qw)) w2 hw.t.eng.ml hw.t.eng.hA (fun s e=>hw.t.eng.few _ s e);clear hw kr
  go_wp2_with (go_at_call 307;fail)
  go_at_call 307;refine km.mono ?_;rintro e w3 ⟨v,rfl,hf,hb⟩;have HF:Hid (fK A2 w3 (.iface 386 v) (dW (S now (0,qp,qw)))∧Below w2.heap.size w2 w3):=⟨hf,hb⟩;clear hf hb km;go_wp2
  (try rw[fD])
  go_ret;refine⟨_,rfl,fY.under (W1:=w.alloc (.cells #[zI ((0:Nat):Int),.string qp,.string qw] 201)) (q:=⟨0,qp,qw⟩) HB1.out ⟨A2,tv',dW (S now (0,qp,qw)),D,[],[.rd (0,qp,qw) (S now (0,qp,qw))],HF.out.1,Pre.rd Pre.start,HW.out.over HF.out.2,(ye _).1,(ye _).2.1,(ye _).2.2,fun t ht=>?_,by show 1≤_;omega⟩⟩;have e:t=.rd (0,qp,qw) (S now (0,qp,qw)):=by simpa using ht
  rw[e];exact HP.out
 ·have HQ:Hid (QOk ⟨1,qp,qw⟩):=hq
  have HP:Hid (POk (1,qp,e0)):=⟨by show 1≤4;omega,by have h1:=hq.p;have h2:qp.size≤2000:=h1;show qp.size≤_;omega,aK _⟩;have kr:=xY (1,qp,e0) HP.out _ HT.out (by show 0≤_;omega);clear hk hq h2 h3 h4 hk';go_enter func283,ntmps283
  go_wp2_with (go_at_call 308;fail)
  go_at_call 308;refine kr.mono ?_;rintro e w2 ⟨A2,tv',rfl,hw⟩;have HW:Hid (dE A S (w.alloc (.cells #[zI ((1:Nat):Int),.string qp,.string qw] 201)) B tb db sb fb mb now cap L (zN) w2 A2 cs D tv' ([]++[.rd (1,qp,e0) (S now (1,qp,e0))])):=hw;have km:=ze (A:=A2) (S now (1,qp,e0)) w2 hw.t.eng.ml hw.t.eng.hA;clear hw kr
  go_wp2_with (go_at_call 309;fail)
  go_at_call 309;refine km.mono ?_;rintro e w3 ⟨v,rfl,hf,hb⟩;have HF:Hid (fK A2 w3 (.iface 389 v) (idxOf (S now (1,qp,e0)))∧Below w2.heap.size w2 w3):=⟨hf,hb⟩;clear hf hb km;go_wp2
  (try rw[fD])
  go_ret;refine⟨_,rfl,fY.under (W1:=w.alloc (.cells #[zI ((1:Nat):Int),.string qp,.string qw] 201)) (q:=⟨1,qp,qw⟩) HB1.out ⟨A2,tv',idxOf (S now (1,qp,e0)),D,[],[.rd (1,qp,e0) (S now (1,qp,e0))],HF.out.1,Pre.rd Pre.start,HW.out.over HF.out.2,(yf _).1,(yf _).2.1,(yf _).2.2,fun t ht=>?_,by show 1≤_;omega⟩⟩;have e:t=.rd (1,qp,e0) (S now (1,qp,e0)):=by simpa using ht
  rw[e];exact HP.out
 ·have kw:=h2 rfl A _ cs D B tb qp qw hq.p hq.v hD HT.out
  clear hk hq h2 h3 h4 hk';go_enter func283,ntmps283
  go_wp2_with (go_at_call 310;fail)
  go_at_call 310;refine kw.mono ?_;rintro e w3 ⟨v,rfl,hw⟩;have HW:Hid (fY A S (w.alloc (.cells #[zI ((2:Nat):Int),.string qp,.string qw] 201)) B tb db sb fb mb now cap cs D L F ⟨2,qp,qw⟩ (.iface 391 v) w3):=hw;clear hw kw;go_wp2
  (try rw[fD])
  go_ret;exact⟨_,rfl,HW.out.under HB1.out⟩
 ·have kw:=h3 rfl A _ cs D B tb hD HT.out
  clear hk hq h2 h3 h4 hk';go_enter func283,ntmps283
  go_wp2_with (go_at_call 311;fail)
  go_at_call 311;refine kw.mono ?_;rintro e w3 ⟨v,rfl,hw⟩;have HW:Hid (fY A S (w.alloc (.cells #[zI ((3:Nat):Int),.string qp,.string qw] 201)) B tb db sb fb mb now cap cs D L F ⟨3,qp,qw⟩ (.iface 176 v) w3):=hw;clear hw kw;go_wp2
  (try rw[fD])
  go_ret;exact⟨_,rfl,HW.out.under HB1.out⟩
 ·have kw:=h4 rfl A _ cs D B tb hD HT.out
  clear hk hq h2 h3 h4 hk';go_enter func283,ntmps283
  go_wp2_with (go_at_call 312;fail)
  go_at_call 312;refine kw.mono ?_;rintro e w3 ⟨v,rfl,hw⟩;have HW:Hid (fY A S (w.alloc (.cells #[zI ((4:Nat):Int),.string qp,.string qw] 201)) B tb db sb fb mb now cap cs D L F ⟨4,qp,qw⟩ (.iface 179 v) w3):=hw;clear hw kw;go_wp2
  (try rw[fD])
  go_ret;exact⟨_,rfl,HW.out.under HB1.out⟩
variable{r:Nat}
theorem La(hk:q.kind≤4)(hr:rk q=0)(hq:QOk q):uG S db sb fb mb now cap L F g q:=
 lx hk hq (fun e=>by unfold rk at hr;rw[e] at hr;simp at hr) (fun e=>by unfold rk at hr;rw[e] at hr;simp at hr) (fun e=>by unfold rk at hr;rw[e] at hr;simp at hr)
theorem Ak:eA S db sb fb mb now cap L 0:=by
 intro A q w cs D hr hk hq hD h;have hg:(20000*0+1:Nat)=grow 0:=rfl;exact Dz (m:=0) Dw (fun _ _ _ _ _ h=>h.elim) (fun _ _ _ _ _ _ h=>absurd h (dz _)) (La hk (Nat.le_zero.1 hr) hq) (fun q' h' _=>by omega) hr hk hq w (by rw[hg];exact hD) h
theorem uH(hF:eA S db sb fb mb now cap L r)(hW:∀q,rk q≤r+1→q.kind≤4→QOk q→uG S db sb fb mb now cap L (fnd (S now) now r) (grow r) q):eA S db sb fb mb now cap L (r+1):=by
 intro A q w cs D hr hk hq hD h;exact Dz (m:=r+1) (P:=fun q=>rk q≤r) hF (mh _ _ r) (mg r) (hW q hr hk hq) (fun q' h' _=>by omega) hr hk hq w hD h
end Pn
namespace Pn
open Mf Ed
variable{A A1 A2 A3:Nat→Prop}{S:Nat→Shf}{w w' W W1 w2 w3 wf:zW}{db sb fb mb now:Nat}{cap:Int}{cs cs':List Int}{D D':List Kp}{L L':List (zV×zV)}{B tb:Nat}{tv tv':zV}{ts ts':List Tie}{q:Qn}{k:Kp}{F:Find}{g:Nat}{n n1 b:Nat}{o:Obj}
theorem dE.refl(h:Tsk A S w B tb db sb fb mb now cap cs D L tv ts):dE A S w B tb db sb fb mb now cap L tv w A cs D tv ts:=
 ⟨h,aj.refl _ _,fun _ e=>e,fun _ e=>Or.inl e,fun _ e=>Or.inl e⟩
theorem dE.put{p Q:Nat→Prop}(h:Tsk A S w B tb db sb fb mb now cap cs D L tv ts)(hk:dE A S w B tb db sb fb mb now cap L tv W A2 cs' D' tv' ts')(ht:aj p W w')(hp:∀b,b<W.heap.size→p b→A2 b∧w.heap.size≤b∧tv'.ownBlock≠some b)(hQ:∀b,Q b→W.heap.size≤b∧b<w'.heap.size):
  dE A S w B tb db sb fb mb now cap L tv w' (fun b=>A2 b∨Q b) cs' D' tv' ts':=by
 have hB:=h.hB;have hT:=hk.t;have ht':aj (fun b=>b<W.heap.size∧p b) W w':=ht.mono (fun b hb e=>⟨hb,e⟩)
 have h2:Tsk A2 S w' B tb db sb fb mb now cap cs' D' L tv' ts':=hT.turn ht' (fun b hb e=>(hp b hb e.2).1) (fun b e=>⟨by have:=(hp b e.1 e.2).2.1;omega,fun e2=>by
  have h3:=hp b e.1 e.2;rcases e2 with e2|e2
  ·have:=h.task.t0.lt;omega
  ·exact h3.2.2 e2⟩)
 obtain⟨L',g1,g2⟩:=hT.eng.desk.map
 have g3:dP (fun b=>A2 b∨Q b) W L' D':=g2.more (fun b hb2 e=>by
  rcases e with e|e
  ·exact e
  ·have:=(hQ b e).1;omega)
 have g4:dP (fun b=>A2 b∨Q b) w' L' D':=g3.turn (ht.mono (fun b hb e=>Or.inl (hp b hb e).1))
 have hfb:w'.heap[fb]?=W.heap[fb]?:=ht.block fb (hT.eng.hA _ hT.eng.desk.hf) (fun e=>by
  have h3:=(hp fb (hT.eng.hA _ hT.eng.desk.hf) e).2.1;have:=h.lt;omega)
 have he:=h2.eng;have hs:=ht.size;have hks:=hk.f.size;refine⟨⟨⟨⟨he.desk.f0,he.desk.f1,he.desk.f2,he.desk.cn,⟨L',g1.of_block hfb,g4⟩,he.desk.ne,Or.inl he.desk.hd,Or.inl he.desk.hf⟩,he.shelf,he.on,he.inv,he.ml,he.len,fun b e=>?_,⟨Or.inl he.ns.1,Or.inl he.ns.2⟩,he.ne,he.ok,he.rt,he.few⟩,h2.task,fun b e=>Or.inl (h2.pr b e),h2.lt,h2.hB⟩,?_,fun b e=>Or.inl (hk.sub b e),fun b e=>?_,hk.own⟩
 ·rcases e with e|e
  ·exact he.hA b e
  ·exact(hQ b e).2
 ·exact hk.f.trans ht' (fun _ _ e=>e) (fun b hb e=>by have:=(hp b e.1 e.2).2.1;omega)
 ·rcases e with e|e
  ·exact hk.new b e
  ·right;have:=(hQ b e).1;omega
theorem dE.less(hk:dE A S w B tb db sb fb mb now cap L tv W A2 cs' D' tv' ts')(h1:∀b,A3 b→A2 b)(h2:∀b,A b→A3 b)(h3:∀b,Own tb tv' b→A3 b)(h4:A db∧A fb∧A sb∧A mb):dE A S w B tb db sb fb mb now cap L tv W A3 cs' D' tv' ts':=
 ⟨⟨hk.t.eng.less h1 ⟨h2 _ h4.1,h2 _ h4.2.1,h2 _ h4.2.2.1,h2 _ h4.2.2.2⟩,hk.t.task,h3,hk.t.lt,hk.t.hB⟩,hk.f,h2,fun b e=>hk.new b (h1 b e),hk.own⟩
structure Lc(n:Nat)(tv:zV)(W:World)(b:Nat)(o:Obj):Prop where
 h:W.heap[b]?=some o
 le:n≤b
 ne:tv.ownBlock≠some b
theorem Lc.lt(h:Lc n tv W b o):b<W.heap.size:=by
 have:=h.h;exact(oq.1 this).1
theorem Lc.went(hn:db<n∧fb<n∧tb<n)(h:Lc n tv W1 b o)(hk:dE A1 S W1 B tb db sb fb mb now cap L tv w2 A2 cs' D' tv' ts'):Lc n tv' w2 b o:=by
 have hle:=h.le;have hlt:=h.lt;refine⟨(hk.f.block b h.lt (fun e=>?_)).trans h.h,h.le,fun e=>?_⟩
 ·rcases e with e|e|e|e
  ·omega
  ·omega
  ·omega
  ·exact h.ne e
 ·rcases hk.own b e with e|e
  ·exact h.ne e
  ·omega
theorem Lc.below(h:Lc n tv W b o)(hb:Below W.heap.size W W1):Lc n tv W1 b o:=⟨(hb.block b h.lt).trans h.h,h.le,h.ne⟩
theorem Lc.turn{p:Nat→Prop}(h:Lc n tv W b o)(ht:aj p W W1)(hp:¬p b):Lc n tv W1 b o:=⟨(ht.block b h.lt hp).trans h.h,h.le,h.ne⟩
theorem Lc.new(W:zW)(o:Obj)(hn:n≤W.heap.size)(ht:∀b,tv.ownBlock=some b→b<W.heap.size):Lc n tv (W.alloc o) W.heap.size o:=⟨aD _ _,hn,fun e=>by have:=ht _ e;omega⟩
structure Rw(n1:Nat)(A:Nat→Prop)(tv:zV)(W:World)(e s:Nat)(v:zV)(k:Nat)(xs:List zV):Prop where
 row:W.ownsRow n1 e s v k xs
 own:∀b,v.ownBlock=some b→A b∧tv.ownBlock≠some b
variable{e s kk:Nat}{v:zV}{xs:List zV}
theorem Rw.went(hn:db<n1∧fb<n1∧tb<n1)(h:Rw n1 A1 tv W1 e s v kk xs)(hk:dE A1 S W1 B tb db sb fb mb now cap L tv w2 A2 cs' D' tv' ts'):Rw n1 A2 tv' w2 e s v kk xs:=by
 refine⟨ar h.row (fun b e=>hk.f.block b (h.row.lt b e).2 (fun e2=>?_)),fun b e=>⟨hk.sub b (h.own b e).1,fun e2=>?_⟩⟩
 ·have hl:=h.row.lt b e
  rcases e2 with e2|e2|e2|e2
  ·omega
  ·omega
  ·omega
  ·exact(h.own b e).2 e2
 ·have hl:=h.row.lt b e
  rcases hk.own b e2 with e2|e2
  ·exact(h.own b e).2 e2
  ·omega
theorem Rw.turn{p:Nat→Prop}(h:Rw n1 A tv W e s v kk xs)(ht:aj p W W1)(hp:∀b,v.ownBlock=some b→¬p b)(hA:∀b,A b→A2 b):Rw n1 A2 tv W1 e s v kk xs:=
 ⟨ar h.row (fun b e=>ht.block b (h.row.lt b e).2 (hp b e)),fun b e=>⟨hA b (h.own b e).1,(h.own b e).2⟩⟩
theorem Rw.below(h:Rw n1 A tv W e s v kk xs)(hb:Below W.heap.size W W1):Rw n1 A tv W1 e s v kk xs:=h.turn (aj.of_below (p:=fun _=>False) hb) (fun _ _ e=>e) (fun _ e=>e)
theorem Rw.nil(e s:Nat):Rw n1 A tv W e s (zN) 0 []:=⟨iW _ _ _ _,fun b e=>by simp[Value.ownBlock] at e⟩
theorem RdA.Fg{α:Type}{enc:α→List zV}{v:zV}{L:List α}{B e s:Nat}{xs:List zV}(h:w.ownsRow B e s v L.length xs)(hx:xs=L.flatMap enc)(hl:∀x,(enc x).length=s)(hA:∀b,v.ownBlock=some b→¬A b):RdA A enc w v L:=by
 rcases h.2 with⟨h1,h2⟩|⟨g,c,cur,h1,h2⟩
 ·exact Or.inl ⟨h1,qL h2⟩
 ·subst h1
  refine Or.inr ⟨g,0,c,rfl,⟨hA g rfl,h2.2.2.1,h2.2.2.2.1,(h.lt g rfl).2⟩,fun j u hj=>?_⟩
  have hj2:j<L.length*s:=by
   have:=(cq.1 hj).1;rw[Ss.fe hl] at this;exact this
  rw[dX,h.cellAt j hj2,hx];exact hj
theorem Rw.grow{p:Nat→Prop}{v':zV}{k':Nat}{xs':List zV}(hown:W1.ownsRow n1 e s v' k' xs')(hv:∀b,v.ownBlock=some b→A b∧tv.ownBlock≠some b)(hat:∀b,v'.ownBlock=some b→v.ownBlock=some b∨W.heap.size≤b)(htv:∀b,tv.ownBlock=some b→b<W.heap.size)(ht:aj p W1 w2)(hp:∀b,v'.ownBlock=some b→¬p b):Rw n1 (fun b=>A b∨(v'.ownBlock=some b∧W.heap.size≤b)) tv w2 e s v' k' xs':=by
 refine⟨ar hown (fun b e=>ht.block b (hown.lt b e).2 (hp b e)),fun b e=>?_⟩;rcases hat b e with e2|e2
 ·exact⟨Or.inl (hv b e2).1,(hv b e2).2⟩
 ·exact⟨Or.inr ⟨e,e2⟩,fun e3=>by have:=htv b e3;omega⟩
end Pn
namespace Pn
open Mf Ed
variable{A A1 A2 A3:Nat→Prop}{S:Nat→Shf}{w w' wr wx W W1 w1 w2 w3 wf:zW}{db sb fb mb now:Nat}{cap:Int}{cs cs':List Int}{D D' D3:List Kp}{L L':List (zV×zV)}{B tb:Nat}{tv tv' tv3:zV}{ts ts':List Tie}{q:Qn}{kk:Kp}{F:Find}{g:Nat}{n n1 b:Nat}{o:Obj}
structure Wt(A:Nat→Prop)(S:Nat→Shf)(w:World)(B tb db sb fb mb now:Nat)(cap:Int)(L:List (zV×zV))(cs:List Int)(D:List Kp)(F:Find)(cm:Cm Fi)(n1 rb b5 b6 wb:Nat)(root:zA)(rl:Mx)(r1v xv sv rv:zV)(R:List Mo)(wr:World)(c:Cm Fi)(A2:Nat→Prop)(D':List Kp)(tv':zV)(ts':List Tie)(Wk:List Qn)(ms:List Mo)(ps:List Pb)(mv pv:zV):Prop where
 h0:Tsk A S w B tb db sb fb mb now cap cs D L (zN) []
 went:dE A S w B tb db sb fb mb now cap L (zN) wr A2 (counted cs Wk) D' tv' ts'
 pre:Pre F (S now) D cm D' c ts' Wk
 rx:RdA A2 Sm.mc wr xv rl.X
 rr:RdA A2 Sm.mc wr rv R
 l4:Lc w.heap.size tv' wr rb (.cells #[zN,zN] 391)
 l5:Lc w.heap.size tv' wr b5 (.cells #[.string root,.string e0] 29)
 l6:Lc w.heap.size tv' wr b6 (.cells #[.string rl.p,r1v,xv,sv] 26)
 lw:Lc w.heap.size tv' wr wb (.cells #[mv,pv] 391)
 mr:Rw n1 A2 tv' wr 29 2 mv ms.length (mcs ms)
 pr:Rw n1 A2 tv' wr 76 3 pv ps.length (ps.flatMap aT)
 mp:∀b,mv.ownBlock=some b→pv.ownBlock≠some b
 hA:A2 rb∧A2 wb
 hn:rb<n1∧b5<n1∧b6<n1∧wb<n1∧n1≤wr.heap.size∧w.heap.size≤n1∧rb≠wb∧b5≠wb∧b6≠wb
 ok:(∀t∈ts',jg t)∧(∀x∈ms,x.1.size≤N48∧x.2.size≤N48)
variable{cm c:Cm Fi}{rb b5 b6 wb:Nat}{root:zA}{rl:Mx}{r1v xv sv rv:zV}{R:List Mo}{Wk Wk3:List Qn}{ms:List Mo}{ps:List Pb}{mv pv:zV}
theorem Wt.below(h:Wt A S w B tb db sb fb mb now cap L cs D F cm n1 rb b5 b6 wb root rl r1v xv sv rv R wr c A2 D' tv' ts' Wk ms ps mv pv)(hb:Below wr.heap.size wr W):
  Wt A S w B tb db sb fb mb now cap L cs D F cm n1 rb b5 b6 wb root rl r1v xv sv rv R W c A2 D' tv' ts' Wk ms ps mv pv:=
 ⟨h.h0,h.went.over hb,h.pre,h.rx.below hb,h.rr.below hb,h.l4.below hb,h.l5.below hb,h.l6.below hb,h.lw.below hb,h.mr.below hb,h.pr.below hb,h.mp,h.hA,by have:=h.hn;have:=hb.size;omega,h.ok⟩
theorem dE.fr(h:Tsk A2 S wr B tb db sb fb mb now cap cs D L tv' ts')(hk:dE A2 S wr B tb db sb fb mb now cap L tv' wx A3 cs' D' tv3 ts):aj A3 wr wx:=
 hk.f.mono (fun b _ e=>by
  rcases e with e|e|e
  ·rw[e];exact hk.sub _ h.eng.desk.hd
  ·rw[e];exact hk.sub _ h.eng.desk.hf
  ·exact hk.sub _ (h.pr b e))
theorem RdA.went{α:Type}{enc:α→List zV}{v:zV}{l:List α}(h:RdA A2 enc wr v l)(hT:Tsk A2 S wr B tb db sb fb mb now cap cs D L tv' ts')(hk:dE A2 S wr B tb db sb fb mb now cap L tv' wx A3 cs' D' tv3 ts):RdA A3 enc wx v l:=
 (h.more (fun b hb e=>by
  rcases hk.new b e with e|e
  ·exact e
  ·omega)).turn (hk.fr hT)
theorem Wt.asked{k:Fi→Cm Fi}(h:Wt A S w B tb db sb fb mb now cap L cs D F cm n1 rb b5 b6 wb root rl r1v xv sv rv R wr (.ask q k) A2 D' tv' ts' Wk ms ps mv pv)(hk:dE A2 S wr B tb db sb fb mb now cap L tv' wx A3 (counted (counted cs Wk) Wk3) D3 tv3 (ts'++[.ask q]))(hf:F D' q kk D3 Wk3)(hq:QOk q):
  Wt A S w B tb db sb fb mb now cap L cs D F cm n1 rb b5 b6 wb root rl r1v xv sv rv R wx (k kk.f.ess) A3 D3 tv3 (ts'++[.ask q]) (Wk++Wk3) ms ps mv pv:=by
 have hlt:db<w.heap.size∧fb<w.heap.size∧tb<w.heap.size:=by
  have h1:=h.h0.lt;have h2:=h.h0.hB;have h3:=h.h0.task.t0.lt;omega
 have hn:=h.hn;have hs:=hk.f.size;have Lb:db<n1∧fb<n1∧tb<n1:=by omega
 refine⟨h.h0,?_,Pre.ask h.pre hf,h.rx.went h.went.t hk,h.rr.went h.went.t hk,h.l4.went hlt hk,h.l5.went hlt hk,h.l6.went hlt hk,h.lw.went hlt hk,h.mr.went Lb hk,h.pr.went Lb hk,h.mp,⟨hk.sub _ h.hA.1,hk.sub _ h.hA.2⟩,by omega,fun t ht=>?_,h.ok.2⟩
 ·rw[←fz];exact h.went.trans hk
 ·rcases bJ.1 ht with ht|ht
  ·exact h.ok.1 t ht
  ·have e:t=.ask q:=by simpa using ht
   rw[e];exact hq
theorem Wt.tvlt(h:Wt A S w B tb db sb fb mb now cap L cs D F cm n1 rb b5 b6 wb root rl r1v xv sv rv R wr c A2 D' tv' ts' Wk ms ps mv pv):∀b,tv'.ownBlock=some b→b<wr.heap.size:=fun b e=>(h.went.t.task.row.lt b e).2
theorem Wt.putM{m:Mo}{mv':zV}(h:Wt A S w B tb db sb fb mb now cap L cs D F cm n1 rb b5 b6 wb root rl r1v xv sv rv R W c A2 D' tv' ts' Wk ms ps mv pv)(hg:W.grownBy w1 mv.ownBlock)(hown:w1.ownsRow n1 29 2 mv' (ms.length+1) (mcs (ms++[m])))(hat:∀b,mv'.ownBlock=some b→mv.ownBlock=some b∨W.heap.size≤b)(hm:m.1.size≤N48∧m.2.size≤N48):
  Wt A S w B tb db sb fb mb now cap L cs D F cm n1 rb b5 b6 wb root rl r1v xv sv rv R (w1.setCell ⟨wb,0,none⟩ mv') c (fun b=>A2 b∨(mv'.ownBlock=some b∧W.heap.size≤b)) D' tv' ts' Wk (ms++[m]) ps mv' pv:=by
 have hn:=h.hn;have hmo:∀b,mv.ownBlock=some b→n1≤b∧b<W.heap.size:=fun b e=>h.mr.row.lt b e
 have hpo:∀b,pv.ownBlock=some b→n1≤b∧b<W.heap.size:=fun b e=>h.pr.row.lt b e
 have ht1:aj (fun b=>mv.ownBlock=some b) W w1:=(aj.refl _ W).grown hg (fun b _ e=>e);have ht2:aj (fun b=>b=wb) w1 (w1.setCell ⟨wb,0,none⟩ mv'):=(aj.refl (fun b=>b=wb) w1).set (a:=⟨wb,0,none⟩) (fun _=>rfl) _;have ht:aj (fun b=>mv.ownBlock=some b∨b=wb) W (w1.setCell ⟨wb,0,none⟩ mv'):=ht1.trans ht2 (fun _ _ e=>Or.inl e) (fun _ _ e=>Or.inr e)
 have hpA:∀b,b<W.heap.size→(mv.ownBlock=some b∨b=wb)→A2 b∧w.heap.size≤b∧tv'.ownBlock≠some b:=fun b _ e=>by
  rcases e with e|e
  ·exact⟨(h.mr.own b e).1,by have:=hmo b e;omega,(h.mr.own b e).2⟩
  ·rw[e];exact⟨h.hA.2,h.lw.le,h.lw.ne⟩
 have hQ:∀b,(mv'.ownBlock=some b∧W.heap.size≤b)→W.heap.size≤b∧b<(w1.setCell ⟨wb,0,none⟩ mv').heap.size:=fun b e=>⟨e.2,by
  have h1:=(hown.lt b e.1).2;have h2:=ht2.size;omega⟩
 have hno:∀b,b<n1→b≠wb→¬(mv.ownBlock=some b∨b=wb):=fun b hb hne e=>by
  rcases e with e|e
  ·have:=hmo b e;omega
  ·exact hne e
 have hrd:∀{α:Type} {enc:α→List zV} {v:zV} {l:List α},RdA A2 enc W v l→RdA (fun b=>A2 b∨(mv'.ownBlock=some b∧W.heap.size≤b)) enc (w1.setCell ⟨wb,0,none⟩ mv') v l:=fun hr=>
  (hr.more (fun b hb e=>by
   rcases e with e|e
   ·exact e
   ·omega)).turn (ht.mono (fun b hb e=>Or.inl (hpA b hb e).1))
 refine⟨h.h0,h.went.put h.h0 ht hpA hQ,h.pre,hrd h.rx,hrd h.rr,h.l4.turn ht (hno _ hn.1 hn.2.2.2.2.2.2.1),h.l5.turn ht (hno _ hn.2.1 hn.2.2.2.2.2.2.2.1),h.l6.turn ht (hno _ hn.2.2.1 hn.2.2.2.2.2.2.2.2),⟨?_,h.lw.le,h.lw.ne⟩,?_,h.pr.turn ht (fun b e e2=>?_) (fun b e=>Or.inl e),fun b e e2=>?_,⟨Or.inl h.hA.1,Or.inl h.hA.2⟩,by have:=ht.size;omega,h.ok.1,fun x hx=>?_⟩
 ·exact cg _ _ 0 _ _ _ ((ht1.block wb h.lw.lt (fun e=>by have:=hmo wb e;omega)).trans h.lw.h)
 ·rw[bg]
  exact Rw.grow hown h.mr.own hat h.tvlt ht2 (fun b e e2=>by have:=(hown.lt b e).1;omega)
 ·rcases e2 with e2|e2
  ·exact h.mp b e2 e
  ·have:=hpo b e;omega
 ·rcases hat b e with e3|e3
  ·exact h.mp b e3 e2
  ·have:=hpo b e2;omega
 ·rcases bJ.1 hx with hx|hx
  ·exact h.ok.2 x hx
  ·have e:x=m:=by simpa using hx
   rw[e];exact hm
theorem Wt.putP{p:Pb}{pv':zV}(h:Wt A S w B tb db sb fb mb now cap L cs D F cm n1 rb b5 b6 wb root rl r1v xv sv rv R W c A2 D' tv' ts' Wk ms ps mv pv)(hg:W.grownBy w1 pv.ownBlock)(hown:w1.ownsRow n1 76 3 pv' (ps.length+1) ((ps++[p]).flatMap aT))(hat:∀b,pv'.ownBlock=some b→pv.ownBlock=some b∨W.heap.size≤b):
  Wt A S w B tb db sb fb mb now cap L cs D F cm n1 rb b5 b6 wb root rl r1v xv sv rv R (w1.setCell ⟨wb,1,none⟩ pv') c (fun b=>A2 b∨(pv'.ownBlock=some b∧W.heap.size≤b)) D' tv' ts' Wk ms (ps++[p]) mv pv':=by
 have hn:=h.hn;have hmo:∀b,mv.ownBlock=some b→n1≤b∧b<W.heap.size:=fun b e=>h.mr.row.lt b e
 have hpo:∀b,pv.ownBlock=some b→n1≤b∧b<W.heap.size:=fun b e=>h.pr.row.lt b e
 have ht1:aj (fun b=>pv.ownBlock=some b) W w1:=(aj.refl _ W).grown hg (fun b _ e=>e);have ht2:aj (fun b=>b=wb) w1 (w1.setCell ⟨wb,1,none⟩ pv'):=(aj.refl (fun b=>b=wb) w1).set (a:=⟨wb,1,none⟩) (fun _=>rfl) _;have ht:aj (fun b=>pv.ownBlock=some b∨b=wb) W (w1.setCell ⟨wb,1,none⟩ pv'):=ht1.trans ht2 (fun _ _ e=>Or.inl e) (fun _ _ e=>Or.inr e)
 have hpA:∀b,b<W.heap.size→(pv.ownBlock=some b∨b=wb)→A2 b∧w.heap.size≤b∧tv'.ownBlock≠some b:=fun b _ e=>by
  rcases e with e|e
  ·exact⟨(h.pr.own b e).1,by have:=hpo b e;omega,(h.pr.own b e).2⟩
  ·rw[e];exact⟨h.hA.2,h.lw.le,h.lw.ne⟩
 have hQ:∀b,(pv'.ownBlock=some b∧W.heap.size≤b)→W.heap.size≤b∧b<(w1.setCell ⟨wb,1,none⟩ pv').heap.size:=fun b e=>⟨e.2,by
  have h1:=(hown.lt b e.1).2;have h2:=ht2.size;omega⟩
 have hno:∀b,b<n1→b≠wb→¬(pv.ownBlock=some b∨b=wb):=fun b hb hne e=>by
  rcases e with e|e
  ·have:=hpo b e;omega
  ·exact hne e
 have hrd:∀{α:Type} {enc:α→List zV} {v:zV} {l:List α},RdA A2 enc W v l→RdA (fun b=>A2 b∨(pv'.ownBlock=some b∧W.heap.size≤b)) enc (w1.setCell ⟨wb,1,none⟩ pv') v l:=fun hr=>
  (hr.more (fun b hb e=>by
   rcases e with e|e
   ·exact e
   ·omega)).turn (ht.mono (fun b hb e=>Or.inl (hpA b hb e).1))
 refine⟨h.h0,h.went.put h.h0 ht hpA hQ,h.pre,hrd h.rx,hrd h.rr,h.l4.turn ht (hno _ hn.1 hn.2.2.2.2.2.2.1),h.l5.turn ht (hno _ hn.2.1 hn.2.2.2.2.2.2.2.1),h.l6.turn ht (hno _ hn.2.2.1 hn.2.2.2.2.2.2.2.2),⟨?_,h.lw.le,h.lw.ne⟩,h.mr.turn ht (fun b e e2=>?_) (fun b e=>Or.inl e),?_,fun b e e2=>?_,⟨Or.inl h.hA.1,Or.inl h.hA.2⟩,by have:=ht.size;omega,h.ok⟩
 ·exact cg _ _ 1 _ _ _ ((ht1.block wb h.lw.lt (fun e=>by have:=hpo wb e;omega)).trans h.lw.h)
 ·rcases e2 with e2|e2
  ·exact h.mp b e e2
  ·have:=hmo b e;omega
 ·rw[bg]
  exact Rw.grow hown h.pr.own hat h.tvlt ht2 (fun b e e2=>by have:=(hown.lt b e).1;omega)
 ·rcases hat b e2 with e3|e3
  ·exact h.mp b e e3
  ·have:=hmo b e;omega
theorem Wt.done{m1 m2:zA}(h:Wt A S w B tb db sb fb mb now cap L cs D F (dh ⟨2,m1,m2⟩) n1 rb b5 b6 wb root rl r1v xv sv rv R wr (.ret (.wants ms ps)) A2 D' tv' ts' Wk ms ps mv pv)(hl:ms.length≤3000∧ps.length≤3000∧ts'.length≤10000):
  fY A S w B tb db sb fb mb now cap cs D L F ⟨2,m1,m2⟩ (.iface 391 (.agg #[mv,pv])) ((wr.setCell ⟨rb,0,none⟩ mv).setCell ⟨rb,1,none⟩ pv):=by
 have hn:=h.hn;have hmo:∀b,mv.ownBlock=some b→n1≤b∧b<wr.heap.size:=fun b e=>h.mr.row.lt b e
 have hpo:∀b,pv.ownBlock=some b→n1≤b∧b<wr.heap.size:=fun b e=>h.pr.row.lt b e
 have ht:aj (fun b=>b=rb) wr ((wr.setCell ⟨rb,0,none⟩ mv).setCell ⟨rb,1,none⟩ pv):=((aj.refl (fun b=>b=rb) wr).set (a:=⟨rb,0,none⟩) (fun _=>rfl) _).set (a:=⟨rb,1,none⟩) (fun _=>rfl) _;have hw:=h.went.put (Q:=fun _=>False) h.h0 ht (fun b _ e=>by rw[e];exact⟨h.hA.1,h.l4.le,h.l4.ne⟩) (fun b e=>e.elim);have hnA:∀b,A b→b<w.heap.size:=h.h0.eng.hA
 have hw2:dE A S w B tb db sb fb mb now cap L (zN) _ (fun b=>A2 b∧mv.ownBlock≠some b∧pv.ownBlock≠some b) (counted cs Wk) D' tv' ts':=hw.less (fun b e=>Or.inl e.1) (fun b e=>⟨h.went.sub b e,fun e2=>by have:=hmo b e2;have:=hnA b e;omega,fun e2=>by have:=hpo b e2;have:=hnA b e;omega⟩) (fun b e=>by
   refine⟨h.went.t.pr b e,fun e2=>?_,fun e2=>?_⟩
   ·rcases e with e|e
    ·have h1:=hmo b e2;have h2:=h.h0.task.t0.lt;omega
    ·exact(h.mr.own b e2).2 e
   ·rcases e with e|e
    ·have h1:=hpo b e2;have h2:=h.h0.task.t0.lt;omega
    ·exact(h.pr.own b e2).2 e) ⟨h.h0.eng.desk.hd,h.h0.eng.desk.hf,h.h0.eng.ns.1,h.h0.eng.ns.2⟩
 have m2':=h.mr.turn (A2:=A2) ht (fun b e e2=>by have:=hmo b e;omega) (fun _ e=>e);have p2':=h.pr.turn (A2:=A2) ht (fun b e e2=>by have:=hpo b e;omega) (fun _ e=>e);refine⟨_,tv',.wants ms ps,D',Wk,ts',⟨mv,pv,rfl,RdA.Fg m2'.row rfl (fun _=>rfl) (fun b e e2=>e2.2.1 e),RdA.Fg p2'.row rfl (fun _=>rfl) (fun b e e2=>e2.2.2 e)⟩,h.pre,hw2,rfl,h.ok.2,⟨by omega,by omega⟩,h.ok.1,hl.2.2⟩
end Pn
namespace Pn
open Mf Ed
variable{A A1 A2 A3:Nat→Prop}{S:Nat→Shf}{w w' wr wx W W1 w1 w2 w3 wf:zW}{db sb fb mb now:Nat}{cap:Int}{cs cs' cs2:List Int}{D D' D1 D2 D3:List Kp}{L L':List (zV×zV)}{B tb:Nat}{tv tv' tv2 tv3:zV}{ts ts' ts2:List Tie}{q:Qn}{k kk:Kp}{F:Find}{g:Nat}{n n1 b:Nat}{o:Obj}{Wk:List Qn}
theorem kE{r:Nat}(hI:Inv S now D)(hf:fnd (S now) now r D q k D' Wk)(hr:rk q≤r)(hq:q.kind≤4)(hok:∀k∈D',KOk k):k.f=val (S now) q∧KOk k:=by
 have h:=mg r D q k D' Wk hI (mO hr) hq hf;exact⟨h.2.2.2.2.2,hok k h.2.2.1⟩
theorem Le{s:Shf}{p v:zA}{pr:Nat}{m:Mx}(h:val s ⟨0,p,v⟩=.man pr m):m.R.length≤2001:=by
 rw[rB s (aK 1)] at h;have h:dW (s (0,p,v))=.man pr m:=h;cases e:s (0,p,v) with
 |none=>
  rw[e] at h;injection h with _ h;rw[←h];exact aK _
 |some t=>
  rw[e] at h;by_cases h2:br t=[]
  ·rw[sT h2] at h
   injection h with _ h;rw[←h];show(Ss.aJ _ _).length≤_;rw[Ss.df];exact(xF h2).2.1
  ·have e2:dW (some t)=.man 3 ⟨e0,[],[],[]⟩:=af h2
   rw[e2] at h;injection h with _ h;rw[←h];exact aK _
theorem Lf(root:zA){s:Shf}{p v:zA}{f:Fi}(h:f=val s ⟨0,p,v⟩)(hf:zg f)(hs:Small f):(xE N48 (bO root f)∧(bO root f).X.length≤100000∧(bO root f).S.length≤100000)∧f.ess=f:=by
 obtain⟨pr,m,e⟩:=BL s p v;rw[e] at h;subst h;have hno:xE N48 (⟨e0,[],[],[]⟩:Mx):=⟨aK _,(fun x hx=>by simp at hx),(fun x hx=>by simp at hx),(fun x hx=>by simp at hx)⟩;refine⟨?_,rfl⟩;unfold bO;by_cases hp:dn (iF (.man pr m)) root≠0
 ·rw[ah hp];exact⟨hno,aK _,aK _⟩
 ·rw[af hp];exact⟨hf,hs.2.1,hs.2.2⟩
theorem vC{m1 m2:zA}(h1:m1.size≤N48)(h2:m2.size≤N48):∀(l:List So),(∀x∈l,x.1.size≤N48∧x.2.1.size≤N48∧x.2.2.size≤N48)→(replaced (m1,m2) l).1.size≤N48∧(replaced (m1,m2) l).2.size≤N48
 |[],_=>⟨h1,h2⟩
 |x::l,h=>by
  rw[qH]
  split
  ·exact⟨(h x (by simp)).1,(h x (by simp)).2.2⟩
  ·exact vC h1 h2 l (fun y hy=>h y (by simp[hy]))
theorem IG{s:Shf}{m1 m2 root s1 s2:zA}{rl:Mx}{kA kB:Kp}{Wa Wb:List Qn}{pr:Nat}{m:Mx}(pE:root=rootOf (s ax))(hrl:rl=bO root kA.f.ess)(hs:(s1,s2)=replaced (m1,m2) rl.S)(hfa:F D ⟨0,root,e0⟩ kA D1 Wa)(hfb:F D1 ⟨0,s1,s2⟩ kB D2 Wb)(hB:kB.f=.man pr m):
  Pre F s D (dh ⟨2,m1,m2⟩) D2 (if dn (pr,m) m1≠0 then .ret (.wants [] [(dn (pr,m) m1,s1,s2)]) else bj root rl.X m.R [] []) (([]++[.rd ax (s ax)])++[.ask ⟨0,root,e0⟩]++[.ask ⟨0,s1,s2⟩]) (([]++Wa)++Wb):=by
 subst pE;subst hrl;have e1:s1=(replaced (m1,m2) (bO (rootOf (s ax)) kA.f.ess).S).1:=bW Prod.fst hs;have e2:s2=(replaced (m1,m2) (bO (rootOf (s ax)) kA.f.ess).S).2:=bW Prod.snd hs;subst e1;subst e2;have h0:Pre F s D (dh ⟨2,m1,m2⟩) D (gD (m1,m2)) [] []:=Pre.start;have h1:=Pre.ask (Pre.ask (Pre.rd h0) hfa) hfb;rw[hB] at h1;exact h1
noncomputable def yg(root:zA)(X rest ms:List Mo)(ps:List Pb):Mo ⊕ Pb→Cm Fi
 | .inl m=>bj root X rest (ms++[m]) ps
 | .inr p=>bj root X rest ms (ps++[p])
theorem II{root:zA}{X R ms:List Mo}{ps:List Pb}{i:Nat}{x:Mo}(h:R[i]?=some x)(e:x.1=root):bj root X (R.drop i) ms ps=bj root X (R.drop (i+1)) ms ps:=by
 obtain⟨hi,e1⟩:=cq.1 h;rw[dt hi,e1,bj,ah e]
theorem Lg{root:zA}{X R ms:List Mo}{ps:List Pb}{i:Nat}{x:Mo}(h:R[i]?=some x)(e:x.1≠root):bj root X (R.drop i) ms ps=.ask ⟨1,x.1,e0⟩ fun f=>yg root X (R.drop (i+1)) ms ps (choose x (pd f) X):=by
 obtain⟨hi,e1⟩:=cq.1 h;rw[dt hi,e1,bj,af e]
 congr 1
theorem Lh{root:zA}{X R ms:List Mo}{ps:List Pb}:bj root X (R.drop R.length) ms ps=.ret (.wants ms ps):=by
 rw[List.drop_length,bj]
def Lcs(n:Nat)(tv:zV)(W:zW)(l:List (Nat×Obj)):Prop:=∀x∈l,Lc n tv W x.1 x.2
structure Stp(A:Nat→Prop)(S:Nat→Shf)(w:World)(B tb db sb fb mb now:Nat)(cap:Int)(L:List (zV×zV))(cs:List Int)(D:List Kp)(W:World)(A2:Nat→Prop)(cs':List Int)(D':List Kp)(tv':zV)(ts':List Tie)(l:List (Nat×Obj)):Prop where
 h0:Tsk A S w B tb db sb fb mb now cap cs D L (zN) []
 went:dE A S w B tb db sb fb mb now cap L (zN) W A2 cs' D' tv' ts'
 lcs:Lcs w.heap.size tv' W l
variable{l:List (Nat×Obj)}
theorem Stp.lt(h:Stp A S w B tb db sb fb mb now cap L cs D W A2 cs' D' tv' ts' l):db<w.heap.size∧fb<w.heap.size∧tb<w.heap.size:=by
 have h1:=h.h0.lt;have h2:=h.h0.hB;have h3:=h.h0.task.t0.lt;omega
theorem Stp.start(h0:Tsk A S w B tb db sb fb mb now cap cs D L (zN) [])(hb:Below w.heap.size w W)(P:Nat→Prop)(hP:∀b,P b→w.heap.size≤b∧b<W.heap.size)(l:List (Nat×Obj))(hl:∀x∈l,W.heap[x.1]?=some x.2∧w.heap.size≤x.1):
  Stp A S w B tb db sb fb mb now cap L cs D W (fun b=>A b∨P b) cs D (zN) [] l:=
 ⟨h0,dE.put h0 (dE.refl h0) (aj.of_below hb:aj (fun _=>False) w W) (fun _ _ e=>e.elim) hP,fun x hx=>⟨(hl x hx).1,(hl x hx).2,by simp[Value.ownBlock]⟩⟩
theorem Stp.Qa(h0:Tsk A S w B tb db sb fb mb now cap cs D L (zN) [])(o1 o2:Obj):
  Stp A S w B tb db sb fb mb now cap L cs D ((w.alloc o1).alloc o2) (fun b=>A b∨b=w.heap.size+1) cs D (zN) [] [(w.heap.size+1,o2),(w.heap.size,o1)]:=by
 have hb0:Below w.heap.size w (w.alloc o1):=(ae _ _).alloc (ag _) _;refine Stp.start h0 (hb0.alloc hb0.size o2) (fun b=>b=w.heap.size+1) (fun b e=>by rw[e];exact⟨cr _,by simp⟩) _ (fun x hx=>?_);rcases aV.1 hx with e|e
 ·rw[e];exact⟨ez w _ _,cr _⟩
 ·have e:x=(w.heap.size,o1):=by simpa using e
  rw[e];exact⟨(aG _ _ _ (by simp)).trans (aD _ _),ag _⟩
theorem Stp.call(h:Stp A S w B tb db sb fb mb now cap L cs D W A2 cs' D' tv' ts' l)(hk:dE A2 S W B tb db sb fb mb now cap L tv' w2 A3 cs2 D2 tv2 ts2):Stp A S w B tb db sb fb mb now cap L cs D w2 A3 cs2 D2 tv2 ts2 l:=
 ⟨h.h0,h.went.trans hk,fun x hx=>(h.lcs x hx).went h.lt hk⟩
theorem Stp.below(h:Stp A S w B tb db sb fb mb now cap L cs D W A2 cs' D' tv' ts' l)(hb:Below W.heap.size W W1):Stp A S w B tb db sb fb mb now cap L cs D W1 A2 cs' D' tv' ts' l:=
 ⟨h.h0,h.went.over hb,fun x hx=>(h.lcs x hx).below hb⟩
theorem Stp.tvlt(h:Stp A S w B tb db sb fb mb now cap L cs D W A2 cs' D' tv' ts' l):∀b,tv'.ownBlock=some b→b<W.heap.size:=fun b e=>(h.went.t.task.row.lt b e).2
theorem Stp.lay(h:Stp A S w B tb db sb fb mb now cap L cs D W A2 cs' D' tv' ts' l)(o:Obj):Stp A S w B tb db sb fb mb now cap L cs D (W.alloc o) A2 cs' D' tv' ts' ((W.heap.size,o)::l):=by
 have hb:Below W.heap.size W (W.alloc o):=(ae _ _).alloc (ag _) _;refine⟨h.h0,(h.below hb).went,fun x hx=>?_⟩;rcases aV.1 hx with e|e
 ·rw[e];exact Lc.new W o h.went.f.size h.tvlt
 ·exact(h.lcs x e).below hb
theorem Stp.at(h:Stp A S w B tb db sb fb mb now cap L cs D W A2 cs' D' tv' ts' l)(hx:(b,o)∈l):W.heap[b]?=some o:=(h.lcs _ hx).h
theorem Stp.bad{pq:Nat}{s1 s2 m1 m2:zA}{rb:Nat}(h:Stp A S w B tb db sb fb mb now cap L cs D W A2 (counted cs Wk) D' tv' ts' l)(hr:(rb,.cells #[zN,zN] 391)∈l)(hA:A2 rb)(pre:Pre F (S now) D (dh ⟨2,m1,m2⟩) D' (.ret (.wants [] [(pq,s1,s2)])) ts' Wk)(hok:∀t∈ts',jg t)(hl:ts'.length≤10000):
  fY A S w B tb db sb fb mb now cap cs D L F ⟨2,m1,m2⟩ (.iface 391 (.agg #[zN,.slice (some ⟨W.heap.size,0,none⟩) 1 1])) (((W.alloc (.cells #[zI (pq:Nat),.string s1,.string s2] 76)).setCell ⟨rb,0,none⟩ (zN)).setCell ⟨rb,1,none⟩ (.slice (some ⟨W.heap.size,0,none⟩) 1 1)):=by
 have hL:=h.lcs _ hr;have hnr:W.heap.size≠rb:=by have:=hL.lt;show _≠_;intro e;exact absurd this (by rw[←e];exact Nat.lt_irrefl _)
 have ht:aj (fun b=>b=rb) W (((W.alloc (.cells #[zI (pq:Nat),.string s1,.string s2] 76)).setCell ⟨rb,0,none⟩ (zN)).setCell ⟨rb,1,none⟩ (.slice (some ⟨W.heap.size,0,none⟩) 1 1)):=(((aj.refl (fun b=>b=rb) W).alloc _).set (a:=⟨rb,0,none⟩) (fun _=>rfl) _).set (a:=⟨rb,1,none⟩) (fun _=>rfl) _;have hw:=h.went.put (Q:=fun _=>False) h.h0 ht (fun b _ e=>by rw[e];exact⟨hA,hL.le,hL.ne⟩) (fun b e=>e.elim)
 have hN:(((W.alloc (.cells #[zI (pq:Nat),.string s1,.string s2] 76)).setCell ⟨rb,0,none⟩ (zN)).setCell ⟨rb,1,none⟩ (.slice (some ⟨W.heap.size,0,none⟩) 1 1)).heap[W.heap.size]?=some (.cells #[zI (pq:Nat),.string s1,.string s2] 76):=by
  rw[aL _ _ _ _ hnr,aL _ _ _ _ hnr];exact aD _ _
 obtain⟨⟨c0,_⟩,⟨c1,_⟩,⟨c2,_⟩⟩:=fd3 hN;refine⟨_,tv',.wants [] [(pq,s1,s2)],D',Wk,ts',⟨_,_,rfl,RdA.nil _,Or.inr ⟨W.heap.size,0,1,rfl,⟨fun e=>?_,ag _,by unfold maxLen;omega,ai hN⟩,fun j u hj=>?_⟩⟩,pre,hw,rfl,(fun x hx=>by simp at hx),⟨aK _,by show 1≤_;omega⟩,hok,hl⟩
 ·rcases e with e|e
  ·have:=h.went.t.eng.hA _ e;omega
  ·exact e
 ·rw[dX]
  have hj:[Value.int .i64 (pq:Nat),.string s1,.string s2][j]?=some u:=hj;rcases j with _|_|_|j
  ·injection hj with hj;rw[←hj];exact c0
  ·injection hj with hj;rw[←hj];exact c1
  ·injection hj with hj;rw[←hj];exact c2
  ·simp at hj
theorem Wt.start{cm c:Cm Fi}{rb b5 b6:Nat}{root:zA}{rl:Mx}{r1v xv sv rv:zV}{R:List Mo}(h:Stp A S w B tb db sb fb mb now cap L cs D W A2 (counted cs Wk) D' tv' ts' l)(l4:(rb,.cells #[zN,zN] 391)∈l)(l5:(b5,.cells #[.string root,.string e0] 29)∈l)(l6:(b6,.cells #[.string rl.p,r1v,xv,sv] 26)∈l)(rx:RdA A2 Sm.mc W xv rl.X)(rr:RdA A2 Sm.mc W rv R)(hA:A2 rb)(pre:Pre F (S now) D cm D' c ts' Wk)(hok:∀t∈ts',jg t):
  Wt A S w B tb db sb fb mb now cap L cs D F cm (W.heap.size+1) rb b5 b6 W.heap.size root rl r1v xv sv rv R (W.alloc (.cells #[zN,zN] 391)) c (fun b=>A2 b∨b=W.heap.size) D' tv' ts' Wk [] [] (zN) (zN):=by
 have hb:Below W.heap.size W (W.alloc (.cells #[zN,zN] 391)):=(ae _ _).alloc (ag _) _;have hs:=h.lay (.cells #[zN,zN] 391);have hz:(W.alloc (.cells #[zN,zN] 391)).heap.size=W.heap.size+1:=by simp
 have hle:=h.went.f.size;have x4:=(h.lcs _ l4).lt;have x5:=(h.lcs _ l5).lt;have x6:=(h.lcs _ l6).lt
 have hrd:∀{α:Type} {enc:α→List zV} {v:zV} {l:List α},RdA A2 enc W v l→RdA (fun b=>A2 b∨b=W.heap.size) enc (W.alloc (.cells #[zN,zN] 391)) v l:=fun hr=>(hr.more (fun b hb e=>by
  rcases e with e|e
  ·exact e
  ·omega)).below hb
 refine⟨h.h0,h.went.put (p:=fun _=>False) (Q:=fun b=>b=W.heap.size) h.h0 (aj.of_below hb) (fun _ _ e=>e.elim) (fun b e=>by rw[e,hz];exact⟨ag _,jo _⟩),pre,hrd rx,hrd rr,(h.lcs _ l4).below hb,(h.lcs _ l5).below hb,(h.lcs _ l6).below hb,Lc.new W _ hle h.tvlt,Rw.nil 29 2,Rw.nil 76 3,fun b e=>by simp[Value.ownBlock] at e,⟨Or.inl hA,Or.inr rfl⟩,?_,hok,fun x hx=>by simp at hx⟩;have x4:rb<W.heap.size:=x4;have x5:b5<W.heap.size:=x5;have x6:b6<W.heap.size:=x6;rw[hz];refine⟨by omega,by omega,by omega,by omega,by omega,by omega,by omega,by omega,by omega⟩
