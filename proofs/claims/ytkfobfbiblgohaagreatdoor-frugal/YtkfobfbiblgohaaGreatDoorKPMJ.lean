import Derived.Test.YtkfobfbiblgohaaGreatDoorKPM21
set_option linter.all false
open Go.Proofs.Tryz
set_option maxRecDepth 100000
set_option maxHeartbeats 9000000
namespace Go.Proofs.YtkfobfbiblgohaaGreatDoor
open Go.RowKit
namespace Pn
open Mf Ed
variable{A A1 A2:Nat->Prop}{S:Nat->Shf}{w w' W W1 z wf:zW}{Y U J mb now:Nat}{cap:Int}{cs cs':List Int}{D V:List Kp}{L L':List (zV×zV)}{B Z:Nat}{E G:zV}{ts I:List Tie}{q:Qn}{k:Kp}{F:Find}{g:Nat}
def gw(A:Nat->Prop)(S:Nat->Shf)(w:zW)(B Z Y U J mb now:Nat)(cap:Int)(cs:List Int)(D:List Kp)(L:List (zV×zV))(F:Find)(q:Qn)(fv:zV)(w':zW):Prop:=
 ∃A2 G f V M ts,fW A2 w' fv f/\Pre F (S now) D (df q) V (.ret f) ts M/\dH A S w B Z Y U J mb now cap L (zN) w' A2 (counted cs M) V G ts/\(kU f=q.kind/\zD f/\Small f/\(∀t∈ts,jB t)/\ts.length<=10000)
theorem dH.under(hb:zB w W1)(hk:dH A S W1 B Z Y U J mb now cap L E z A2 cs' V G I):dH A S w B Z Y U J mb now cap L E z A2 cs' V G I:=by
 have hs:=hb.size;refine⟨hk.t,(ai.of_below hb).trans hk.f (fun _ _ e=>e) (fun _ _ e=>e),hk.sub,fun b e=>?_,fun b e=>?_⟩
 ·rcases hk.new b e with e|e
  ·exact oE e
  ·exact oS (by omega)
 ·rcases hk.own b e with e|e
  ·exact oE e
  ·exact oS (by omega)
theorem dH.over(hk:dH A S w B Z Y U J mb now cap L E z A2 cs' V G I)(hb:zB z W1):dH A S w B Z Y U J mb now cap L E W1 A2 cs' V G I:=
 ⟨hk.t.below hb,hk.f.trans (ai.of_below hb) (fun _ _ e=>e) (fun _ _ e=>e),hk.sub,hk.new,hk.own⟩
theorem gw.under{fv:zV}(hb:zB w W1)(hk:gw A S W1 B Z Y U J mb now cap cs D L F q fv z):gw A S w B Z Y U J mb now cap cs D L F q fv z:=by
 obtain⟨A2,G,f,V,M,ts,h1,h2,h3,h4⟩:=hk;exact⟨A2,G,f,V,M,ts,h1,h2,h3.under hb,h4⟩
def GR(S:Nat->Shf)(Y U J mb now:Nat)(cap:Int)(L:List (zV×zV))(F:Find)(g:Nat):Prop:=
 ∀(A:Nat->Prop)(w:zW)(cs:List Int)(D:List Kp)(B Z:Nat)(m1 m2:zA),m1.size<=N48->m2.size<=N48->D.length+10000*g<=N15->Tsk A S w B Z Y U J mb now cap cs D L (zN) []->
  zC 154 #[zP Z,.agg #[tS m1,tS m2]] w fun e w'=>∃v,e=.returned v/\gw A S w B Z Y U J mb now cap cs D L F ⟨2,m1,m2⟩ (.iface 221 v) w'
def LR(S:Nat->Shf)(Y U J mb now:Nat)(cap:Int)(L:List (zV×zV))(F:Find)(g:Nat):Prop:=
 ∀(A:Nat->Prop)(w:zW)(cs:List Int)(D:List Kp)(B Z:Nat),D.length+10000*g<=N15->Tsk A S w B Z Y U J mb now cap cs D L (zN) []->
  zC 155 #[zP Z] w fun e w'=>∃v,e=.returned v/\gw A S w B Z Y U J mb now cap cs D L F ⟨3,e0,e0⟩ (.iface 86 v) w'
def PE(S:Nat->Shf)(Y U J mb now:Nat)(cap:Int)(L:List (zV×zV))(F:Find)(g:Nat):Prop:=
 ∀(A:Nat->Prop)(w:zW)(cs:List Int)(D:List Kp)(B Z:Nat),D.length+10000*g<=N15->Tsk A S w B Z Y U J mb now cap cs D L (zN) []->
  zC 156 #[zP Z] w fun e w'=>∃v,e=.returned v/\gw A S w B Z Y U J mb now cap cs D L F ⟨4,e0,e0⟩ (.iface 89 v) w'
theorem yE(t:Option zA):kU (cY t)=0/\zD (cY t)/\Small (cY t):=by
 have a0:∀n,zD (.man n ⟨e0,[],[],[]⟩)/\Small (.man n ⟨e0,[],[],[]⟩):=fun n=>⟨⟨aJ _,(fun x hx=>by simp at hx),(fun x hx=>by simp at hx),(fun x hx=>by simp at hx)⟩,aJ _,aJ _,aJ _⟩
 cases t with
 |none=>exact⟨rfl,a0 _⟩
 |some s=>
  by_cases h:bO s=[]
  ·rw[tC h]
   obtain⟨h1,h2,h3,h4⟩:=yb h;refine⟨rfl,⟨h1.p,fun x hx=>h1.R x ((Ss.bF _).mem_iff.1 hx),fun x hx=>h1.X x ((Ss.bF _).mem_iff.1 hx),fun x hx=>h1.S x ((Ss.bF _).mem_iff.1 hx)⟩,?_,?_,?_⟩
   ·show(Ss.aP _ _).length<=_;rw[Ss.cG];omega
   ·show(Ss.aP _ _).length<=_;rw[Ss.cG];omega
   ·show(Ss.aP _ _).length<=_;rw[Ss.cG];omega
  ·have e:cY (some s)=.man 3 ⟨e0,[],[],[]⟩:=ag h
   rw[e];exact⟨rfl,a0 _⟩
theorem yF(t:Option zA):kU (idxOf t)=1/\zD (idxOf t)/\Small (idxOf t):=by
 cases t with
 |none=>exact⟨rfl,(fun x hx=>by simp at hx),aJ _⟩
 |some s=>
  by_cases h:di s=[]
  ·have e:idxOf (some s)=.idx 0 (eP s):=aj h
   rw[e];have:=IG h;exact⟨rfl,this.1,by have:=this.2;show _<=_;omega⟩
  ·have e:idxOf (some s)=.idx 6 []:=ag h
   rw[e];exact⟨rfl,(fun x hx=>by simp at hx),aJ _⟩
theorem lB(hk:q.kind<=4)(hq:QOk q)(h2:q.kind=2->GR S Y U J mb now cap L F g)(h3:q.kind=3->LR S Y U J mb now cap L F g)(h4:q.kind=4->PE S Y U J mb now cap L F g):uX S Y U J mb now cap L F g q:=by
 intro A w cs D B Z hD h
 suffices hc:zC 133 #[zP Z,qv q] w fun e w'=>∃fv,e=.returned fv/\gw A S w B Z Y U J mb now cap cs D L F q fv w' by
  refine hc.mono ?_;rintro e w' ⟨fv,rfl,A2,G,f,V,M,ts,h1,h2,h3,h4⟩;exact⟨A2,G,fv,f,V,M,ts,rfl,h1,h2,h3,h4⟩
 obtain⟨qk,qp,qw⟩:=q;show zC 133 #[zP Z,.agg #[zI (qk:Nat),tS qp,tS qw]] w _;have a0:Hid (zB w (w.alloc (.cells #[zI (qk:Nat),tS qp,tS qw] 115))):=(ae _ _).alloc (ah _) _;have hX:(w.alloc (.cells #[zI (qk:Nat),tS qp,tS qw] 115)).heap[w.heap.size]?=some (.cells #[zI (qk:Nat),tS qp,tS qw] 115):=aA _ _;obtain⟨⟨c0,_⟩,⟨c1,_⟩,⟨c2,_⟩⟩:=fd3 hX;have HT:=zH (h.below a0.out);have a1:qk<=4:=hk;clear hX h;rcases(by omega:qk=0\/qk=1\/qk=2\/qk=3\/qk=4) with rfl|rfl|rfl|rfl|rfl
 ·have HQ:=zH hq
  have HP:Hid (POk (0,qp,qw)):=⟨by show 0<=4;omega,by have h1:=hq.p;have h2:qp.size<=2000:=h1;show qp.size<=_;omega,by have h1:=hq.v;have h2:qw.size<=2000:=h1;show qw.size<=_;omega⟩;have kr:=yB (0,qp,qw) HP.out _ HT.out (by show 0<=_;omega);clear hk hq h2 h3 h4 a1;go_enter func133,ntmps133
  go_wp2_with (go_at_call 152;fail)
  go_at_call 152;refine kr.mono ?_;rintro e z ⟨A2,G,rfl,hw⟩;have HW:=zH hw;have km:=uR (A:=A2) (S now (0,qp,qw)) z hw.t.eng.ml hw.t.eng.hA (fun s e=>hw.t.eng.few _ s e);clear hw kr
  go_wp2_with (go_at_call 151;fail)
  go_at_call 151;refine km.mono ?_;rintro e w3 ⟨v,rfl,hf,hb⟩;have HF:Hid (fW A2 w3 (.iface 216 v) (cY (S now (0,qp,qw)))/\zB z w3):=⟨hf,hb⟩;clear hf hb km;go_wp2
  (try rw[fO])
  go_ret;refine⟨_,rfl,gw.under (W1:=w.alloc (.cells #[zI ((0:Nat):Int),tS qp,tS qw] 115)) (q:=⟨0,qp,qw⟩) a0.out ⟨A2,G,cY (S now (0,qp,qw)),D,[],[.rd (0,qp,qw) (S now (0,qp,qw))],HF.out.1,Pre.rd Pre.start,HW.out.over HF.out.2,(yE _).1,(yE _).2.1,(yE _).2.2,fun t ht=>?_,by show 1<=_;omega⟩⟩;have e:t=.rd (0,qp,qw) (S now (0,qp,qw)):=by simpa using ht
  rw[e];exact HP.out
 ·have HQ:=zH hq
  have HP:Hid (POk (1,qp,e0)):=⟨by show 1<=4;omega,by have h1:=hq.p;have h2:qp.size<=2000:=h1;show qp.size<=_;omega,aJ _⟩;have kr:=yB (1,qp,e0) HP.out _ HT.out (by show 0<=_;omega);clear hk hq h2 h3 h4 a1;go_enter func133,ntmps133
  go_wp2_with (go_at_call 152;fail)
  go_at_call 152;refine kr.mono ?_;rintro e z ⟨A2,G,rfl,hw⟩;have HW:=zH hw;have km:=zy (A:=A2) (S now (1,qp,e0)) z hw.t.eng.ml hw.t.eng.hA;clear hw kr
  go_wp2_with (go_at_call 153;fail)
  go_at_call 153;refine km.mono ?_;rintro e w3 ⟨v,rfl,hf,hb⟩;have HF:Hid (fW A2 w3 (.iface 219 v) (idxOf (S now (1,qp,e0)))/\zB z w3):=⟨hf,hb⟩;clear hf hb km;go_wp2
  (try rw[fO])
  go_ret;refine⟨_,rfl,gw.under (W1:=w.alloc (.cells #[zI ((1:Nat):Int),tS qp,tS qw] 115)) (q:=⟨1,qp,qw⟩) a0.out ⟨A2,G,idxOf (S now (1,qp,e0)),D,[],[.rd (1,qp,e0) (S now (1,qp,e0))],HF.out.1,Pre.rd Pre.start,HW.out.over HF.out.2,(yF _).1,(yF _).2.1,(yF _).2.2,fun t ht=>?_,by show 1<=_;omega⟩⟩;have e:t=.rd (1,qp,e0) (S now (1,qp,e0)):=by simpa using ht
  rw[e];exact HP.out
 ·have kw:=h2 rfl A _ cs D B Z qp qw hq.p hq.v hD HT.out
  clear hk hq h2 h3 h4 a1;go_enter func133,ntmps133
  go_wp2_with (go_at_call 154;fail)
  go_at_call 154;refine kw.mono ?_;rintro e w3 ⟨v,rfl,hw⟩;have HW:=zH hw;clear hw kw;go_wp2
  (try rw[fO])
  go_ret;exact⟨_,rfl,HW.out.under a0.out⟩
 ·have kw:=h3 rfl A _ cs D B Z hD HT.out
  clear hk hq h2 h3 h4 a1;go_enter func133,ntmps133
  go_wp2_with (go_at_call 155;fail)
  go_at_call 155;refine kw.mono ?_;rintro e w3 ⟨v,rfl,hw⟩;have HW:=zH hw;clear hw kw;go_wp2
  (try rw[fO])
  go_ret;exact⟨_,rfl,HW.out.under a0.out⟩
 ·have kw:=h4 rfl A _ cs D B Z hD HT.out
  clear hk hq h2 h3 h4 a1;go_enter func133,ntmps133
  go_wp2_with (go_at_call 156;fail)
  go_at_call 156;refine kw.mono ?_;rintro e w3 ⟨v,rfl,hw⟩;have HW:=zH hw;clear hw kw;go_wp2
  (try rw[fO])
  go_ret;exact⟨_,rfl,HW.out.under a0.out⟩
variable{r:Nat}
theorem LS(hk:q.kind<=4)(hr:rk q=0)(hq:QOk q):uX S Y U J mb now cap L F g q:=
 lB hk hq (fun e=>by unfold rk at hr;rw[e] at hr;simp at hr) (fun e=>by unfold rk at hr;rw[e] at hr;simp at hr) (fun e=>by unfold rk at hr;rw[e] at hr;simp at hr)
theorem AE:eG S Y U J mb now cap L 0:=by
 intro A q w cs D hr hk hq hD h;have hg:(20000*0+1:Nat)=grow 0:=rfl;exact Eb (m:=0) D8 (fun _ _ _ _ _ h=>h.elim) (fun _ _ _ _ _ _ h=>absurd h (cW _)) (LS hk (Nat.le_zero.1 hr) hq) (fun q' h' _=>by omega) hr hk hq w (by rw[hg];exact hD) h
theorem uY(hF:eG S Y U J mb now cap L r)(hW:∀q,rk q<=r+1->q.kind<=4->QOk q->uX S Y U J mb now cap L (fnd (S now) now r) (grow r) q):eG S Y U J mb now cap L (r+1):=by
 intro A q w cs D hr hk hq hD h;exact Eb (m:=r+1) (P:=fun q=>rk q<=r) hF (kJ _ _ r) (iz r) (hW q hr hk hq) (fun q' h' _=>by omega) hr hk hq w hD h
end Pn
namespace Pn
open Mf Ed
variable{A A1 A2 A3:Nat->Prop}{S:Nat->Shf}{w w' W W1 z w3 wf:zW}{Y U J mb now:Nat}{cap:Int}{cs cs':List Int}{D V:List Kp}{L L':List (zV×zV)}{B Z:Nat}{E G:zV}{ts I:List Tie}{q:Qn}{k:Kp}{F:Find}{g:Nat}{n n1 b:Nat}{o:Obj}
theorem dH.refl(h:Tsk A S w B Z Y U J mb now cap cs D L E ts):dH A S w B Z Y U J mb now cap L E w A cs D E ts:=
 ⟨h,ai.refl _ _,fun _ e=>e,fun _ e=>oE e,fun _ e=>oE e⟩
theorem dH.put{p Q:Nat->Prop}(h:Tsk A S w B Z Y U J mb now cap cs D L E ts)(hk:dH A S w B Z Y U J mb now cap L E W A2 cs' V G I)(ht:ai p W w')(hp:∀b,b<W.heap.size->p b->A2 b/\w.heap.size<=b/\G.ownBlock≠some b)(hQ:∀b,Q b->W.heap.size<=b/\b<w'.heap.size):
  dH A S w B Z Y U J mb now cap L E w' (fun b=>A2 b\/Q b) cs' V G I:=by
 have hB:=h.hB;have hT:=hk.t;have a0:ai (fun b=>b<W.heap.size/\p b) W w':=ht.mono (fun b hb e=>⟨hb,e⟩)
 have h2:Tsk A2 S w' B Z Y U J mb now cap cs' V L G I:=hT.turn a0 (fun b hb e=>(hp b hb e.2).1) (fun b e=>⟨by have:=(hp b e.1 e.2).2.1;omega,fun e2=>by
  have h3:=hp b e.1 e.2;rcases e2 with e2|e2
  ·have:=h.task.t0.lt;omega
  ·exact h3.2.2 e2⟩)
 obtain⟨L',g1,g2⟩:=hT.eng.desk.map
 have g3:eh (fun b=>A2 b\/Q b) W L' V:=g2.more (fun b a2 e=>by
  rcases e with e|e
  ·exact e
  ·have:=(hQ b e).1;omega)
 have g4:eh (fun b=>A2 b\/Q b) w' L' V:=g3.turn (ht.mono (fun b hb e=>oE (hp b hb e).1))
 have a1:w'.heap[J]?=W.heap[J]?:=ht.block J (hT.eng.hA _ hT.eng.desk.hf) (fun e=>by
  have h3:=(hp J (hT.eng.hA _ hT.eng.desk.hf) e).2.1;have:=h.lt;omega)
 have he:=h2.eng;have hs:=ht.size;have a3:=hk.f.size;refine⟨⟨⟨⟨he.desk.f0,he.desk.f1,he.desk.f2,he.desk.cn,⟨L',g1.of_block a1,g4⟩,he.desk.ne,oE he.desk.hd,oE he.desk.hf⟩,he.shelf,he.on,he.inv,he.ml,he.len,fun b e=>?_,⟨oE he.ns.1,oE he.ns.2⟩,he.ne,he.ok,he.rt,he.few⟩,h2.task,fun b e=>oE (h2.pr b e),h2.lt,h2.hB⟩,?_,fun b e=>oE (hk.sub b e),fun b e=>?_,hk.own⟩
 ·rcases e with e|e
  ·exact he.hA b e
  ·exact(hQ b e).2
 ·exact hk.f.trans a0 (fun _ _ e=>e) (fun b hb e=>by have:=(hp b e.1 e.2).2.1;omega)
 ·rcases e with e|e
  ·exact hk.new b e
  ·right;have:=(hQ b e).1;omega
theorem dH.less(hk:dH A S w B Z Y U J mb now cap L E W A2 cs' V G I)(h1:∀b,A3 b->A2 b)(h2:∀b,A b->A3 b)(h3:∀b,Own Z G b->A3 b)(h4:A Y/\A J/\A U/\A mb):dH A S w B Z Y U J mb now cap L E W A3 cs' V G I:=
 ⟨⟨hk.t.eng.less h1 ⟨h2 _ h4.1,h2 _ h4.2.1,h2 _ h4.2.2.1,h2 _ h4.2.2.2⟩,hk.t.task,h3,hk.t.lt,hk.t.hB⟩,hk.f,h2,fun b e=>hk.new b (h1 b e),hk.own⟩
structure Lc(n:Nat)(E:zV)(W:World)(b:Nat)(o:Obj):Prop where
 h:W.heap[b]?=some o
 le:n<=b
 ne:E.ownBlock≠some b
theorem Lc.lt(h:Lc n E W b o):b<W.heap.size:=by
 have:=h.h;exact(ou.1 this).1
theorem Lc.went(hn:Y<n/\J<n/\Z<n)(h:Lc n E W1 b o)(hk:dH A1 S W1 B Z Y U J mb now cap L E z A2 cs' V G I):Lc n G z b o:=by
 have a0:=h.le;have a1:=h.lt;refine⟨(hk.f.block b h.lt (fun e=>?_)).trans h.h,h.le,fun e=>?_⟩
 ·rcases e with e|e|e|e
  ·omega
  ·omega
  ·omega
  ·exact h.ne e
 ·rcases hk.own b e with e|e
  ·exact h.ne e
  ·omega
theorem Lc.below(h:Lc n E W b o)(hb:zB W W1):Lc n E W1 b o:=⟨(hb.block b h.lt).trans h.h,h.le,h.ne⟩
theorem Lc.turn{p:Nat->Prop}(h:Lc n E W b o)(ht:ai p W W1)(hp:¬p b):Lc n E W1 b o:=⟨(ht.block b h.lt hp).trans h.h,h.le,h.ne⟩
theorem Lc.new(W:zW)(o:Obj)(hn:n<=W.heap.size)(ht:∀b,E.ownBlock=some b->b<W.heap.size):Lc n E (W.alloc o) W.heap.size o:=⟨aA _ _,hn,fun e=>by have:=ht _ e;omega⟩
structure Rw(n1:Nat)(A:Nat->Prop)(E:zV)(W:World)(e s:Nat)(v:zV)(k:Nat)(xs:List zV):Prop where
 row:W.ownsRow n1 e s v k xs
 own:∀b,v.ownBlock=some b->A b/\E.ownBlock≠some b
variable{e s kk:Nat}{v:zV}{xs:List zV}
theorem Rw.went(hn:Y<n1/\J<n1/\Z<n1)(h:Rw n1 A1 E W1 e s v kk xs)(hk:dH A1 S W1 B Z Y U J mb now cap L E z A2 cs' V G I):Rw n1 A2 G z e s v kk xs:=by
 refine⟨ar h.row (fun b e=>hk.f.block b (h.row.lt b e).2 (fun e2=>?_)),fun b e=>⟨hk.sub b (h.own b e).1,fun e2=>?_⟩⟩
 ·have hl:=h.row.lt b e
  rcases e2 with e2|e2|e2|e2
  ·omega
  ·omega
  ·omega
  ·exact(h.own b e).2 e2
 ·have hl:=h.row.lt b e
  rcases hk.own b e2 with e2|e2
  ·exact(h.own b e).2 e2
  ·omega
theorem Rw.turn{p:Nat->Prop}(h:Rw n1 A E W e s v kk xs)(ht:ai p W W1)(hp:∀b,v.ownBlock=some b->¬p b)(hA:∀b,A b->A2 b):Rw n1 A2 E W1 e s v kk xs:=
 ⟨ar h.row (fun b e=>ht.block b (h.row.lt b e).2 (hp b e)),fun b e=>⟨hA b (h.own b e).1,(h.own b e).2⟩⟩
theorem Rw.below(h:Rw n1 A E W e s v kk xs)(hb:zB W W1):Rw n1 A E W1 e s v kk xs:=h.turn (ai.of_below (p:=fun _=>False) hb) (fun _ _ e=>e) (fun _ e=>e)
theorem Rw.nil(e s:Nat):Rw n1 A E W e s (zN) 0 []:=⟨ie _ _ _ _,fun b e=>by simp[Value.ownBlock] at e⟩
theorem RdA.FM{α:Type}{enc:α->List zV}{v:zV}{L:List α}{B e s:Nat}{xs:List zV}(h:w.ownsRow B e s v L.length xs)(hx:xs=L.flatMap enc)(hl:∀x,(enc x).length=s)(hA:∀b,v.ownBlock=some b->¬A b):RdA A enc w v L:=by
 rcases h.2 with⟨h1,h2⟩|⟨g,c,a1,h1,h2⟩
 ·exact oE ⟨h1,qJ h2⟩
 ·subst h1
  refine oS ⟨g,0,c,rfl,⟨hA g rfl,h2.2.2.1,h2.2.2.2.1,(h.lt g rfl).2⟩,fun j u hj=>?_⟩
  have a0:j<L.length*s:=by
   have:=(dB.1 hj).1;rw[Ss.fe hl] at this;exact this
  rw[dJ,h.cellAt j a0,hx];exact hj
theorem Rw.grow{p:Nat->Prop}{v':zV}{k':Nat}{a1:List zV}(a0:W1.ownsRow n1 e s v' k' a1)(hv:∀b,v.ownBlock=some b->A b/\E.ownBlock≠some b)(a2:∀b,v'.ownBlock=some b->v.ownBlock=some b\/W.heap.size<=b)(a3:∀b,E.ownBlock=some b->b<W.heap.size)(ht:ai p W1 z)(hp:∀b,v'.ownBlock=some b->¬p b):Rw n1 (fun b=>A b\/(v'.ownBlock=some b/\W.heap.size<=b)) E z e s v' k' a1:=by
 refine⟨ar a0 (fun b e=>ht.block b (a0.lt b e).2 (hp b e)),fun b e=>?_⟩;rcases a2 b e with e2|e2
 ·exact⟨oE (hv b e2).1,(hv b e2).2⟩
 ·exact⟨oS ⟨e,e2⟩,fun e3=>by have:=a3 b e3;omega⟩
end Pn
namespace Pn
open Mf Ed
variable{A A1 A2 A3:Nat->Prop}{S:Nat->Shf}{w w' wr wx W W1 d z w3 wf:zW}{Y U J mb now:Nat}{cap:Int}{cs cs':List Int}{D V D3:List Kp}{L L':List (zV×zV)}{B Z:Nat}{E G j4:zV}{ts I:List Tie}{q:Qn}{kk:Kp}{F:Find}{g:Nat}{n n1 b:Nat}{o:Obj}
structure Wt(A:Nat->Prop)(S:Nat->Shf)(w:World)(B Z Y U J mb now:Nat)(cap:Int)(L:List (zV×zV))(cs:List Int)(D:List Kp)(F:Find)(cm:Cm Fi)(n1 O b5 b6 T:Nat)(root:zA)(rl:Mx)(N xv sv rv:zV)(R:List Mo)(wr:World)(c:Cm Fi)(A2:Nat->Prop)(V:List Kp)(G:zV)(I:List Tie)(M:List Qn)(ms:List Mo)(ps:List Pb)(mv pv:zV):Prop where
 h0:Tsk A S w B Z Y U J mb now cap cs D L (zN) []
 went:dH A S w B Z Y U J mb now cap L (zN) wr A2 (counted cs M) V G I
 pre:Pre F (S now) D cm V c I M
 rx:RdA A2 Sm.mc wr xv rl.X
 rr:RdA A2 Sm.mc wr rv R
 l4:Lc w.heap.size G wr O (.cells #[zN,zN] 221)
 l5:Lc w.heap.size G wr b5 (.cells #[tS root,tS e0] 70)
 l6:Lc w.heap.size G wr b6 (.cells #[tS rl.p,N,xv,sv] 214)
 lw:Lc w.heap.size G wr T (.cells #[mv,pv] 221)
 mr:Rw n1 A2 G wr 70 2 mv ms.length (mcs ms)
 pr:Rw n1 A2 G wr 95 3 pv ps.length (ps.flatMap aW)
 mp:∀b,mv.ownBlock=some b->pv.ownBlock≠some b
 hA:A2 O/\A2 T
 hn:O<n1/\b5<n1/\b6<n1/\T<n1/\n1<=wr.heap.size/\w.heap.size<=n1/\O≠T/\b5≠T/\b6≠T
 ok:(∀t∈I,jB t)/\(∀x∈ms,x.1.size<=N48/\x.2.size<=N48)
variable{cm c:Cm Fi}{O b5 b6 T:Nat}{root:zA}{rl:Mx}{N xv sv rv:zV}{R:List Mo}{M j3:List Qn}{ms:List Mo}{ps:List Pb}{mv pv:zV}
theorem Wt.below(h:Wt A S w B Z Y U J mb now cap L cs D F cm n1 O b5 b6 T root rl N xv sv rv R wr c A2 V G I M ms ps mv pv)(hb:zB wr W):
  Wt A S w B Z Y U J mb now cap L cs D F cm n1 O b5 b6 T root rl N xv sv rv R W c A2 V G I M ms ps mv pv:=
 ⟨h.h0,h.went.over hb,h.pre,h.rx.below hb,h.rr.below hb,h.l4.below hb,h.l5.below hb,h.l6.below hb,h.lw.below hb,h.mr.below hb,h.pr.below hb,h.mp,h.hA,by have:=h.hn;have:=hb.size;omega,h.ok⟩
theorem dH.fr(h:Tsk A2 S wr B Z Y U J mb now cap cs D L G I)(hk:dH A2 S wr B Z Y U J mb now cap L G wx A3 cs' V j4 ts):ai A3 wr wx:=
 hk.f.mono (fun b _ e=>by
  rcases e with e|e|e
  ·rw[e];exact hk.sub _ h.eng.desk.hd
  ·rw[e];exact hk.sub _ h.eng.desk.hf
  ·exact hk.sub _ (h.pr b e))
theorem RdA.went{α:Type}{enc:α->List zV}{v:zV}{l:List α}(h:RdA A2 enc wr v l)(hT:Tsk A2 S wr B Z Y U J mb now cap cs D L G I)(hk:dH A2 S wr B Z Y U J mb now cap L G wx A3 cs' V j4 ts):RdA A3 enc wx v l:=
 (h.more (fun b hb e=>by
  rcases hk.new b e with e|e
  ·exact e
  ·omega)).turn (hk.fr hT)
theorem Wt.asked{k:Fi->Cm Fi}(h:Wt A S w B Z Y U J mb now cap L cs D F cm n1 O b5 b6 T root rl N xv sv rv R wr (.ask q k) A2 V G I M ms ps mv pv)(hk:dH A2 S wr B Z Y U J mb now cap L G wx A3 (counted (counted cs M) j3) D3 j4 (I++[.ask q]))(hf:F V q kk D3 j3)(hq:QOk q):
  Wt A S w B Z Y U J mb now cap L cs D F cm n1 O b5 b6 T root rl N xv sv rv R wx (k kk.f.ess) A3 D3 j4 (I++[.ask q]) (M++j3) ms ps mv pv:=by
 have a0:Y<w.heap.size/\J<w.heap.size/\Z<w.heap.size:=by
  have h1:=h.h0.lt;have h2:=h.h0.hB;have h3:=h.h0.task.t0.lt;omega
 have hn:=h.hn;have hs:=hk.f.size;have LU:Y<n1/\J<n1/\Z<n1:=by omega
 refine⟨h.h0,?_,Pre.ask h.pre hf,h.rx.went h.went.t hk,h.rr.went h.went.t hk,h.l4.went a0 hk,h.l5.went a0 hk,h.l6.went a0 hk,h.lw.went a0 hk,h.mr.went LU hk,h.pr.went LU hk,h.mp,⟨hk.sub _ h.hA.1,hk.sub _ h.hA.2⟩,by omega,fun t ht=>?_,h.ok.2⟩
 ·rw[<-fJ];exact h.went.trans hk
 ·rcases bh.1 ht with ht|ht
  ·exact h.ok.1 t ht
  ·have e:t=.ask q:=by simpa using ht
   rw[e];exact hq
theorem Wt.tvlt(h:Wt A S w B Z Y U J mb now cap L cs D F cm n1 O b5 b6 T root rl N xv sv rv R wr c A2 V G I M ms ps mv pv):∀b,G.ownBlock=some b->b<wr.heap.size:=fun b e=>(h.went.t.task.row.lt b e).2
theorem Wt.putM{m:Mo}{a0:zV}(h:Wt A S w B Z Y U J mb now cap L cs D F cm n1 O b5 b6 T root rl N xv sv rv R W c A2 V G I M ms ps mv pv)(hg:W.grownBy d mv.ownBlock)(a1:d.ownsRow n1 70 2 a0 (ms.length+1) (mcs (ms++[m])))(a5:∀b,a0.ownBlock=some b->mv.ownBlock=some b\/W.heap.size<=b)(hm:m.1.size<=N48/\m.2.size<=N48):
  Wt A S w B Z Y U J mb now cap L cs D F cm n1 O b5 b6 T root rl N xv sv rv R (d.setCell (tD T 0) a0) c (fun b=>A2 b\/(a0.ownBlock=some b/\W.heap.size<=b)) V G I M (ms++[m]) ps a0 pv:=by
 have hn:=h.hn;have a2:∀b,mv.ownBlock=some b->n1<=b/\b<W.heap.size:=fun b e=>h.mr.row.lt b e
 have a7:∀b,pv.ownBlock=some b->n1<=b/\b<W.heap.size:=fun b e=>h.pr.row.lt b e
 have a9:ai (fun b=>mv.ownBlock=some b) W d:=(ai.refl _ W).grown hg (fun b _ e=>e);have a4:ai (fun b=>b=T) d (d.setCell (tD T 0) a0):=(ai.refl (fun b=>b=T) d).set (a:=(tD T 0)) (fun _=>rfl) _;have ht:ai (fun b=>mv.ownBlock=some b\/b=T) W (d.setCell (tD T 0) a0):=a9.trans a4 (fun _ _ e=>oE e) (fun _ _ e=>oS e)
 have a6:∀b,b<W.heap.size->(mv.ownBlock=some b\/b=T)->A2 b/\w.heap.size<=b/\G.ownBlock≠some b:=fun b _ e=>by
  rcases e with e|e
  ·exact⟨(h.mr.own b e).1,by have:=a2 b e;omega,(h.mr.own b e).2⟩
  ·rw[e];exact⟨h.hA.2,h.lw.le,h.lw.ne⟩
 have hQ:∀b,(a0.ownBlock=some b/\W.heap.size<=b)->W.heap.size<=b/\b<(d.setCell (tD T 0) a0).heap.size:=fun b e=>⟨e.2,by
  have h1:=(a1.lt b e.1).2;have h2:=a4.size;omega⟩
 have a3:∀b,b<n1->b≠T->¬(mv.ownBlock=some b\/b=T):=fun b hb aa e=>by
  rcases e with e|e
  ·have:=a2 b e;omega
  ·exact aa e
 have a8:∀{α:Type} {enc:α->List zV} {v:zV} {l:List α},RdA A2 enc W v l->RdA (fun b=>A2 b\/(a0.ownBlock=some b/\W.heap.size<=b)) enc (d.setCell (tD T 0) a0) v l:=fun hr=>
  (hr.more (fun b hb e=>by
   rcases e with e|e
   ·exact e
   ·omega)).turn (ht.mono (fun b hb e=>oE (a6 b hb e).1))
 refine⟨h.h0,h.went.put h.h0 ht a6 hQ,h.pre,a8 h.rx,a8 h.rr,h.l4.turn ht (a3 _ hn.1 hn.2.2.2.2.2.2.1),h.l5.turn ht (a3 _ hn.2.1 hn.2.2.2.2.2.2.2.1),h.l6.turn ht (a3 _ hn.2.2.1 hn.2.2.2.2.2.2.2.2),⟨?_,h.lw.le,h.lw.ne⟩,?_,h.pr.turn ht (fun b e e2=>?_) (fun b e=>oE e),fun b e e2=>?_,⟨oE h.hA.1,oE h.hA.2⟩,by have:=ht.size;omega,h.ok.1,fun x hx=>?_⟩
 ·exact bo _ _ 0 _ _ _ ((a9.block T h.lw.lt (fun e=>by have:=a2 T e;omega)).trans h.lw.h)
 ·rw[aU]
  exact Rw.grow a1 h.mr.own a5 h.tvlt a4 (fun b e e2=>by have:=(a1.lt b e).1;omega)
 ·rcases e2 with e2|e2
  ·exact h.mp b e2 e
  ·have:=a7 b e;omega
 ·rcases a5 b e with e3|e3
  ·exact h.mp b e3 e2
  ·have:=a7 b e2;omega
 ·rcases bh.1 hx with hx|hx
  ·exact h.ok.2 x hx
  ·have e:x=m:=by simpa using hx
   rw[e];exact hm
theorem Wt.putP{p:Pb}{a0:zV}(h:Wt A S w B Z Y U J mb now cap L cs D F cm n1 O b5 b6 T root rl N xv sv rv R W c A2 V G I M ms ps mv pv)(hg:W.grownBy d pv.ownBlock)(a1:d.ownsRow n1 95 3 a0 (ps.length+1) ((ps++[p]).flatMap aW))(a5:∀b,a0.ownBlock=some b->pv.ownBlock=some b\/W.heap.size<=b):
  Wt A S w B Z Y U J mb now cap L cs D F cm n1 O b5 b6 T root rl N xv sv rv R (d.setCell (tD T 1) a0) c (fun b=>A2 b\/(a0.ownBlock=some b/\W.heap.size<=b)) V G I M ms (ps++[p]) mv a0:=by
 have hn:=h.hn;have a6:∀b,mv.ownBlock=some b->n1<=b/\b<W.heap.size:=fun b e=>h.mr.row.lt b e
 have a3:∀b,pv.ownBlock=some b->n1<=b/\b<W.heap.size:=fun b e=>h.pr.row.lt b e
 have a9:ai (fun b=>pv.ownBlock=some b) W d:=(ai.refl _ W).grown hg (fun b _ e=>e);have a4:ai (fun b=>b=T) d (d.setCell (tD T 1) a0):=(ai.refl (fun b=>b=T) d).set (a:=(tD T 1)) (fun _=>rfl) _;have ht:ai (fun b=>pv.ownBlock=some b\/b=T) W (d.setCell (tD T 1) a0):=a9.trans a4 (fun _ _ e=>oE e) (fun _ _ e=>oS e)
 have a7:∀b,b<W.heap.size->(pv.ownBlock=some b\/b=T)->A2 b/\w.heap.size<=b/\G.ownBlock≠some b:=fun b _ e=>by
  rcases e with e|e
  ·exact⟨(h.pr.own b e).1,by have:=a3 b e;omega,(h.pr.own b e).2⟩
  ·rw[e];exact⟨h.hA.2,h.lw.le,h.lw.ne⟩
 have hQ:∀b,(a0.ownBlock=some b/\W.heap.size<=b)->W.heap.size<=b/\b<(d.setCell (tD T 1) a0).heap.size:=fun b e=>⟨e.2,by
  have h1:=(a1.lt b e.1).2;have h2:=a4.size;omega⟩
 have a2:∀b,b<n1->b≠T->¬(pv.ownBlock=some b\/b=T):=fun b hb aa e=>by
  rcases e with e|e
  ·have:=a3 b e;omega
  ·exact aa e
 have a8:∀{α:Type} {enc:α->List zV} {v:zV} {l:List α},RdA A2 enc W v l->RdA (fun b=>A2 b\/(a0.ownBlock=some b/\W.heap.size<=b)) enc (d.setCell (tD T 1) a0) v l:=fun hr=>
  (hr.more (fun b hb e=>by
   rcases e with e|e
   ·exact e
   ·omega)).turn (ht.mono (fun b hb e=>oE (a7 b hb e).1))
 refine⟨h.h0,h.went.put h.h0 ht a7 hQ,h.pre,a8 h.rx,a8 h.rr,h.l4.turn ht (a2 _ hn.1 hn.2.2.2.2.2.2.1),h.l5.turn ht (a2 _ hn.2.1 hn.2.2.2.2.2.2.2.1),h.l6.turn ht (a2 _ hn.2.2.1 hn.2.2.2.2.2.2.2.2),⟨?_,h.lw.le,h.lw.ne⟩,h.mr.turn ht (fun b e e2=>?_) (fun b e=>oE e),?_,fun b e e2=>?_,⟨oE h.hA.1,oE h.hA.2⟩,by have:=ht.size;omega,h.ok⟩
 ·exact bo _ _ 1 _ _ _ ((a9.block T h.lw.lt (fun e=>by have:=a3 T e;omega)).trans h.lw.h)
 ·rcases e2 with e2|e2
  ·exact h.mp b e e2
  ·have:=a6 b e;omega
 ·rw[aU]
  exact Rw.grow a1 h.pr.own a5 h.tvlt a4 (fun b e e2=>by have:=(a1.lt b e).1;omega)
 ·rcases a5 b e2 with e3|e3
  ·exact h.mp b e e3
  ·have:=a6 b e;omega
theorem Wt.done{m1 m2:zA}(h:Wt A S w B Z Y U J mb now cap L cs D F (df ⟨2,m1,m2⟩) n1 O b5 b6 T root rl N xv sv rv R wr (.ret (.wants ms ps)) A2 V G I M ms ps mv pv)(hl:ms.length<=3000/\ps.length<=3000/\I.length<=10000):
  gw A S w B Z Y U J mb now cap cs D L F ⟨2,m1,m2⟩ (.iface 221 (.agg #[mv,pv])) ((wr.setCell (tD O 0) mv).setCell (tD O 1) pv):=by
 have hn:=h.hn;have a0:∀b,mv.ownBlock=some b->n1<=b/\b<wr.heap.size:=fun b e=>h.mr.row.lt b e
 have a1:∀b,pv.ownBlock=some b->n1<=b/\b<wr.heap.size:=fun b e=>h.pr.row.lt b e
 have ht:ai (fun b=>b=O) wr ((wr.setCell (tD O 0) mv).setCell (tD O 1) pv):=((ai.refl (fun b=>b=O) wr).set (a:=(tD O 0)) (fun _=>rfl) _).set (a:=(tD O 1)) (fun _=>rfl) _;have hw:=h.went.put (Q:=fun _=>False) h.h0 ht (fun b _ e=>by rw[e];exact⟨h.hA.1,h.l4.le,h.l4.ne⟩) (fun b e=>e.elim);have a2:∀b,A b->b<w.heap.size:=h.h0.eng.hA
 have a3:dH A S w B Z Y U J mb now cap L (zN) _ (fun b=>A2 b/\mv.ownBlock≠some b/\pv.ownBlock≠some b) (counted cs M) V G I:=hw.less (fun b e=>oE e.1) (fun b e=>⟨h.went.sub b e,fun e2=>by have:=a0 b e2;have:=a2 b e;omega,fun e2=>by have:=a1 b e2;have:=a2 b e;omega⟩) (fun b e=>by
   refine⟨h.went.t.pr b e,fun e2=>?_,fun e2=>?_⟩
   ·rcases e with e|e
    ·have h1:=a0 b e2;have h2:=h.h0.task.t0.lt;omega
    ·exact(h.mr.own b e2).2 e
   ·rcases e with e|e
    ·have h1:=a1 b e2;have h2:=h.h0.task.t0.lt;omega
    ·exact(h.pr.own b e2).2 e) ⟨h.h0.eng.desk.hd,h.h0.eng.desk.hf,h.h0.eng.ns.1,h.h0.eng.ns.2⟩
 have a4:=h.mr.turn (A2:=A2) ht (fun b e e2=>by have:=a0 b e;omega) (fun _ e=>e);have a5:=h.pr.turn (A2:=A2) ht (fun b e e2=>by have:=a1 b e;omega) (fun _ e=>e);refine⟨_,G,.wants ms ps,V,M,I,⟨mv,pv,rfl,RdA.FM a4.row rfl (fun _=>rfl) (fun b e e2=>e2.2.1 e),RdA.FM a5.row rfl (fun _=>rfl) (fun b e e2=>e2.2.2 e)⟩,h.pre,a3,rfl,h.ok.2,⟨by omega,by omega⟩,h.ok.1,hl.2.2⟩
end Pn
namespace Pn
open Mf Ed
variable{A A1 A2 A3:Nat->Prop}{S:Nat->Shf}{w w' wr wx W W1 d z w3 wf:zW}{Y U J mb now:Nat}{cap:Int}{cs cs' j1:List Int}{D V D1 D2 D3:List Kp}{L L':List (zV×zV)}{B Z:Nat}{E G j0 j4:zV}{ts I j2:List Tie}{q:Qn}{k kk:Kp}{F:Find}{g:Nat}{n n1 b:Nat}{o:Obj}{M:List Qn}
theorem kN{r:Nat}(hI:Inv S now D)(hf:fnd (S now) now r D q k V M)(hr:rk q<=r)(hq:q.kind<=4)(a0:∀k∈V,KOk k):k.f=val (S now) q/\KOk k:=by
 have h:=iz r D q k V M hI (oD hr) hq hf;exact⟨h.2.2.2.2.2,a0 k h.2.2.1⟩
theorem LV{s:Shf}{p v:zA}{pr:Nat}{m:Mx}(h:val s ⟨0,p,v⟩=.man pr m):m.R.length<=2001:=by
 rw[py s (aJ 1)] at h;have h:cY (s (0,p,v))=.man pr m:=h;cases e:s (0,p,v) with
 |none=>
  rw[e] at h;injection h with _ h;rw[<-h];exact aJ _
 |some t=>
  rw[e] at h;by_cases h2:bO t=[]
  ·rw[tC h2] at h
   injection h with _ h;rw[<-h];show(Ss.aP _ _).length<=_;rw[Ss.cG];exact(yb h2).2.1
  ·have e2:cY (some t)=.man 3 ⟨e0,[],[],[]⟩:=ag h2
   rw[e2] at h;injection h with _ h;rw[<-h];exact aJ _
theorem LW(root:zA){s:Shf}{p v:zA}{f:Fi}(h:f=val s ⟨0,p,v⟩)(hf:zD f)(hs:Small f):(xZ N48 (cg root f)/\(cg root f).X.length<=100000/\(cg root f).S.length<=100000)/\f.ess=f:=by
 obtain⟨pr,m,e⟩:=Ca s p v;rw[e] at h;subst h;have a0:xZ N48 (⟨e0,[],[],[]⟩:Mx):=⟨aJ _,(fun x hx=>by simp at hx),(fun x hx=>by simp at hx),(fun x hx=>by simp at hx)⟩;refine⟨?_,rfl⟩;unfold cg;by_cases hp:dM (li (.man pr m)) root≠0
 ·rw[aj hp];exact⟨a0,aJ _,aJ _⟩
 ·rw[ag hp];exact⟨hf,hs.2.1,hs.2.2⟩
theorem vT{m1 m2:zA}(h1:m1.size<=N48)(h2:m2.size<=N48):∀(l:List So),(∀x∈l,x.1.size<=N48/\x.2.1.size<=N48/\x.2.2.size<=N48)->(replaced (m1,m2) l).1.size<=N48/\(replaced (m1,m2) l).2.size<=N48
 |[],_=>⟨h1,h2⟩
 |x::l,h=>by
  rw[qF]
  split
  ·exact⟨(h x (by simp)).1,(h x (by simp)).2.2⟩
  ·exact vT h1 h2 l (fun y hy=>h y (by simp[hy]))
theorem Jv{s:Shf}{m1 m2 root s1 s2:zA}{rl:Mx}{kA kB:Kp}{Wa Wb:List Qn}{pr:Nat}{m:Mx}(pF:root=rootOf (s ay))(a2:rl=cg root kA.f.ess)(hs:(s1,s2)=replaced (m1,m2) rl.S)(a0:F D ⟨0,root,e0⟩ kA D1 Wa)(a1:F D1 ⟨0,s1,s2⟩ kB D2 Wb)(hB:kB.f=.man pr m):
  Pre F s D (df ⟨2,m1,m2⟩) D2 (if dM (pr,m) m1≠0 then .ret (.wants [] [(dM (pr,m) m1,s1,s2)]) else br root rl.X m.R [] []) (([]++[.rd ay (s ay)])++[.ask ⟨0,root,e0⟩]++[.ask ⟨0,s1,s2⟩]) (([]++Wa)++Wb):=by
 subst pF;subst a2;have e1:s1=(replaced (m1,m2) (cg (rootOf (s ay)) kA.f.ess).S).1:=bz Prod.fst hs;have e2:s2=(replaced (m1,m2) (cg (rootOf (s ay)) kA.f.ess).S).2:=bz Prod.snd hs;subst e1;subst e2;have h0:Pre F s D (df ⟨2,m1,m2⟩) D (fz (m1,m2)) [] []:=Pre.start;have h1:=Pre.ask (Pre.ask (Pre.rd h0) a0) a1;rw[hB] at h1;exact h1
noncomputable def yG(root:zA)(X a0 ms:List Mo)(ps:List Pb):Mo ⊕ Pb->Cm Fi
 | .inl m=>br root X a0 (ms++[m]) ps
 | .inr p=>br root X a0 ms (ps++[p])
theorem Jw{root:zA}{X R ms:List Mo}{ps:List Pb}{i:Nat}{x:Mo}(h:R[i]?=some x)(e:x.1=root):br root X (R.drop i) ms ps=br root X (R.drop (i+1)) ms ps:=by
 obtain⟨hi,e1⟩:=dB.1 h;rw[dC hi,e1,br,aj e]
theorem LX{root:zA}{X R ms:List Mo}{ps:List Pb}{i:Nat}{x:Mo}(h:R[i]?=some x)(e:x.1≠root):br root X (R.drop i) ms ps=.ask ⟨1,x.1,e0⟩ fun f=>yG root X (R.drop (i+1)) ms ps (choose x (px f) X):=by
 obtain⟨hi,e1⟩:=dB.1 h;rw[dC hi,e1,br,ag e]
 congr 1
theorem LY{root:zA}{X R ms:List Mo}{ps:List Pb}:br root X (R.drop R.length) ms ps=.ret (.wants ms ps):=by
 rw[List.drop_length,br]
def Lcs(n:Nat)(E:zV)(W:zW)(l:List (Nat×Obj)):Prop:=∀x∈l,Lc n E W x.1 x.2
structure Stp(A:Nat->Prop)(S:Nat->Shf)(w:World)(B Z Y U J mb now:Nat)(cap:Int)(L:List (zV×zV))(cs:List Int)(D:List Kp)(W:World)(A2:Nat->Prop)(cs':List Int)(V:List Kp)(G:zV)(I:List Tie)(l:List (Nat×Obj)):Prop where
 h0:Tsk A S w B Z Y U J mb now cap cs D L (zN) []
 went:dH A S w B Z Y U J mb now cap L (zN) W A2 cs' V G I
 lcs:Lcs w.heap.size G W l
variable{l:List (Nat×Obj)}
theorem Stp.lt(h:Stp A S w B Z Y U J mb now cap L cs D W A2 cs' V G I l):Y<w.heap.size/\J<w.heap.size/\Z<w.heap.size:=by
 have h1:=h.h0.lt;have h2:=h.h0.hB;have h3:=h.h0.task.t0.lt;omega
theorem Stp.start(h0:Tsk A S w B Z Y U J mb now cap cs D L (zN) [])(hb:zB w W)(P:Nat->Prop)(hP:∀b,P b->w.heap.size<=b/\b<W.heap.size)(l:List (Nat×Obj))(hl:∀x∈l,W.heap[x.1]?=some x.2/\w.heap.size<=x.1):
  Stp A S w B Z Y U J mb now cap L cs D W (fun b=>A b\/P b) cs D (zN) [] l:=
 ⟨h0,dH.put h0 (dH.refl h0) (ai.of_below hb:ai (fun _=>False) w W) (fun _ _ e=>e.elim) hP,fun x hx=>⟨(hl x hx).1,(hl x hx).2,by simp[Value.ownBlock]⟩⟩
theorem Stp.Q5(h0:Tsk A S w B Z Y U J mb now cap cs D L (zN) [])(o1 o2:Obj):
  Stp A S w B Z Y U J mb now cap L cs D ((w.alloc o1).alloc o2) (fun b=>A b\/b=w.heap.size+1) cs D (zN) [] [(w.heap.size+1,o2),(w.heap.size,o1)]:=by
 have a0:zB w (w.alloc o1):=(ae _ _).alloc (ah _) _;refine Stp.start h0 (a0.alloc a0.size o2) (fun b=>b=w.heap.size+1) (fun b e=>by rw[e];exact⟨cE _,by simp⟩) _ (fun x hx=>?_);rcases aK.1 hx with e|e
 ·rw[e];exact⟨eD w _ _,cE _⟩
 ·have e:x=(w.heap.size,o1):=by simpa using e
  rw[e];exact⟨(aH _ _ _ (by simp)).trans (aA _ _),ah _⟩
theorem Stp.call(h:Stp A S w B Z Y U J mb now cap L cs D W A2 cs' V G I l)(hk:dH A2 S W B Z Y U J mb now cap L G z A3 j1 D2 j0 j2):Stp A S w B Z Y U J mb now cap L cs D z A3 j1 D2 j0 j2 l:=
 ⟨h.h0,h.went.trans hk,fun x hx=>(h.lcs x hx).went h.lt hk⟩
theorem Stp.below(h:Stp A S w B Z Y U J mb now cap L cs D W A2 cs' V G I l)(hb:zB W W1):Stp A S w B Z Y U J mb now cap L cs D W1 A2 cs' V G I l:=
 ⟨h.h0,h.went.over hb,fun x hx=>(h.lcs x hx).below hb⟩
theorem Stp.tvlt(h:Stp A S w B Z Y U J mb now cap L cs D W A2 cs' V G I l):∀b,G.ownBlock=some b->b<W.heap.size:=fun b e=>(h.went.t.task.row.lt b e).2
theorem Stp.lay(h:Stp A S w B Z Y U J mb now cap L cs D W A2 cs' V G I l)(o:Obj):Stp A S w B Z Y U J mb now cap L cs D (W.alloc o) A2 cs' V G I ((W.heap.size,o)::l):=by
 have hb:zB W (W.alloc o):=(ae _ _).alloc (ah _) _;refine⟨h.h0,(h.below hb).went,fun x hx=>?_⟩;rcases aK.1 hx with e|e
 ·rw[e];exact Lc.new W o h.went.f.size h.tvlt
 ·exact(h.lcs x e).below hb
theorem Stp.at(h:Stp A S w B Z Y U J mb now cap L cs D W A2 cs' V G I l)(hx:(b,o)∈l):W.heap[b]?=some o:=(h.lcs _ hx).h
theorem Stp.bad{pq:Nat}{s1 s2 m1 m2:zA}{O:Nat}(h:Stp A S w B Z Y U J mb now cap L cs D W A2 (counted cs M) V G I l)(hr:(O,.cells #[zN,zN] 221)∈l)(hA:A2 O)(pre:Pre F (S now) D (df ⟨2,m1,m2⟩) V (.ret (.wants [] [(pq,s1,s2)])) I M)(a1:∀t∈I,jB t)(hl:I.length<=10000):
  gw A S w B Z Y U J mb now cap cs D L F ⟨2,m1,m2⟩ (.iface 221 (.agg #[zN,.slice (some (tD W.heap.size 0)) 1 1])) (((W.alloc (.cells #[zI (pq:Nat),tS s1,tS s2] 95)).setCell (tD O 0) (zN)).setCell (tD O 1) (.slice (some (tD W.heap.size 0)) 1 1)):=by
 have hL:=h.lcs _ hr;have a0:W.heap.size≠O:=by have:=hL.lt;show _≠_;intro e;exact absurd this (by rw[<-e];exact Nat.lt_irrefl _)
 have ht:ai (fun b=>b=O) W (((W.alloc (.cells #[zI (pq:Nat),tS s1,tS s2] 95)).setCell (tD O 0) (zN)).setCell (tD O 1) (.slice (some (tD W.heap.size 0)) 1 1)):=(((ai.refl (fun b=>b=O) W).alloc _).set (a:=(tD O 0)) (fun _=>rfl) _).set (a:=(tD O 1)) (fun _=>rfl) _;have hw:=h.went.put (Q:=fun _=>False) h.h0 ht (fun b _ e=>by rw[e];exact⟨hA,hL.le,hL.ne⟩) (fun b e=>e.elim)
 have hN:(((W.alloc (.cells #[zI (pq:Nat),tS s1,tS s2] 95)).setCell (tD O 0) (zN)).setCell (tD O 1) (.slice (some (tD W.heap.size 0)) 1 1)).heap[W.heap.size]?=some (.cells #[zI (pq:Nat),tS s1,tS s2] 95):=by
  rw[aL _ _ _ _ a0,aL _ _ _ _ a0];exact aA _ _
 obtain⟨⟨c0,_⟩,⟨c1,_⟩,⟨c2,_⟩⟩:=fd3 hN;refine⟨_,G,.wants [] [(pq,s1,s2)],V,M,I,⟨_,_,rfl,RdA.nil _,oS ⟨W.heap.size,0,1,rfl,⟨fun e=>?_,ah _,by unfold maxLen;omega,af hN⟩,fun j u hj=>?_⟩⟩,pre,hw,rfl,(fun x hx=>by simp at hx),⟨aJ _,by show 1<=_;omega⟩,a1,hl⟩
 ·rcases e with e|e
  ·have:=h.went.t.eng.hA _ e;omega
  ·exact e
 ·rw[dJ]
  have hj:[Value.int .i64 (pq:Nat),tS s1,tS s2][j]?=some u:=hj;rcases j with _|_|_|j
  ·injection hj with hj;rw[<-hj];exact c0
  ·injection hj with hj;rw[<-hj];exact c1
  ·injection hj with hj;rw[<-hj];exact c2
  ·simp at hj
theorem Wt.start{cm c:Cm Fi}{O b5 b6:Nat}{root:zA}{rl:Mx}{N xv sv rv:zV}{R:List Mo}(h:Stp A S w B Z Y U J mb now cap L cs D W A2 (counted cs M) V G I l)(l4:(O,.cells #[zN,zN] 221)∈l)(l5:(b5,.cells #[tS root,tS e0] 70)∈l)(l6:(b6,.cells #[tS rl.p,N,xv,sv] 214)∈l)(rx:RdA A2 Sm.mc W xv rl.X)(rr:RdA A2 Sm.mc W rv R)(hA:A2 O)(pre:Pre F (S now) D cm V c I M)(a2:∀t∈I,jB t):
  Wt A S w B Z Y U J mb now cap L cs D F cm (W.heap.size+1) O b5 b6 W.heap.size root rl N xv sv rv R (W.alloc (.cells #[zN,zN] 221)) c (fun b=>A2 b\/b=W.heap.size) V G I M [] [] (zN) (zN):=by
 have hb:zB W (W.alloc (.cells #[zN,zN] 221)):=(ae _ _).alloc (ah _) _;have hs:=h.lay (.cells #[zN,zN] 221);have hz:(W.alloc (.cells #[zN,zN] 221)).heap.size=W.heap.size+1:=by simp
 have a1:=h.went.f.size;have x4:=(h.lcs _ l4).lt;have x5:=(h.lcs _ l5).lt;have x6:=(h.lcs _ l6).lt
 have a0:∀{α:Type} {enc:α->List zV} {v:zV} {l:List α},RdA A2 enc W v l->RdA (fun b=>A2 b\/b=W.heap.size) enc (W.alloc (.cells #[zN,zN] 221)) v l:=fun hr=>(hr.more (fun b hb e=>by
  rcases e with e|e
  ·exact e
  ·omega)).below hb
 refine⟨h.h0,h.went.put (p:=fun _=>False) (Q:=fun b=>b=W.heap.size) h.h0 (ai.of_below hb) (fun _ _ e=>e.elim) (fun b e=>by rw[e,hz];exact⟨ah _,gF _⟩),pre,a0 rx,a0 rr,(h.lcs _ l4).below hb,(h.lcs _ l5).below hb,(h.lcs _ l6).below hb,Lc.new W _ a1 h.tvlt,Rw.nil 70 2,Rw.nil 95 3,fun b e=>by simp[Value.ownBlock] at e,⟨oE hA,oS rfl⟩,?_,a2,fun x hx=>by simp at hx⟩;have x4:O<W.heap.size:=x4;have x5:b5<W.heap.size:=x5;have x6:b6<W.heap.size:=x6;rw[hz];refine⟨by omega,by omega,by omega,by omega,by omega,by omega,by omega,by omega,by omega⟩
