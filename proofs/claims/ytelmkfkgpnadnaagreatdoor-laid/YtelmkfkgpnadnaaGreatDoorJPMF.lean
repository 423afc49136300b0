import Derived.Test.YtelmkfkgpnadnaaGreatDoorJPME
import Derived.Test.YtelmkfkgpnadnaaGreatDoorJPLA
set_option linter.all false
open Go.Proofs.Tryz
set_option maxRecDepth 100000
set_option maxHeartbeats 4000000
namespace Go.Proofs.YtelmkfkgpnadnaaGreatDoor
open Go.RowKit
namespace Pn
open Mf Ed
abbrev N48:Nat:=2000
structure QOk(q:Qn):Prop where
 p:q.path.size≤N48
 v:q.ver.size≤N48
def zg:Fi→Prop
 | .man _ m=>xE N48 m
 | .idx _ vs=>∀x∈vs,x.size≤N48
 | .wants ms _=>∀x∈ms,x.1.size≤N48∧x.2.size≤N48
 | .list ms _=>∀x∈ms,x.1.size≤N48∧x.2.size≤N48
 | .ord _ _=>True
def jg:Tie→Prop
 | .rd p _=>POk p
 | .ask q=>QOk q
structure KOk(k:Kp):Prop where
 f:zg k.f
 s:Small k.f
 t:∀t∈k.ties,jg t
 n:k.ties.length≤10000
def counted(cs:List Int)(W:List Qn):List Int:=W.foldl (fun c q=>bump c q.kind) cs
variable{A:Nat→Prop}{S:Nat→Shf}{w w' W:zW}{db sb fb mb now:Nat}{cap:Int}{cs:List Int}{D:List Kp}{L:List (zV×zV)}
theorem dG.below(h:dG A w db sb fb cap cs D)(hb:Below w.heap.size w w'):dG A w' db sb fb cap cs D:=by
 have e:=hb.block db h.f0.lt;obtain⟨L,h1,h2⟩:=h.map;exact⟨h.f0.of_block e,h.f1.of_block e,h.f2.of_block e,fun j c hj=>(h.cn j c hj).of_block e,⟨L,h1.of_block (hb.block fb h1.lt),h2.turn (aj.of_below hb)⟩,h.ne,h.hd,h.hf⟩
structure Eng(A:Nat→Prop)(S:Nat→Shf)(w:World)(db sb fb mb now:Nat)(cap:Int)(cs:List Int)(D:List Kp)(L:List (zV×zV)):Prop where
 desk:dG A w db sb fb cap cs D
 shelf:aF w sb mb now L
 on:sR L (S now)
 inv:Inv S now D
 ml:Ml w
 len:cs.length=5
 hA:∀b,A b→b<w.heap.size
 ns:A sb∧A mb
 ne:db≠sb∧db≠mb∧fb≠sb∧fb≠mb∧db≠0∧fb≠0
 ok:∀k∈D,KOk k
 rt:∀t,S now ax=some t→t.size≤N48
 few:∀(x:zA×zA) t,S now (0,x)=some t→(fV t).good.length≤19
theorem Eng.below(h:Eng A S w db sb fb mb now cap cs D L)(hb:Below w.heap.size w w'):Eng A S w' db sb fb mb now cap cs D L:=
 ⟨h.desk.below hb,h.shelf.below hb,h.on,h.inv,h.ml.below hb,h.len,fun b e=>by have:=h.hA b e;have:=hb.size;omega,h.ns,h.ne,h.ok,h.rt,h.few⟩
theorem Eng.turn{p:Nat→Prop}(h:Eng A S w db sb fb mb now cap cs D L)(ht:aj p w w')(hp:∀b,b<w.heap.size→p b→A b)(hq:¬p db∧¬p fb∧¬p sb∧¬p mb∧¬p 0):Eng A S w' db sb fb mb now cap cs D L:=by
 have hA:aj A w w':=ht.mono hp;obtain⟨L',h1,h2⟩:=h.desk.map;have e:=ht.block db (h.hA _ h.desk.hd) hq.1;obtain⟨m,hm⟩:=h.ml
 exact⟨⟨h.desk.f0.of_block e,h.desk.f1.of_block e,h.desk.f2.of_block e,fun j c hj=>(h.desk.cn j c hj).of_block e,⟨L',h1.of_block (ht.block fb (h.hA _ h.desk.hf) hq.2.1),h2.turn hA⟩,h.desk.ne,h.desk.hd,h.desk.hf⟩,
  h.shelf.of_block (ht.block sb (h.hA _ h.ns.1) hq.2.2.1) (ht.block mb (h.hA _ h.ns.2) hq.2.2.2.1),h.on,h.inv,⟨m,by rw[ht.cell (a:=⟨0,0,none⟩) (aU _ _ hm) hq.2.2.2.2];exact hm⟩,h.len,fun b e=>by have:=h.hA b e;have:=ht.size;omega,h.ns,h.ne,h.ok,h.rt,h.few⟩
def eA(S:Nat→Shf)(db sb fb mb now:Nat)(cap:Int)(L:List (zV×zV))(r:Nat):Prop:=
 ∀(A:Nat→Prop)(q:Qn)(w:zW)(cs:List Int)(D:List Kp),rk q≤r→q.kind≤4→QOk q→D.length+grow r≤N15→Eng A S w db sb fb mb now cap cs D L→
  zC 192 #[zP db,qv q] w fun e w'=>∃v k D' Wk,e=.returned v∧iB A w' v k∧fnd (S now) now r D q k D' Wk∧Eng A S w' db sb fb mb now cap (counted cs Wk) D' L∧aj (fun b=>b=db∨b=fb) w w'
structure Tsk(A:Nat→Prop)(S:Nat→Shf)(w:World)(B tb db sb fb mb now:Nat)(cap:Int)(cs:List Int)(D:List Kp)(L:List (zV×zV))(tv:zV)(ts:List Tie):Prop where
 eng:Eng A S w db sb fb mb now cap cs D L
 task:dy B w tb db tv ts
 pr:∀b,Own tb tv b→A b
 lt:db<B∧fb<B∧sb<B∧mb<B∧0<B
 hB:B≤w.heap.size
variable{B tb:Nat}{tv:zV}{ts:List Tie}
theorem Tsk.below(h:Tsk A S w B tb db sb fb mb now cap cs D L tv ts)(hb:Below w.heap.size w w'):Tsk A S w' B tb db sb fb mb now cap cs D L tv ts:=
 ⟨h.eng.below hb,h.task.below hb,h.pr,h.lt,by have:=h.hB;have:=hb.size;omega⟩
theorem dy.P5(h:dy B w tb db tv ts){b:Nat}(e:Own tb tv b):B≤b:=by
 rcases e with e|e
 ·rw[e];exact h.hb
 ·exact(h.row.lt b e).1
theorem Tsk.grown{tv':zV}{ts':List Tie}(h:Tsk A S w B tb db sb fb mb now cap cs D L tv ts)(ht:aj (Own tb tv) w w')(hT:dy B w' tb db tv' ts')(hat:∀b,tv'.ownBlock=some b→tv.ownBlock=some b∨w.heap.size≤b):
  Tsk (fun b=>A b∨tv'.ownBlock=some b) S w' B tb db sb fb mb now cap cs D L tv' ts':=by
 have hno:∀b,b<B→¬Own tb tv b:=fun b hb e=>by have:=h.task.P5 e;omega
 have he:=h.eng.turn ht (fun b _ e=>h.pr b e) ⟨hno _ h.lt.1,hno _ h.lt.2.1,hno _ h.lt.2.2.1,hno _ h.lt.2.2.2.1,hno _ h.lt.2.2.2.2⟩;obtain⟨L',g1,g2⟩:=h.eng.desk.map
 have g3:dP (fun b=>A b∨tv'.ownBlock=some b) w L' D:=g2.more (fun b hb e=>by
  rcases e with e|e
  ·exact e
  ·rcases hat b e with e2|e2
   ·exact h.pr b (Or.inr e2)
   ·omega)
 have g4:dP (fun b=>A b∨tv'.ownBlock=some b) w' L' D:=g3.turn (ht.mono (fun b _ e=>Or.inl (h.pr b e)));have g5:=he.desk.map;refine⟨⟨⟨he.desk.f0,he.desk.f1,he.desk.f2,he.desk.cn,⟨L',g1.of_block (ht.block fb (h.eng.hA _ h.eng.desk.hf) (hno _ h.lt.2.1)),g4⟩,he.desk.ne,Or.inl he.desk.hd,Or.inl he.desk.hf⟩,he.shelf,he.on,he.inv,he.ml,he.len,fun b e=>?_,⟨Or.inl he.ns.1,Or.inl he.ns.2⟩,he.ne,he.ok,he.rt,he.few⟩,hT,fun b e=>?_,h.lt,by have:=h.hB;have:=ht.size;omega⟩
 ·rcases e with e|e
  ·exact he.hA b e
  ·exact(hT.row.lt b e).2
 ·rcases e with e|e
  ·exact Or.inl (h.pr b (Or.inl e))
  ·exact Or.inr e
theorem Tsk.wide(h:Tsk A S w B tb db sb fb mb now cap cs D L tv ts)(hb:Below w.heap.size w w')(P:Nat→Prop)(hP:∀b,P b→w.heap.size≤b∧b<w'.heap.size):Tsk (fun b=>A b∨P b) S w' B tb db sb fb mb now cap cs D L tv ts:=by
 have h2:=h.below hb;obtain⟨L',g1,g2⟩:=h.eng.desk.map
 have g3:dP (fun b=>A b∨P b) w L' D:=g2.more (fun b hb2 e=>by
  rcases e with e|e
  ·exact e
  ·have:=(hP b e).1;omega)
 have he:=h2.eng
 exact⟨⟨⟨he.desk.f0,he.desk.f1,he.desk.f2,he.desk.cn,⟨L',g1.of_block (hb.block fb g1.lt),g3.turn (aj.of_below hb)⟩,he.desk.ne,Or.inl he.desk.hd,Or.inl he.desk.hf⟩,he.shelf,he.on,he.inv,he.ml,he.len,fun b e=>by
   rcases e with e|e
   ·exact he.hA b e
   ·exact(hP b e).2,⟨Or.inl he.ns.1,Or.inl he.ns.2⟩,he.ne,he.ok,he.rt,he.few⟩,h2.task,fun b e=>Or.inl (h2.pr b e),h2.lt,h2.hB⟩
theorem Tsk.turn{p:Nat→Prop}(h:Tsk A S w B tb db sb fb mb now cap cs D L tv ts)(ht:aj p w w')(hp:∀b,b<w.heap.size→p b→A b)(hB:∀b,p b→B≤b∧¬Own tb tv b):Tsk A S w' B tb db sb fb mb now cap cs D L tv ts:=by
 have hno:∀b,b<B→¬p b:=fun b hb e=>by have:=(hB b e).1;omega
 exact⟨h.eng.turn ht hp ⟨hno _ h.lt.1,hno _ h.lt.2.1,hno _ h.lt.2.2.1,hno _ h.lt.2.2.2.1,hno _ h.lt.2.2.2.2⟩,h.task.of_block (ht.block tb h.task.t0.lt (fun e=>(hB tb e).2 (Or.inl rfl))) (fun b e=>ht.block b (h.task.row.lt b e).2 (fun e2=>(hB b e2).2 (Or.inr e))),h.pr,h.lt,by have:=h.hB;have:=ht.size;omega⟩
abbrev Fr4(db fb tb:Nat)(tv:zV)(b:Nat):Prop:=b=db∨b=fb∨Own tb tv b
end Pn
namespace Pn
open Mf Ed
variable{A:Nat→Prop}{S:Nat→Shf}{w w' W:zW}{db sb fb mb now:Nat}{cap:Int}{cs:List Int}{D:List Kp}{L:List (zV×zV)}{B tb:Nat}{tv:zV}{ts:List Tie}
theorem KZ(a b c d:zV)(W:zW):(Instr.field 259 (.agg #[a,b,c,d]) 0).run prog W=.ok a W:=by kernel_rfl
def gG(A:Nat→Prop)(S:Nat→Shf)(w:zW)(B tb db sb fb mb now:Nat)(cap:Int)(cs:List Int)(D:List Kp)(L:List (zV×zV))(tv:zV)(ts:List Tie)(r:Nat)(q:Qn)(w':zW)(A2:Nat→Prop)(tv':zV)(k:Kp)(D':List Kp)(Wk:List Qn):Prop:=
 fnd (S now) now r D q k D' Wk∧Tsk A2 S w' B tb db sb fb mb now cap (counted cs Wk) D' L tv' (ts++[.ask q])∧aj (Fr4 db fb tb tv) w w'∧(∀b,A b→A2 b)∧(∀b,A2 b→A b∨w.heap.size≤b)∧(∀b,tv'.ownBlock=some b→tv.ownBlock=some b∨w.heap.size≤b)
theorem sW{r:Nat}(hF:eA S db sb fb mb now cap L r)(q:Qn)(hr:rk q≤r)(hk:q.kind≤4)(hq:QOk q)(hD:D.length+grow r≤N15)(w:zW)(h:Tsk A S w B tb db sb fb mb now cap cs D L tv ts)(hts:ts.length≤9999):
  zC 148 #[zP tb,qv q] w fun e w'=>∃A2 tv' fv k D' Wk,e=.returned fv∧fK A2 w' fv k.f∧gG A S w B tb db sb fb mb now cap cs D L tv ts r q w' A2 tv' k D' Wk:=by
 obtain⟨i3,hi1,hi2,hi3,hi4⟩:=Bm.gM 367 .nilIface 1 16 (by kernel_rfl);have HI:Hid (prog.info? 367=some i3∧i3.zero=some .nilIface∧i3.size=1∧i3.bytes=16):=⟨hi1,hi2,hi3,hi4⟩;clear hi1 hi2 hi3 hi4;have HT0:Hid (Tsk A S w B tb db sb fb mb now cap cs D L tv ts):=h;have HB0:=h.hB;have HFq:Hid (∀A2 W cs,Eng A2 S W db sb fb mb now cap cs D L→zC 192 #[zP db,qv q] W fun e w'=>∃v k D' Wk,e=.returned v∧iB A2 w' v k∧fnd (S now) now r D q k D' Wk∧Eng A2 S w' db sb fb mb now cap (counted cs Wk) D' L∧aj (fun b=>b=db∨b=fb) W w'):=fun A2 W cs he=>hF A2 q W cs D hr hk hq hD he
 clear h hF hr hk hq hD;have HW:Hid (qx (.ask q)=.iface 201 (.agg #[zI (q.kind:Nat),.string q.path,.string q.ver])):=rfl;obtain⟨qk,qp,qw⟩:=q;show zC 148 #[zP tb,.agg #[zI (qk:Nat),.string qp,.string qw]] w _;have HFr:Hid (∀A2 W cs,Eng A2 S W db sb fb mb now cap cs D L→zC 192 #[zP db,.agg #[zI (qk:Nat),.string qp,.string qw]] W fun e w'=>∃v k D' Wk,e=.returned v∧iB A2 w' v k∧fnd (S now) now r D ⟨qk,qp,qw⟩ k D' Wk∧Eng A2 S w' db sb fb mb now cap (counted cs Wk) D' L∧aj (fun b=>b=db∨b=fb) W w'):=HFq;have HV:Hid (qx (.ask ⟨qk,qp,qw⟩)=.iface 201 (.agg #[zI (qk:Nat),.string qp,.string qw])):=HW;clear HFq HW;generalize hq0:(⟨qk,qp,qw⟩:Qn)=q at*;generalize ((qk:Nat):Int)=kk at*;clear hq0;go_enter func148,ntmps148;go_upto_region 1 with fail;have hb1:Below w.heap.size w (w.alloc (.cells #[zI kk,.string qp,.string qw] 201)):=(ae _ _).alloc (ag _) _;have HT1:Hid (Tsk A S (w.alloc (.cells #[zI kk,.string qp,.string qw] 201)) B tb db sb fb mb now cap cs D L tv ts):=HT0.out.below hb1;have HX1:Hid ((w.alloc (.cells #[zI kk,.string qp,.string qw] 201)).heap[w.heap.size]?=some (.cells #[zI kk,.string qp,.string qw] 201)):=aD _ _;have HB1:Hid (Below w.heap.size w (w.alloc (.cells #[zI kk,.string qp,.string qw] 201))):=hb1;clear hb1;generalize w.alloc (.cells #[zI kk,.string qp,.string qw] 201)=W1 at*
 have HLt:Hid (tb<w.heap.size∧(∀b,tv.ownBlock=some b→b<w.heap.size)∧w.heap.size<W1.heap.size):=⟨HT0.out.task.t0.lt,fun b e=>(HT0.out.task.row.lt b e).2,ai HX1.out⟩;generalize hbx:w.heap.size=bx at*
 go_cut [] (fun wx=>∃tv',Hid (dy B wx tb db tv' (ts++[.ask q])∧aj (Own tb tv) W1 wx∧∀b,tv'.ownBlock=some b→tv.ownBlock=some b∨W1.heap.size≤b))
 case first=>
  obtain⟨⟨x0,_⟩,⟨x1,_⟩,⟨x2,_⟩⟩:=fd3 HX1.out;generalize hW2:W1.alloc (.cells #[.iface 201 (.agg #[zI kk,.string qp,.string qw])] 367)=W2;have hb2:Below W1.heap.size W1 W2:=by rw[←hW2];exact(ae _ _).alloc (ag _) _
  have HT2:Hid (dy B W2 tb db tv ts):=HT1.out.task.below hb2;have HT3:Hid (dy B W2.drew tb db tv ts):=HT1.out.task.below hb2.drew;have c1:W1.cell? ⟨tb,1,none⟩=some tv:=HT1.out.task.t1.1;have c1b:W2.cell? ⟨tb,1,none⟩=some tv:=HT2.out.t1.1;have hoe:W2.drew.ownsRow B 367 1 tv ts.length (ts.map qx):=HT3.out.row;have hnw:∀j u,[Value.iface 201 (.agg #[zI kk,.string qp,.string qw])][j]?=some u→W2.drew.cell? ((⟨W1.heap.size,0,none⟩:Addr).add j)=some u:=by rw[←hW2];exact Gg W1 _ 367
  have hBs:B≤W1.heap.size:=HT1.out.hB;obtain⟨sa,sc,rfl⟩:=ay HT1.out.task.row;subst hW2
  go_region_law
   (first|(refine step_append_lies _ rfl (.tmp 9) (.tmp 12) 172 rfl B 367 i3 .nilIface 1 16 underlying172 HI.out.1 HI.out.2.1 HI.out.2.2.1 HI.out.2.2.2 rfl (by decide) _ ts.length _ rfl hoe ⟨W1.heap.size,0,none⟩ 1 1 [.iface 201 (.agg #[zI kk,.string qp,.string qw])] rfl rfl hnw (fun u hu=>by simp at hu;subst hu;rfl) (by decide) (by unfold maxLen;omega) (by omega) (by show B≤(W1.alloc _).heap.size;simp;omega) _ rfl ?_;intro g cap w5 hown hgrow hat Bg;have c3:w5.cell? ⟨tb,1,none⟩=some (.slice sa ts.length sc):=(HT3.out.t1.of_block (hgrow.block tb HT3.out.t1.lt (fun e=>HT3.out.ne e.symm))).1;have f3:w5.frozen? ⟨tb,1,none⟩=false:=(HT3.out.t1.of_block (hgrow.block tb HT3.out.t1.lt (fun e=>HT3.out.ne e.symm))).2))
  all_goals
   have hG:=HT3.out.grow (t:=.ask q) ⟨hgrow.os,hgrow.tape,hgrow.output,hgrow.size,hgrow.block⟩ (by rw[HV.out];exact hown) (by
    rcases hat with h|h
    ·exact Or.inl h
    ·right;rw[h];exact ag _)
   go_wp2_with fail
   go_meet
   refine⟨_,hG.1,(aj.of_below (((ae W1.heap.size W1).alloc (ag _) _).drew)).trans hG.2 (fun _ _ h=>h) (fun _ _ h=>h),fun b e=>?_⟩;have e1:g=b:=by simpa[Value.ownBlock] using e
   rcases hat with h|h
   ·exact Or.inl (by rw[←e1];exact h)
   ·right
    have h2:g=(W1.alloc (.cells #[.iface 201 (.agg #[zI kk,.string qp,.string qw])] 367)).heap.size:=h;rw[←e1,h2];simp
 case rest=>
  obtain⟨tv',HC⟩:=hcut;obtain⟨A2,hA2⟩:∃A2:Nat→Prop,A2=(fun b=>A b∨tv'.ownBlock=some b):=⟨_,rfl⟩;have HTc:Hid (Tsk A2 S wc B tb db sb fb mb now cap cs D L tv' (ts++[.ask q])):=by rw[hA2];exact HT1.out.grown HC.out.2.1 HC.out.1 HC.out.2.2
  have HXc:Hid (wc.heap[bx]?=some (.cells #[zI kk,.string qp,.string qw] 201)):=(HC.out.2.1.block bx HLt.out.2.2 (fun e=>by
   rcases e with e|e
   ·have:=HLt.out.1;omega
   ·have:=HLt.out.2.1 _ e;omega)).trans HX1.out
  have HTu:Hid (aj (Fr4 db fb tb tv) w wc):=(aj.of_below (by have h:=HB1.out;rw[←hbx] at h;exact h)).trans HC.out.2.1 (fun _ _ h=>h) (fun _ _ h=>Or.inr (Or.inr h))
  have HAf:Hid (∀b,A2 b→A b∨bx≤b):=fun b e=>by
   rw[hA2] at e;rcases e with e|e
   ·exact Or.inl e
   ·rcases HC.out.2.2 b e with e|e
    ·exact Or.inl (HT0.out.pr b (Or.inr e))
    ·right;have:=HLt.out.2.2;omega
  have HAs:Hid (∀b,A b→A2 b):=fun b e=>by rw[hA2];exact Or.inl e
  have HOf:Hid (∀b,tv'.ownBlock=some b→tv.ownBlock=some b∨bx≤b):=fun b e=>by
   rcases HC.out.2.2 b e with e|e
   ·exact Or.inl e
   ·right;have:=HLt.out.2.2;omega
  clear HC HT1 HX1 HB1 HT0 hA2
  have HBd:Hid (bx≠db∧bx≠fb∧tb≠db∧tb≠fb):=by
   have h1:=HTc.out.lt;have h2:=HTc.out.task.hb;have h3:=HLt.out.1;refine⟨?_,?_,?_,?_⟩<;>omega
  have KF:Hid (∀W,Below wc.heap.size wc W→zC 192 #[zP db,.agg #[zI kk,.string qp,.string qw]] W fun e w'=>∃v k D' Wk,e=.returned v∧iB A2 w' v k∧fnd (S now) now r D q k D' Wk∧Eng A2 S w' db sb fb mb now cap (counted cs Wk) D' L∧aj (fun b=>b=db∨b=fb) wc w'):=fun W hb=>(HFr.out A2 W cs (HTc.out.eng.below hb)).mono (by
   rintro e w' ⟨v,k,D',Wk,e1,e2,e3,e4,e5⟩;exact⟨v,k,D',Wk,e1,e2,e3,e4,(aj.of_below hb).trans e5 (fun _ _ h=>h) (fun _ _ h=>h)⟩)
  have HPd:Hid (∀W,aj (fun b=>b=db∨b=fb) wc W→W.cell? ⟨tb,0,none⟩=some (zP db)∧W.cell? ⟨bx,0,none⟩=some (zI kk)∧W.cell? ⟨bx,1,none⟩=some (.string qp)∧W.cell? ⟨bx,2,none⟩=some (.string qw)):=fun W hb=>by
   have e1:=hb.block bx (ai HXc.out) (fun e=>by have:=HBd.out;rcases e with e|e<;>omega);obtain⟨⟨x0,_⟩,⟨x1,_⟩,⟨x2,_⟩⟩:=fd3 (e1.trans HXc.out);refine⟨?_,x0,x1,x2⟩;rw[hb.cell (a:=⟨tb,0,none⟩) HTc.out.task.t0.lt (fun e=>by have:=HBd.out;rcases e with e|e<;>(have e2:tb=_:=e;omega))];exact HTc.out.task.t0.1
  obtain⟨p0,p1,p2,p3⟩:=HPd.out wc (aj.refl _ _);have hfq:=KZ;go_upto_region 2 with fail
  go_region_held3 (fun w'=>w'.cell? ⟨tb,0,none⟩=some (zP db)∧w'.cell? ⟨bx,0,none⟩=some (zI kk)∧w'.cell? ⟨bx,1,none⟩=some (.string qp)∧w'.cell? ⟨bx,2,none⟩=some (.string qw))
   (first|exact⟨p0,p1,p2,p3⟩|exact HPd.out _ ht3)
   ((go_at_call 192;refine(KF.out _ ((ae _ _).drew)).mono ?_;rintro e w3 ⟨v,k,D',Wk,rfl,hk3,hf3,he3,ht3⟩;obtain⟨fv,kv,e4,hfv,_⟩:=hk3;subst e4))
  have HT3:Hid (Tsk A2 S w3 B tb db sb fb mb now cap (counted cs Wk) D' L tv' (ts++[.ask q])):=⟨he3,HTc.out.task.turn ht3 (fun b e=>by have:=HTc.out.lt;rcases e with e|e<;>omega),HTc.out.pr,HTc.out.lt,by have:=HTc.out.hB;have:=ht3.size;omega⟩
  have HTw:Hid (aj (Fr4 db fb tb tv) w w3):=HTu.out.trans ht3 (fun _ _ h=>h) (fun _ _ h=>by
   rcases h with h|h
   ·exact Or.inl h
   ·exact Or.inr (Or.inl h))
  have HR:Hid (fK A2 w3 fv k.f∧fnd (S now) now r D q k D' Wk):=⟨hfv,hf3⟩;clear hfv hf3 he3 ht3 hfq;go_wp2;go_ret;exact⟨A2,tv',fv,k,D',Wk,rfl,HR.out.1,HR.out.2,HT3.out,HTw.out,HAs.out,fun b e=>by have:=HAf.out b e;rw[hbx];exact this,fun b e=>by have:=HOf.out b e;rw[hbx];exact this⟩
end Pn
namespace Pn
open Mf Ed
variable{A A1 A2:Nat→Prop}{S:Nat→Shf}{w w' W W1 w2 wf:zW}{db sb fb mb now:Nat}{cap:Int}{cs:List Int}{D D':List Kp}{L:List (zV×zV)}{B tb:Nat}{tv tv':zV}{ts:List Tie}{r:Nat}{q:Qn}{k:Kp}{Wk:List Qn}
theorem gG.lift{P:Nat→Prop}(h:Tsk A S w B tb db sb fb mb now cap cs D L tv ts)(hb:Below w.heap.size w W1)(hP:∀b,P b→w.heap.size≤b∧b<W1.heap.size)(hk:gG (fun b=>A b∨P b) S W1 B tb db sb fb mb now cap cs D L tv ts r q w2 A2 tv' k D' Wk)(ht:aj P w2 wf):
  gG A S w B tb db sb fb mb now cap cs D L tv ts r q wf A2 tv' k D' Wk:=by
 obtain⟨h1,h2,h3,h4,h5,h6⟩:=hk;have hs:=hb.size;refine⟨h1,h2.turn ht (fun b _ e=>h4 b (Or.inr e)) (fun b e=>⟨by have:=(hP b e).1;have:=h.hB;omega,fun e2=>?_⟩),?_,fun b e=>h4 b (Or.inl e),fun b e=>?_,fun b e=>?_⟩
 ·have h7:=hP b e
  rcases e2 with e2|e2
  ·have:=h.task.t0.lt;omega
  ·rcases h6 b e2 with e3|e3
   ·have:=(h.task.row.lt b e3).2;omega
   ·omega
 ·exact((aj.of_below hb).trans h3 (fun _ _ e=>e) (fun _ _ e=>e)).trans ht (fun _ _ e=>e) (fun b hb2 e=>by have:=(hP b e).1;omega)
 ·rcases h5 b e with(e|e)|e
  ·exact Or.inl e
  ·exact Or.inr (hP b e).1
  ·exact Or.inr (by omega)
 ·rcases h6 b e with e|e
  ·exact Or.inl e
  ·exact Or.inr (by omega)
theorem gG.stay{P:Nat→Prop}(h:Tsk A S w B tb db sb fb mb now cap cs D L tv ts)(hk:gG (fun b=>A b∨P b) S W1 B tb db sb fb mb now cap cs D L tv ts r q w2 A2 tv' k D' Wk){b:Nat}(h1:w.heap.size≤b)(h2:b<W1.heap.size):w2.heap[b]?=W1.heap[b]?:=by
 refine hk.2.2.1.block b h2 (fun e=>?_);have h3:=h.lt;have h4:=h.hB;rcases e with e|e|e|e
 ·omega
 ·omega
 ·have:=h.task.t0.lt;omega
 ·have:=(h.task.row.lt b e).2;omega
theorem gG.val(hI:Inv S now D)(hk:gG A S w B tb db sb fb mb now cap cs D L tv ts r q w2 A2 tv' k D' Wk)(hr:rk q≤r)(hq:q.kind≤4):k.f=val (S now) q∧k∈D':=
 have h:=mg r D q k D' Wk hI (mO hr) hq hk.1
 ⟨h.2.2.2.2.2,h.2.2.1⟩
theorem BL(s:Shf)(p v:zA):∃pr m,val s ⟨0,p,v⟩=.man pr m:=by
 rw[rB s (aK 1)];show ∃pr m,dW (s (0,p,v))=_;cases s (0,p,v) with
 |none=>exact⟨_,_,rfl⟩
 |some t=>
  unfold dW;by_cases h:br t=[]
  ·exact⟨_,_,ah h⟩
  ·exact⟨_,_,af h⟩
theorem Gi(s:Shf)(p v:zA):∃pr vs,val s ⟨1,p,v⟩=.idx pr vs:=by
 rw[rB s (ag 1)];show ∃pr vs,idxOf (s (1,p,e0))=_;cases s (1,p,e0) with
 |none=>exact⟨_,_,rfl⟩
 |some t=>
  unfold idxOf;by_cases h:dB t=[]
  ·exact⟨_,_,ah h⟩
  ·exact⟨_,_,af h⟩
theorem Iw(hF:eA S db sb fb mb now cap L r)(p:zA)(hp:p.size≤N48)(hD:D.length+grow r≤N15)(w:zW)(h:Tsk A S w B tb db sb fb mb now cap cs D L tv ts)(hts:ts.length≤9999):
  zC 328 #[zP tb,.string p] w fun e w'=>∃A2 tv' pr u vs k D' Wk,e=.returned (.agg #[zI (pr:Nat),u])∧RdA A2 fW w' u vs∧k.f=.idx pr vs∧gG A S w B tb db sb fb mb now cap cs D L tv ts r ⟨1,p,e0⟩ w' A2 tv' k D' Wk:=by
 have hb1:Below w.heap.size w (w.alloc (.cells #[zI 0,zN] 389)):=(ae _ _).alloc (ag _) _;have hP:∀b,b=w.heap.size→w.heap.size≤b∧b<(w.alloc (.cells #[zI 0,zN] 389)).heap.size:=fun b e=>by rw[e];exact⟨ag _,by simp⟩
 have ka:=sW hF ⟨1,p,e0⟩ (aK _) (by show 1≤4;decide) ⟨hp,aK _⟩ hD _ (h.wide hb1 (fun b=>b=w.heap.size) hP) hts;have HT:Hid (Tsk A S w B tb db sb fb mb now cap cs D L tv ts):=h;have HB1:Hid (Below w.heap.size w (w.alloc (.cells #[zI 0,zN] 389))∧∀b,b=w.heap.size→w.heap.size≤b∧b<(w.alloc (.cells #[zI 0,zN] 389)).heap.size):=⟨hb1,hP⟩;have HX1:Hid ((w.alloc (.cells #[zI 0,zN] 389)).heap[w.heap.size]?=some (.cells #[zI 0,zN] 389)):=aD _ _;clear hb1 hP h hF hp hD;go_enter func328,ntmps328
 go_wp2_with (go_at_call 148;fail)
 generalize w.alloc (.cells #[zI 0,zN] 389)=W1 at*;go_at_call 148;refine ka.mono ?_;rintro e w2 ⟨A2,tv',fv,k,D',Wk,rfl,hfv,hk⟩;have hv:=hk.val HT.out.eng.inv (aK _) (by show 1≤4;decide);obtain⟨pr,vs,hvs⟩:=Gi (S now) p e0;rw[hvs] at hv;rw[hv.1] at hfv;obtain⟨u,rfl,hu⟩:=hfv;obtain⟨ua,uc,e1⟩:=hu.len;subst e1;have HK:Hid (gG (fun b=>A b∨b=w.heap.size) S W1 B tb db sb fb mb now cap cs D L tv ts r ⟨1,p,e0⟩ w2 A2 tv' k D' Wk∧RdA A2 fW w2 (.slice ua vs.length uc) vs∧k.f=.idx pr vs):=⟨hk,hu,hv.1⟩;have HX2:Hid (w2.heap[w.heap.size]?=some (.cells #[zI 0,zN] 389)):=(hk.stay HT.out (ag _) (HB1.out.2 _ rfl).2).trans HX1.out;have HX3:Hid ((w2.alloc (.cells #[zI (pr:Nat),.slice ua vs.length uc] 389)).heap[w.heap.size]?=some (.cells #[zI 0,zN] 389)):=(aG _ _ _ (ai HX2.out)).trans HX2.out;have HB3:Hid (Below w2.heap.size w2 (w2.alloc (.cells #[zI (pr:Nat),.slice ua vs.length uc] 389))):=(ae _ _).alloc (ag _) _;have HN3:Hid ((w2.alloc (.cells #[zI (pr:Nat),.slice ua vs.length uc] 389)).heap[w2.heap.size]?=some (.cells #[zI (pr:Nat),.slice ua vs.length uc] 389)):=aD _ _;clear hk hu hv hvs ka;have hta:=KL (.agg #[zI (pr:Nat),.slice ua vs.length uc]) w2;go_upto_region 2 with fail;obtain⟨⟨c0,f0⟩,⟨c1,f1⟩⟩:=fd2 HX3.out;obtain⟨⟨d0,_⟩,⟨d1,_⟩⟩:=fd2 HN3.out;clear hta
 generalize w2.alloc (.cells #[zI (pr:Nat),.slice ua vs.length uc] 389)=W3 at*;go_wp2;refine aI (bM results328 _ _ w.heap.size 389 _ (0,0) _ rfl (gA HX3.out _ _) underlying389 rfl (by kernel_rfl)) rfl ?_;have hT:aj (fun b=>b=w.heap.size) w2 ((W3.setCell ⟨w.heap.size,0,none⟩ (zI (pr:Nat))).setCell ⟨w.heap.size,1,none⟩ (.slice ua vs.length uc)):=((aj.of_below (p:=fun b=>b=w.heap.size) HB3.out).set (a:=⟨w.heap.size,0,none⟩) (fun _=>rfl) _).set (a:=⟨w.heap.size,1,none⟩) (fun _=>rfl) _;refine⟨A2,tv',pr,_,vs,k,D',Wk,rfl,HK.out.2.1.turn (hT.mono (fun b _ e=>HK.out.1.2.2.2.1 b (Or.inr e))),HK.out.2.2,HK.out.1.lift HT.out HB1.out.1 HB1.out.2 hT⟩
