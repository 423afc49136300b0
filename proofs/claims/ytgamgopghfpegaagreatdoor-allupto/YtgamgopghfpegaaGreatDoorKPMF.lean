import Derived.Test.YtgamgopghfpegaaGreatDoorKPME
set_option linter.all false
open Go.Proofs.Tryz
set_option maxRecDepth 100000
set_option maxHeartbeats 4000000
namespace Go.Proofs.YtgamgopghfpegaaGreatDoor
open Go.RowKit
namespace Pn
open Mf Ed
abbrev N48:Nat:=2000
structure QOk(q:Qn):Prop where
 p:q.path.size≤N48
 v:q.ver.size≤N48
def Ct:Fi→Prop
 | .man _ m=>zK N48 m
 | .idx _ M=>∀x∈M,x.size≤N48
 | .wants f _=>∀x∈f,x.1.size≤N48∧x.2.size≤N48
 | .list f _=>∀x∈f,x.1.size≤N48∧x.2.size≤N48
 | .ord _ _=>True
def kD:Tie→Prop
 | .rd p _=>POk p
 | .ask q=>QOk q
structure KOk(k:Kp):Prop where
 f:Ct k.f
 s:Small k.f
 t:∀t∈k.ties,kD t
 n:k.ties.length≤10000
def counted(Z:List Int)(W:List Qn):List Int:=W.foldl (fun c q=>bump c q.kind) Z
variable{A:Nat→Prop}{S:Nat→Shf}{w w' W:zW}{I Y fb mb G:Nat}{cap:Int}{Z:List Int}{D:List Kp}{L:List (zV×zV)}
theorem dB.below(h:dB A w I Y fb cap Z D)(f:Below w w w'):dB A w' I Y fb cap Z D:=by
 have e:=f.block I h.f0.lt;obtain⟨L,M,h2⟩:=h.map;exact⟨h.f0.of_block e,h.f1.of_block e,h.f2.of_block e,fun j c hj=>(h.cn j c hj).of_block e,⟨L,M.of_block (f.block fb M.lt),h2.turn (aj.of_below f)⟩,h.ne,h.hd,h.hf⟩
structure Eng(A:Nat→Prop)(S:Nat→Shf)(w:World)(I Y fb mb G:Nat)(cap:Int)(Z:List Int)(D:List Kp)(L:List (zV×zV)):Prop where
 desk:dB A w I Y fb cap Z D
 shelf:aW w Y mb G L
 on:sO L (S G)
 inv:Inv S G D
 ml:Ml w
 len:Z.length=5
 hA:∀b,A b→b<w.heap.size
 ns:A Y∧A mb
 ne:I≠Y∧I≠mb∧fb≠Y∧fb≠mb∧I≠0∧fb≠0
 ok:∀k∈D,KOk k
 rt:∀t,S G aU=some t→t.size≤N48
theorem Eng.below(h:Eng A S w I Y fb mb G cap Z D L)(f:Below w w w'):Eng A S w' I Y fb mb G cap Z D L:=
 ⟨h.desk.below f,h.shelf.below f,h.on,h.inv,h.ml.below f,h.len,fun b e=>by have:=h.hA b e;have:=f.size;omega,h.ns,h.ne,h.ok,h.rt⟩
theorem Eng.turn{p}(h:Eng A S w I Y fb mb G cap Z D L)(f:aj p w w')(hp:∀b,b<w.heap.size→p b→A b)(M:¬p I∧¬p fb∧¬p Y∧¬p mb∧¬p 0):Eng A S w' I Y fb mb G cap Z D L:=by
 have hA:=f.mono hp;obtain⟨L',h1,h2⟩:=h.desk.map;have e:=f.block I (h.hA _ h.desk.hd) M.1;obtain⟨m,hm⟩:=h.ml
 exact⟨⟨h.desk.f0.of_block e,h.desk.f1.of_block e,h.desk.f2.of_block e,fun j c hj=>(h.desk.cn j c hj).of_block e,⟨L',h1.of_block (f.block fb (h.hA _ h.desk.hf) M.2.1),h2.turn hA⟩,h.desk.ne,h.desk.hd,h.desk.hf⟩,
  h.shelf.of_block (f.block Y (h.hA _ h.ns.1) M.2.2.1) (f.block mb (h.hA _ h.ns.2) M.2.2.2.1),h.on,h.inv,⟨m,by rw[f.cell (cr _ _ hm) M.2.2.2.2];exact hm⟩,h.len,fun b e=>by have:=h.hA b e;have:=f.size;omega,h.ns,h.ne,h.ok,h.rt⟩
def fG(S:Nat→Shf)(I Y fb mb G:Nat)(cap:Int)(L:List (zV×zV))(r:Nat):Prop:=
 ∀(A:Nat→Prop)(q:Qn)(w:zW)(Z:List Int)(D:List Kp),rk q≤r→q.kind≤4→QOk q→D.length+grow r≤N15→Eng A S w I Y fb mb G cap Z D L→
  zC 135 #[.pointer (some ⟨I,0,none⟩),qv q] w fun e w'=>∃v k T O,e=.returned v∧jI A w' v k∧fnd (S G) G r D q k T O∧Eng A S w' I Y fb mb G cap (counted Z O) T L∧aj (fun b=>b=I∨b=fb) w w'
structure Tsk(A:Nat→Prop)(S:Nat→Shf)(w:World)(B Q I Y fb mb G:Nat)(cap:Int)(Z:List Int)(D:List Kp)(L:List (zV×zV))(U:zV)(V:List Tie):Prop where
 eng:Eng A S w I Y fb mb G cap Z D L
 task:fp B w Q I U V
 pr:∀b,Own Q U b→A b
 lt:I<B∧fb<B∧Y<B∧mb<B∧0<B
 hB:B≤w.heap.size
variable{B Q:Nat}{U:zV}{V:List Tie}
theorem Tsk.below(h:Tsk A S w B Q I Y fb mb G cap Z D L U V)(f:Below w w w'):Tsk A S w' B Q I Y fb mb G cap Z D L U V:=
 ⟨h.eng.below f,h.task.below f,h.pr,h.lt,by have:=h.hB;have:=f.size;omega⟩
theorem fp.SI(h:fp B w Q I U V){b}(e:Own Q U b):B≤b:=by
 rcases e with e|e
 ·rw[e];exact h.hb
 ·exact(h.row.lt b e).1
theorem Tsk.grown{J}{M}(h:Tsk A S w B Q I Y fb mb G cap Z D L U V)(ht:aj (Own Q U) w w')(hT:fp B w' Q I J M)(a0:∀b,J.ownBlock=some b→U.ownBlock=b∨w≤b):
  Tsk (fun b=>A b∨J.ownBlock=b) S w' B Q I Y fb mb G cap Z D L J M:=by
 have f:∀b,b<B→¬Own Q U b:=fun b hb e=>by have:=h.task.SI e;omega
 have he:=h.eng.turn ht (fun b _ e=>h.pr b e) ⟨f _ h.lt.1,f _ h.lt.2.1,f _ h.lt.2.2.1,f _ h.lt.2.2.2.1,f _ h.lt.2.2.2.2⟩;obtain⟨L',g1,g2⟩:=h.eng.desk.map
 have g3:ee (fun b=>A b∨J.ownBlock=b) w L' D:=g2.more (fun b hb e=>by
  rcases e with e|e
  ·exact e
  ·rcases a0 b e with e2|e2
   ·exact h.pr b (Or.inr e2)
   ·omega)
 have g4:=g3.turn (ht.mono (fun b _ e=>Or.inl (h.pr b e)));have g5:=he.desk.map;refine⟨⟨⟨he.desk.f0,he.desk.f1,he.desk.f2,he.desk.cn,⟨L',g1.of_block (ht.block fb (h.eng.hA _ h.eng.desk.hf) (f _ h.lt.2.1)),g4⟩,he.desk.ne,Or.inl he.desk.hd,Or.inl he.desk.hf⟩,he.shelf,he.on,he.inv,he.ml,he.len,fun b e=>?_,⟨Or.inl he.ns.1,Or.inl he.ns.2⟩,he.ne,he.ok,he.rt⟩,hT,fun b e=>?_,h.lt,by have:=h.hB;have:=ht.size;omega⟩
 ·rcases e with e|e
  ·exact he.hA b e
  ·exact(hT.row.lt b e).2
 ·rcases e with e|e
  ·exact Or.inl (h.pr b (Or.inl e))
  grind
theorem Tsk.wide(h:Tsk A S w B Q I Y fb mb G cap Z D L U V)(M:Below w w w')(P:Nat→Prop)(hP:∀b,P b→w≤b∧b<w'):Tsk (fun b=>A b∨P b) S w' B Q I Y fb mb G cap Z D L U V:=by
 have f:=h.below M;obtain⟨L',g1,g2⟩:=h.eng.desk.map
 have g3:ee (fun b=>A b∨P b) w L' D:=g2.more (fun b a0 e=>by
  grind)
 have he:=f.eng
 exact⟨⟨⟨he.desk.f0,he.desk.f1,he.desk.f2,he.desk.cn,⟨L',g1.of_block (M.block fb g1.lt),g3.turn (aj.of_below M)⟩,he.desk.ne,Or.inl he.desk.hd,Or.inl he.desk.hf⟩,he.shelf,he.on,he.inv,he.ml,he.len,fun b e=>by
   rcases e with e|e
   ·exact he.hA b e
   grind,⟨Or.inl he.ns.1,Or.inl he.ns.2⟩,he.ne,he.ok,he.rt⟩,f.task,fun b e=>Or.inl (f.pr b e),f.lt,f.hB⟩
theorem Tsk.turn{p}(h:Tsk A S w B Q I Y fb mb G cap Z D L U V)(M:aj p w w')(hp:∀b,b<w.heap.size→p b→A b)(hB:∀b,p b→B≤b∧¬Own Q U b):Tsk A S w' B Q I Y fb mb G cap Z D L U V:=by
 have f:∀b,b<B→¬p b:=fun b hb e=>ax
 exact⟨h.eng.turn M hp ⟨f _ h.lt.1,f _ h.lt.2.1,f _ h.lt.2.2.1,f _ h.lt.2.2.2.1,f _ h.lt.2.2.2.2⟩,h.task.of_block (M.block Q h.task.t0.lt (fun e=>(hB Q e).2 (Or.inl rfl))) (fun b e=>M.block b (h.task.row.lt b e).2 (fun e2=>(hB b e2).2 (Or.inr e))),h.pr,h.lt,by have:=h.hB;have:=M.size;omega⟩
abbrev Fr4(I fb Q:Nat)(U:zV)(b:Nat):Prop:=b=I∨b=fb∨Own Q U b
end Pn
namespace Pn
open Mf Ed
variable{A:Nat→Prop}{S:Nat→Shf}{w w' W:zW}{I Y fb mb G:Nat}{cap:Int}{Z:List Int}{D:List Kp}{L:List (zV×zV)}{B Q:Nat}{U:zV}{V:List Tie}
theorem Na a b c d W:(Instr.field 169 (.agg #[a,b,c,d]) 0).run prog W=.ok a W:=aB
def kF(A:Nat→Prop)(S:Nat→Shf)(w:zW)(B Q I Y fb mb G:Nat)(cap:Int)(Z:List Int)(D:List Kp)(L:List (zV×zV))(U:zV)(V:List Tie)(r:Nat)(q:Qn)(w':zW)(A2:Nat→Prop)(J:zV)(k:Kp)(T:List Kp)(O:List Qn):Prop:=
 fnd (S G) G r D q k T O∧Tsk A2 S w' B Q I Y fb mb G cap (counted Z O) T L J (V++[.ask q])∧aj (Fr4 I fb Q U) w w'∧(∀b,A b→A2 b)∧(∀b,A2 b→A b∨w.heap.size≤b)∧(∀b,J.ownBlock=some b→U.ownBlock=some b∨w.heap.size≤b)
theorem sV{r}(hF:fG S I Y fb mb G cap L r)q(hr:rk q≤r)(hk:q.kind≤4)(hq:QOk q)(hD:D+grow r≤N15)w(h:Tsk A S w B Q I Y fb mb G cap Z D L U V)(c0:V.length≤9999):
  zC 109 #[.pointer (some (Q,0)),qv q] w fun e w'=>∃A2 J fv k T O,e=.returned fv∧iC A2 w' fv k.f∧kF A S w B Q I Y fb mb G cap Z D L U V r q w' A2 J k T O:=by
 obtain⟨i3,b3,b4,b5,b6⟩:=Bm.eD 264 .nilIface 1 16 aB;have HI:Hid (_∧_∧_∧_):=⟨b3,b4,b5,b6⟩;clear b3 b4 b5 b6;have a4:=zH h;have bs:=h.hB;have ad:=zH (fun A2 W Z he=>hF A2 q W Z D hr hk hq hD he);clear h hF hr hk hq hD;have HW:Hid (sN (.ask q)=.iface 128 (.agg _)):=rfl;obtain⟨qk,qp,qw⟩:=q;show zC 109 #[.pointer (some ⟨Q,0,none⟩),.agg #[.int .i64 (qk:Nat),.string qp,.string qw]] w _;have ba:Hid (∀A2 W Z,_→Calls _ 135 #[_,.agg #[qk,qp,qw]] W fun e w'=>∃_,_):=ad;have HV:Hid (sN _=.iface 128 (.agg #[qk,qp,qw])):=HW;clear ad HW;generalize bq:(⟨qk,qp,qw⟩:Qn)=q at*;generalize ((qk:Nat):Int)=kk at*;clear bq;go_enter func109,ntmps109;go_upto_region 1 with fail;have a9:Below w.heap.size w (w.alloc (.cells #[kk,qp,qw] 128)):=(af _ _).alloc (ai _) _;have a2:=zH (a4.out.below a9);have a6:Hid ((w.alloc (.cells #[kk,qp,qw] 128)).heap[_]?=_):=aI _ _;have aa:=zH a9;clear a9;generalize w.alloc (.cells #[.int .i64 kk,.string qp,.string qw] 128)=R at*;have a3:Hid (_∧_∧_):=⟨a4.out.task.t0.lt,fun b e=>(a4.out.task.row.lt b e).2,ag a6.out⟩;generalize az:w.heap.size=bx at*
 go_cut [] (fun wx=>∃J,Hid (fp B wx Q I J (V++[.ask q])∧aj (Own Q U) R wx∧∀b,J.ownBlock=some b→U.ownBlock=some b∨R.heap.size≤b))
 case first=>
  obtain⟨⟨x0,_⟩,⟨x1,_⟩,⟨x2,_⟩⟩:=fd3 a6.out;generalize a8:R.alloc (.cells #[.iface 128 (.agg #[.int .i64 kk,.string qp,.string qw])] 264)=W2;have av:Below R.heap.size R W2:=by rw[←a8];exact(af _ _).alloc (ai _) _
  have bc:=zH (a2.out.task.below av);have a0:=zH (a2.out.task.below av.drew);have c1:=a2.out.task.t1.1;have bt:=bc.out.t1.1;have bn:=a0.out.row;have bm:∀j u,[Value.iface 128 (.agg #[kk,qp,qw])][j]?=some u→W2.drew.cell? (((R,0):Addr).add j)=some u:=by rw[←a8];exact Hs R _ 264
  have bv:=a2.out.hB;obtain⟨sa,sc,rfl⟩:=aC a2.out.task.row;subst a8
  go_region_law
   (first|(refine step_append_lies _ rfl (.tmp 9) _ 145 rfl B 264 i3 _ 1 16 underlying145 HI.out.1 HI.out.2.1 HI.out.2.2.1 HI.out.2.2.2 rfl aA _ _ _ rfl bn _ 1 1 _ rfl rfl bm (fun u hu=>by simp at hu;subst hu;rfl) aA (by unfold maxLen;omega) ae (by show B≤(R.alloc _).heap.size;simp;omega) _ rfl ?_;intro g cap w5 b7 M aq Gc;have c3:=(a0.out.t1.of_block (M.block Q a0.out.t1.lt (fun e=>a0.out.ne e.symm))).1;have f3:=(a0.out.t1.of_block (M.block Q a0.out.t1.lt (fun e=>a0.out.ne e.symm))).2))
  all_goals
   have hG:=a0.out.grow (t:=.ask q) ⟨M.os,M.tape,M.output,M.size,M.block⟩ (by rw[HV.out];exact b7) (by
    rcases aq with h|h
    ·exact Or.inl h
    omega)
   go_wp2_with fail
   go_meet
   refine⟨_,hG.1,(aj.of_below (((af _ R).alloc (ai _) _).drew)).trans hG.2 (fun _ _ h=>h) (fun _ _ h=>h),fun b e=>?_⟩;have e1:g=b:=by simpa[Value.ownBlock] using e
   rcases aq with h|h
   ·exact Or.inl (by rw[←e1];exact h)
   ·right
    have h2:g=(R.alloc (.cells #[.iface 128 _] 264)):=h;rw[←e1,h2];simp
 case rest=>
  obtain⟨J,HC⟩:=hcut;obtain⟨A2,a7⟩:∃A2:Nat→Prop,A2=(fun b=>A b∨J.ownBlock=some b):=⟨_,rfl⟩;have a1:Hid (Tsk A2 S wc B Q I Y fb mb G cap Z D L J (V++[.ask q])):=by rw[a7];exact a2.out.grown HC.out.2.1 HC.out.1 HC.out.2.2
  have an:=zH ((HC.out.2.1.block bx a3.out.2.2 (fun e=>by
   rcases e with e|e
   ·have:=a3.out.1;omega
   ·have:=a3.out.2.1 _ e;omega)).trans a6.out)
  have bd:Hid (aj (Fr4 I fb Q U) w wc):=(aj.of_below (by have h:=aa.out;grind)).trans HC.out.2.1 (fun _ _ h=>h) (fun _ _ h=>Or.inr (Or.inr h))
  have b8:Hid (∀b,A2 b→A b∨bx≤b):=fun b e=>by
   rw[a7] at e;rcases e with e|e
   ·exact Or.inl e
   ·rcases HC.out.2.2 b e with e|e
    ·exact Or.inl (a4.out.pr b (Or.inr e))
    ·right;have:=a3.out.2.2;omega
  have b9:Hid (∀b,A b→A2 b):=fun b e=>ax
  have bb:Hid (∀b,J.ownBlock=some b→U.ownBlock=b∨bx≤b):=fun b e=>by
   rcases HC.out.2.2 b e with e|e
   ·exact Or.inl e
   ·right;have:=a3.out.2.2;omega
  clear HC a2 a6 aa a4 a7
  have ab:Hid (bx≠I∧bx≠fb∧Q≠I∧Q≠fb):=by
   have h1:=a1.out.lt;have h2:=a1.out.task.hb;have h3:=a3.out.1;refine⟨?_,?_,?_,?_⟩<;>omega
  have KF:Hid (∀W,_→Calls _ 135 _ W fun e w'=>∃v k T O,e=.returned v∧jI A2 w' v k∧fnd (S G) G r D q k T O∧Eng A2 S w' I Y fb mb G cap (counted Z O) T L∧aj (fun b=>b=I∨b=fb) wc w'):=fun W hb=>(ba.out A2 W Z (a1.out.eng.below hb)).mono (by
   rintro e w' ⟨v,k,T,O,e1,e2,e3,e4,e5⟩;exact⟨v,k,T,O,e1,e2,e3,e4,(aj.of_below hb).trans e5 (fun _ _ h=>h) (fun _ _ h=>h)⟩)
  have ak:Hid (∀W,aj (fun b=>b=I∨b=fb) wc W→W.cell? (Q,0)=some (.pointer (some (I,0)))∧W.cell? (bx,0)=kk∧W.cell? ⟨bx,1,none⟩=some (.string qp)∧W.cell? ⟨bx,2,none⟩=some (.string qw)):=fun W hb=>by
   have e1:=hb.block bx (ag an.out) (fun e=>by have:=ab.out;omega);obtain⟨⟨x0,_⟩,⟨x1,_⟩,⟨x2,_⟩⟩:=fd3 (e1.trans an.out);refine⟨?_,x0,x1,x2⟩;rw[hb.cell a1.out.task.t0.lt (fun e=>by have:=ab.out;grind)];exact a1.out.task.t0.1
  obtain⟨p0,p1,p2,p3⟩:=ak.out wc (aj.refl _ _);have bi:=Na;go_upto_region 2 with fail
  go_region_held3 (fun w'=>w'.cell? (Q,0)=some (.pointer (some (I,0)))∧w'.cell? (bx,0)=kk∧w'.cell? ⟨bx,1,none⟩=some (.string qp)∧w'.cell? ⟨bx,2,none⟩=some (.string qw))
   (first|exact⟨p0,p1,p2,p3⟩|exact ak.out _ a5)
   ((go_at_call 135;refine(KF.out _ ((af _ _).drew)).mono ?_;rintro e w3 ⟨v,k,T,O,rfl,bk,b1,b0,a5⟩;obtain⟨fv,kv,e4,b2,_⟩:=bk;subst e4))
  have a0:Hid (Tsk A2 S w3 B Q I Y fb mb G cap _ T L J _):=⟨b0,a1.out.task.turn a5 (fun b e=>by have:=a1.out.lt;rcases e with e|e<;>omega),a1.out.pr,a1.out.lt,by have:=a1.out.hB;have:=a5.size;omega⟩
  have bh:=zH (bd.out.trans a5 (fun _ _ h=>h) (fun _ _ h=>by
   rcases h with h|h
   ·exact Or.inl h
   ·exact Or.inr (Or.inl h)))
  have HR:Hid (_∧_):=⟨b2,b1⟩;clear b2 b1 b0 a5 bi;go_wp2;go_ret;exact⟨A2,J,fv,k,T,O,rfl,HR.out.1,HR.out.2,a0.out,bh.out,b9.out,fun b e=>by have:=b8.out b e;rw[az];exact this,fun b e=>by have:=bb.out b e;rw[az];exact this⟩
end Pn
namespace Pn
open Mf Ed
variable{A F A2:Nat→Prop}{S:Nat→Shf}{w w' W R E wf:zW}{I Y fb mb G:Nat}{cap:Int}{Z:List Int}{D T:List Kp}{L:List (zV×zV)}{B Q:Nat}{U J:zV}{V:List Tie}{r:Nat}{q:Qn}{k:Kp}{O:List Qn}
theorem kF.lift{P:Nat→Prop}(h:Tsk A S w B Q I Y fb mb G cap Z D L U V)(hb:Below w w R)(hP:∀b,P b→w≤b∧b<R)(hk:kF (fun b=>A b∨P b) S R B Q I Y fb mb G cap Z D L U V r q E A2 J k T O)(ht:aj P E wf):
  kF A S w B Q I Y fb mb G cap Z D L U V r q wf A2 J k T O:=by
 obtain⟨h1,h2,h3,h4,h5,h6⟩:=hk;have hs:=hb.size;refine⟨h1,h2.turn ht (fun b _ e=>h4 b (Or.inr e)) (fun b e=>⟨by have:=(hP b e).1;have:=h.hB;omega,fun f=>?_⟩),?_,fun b e=>h4 b (Or.inl e),fun b e=>?_,fun b e=>?_⟩
 ·have h7:=hP b e
  rcases f with f|f
  ·have:=h.task.t0.lt;omega
  ·rcases h6 b f with M|M
   ·have:=(h.task.row.lt b M).2;omega
   ·omega
 ·exact((aj.of_below hb).trans h3 (fun _ _ e=>e) (fun _ _ e=>e)).trans ht (fun _ _ e=>e) (fun b a0 e=>ax)
 ·grind
 grind
theorem kF.stay{P:Nat→Prop}(h:Tsk A S w B Q I Y fb mb G cap Z D L U V)(M:kF (fun b=>A b∨P b) S R B Q I Y fb mb G cap Z D L U V r q E A2 J k T O){b:Nat}(h1:w≤b)(f:b<R):E.heap[b]?=R.heap[b]?:=by
 refine M.2.2.1.block b f (fun e=>?_);have h3:=h.lt;have h4:=h.hB;rcases e with e|e|e|e
 ·omega
 ·omega
 ·have:=h.task.t0.lt;omega
 ·have:=(h.task.row.lt b e).2;omega
theorem kF.val(M:Inv S G D)(hk:kF A S w B Q I Y fb mb G cap Z D L U V r q E A2 J k T O)(hr:rk q≤r)(hq:q.kind≤4):k.f=val (S G) q∧k∈T:=
 have h:=lZ r D q k T O M (mJ hr) hq hk.1
 ⟨h.2.2.2.2.2,h.2.2.1⟩
theorem Cu s p v:∃f m,val s ⟨0,p,v⟩=.man f m:=by
 rw[nE s (aN 1)];show ∃f m,fg (s (0,p,v))=_;cases s (0,p,v) with
 |none=>exact⟨_,_,rfl⟩
 |some t=>
  unfold fg;by_cases h:bf t=[]
  ·simp_all
  ·simp_all
theorem Hv s p v:∃f M,val s ⟨1,p,v⟩=.idx f M:=by
 rw[nE s (ai 1)];show ∃f M,idxOf (s (1,p,e0))=_;cases s (1,p,e0) with
 |none=>exact⟨_,_,rfl⟩
 |some t=>
  unfold idxOf;by_cases h:cC t=[]
  ·simp_all
  ·simp_all
theorem JY(hF:fG S I Y fb mb G cap L r)(p:zA)(hp:p.size≤N48)(hD:D+grow r≤N15)w(h:Tsk A S w B Q I Y fb mb G cap Z D L U V)(aa:V.length≤9999):
  zC 222 #[.pointer (some (Q,0)),p] w fun e w'=>∃A2 J M u vs k T O,e=.returned (.agg #[(M:Nat),u])∧RdA A2 dU w' u vs∧k.f=.idx M vs∧kF A S w B Q I Y fb mb G cap Z D L U V r ⟨1,p,e0⟩ w' A2 J k T O:=by
 have a1:Below w.heap.size w (w.alloc (.cells #[.int .i64 0,zN] 297)):=(af _ _).alloc (ai _) _;have hP:∀b,b=w.heap.size→w≤b∧b<(w.alloc (.cells #[.int .i64 0,zN] 297)):=fun b e=>by simp_all
 have ka:=sV hF ⟨1,p,e0⟩ (aN _) ah ⟨hp,aN _⟩ hD _ (h.wide a1 _ hP) aa;have HT:=zH h;have a0:Hid (_∧_):=⟨a1,hP⟩;have a8:Hid ((w.alloc (.cells #[.int .i64 0,zN] 297)).heap[_]?=_):=aI _ _;clear a1 hP h hF hp hD;go_enter func222,ntmps222
 go_wp2_with (go_at_call 109;fail)
 generalize w.alloc _=R at*;go_at_call 109;refine ka.mono ?_;rintro e E ⟨A2,J,fv,k,T,O,rfl,a4,hk⟩;have hv:=hk.val HT.out.eng.inv (aN _) ah;obtain⟨M,vs,a5⟩:=Hv (S G) p e0;rw[a5] at hv;rw[hv.1] at a4;obtain⟨u,rfl,hu⟩:=a4;obtain⟨ua,uc,e1⟩:=hu.len;subst e1;have HK:Hid (_∧_∧_):=⟨hk,hu,hv.1⟩;have a2:=zH ((hk.stay HT.out (ai _) (a0.out.2 _ rfl).2).trans a8.out);have a3:Hid ((E.alloc (.cells #[M,.slice ua vs uc] 297)).heap[_]?=_):=(aO _ _ _ (ag a2.out)).trans a2.out;have a6:Hid (Below E.heap.size E (E.alloc (.cells #[M,.slice ua vs uc] 297))):=(af _ _).alloc (ai _) _;have a7:Hid ((E.alloc (.cells #[M,.slice ua vs uc] 297)).heap[_]?=_):=aI _ _;clear hk hu hv a5 ka;have a9:=MW (.agg #[M,.slice ua vs uc]) E;go_upto_region 2 with fail;obtain⟨⟨c0,f0⟩,⟨c1,f1⟩⟩:=fd2 a3.out;obtain⟨⟨d0,_⟩,⟨d1,_⟩⟩:=fd2 a7.out;clear a9;generalize E.alloc _=W3 at*;go_wp2;refine aL (bz results222 _ _ _ 297 _ _ _ rfl (gz a3.out _ _) underlying297 rfl aB) rfl ?_;have hT:aj _ E ((W3.setCell _ (M)).setCell _ (.slice ua vs uc)):=((aj.of_below (p:=fun b=>b=w) a6.out).set (a:=(w,0)) (fun _=>rfl) _).set (a:=(w,1)) (fun _=>rfl) _;refine⟨A2,J,M,_,vs,k,T,O,rfl,HK.out.2.1.turn (hT.mono (fun b _ e=>HK.out.1.2.2.2.1 b (Or.inr e))),HK.out.2.2,HK.out.1.lift HT.out a0.out.1 a0.out.2 hT⟩
