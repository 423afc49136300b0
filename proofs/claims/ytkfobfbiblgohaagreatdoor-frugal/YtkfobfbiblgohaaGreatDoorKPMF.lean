import Derived.Test.YtkfobfbiblgohaaGreatDoorKPME
set_option linter.all false
open Go.Proofs.Tryz
set_option maxRecDepth 100000
set_option maxHeartbeats 4000000
namespace Go.Proofs.YtkfobfbiblgohaaGreatDoor
open Go.RowKit
namespace Pn
open Mf Ed
abbrev N48:Nat:=2000
structure QOk(q:Qn):Prop where
 p:q.path.size<=N48
 v:q.ver.size<=N48
def zD:Fi->Prop
 | .man _ m=>xZ N48 m
 | .idx _ E=>∀x∈E,x.size<=N48
 | .wants ms _=>∀x∈ms,x.1.size<=N48/\x.2.size<=N48
 | .list ms _=>∀x∈ms,x.1.size<=N48/\x.2.size<=N48
 | .ord _ _=>True
def jB:Tie->Prop
 | .rd p _=>POk p
 | .ask q=>QOk q
structure KOk(k:Kp):Prop where
 f:zD k.f
 s:Small k.f
 t:∀t∈k.ties,jB t
 n:k.ties.length<=10000
def counted(cs:List Int)(W:List Qn):List Int:=W.foldl (fun c q=>bump c q.kind) cs
variable{A:Nat->Prop}{S:Nat->Shf}{w w' W:zW}{G Y I mb now:Nat}{cap:Int}{cs:List Int}{D:List Kp}{L:List (zV×zV)}
theorem eY.below(h:eY A w G Y I cap cs D)(E:zB w w'):eY A w' G Y I cap cs D:=by
 have e:=E.block G h.f0.lt;obtain⟨L,F,M⟩:=h.map;exact⟨h.f0.of_block e,h.f1.of_block e,h.f2.of_block e,fun j c hj=>(h.cn j c hj).of_block e,⟨L,F.of_block (E.block I F.lt),M.turn (ai.of_below E)⟩,h.ne,h.hd,h.hf⟩
structure Eng(A:Nat->Prop)(S:Nat->Shf)(w:World)(G Y I mb now:Nat)(cap:Int)(cs:List Int)(D:List Kp)(L:List (zV×zV)):Prop where
 desk:eY A w G Y I cap cs D
 shelf:aD w Y mb now L
 on:tu L (S now)
 inv:Inv S now D
 ml:Ml w
 len:cs.length=5
 hA:∀b,A b->b<w.heap.size
 ns:A Y/\A mb
 ne:G≠Y/\G≠mb/\I≠Y/\I≠mb/\G≠0/\I≠0
 ok:∀k∈D,KOk k
 rt:∀t,S now ay=some t->t.size<=N48
 few:∀(x:zA×zA) t,S now (0,x)=some t->(dV t).good.length<=19
theorem Eng.below(h:Eng A S w G Y I mb now cap cs D L)(E:zB w w'):Eng A S w' G Y I mb now cap cs D L:=
 ⟨h.desk.below E,h.shelf.below E,h.on,h.inv,h.ml.below E,h.len,fun b e=>by have:=h.hA b e;have:=E.size;omega,h.ns,h.ne,h.ok,h.rt,h.few⟩
theorem Eng.turn{p:Nat->Prop}(h:Eng A S w G Y I mb now cap cs D L)(E:ai p w w')(hp:∀b,b<w.heap.size->p b->A b)(F:¬p G/\¬p I/\¬p Y/\¬p mb/\¬p 0):Eng A S w' G Y I mb now cap cs D L:=by
 have hA:ai A w w':=E.mono hp;obtain⟨M,h1,h2⟩:=h.desk.map;have e:=E.block G (h.hA _ h.desk.hd) F.1;obtain⟨m,hm⟩:=h.ml
 exact⟨⟨h.desk.f0.of_block e,h.desk.f1.of_block e,h.desk.f2.of_block e,fun j c hj=>(h.desk.cn j c hj).of_block e,⟨M,h1.of_block (E.block I (h.hA _ h.desk.hf) F.2.1),h2.turn hA⟩,h.desk.ne,h.desk.hd,h.desk.hf⟩,
  h.shelf.of_block (E.block Y (h.hA _ h.ns.1) F.2.2.1) (E.block mb (h.hA _ h.ns.2) F.2.2.2.1),h.on,h.inv,⟨m,by rw[E.cell (a:=⟨0,0,none⟩) (aY _ _ hm) F.2.2.2.2];exact hm⟩,h.len,fun b e=>by have:=h.hA b e;have:=E.size;omega,h.ns,h.ne,h.ok,h.rt,h.few⟩
def eG(S:Nat->Shf)(G Y I mb now:Nat)(cap:Int)(L:List (zV×zV))(r:Nat):Prop:=
 ∀(A:Nat->Prop)(q:Qn)(w:zW)(cs:List Int)(D:List Kp),rk q<=r->q.kind<=4->QOk q->D.length+grow r<=N15->Eng A S w G Y I mb now cap cs D L->
  zC 79 #[zP G,qv q] w fun e w'=>∃v k V T,e=.returned v/\iL A w' v k/\fnd (S now) now r D q k V T/\Eng A S w' G Y I mb now cap (counted cs T) V L/\ai (fun b=>b=G\/b=I) w w'
structure Tsk(A:Nat->Prop)(S:Nat->Shf)(w:World)(B J G Y I mb now:Nat)(cap:Int)(cs:List Int)(D:List Kp)(L:List (zV×zV))(Z:zV)(U:List Tie):Prop where
 eng:Eng A S w G Y I mb now cap cs D L
 task:dA B w J G Z U
 pr:∀b,Own J Z b->A b
 lt:G<B/\I<B/\Y<B/\mb<B/\0<B
 hB:B<=w.heap.size
variable{B J:Nat}{Z:zV}{U:List Tie}
theorem Tsk.below(h:Tsk A S w B J G Y I mb now cap cs D L Z U)(E:zB w w'):Tsk A S w' B J G Y I mb now cap cs D L Z U:=
 ⟨h.eng.below E,h.task.below E,h.pr,h.lt,by have:=h.hB;have:=E.size;omega⟩
theorem dA.QV(h:dA B w J G Z U){b:Nat}(e:Own J Z b):B<=b:=by
 rcases e with e|e
 ·rw[e];exact h.hb
 ·exact(h.row.lt b e).1
theorem Tsk.grown{Q:zV}{F:List Tie}(h:Tsk A S w B J G Y I mb now cap cs D L Z U)(M:ai (Own J Z) w w')(hT:dA B w' J G Q F)(a0:∀b,Q.ownBlock=some b->Z.ownBlock=some b\/w.heap.size<=b):
  Tsk (fun b=>A b\/Q.ownBlock=some b) S w' B J G Y I mb now cap cs D L Q F:=by
 have E:∀b,b<B->¬Own J Z b:=fun b hb e=>by have:=h.task.QV e;omega
 have he:=h.eng.turn M (fun b _ e=>h.pr b e) ⟨E _ h.lt.1,E _ h.lt.2.1,E _ h.lt.2.2.1,E _ h.lt.2.2.2.1,E _ h.lt.2.2.2.2⟩;obtain⟨L',g1,g2⟩:=h.eng.desk.map
 have g3:eh (fun b=>A b\/Q.ownBlock=some b) w L' D:=g2.more (fun b hb e=>by
  rcases e with e|e
  ·exact e
  ·rcases a0 b e with e2|e2
   ·exact h.pr b (Or.inr e2)
   ·omega)
 have g4:eh (fun b=>A b\/Q.ownBlock=some b) w' L' D:=g3.turn (M.mono (fun b _ e=>Or.inl (h.pr b e)));have g5:=he.desk.map;refine⟨⟨⟨he.desk.f0,he.desk.f1,he.desk.f2,he.desk.cn,⟨L',g1.of_block (M.block I (h.eng.hA _ h.eng.desk.hf) (E _ h.lt.2.1)),g4⟩,he.desk.ne,Or.inl he.desk.hd,Or.inl he.desk.hf⟩,he.shelf,he.on,he.inv,he.ml,he.len,fun b e=>?_,⟨Or.inl he.ns.1,Or.inl he.ns.2⟩,he.ne,he.ok,he.rt,he.few⟩,hT,fun b e=>?_,h.lt,by have:=h.hB;have:=M.size;omega⟩
 ·rcases e with e|e
  ·exact he.hA b e
  ·exact(hT.row.lt b e).2
 ·rcases e with e|e
  ·exact Or.inl (h.pr b (Or.inl e))
  ·exact Or.inr e
theorem Tsk.wide(h:Tsk A S w B J G Y I mb now cap cs D L Z U)(F:zB w w')(P:Nat->Prop)(hP:∀b,P b->w.heap.size<=b/\b<w'.heap.size):Tsk (fun b=>A b\/P b) S w' B J G Y I mb now cap cs D L Z U:=by
 have E:=h.below F;obtain⟨M,g1,g2⟩:=h.eng.desk.map
 have g3:eh (fun b=>A b\/P b) w M D:=g2.more (fun b a0 e=>by
  rcases e with e|e
  ·exact e
  ·have:=(hP b e).1;omega)
 have he:=E.eng
 exact⟨⟨⟨he.desk.f0,he.desk.f1,he.desk.f2,he.desk.cn,⟨M,g1.of_block (F.block I g1.lt),g3.turn (ai.of_below F)⟩,he.desk.ne,Or.inl he.desk.hd,Or.inl he.desk.hf⟩,he.shelf,he.on,he.inv,he.ml,he.len,fun b e=>by
   rcases e with e|e
   ·exact he.hA b e
   ·exact(hP b e).2,⟨Or.inl he.ns.1,Or.inl he.ns.2⟩,he.ne,he.ok,he.rt,he.few⟩,E.task,fun b e=>Or.inl (E.pr b e),E.lt,E.hB⟩
theorem Tsk.turn{p:Nat->Prop}(h:Tsk A S w B J G Y I mb now cap cs D L Z U)(F:ai p w w')(hp:∀b,b<w.heap.size->p b->A b)(M:∀b,p b->B<=b/\¬Own J Z b):Tsk A S w' B J G Y I mb now cap cs D L Z U:=by
 have E:∀b,b<B->¬p b:=fun b hb e=>by have:=(M b e).1;omega
 exact⟨h.eng.turn F hp ⟨E _ h.lt.1,E _ h.lt.2.1,E _ h.lt.2.2.1,E _ h.lt.2.2.2.1,E _ h.lt.2.2.2.2⟩,h.task.of_block (F.block J h.task.t0.lt (fun e=>(M J e).2 (Or.inl rfl))) (fun b e=>F.block b (h.task.row.lt b e).2 (fun e2=>(M b e2).2 (Or.inr e))),h.pr,h.lt,by have:=h.hB;have:=F.size;omega⟩
abbrev Fr4(G I J:Nat)(Z:zV)(b:Nat):Prop:=b=G\/b=I\/Own J Z b
end Pn
namespace Pn
open Mf Ed
variable{A:Nat->Prop}{S:Nat->Shf}{w w' W:zW}{G Y I mb now:Nat}{cap:Int}{cs:List Int}{D:List Kp}{L:List (zV×zV)}{B J:Nat}{Z:zV}{U:List Tie}
theorem LH(a b c d:zV)(W:zW):(Instr.field 142 (.agg #[a,b,c,d]) 0).run prog W=.ok a W:=by kernel_rfl
def gR(A:Nat->Prop)(S:Nat->Shf)(w:zW)(B J G Y I mb now:Nat)(cap:Int)(cs:List Int)(D:List Kp)(L:List (zV×zV))(Z:zV)(U:List Tie)(r:Nat)(q:Qn)(w':zW)(A2:Nat->Prop)(Q:zV)(k:Kp)(V:List Kp)(T:List Qn):Prop:=
 fnd (S now) now r D q k V T/\Tsk A2 S w' B J G Y I mb now cap (counted cs T) V L Q (U++[.ask q])/\ai (Fr4 G I J Z) w w'/\(∀b,A b->A2 b)/\(∀b,A2 b->A b\/w.heap.size<=b)/\(∀b,Q.ownBlock=some b->Z.ownBlock=some b\/w.heap.size<=b)
theorem tG{r:Nat}(hF:eG S G Y I mb now cap L r)(q:Qn)(hr:rk q<=r)(hk:q.kind<=4)(hq:QOk q)(hD:D.length+grow r<=N15)(w:zW)(h:Tsk A S w B J G Y I mb now cap cs D L Z U)(bs:U.length<=9999):
  zC 64 #[zP J,qv q] w fun e w'=>∃A2 Q fv k V T,e=.returned fv/\fW A2 w' fv k.f/\gR A S w B J G Y I mb now cap cs D L Z U r q w' A2 Q k V T:=by
 obtain⟨i3,b0,b1,b2,b3⟩:=Bm.gu 190 .nilIface 1 16 (by kernel_rfl);have HI:Hid (prog.info? 190=some i3/\i3.zero=some .nilIface/\i3.size=1/\i3.bytes=16):=⟨b0,b1,b2,b3⟩;clear b0 b1 b2 b3;have a2:Hid (Tsk A S w B J G Y I mb now cap cs D L Z U):=h;have bn:=h.hB;have ab:Hid (∀A2 W cs,Eng A2 S W G Y I mb now cap cs D L->zC 79 #[zP G,qv q] W fun e w'=>∃v k V T,e=.returned v/\iL A2 w' v k/\fnd (S now) now r D q k V T/\Eng A2 S w' G Y I mb now cap (counted cs T) V L/\ai (fun b=>b=G\/b=I) W w'):=fun A2 W cs he=>hF A2 q W cs D hr hk hq hD he
 clear h hF hr hk hq hD;have HW:Hid (qu (.ask q)=.iface 115 (.agg #[zI (q.kind:Nat),.string q.path,.string q.ver])):=rfl;obtain⟨qk,qp,qw⟩:=q;show zC 64 #[zP J,.agg #[zI (qk:Nat),.string qp,.string qw]] w _;have b7:Hid (∀A2 W cs,Eng A2 S W G Y I mb now cap cs D L->zC 79 #[zP G,.agg #[zI (qk:Nat),.string qp,.string qw]] W fun e w'=>∃v k V T,e=.returned v/\iL A2 w' v k/\fnd (S now) now r D ⟨qk,qp,qw⟩ k V T/\Eng A2 S w' G Y I mb now cap (counted cs T) V L/\ai (fun b=>b=G\/b=I) W w'):=ab;have HV:Hid (qu (.ask ⟨qk,qp,qw⟩)=.iface 115 (.agg #[zI (qk:Nat),.string qp,.string qw])):=HW;clear ab HW;generalize bm:(⟨qk,qp,qw⟩:Qn)=q at*;generalize ((qk:Nat):Int)=kk at*;clear bm;go_enter func64,ntmps64;go_upto_region 1 with fail;have a7:Below w.heap.size w (w.alloc (.cells #[zI kk,.string qp,.string qw] 115)):=(ae _ _).alloc (ah _) _;have a0:Hid (Tsk A S (w.alloc (.cells #[zI kk,.string qp,.string qw] 115)) B J G Y I mb now cap cs D L Z U):=a2.out.below a7;have a4:Hid ((w.alloc (.cells #[zI kk,.string qp,.string qw] 115)).heap[w.heap.size]?=some (.cells #[zI kk,.string qp,.string qw] 115)):=aA _ _;have a9:Hid (Below w.heap.size w (w.alloc (.cells #[zI kk,.string qp,.string qw] 115))):=a7;clear a7;generalize w.alloc (.cells #[zI kk,.string qp,.string qw] 115)=W1 at*
 have a1:Hid (J<w.heap.size/\(∀b,Z.ownBlock=some b->b<w.heap.size)/\w.heap.size<W1.heap.size):=⟨a2.out.task.t0.lt,fun b e=>(a2.out.task.row.lt b e).2,af a4.out⟩;generalize a8:w.heap.size=bx at*
 go_cut [] (fun wx=>∃Q,Hid (dA B wx J G Q (U++[.ask q])/\ai (Own J Z) W1 wx/\∀b,Q.ownBlock=some b->Z.ownBlock=some b\/W1.heap.size<=b))
 case first=>
  obtain⟨⟨x0,_⟩,⟨x1,_⟩,⟨x2,_⟩⟩:=fd3 a4.out;generalize a6:W1.alloc (.cells #[.iface 115 (.agg #[zI kk,.string qp,.string qw])] 190)=W2;have aq:Below W1.heap.size W1 W2:=by rw[<-a6];exact(ae _ _).alloc (ah _) _
  have b9:Hid (dA B W2 J G Z U):=a0.out.task.below aq;have F:Hid (dA B W2.drew J G Z U):=a0.out.task.below aq.drew;have c1:W1.cell? ⟨J,1,none⟩=some Z:=a0.out.task.t1.1;have bp:W2.cell? ⟨J,1,none⟩=some Z:=b9.out.t1.1;have bk:W2.drew.ownsRow B 190 1 Z U.length (U.map qu):=F.out.row;have bi:∀j u,[Value.iface 115 (.agg #[zI kk,.string qp,.string qw])][j]?=some u->W2.drew.cell? ((⟨W1.heap.size,0,none⟩:Addr).add j)=some u:=by rw[<-a6];exact GJ W1 _ 190
  have bq:B<=W1.heap.size:=a0.out.hB;obtain⟨sa,sc,rfl⟩:=aC a0.out.task.row;subst a6
  go_region_law
   (first|(refine step_append_lies _ rfl (.tmp 9) (.tmp 12) 82 rfl B 190 i3 .nilIface 1 16 underlying82 HI.out.1 HI.out.2.1 HI.out.2.2.1 HI.out.2.2.2 rfl (by decide) _ U.length _ rfl bk ⟨W1.heap.size,0,none⟩ 1 1 [.iface 115 (.agg #[zI kk,.string qp,.string qw])] rfl rfl bi (fun u hu=>by simp at hu;subst hu;rfl) (by decide) (by unfold maxLen;omega) (by omega) (by show B<=(W1.alloc _).heap.size;simp;omega) _ rfl ?_;intro g cap w5 b4 E an sH;have c3:w5.cell? ⟨J,1,none⟩=some (.slice sa U.length sc):=(F.out.t1.of_block (E.block J F.out.t1.lt (fun e=>F.out.ne e.symm))).1;have f3:w5.frozen? ⟨J,1,none⟩=false:=(F.out.t1.of_block (E.block J F.out.t1.lt (fun e=>F.out.ne e.symm))).2))
  all_goals
   have hG:=F.out.grow (t:=.ask q) ⟨E.os,E.tape,E.output,E.size,E.block⟩ (by rw[HV.out];exact b4) (by
    rcases an with h|h
    ·exact Or.inl h
    ·right;rw[h];exact ah _)
   go_wp2_with fail
   go_meet
   refine⟨_,hG.1,(ai.of_below (((ae W1.heap.size W1).alloc (ah _) _).drew)).trans hG.2 (fun _ _ h=>h) (fun _ _ h=>h),fun b e=>?_⟩;have e1:g=b:=by simpa[Value.ownBlock] using e
   rcases an with h|h
   ·exact Or.inl (by rw[<-e1];exact h)
   ·right
    have h2:g=(W1.alloc (.cells #[.iface 115 (.agg #[zI kk,.string qp,.string qw])] 190)).heap.size:=h;rw[<-e1,h2];simp
 case rest=>
  obtain⟨Q,HC⟩:=hcut;obtain⟨A2,a5⟩:∃A2:Nat->Prop,A2=(fun b=>A b\/Q.ownBlock=some b):=⟨_,rfl⟩;have M:Hid (Tsk A2 S wc B J G Y I mb now cap cs D L Q (U++[.ask q])):=by rw[a5];exact a0.out.grown HC.out.2.1 HC.out.1 HC.out.2.2
  have ak:Hid (wc.heap[bx]?=some (.cells #[zI kk,.string qp,.string qw] 115)):=(HC.out.2.1.block bx a1.out.2.2 (fun e=>by
   rcases e with e|e
   ·have:=a1.out.1;omega
   ·have:=a1.out.2.1 _ e;omega)).trans a4.out
  have bb:Hid (ai (Fr4 G I J Z) w wc):=(ai.of_below (by have h:=a9.out;rw[<-a8] at h;exact h)).trans HC.out.2.1 (fun _ _ h=>h) (fun _ _ h=>Or.inr (Or.inr h))
  have b5:Hid (∀b,A2 b->A b\/bx<=b):=fun b e=>by
   rw[a5] at e;rcases e with e|e
   ·exact Or.inl e
   ·rcases HC.out.2.2 b e with e|e
    ·exact Or.inl (a2.out.pr b (Or.inr e))
    ·right;have:=a1.out.2.2;omega
  have b6:Hid (∀b,A b->A2 b):=fun b e=>by rw[a5];exact Or.inl e
  have b8:Hid (∀b,Q.ownBlock=some b->Z.ownBlock=some b\/bx<=b):=fun b e=>by
   rcases HC.out.2.2 b e with e|e
   ·exact Or.inl e
   ·right;have:=a1.out.2.2;omega
  clear HC a0 a4 a9 a2 a5
  have aa:Hid (bx≠G/\bx≠I/\J≠G/\J≠I):=by
   have h1:=M.out.lt;have h2:=M.out.task.hb;have h3:=a1.out.1;refine⟨?_,?_,?_,?_⟩<;>omega
  have KF:Hid (∀W,Below wc.heap.size wc W->zC 79 #[zP G,.agg #[zI kk,.string qp,.string qw]] W fun e w'=>∃v k V T,e=.returned v/\iL A2 w' v k/\fnd (S now) now r D q k V T/\Eng A2 S w' G Y I mb now cap (counted cs T) V L/\ai (fun b=>b=G\/b=I) wc w'):=fun W hb=>(b7.out A2 W cs (M.out.eng.below hb)).mono (by
   rintro e w' ⟨v,k,V,T,e1,e2,e3,e4,e5⟩;exact⟨v,k,V,T,e1,e2,e3,e4,(ai.of_below hb).trans e5 (fun _ _ h=>h) (fun _ _ h=>h)⟩)
  have ad:Hid (∀W,ai (fun b=>b=G\/b=I) wc W->W.cell? ⟨J,0,none⟩=some (zP G)/\W.cell? ⟨bx,0,none⟩=some (zI kk)/\W.cell? ⟨bx,1,none⟩=some (.string qp)/\W.cell? ⟨bx,2,none⟩=some (.string qw)):=fun W hb=>by
   have e1:=hb.block bx (af ak.out) (fun e=>by have:=aa.out;rcases e with e|e<;>omega);obtain⟨⟨x0,_⟩,⟨x1,_⟩,⟨x2,_⟩⟩:=fd3 (e1.trans ak.out);refine⟨?_,x0,x1,x2⟩;rw[hb.cell (a:=⟨J,0,none⟩) M.out.task.t0.lt (fun e=>by have:=aa.out;rcases e with e|e<;>(have e2:J=_:=e;omega))];exact M.out.task.t0.1
  obtain⟨p0,p1,p2,p3⟩:=ad.out wc (ai.refl _ _);have bd:=LH;go_upto_region 2 with fail
  go_region_held3 (fun w'=>w'.cell? ⟨J,0,none⟩=some (zP G)/\w'.cell? ⟨bx,0,none⟩=some (zI kk)/\w'.cell? ⟨bx,1,none⟩=some (.string qp)/\w'.cell? ⟨bx,2,none⟩=some (.string qw))
   (first|exact⟨p0,p1,p2,p3⟩|exact ad.out _ a3)
   ((go_at_call 79;refine(KF.out _ ((ae _ _).drew)).mono ?_;rintro e w3 ⟨v,k,V,T,rfl,bf,av,au,a3⟩;obtain⟨fv,kv,e4,az,_⟩:=bf;subst e4))
  have F:Hid (Tsk A2 S w3 B J G Y I mb now cap (counted cs T) V L Q (U++[.ask q])):=⟨au,M.out.task.turn a3 (fun b e=>by have:=M.out.lt;rcases e with e|e<;>omega),M.out.pr,M.out.lt,by have:=M.out.hB;have:=a3.size;omega⟩
  have bc:Hid (ai (Fr4 G I J Z) w w3):=bb.out.trans a3 (fun _ _ h=>h) (fun _ _ h=>by
   rcases h with h|h
   ·exact Or.inl h
   ·exact Or.inr (Or.inl h))
  have HR:Hid (fW A2 w3 fv k.f/\fnd (S now) now r D q k V T):=⟨az,av⟩;clear az av au a3 bd;go_wp2;go_ret;exact⟨A2,Q,fv,k,V,T,rfl,HR.out.1,HR.out.2,F.out,bc.out,b6.out,fun b e=>by have:=b5.out b e;rw[a8];exact this,fun b e=>by have:=b8.out b e;rw[a8];exact this⟩
end Pn
namespace Pn
open Mf Ed
variable{A R A2:Nat->Prop}{S:Nat->Shf}{w w' W W1 O wf:zW}{G Y I mb now:Nat}{cap:Int}{cs:List Int}{D V:List Kp}{L:List (zV×zV)}{B J:Nat}{Z Q:zV}{U:List Tie}{r:Nat}{q:Qn}{k:Kp}{T:List Qn}
theorem gR.lift{P:Nat->Prop}(h:Tsk A S w B J G Y I mb now cap cs D L Z U)(hb:zB w W1)(F:∀b,P b->w.heap.size<=b/\b<W1.heap.size)(hk:gR (fun b=>A b\/P b) S W1 B J G Y I mb now cap cs D L Z U r q O A2 Q k V T)(ht:ai P O wf):
  gR A S w B J G Y I mb now cap cs D L Z U r q wf A2 Q k V T:=by
 obtain⟨h1,h2,h3,h4,h5,h6⟩:=hk;have hs:=hb.size;refine⟨h1,h2.turn ht (fun b _ e=>h4 b (Or.inr e)) (fun b e=>⟨by have:=(F b e).1;have:=h.hB;omega,fun E=>?_⟩),?_,fun b e=>h4 b (Or.inl e),fun b e=>?_,fun b e=>?_⟩
 ·have h7:=F b e
  rcases E with E|E
  ·have:=h.task.t0.lt;omega
  ·rcases h6 b E with M|M
   ·have:=(h.task.row.lt b M).2;omega
   ·omega
 ·exact((ai.of_below hb).trans h3 (fun _ _ e=>e) (fun _ _ e=>e)).trans ht (fun _ _ e=>e) (fun b a0 e=>by have:=(F b e).1;omega)
 ·rcases h5 b e with(e|e)|e
  ·exact Or.inl e
  ·exact Or.inr (F b e).1
  ·exact Or.inr (by omega)
 ·rcases h6 b e with e|e
  ·exact Or.inl e
  ·exact Or.inr (by omega)
theorem gR.stay{P:Nat->Prop}(h:Tsk A S w B J G Y I mb now cap cs D L Z U)(F:gR (fun b=>A b\/P b) S W1 B J G Y I mb now cap cs D L Z U r q O A2 Q k V T){b:Nat}(M:w.heap.size<=b)(E:b<W1.heap.size):O.heap[b]?=W1.heap[b]?:=by
 refine F.2.2.1.block b E (fun e=>?_);have h3:=h.lt;have h4:=h.hB;rcases e with e|e|e|e
 ·omega
 ·omega
 ·have:=h.task.t0.lt;omega
 ·have:=(h.task.row.lt b e).2;omega
theorem gR.val(E:Inv S now D)(F:gR A S w B J G Y I mb now cap cs D L Z U r q O A2 Q k V T)(hr:rk q<=r)(M:q.kind<=4):k.f=val (S now) q/\k∈V:=
 have h:=iz r D q k V T E (oD hr) M F.1
 ⟨h.2.2.2.2.2,h.2.2.1⟩
theorem Ca(s:Shf)(p v:zA):∃E m,val s ⟨0,p,v⟩=.man E m:=by
 rw[py s (aJ 1)];show ∃E m,cY (s (0,p,v))=_;cases s (0,p,v) with
 |none=>exact⟨_,_,rfl⟩
 |some t=>
  unfold cY;by_cases h:bO t=[]
  ·exact⟨_,_,aj h⟩
  ·exact⟨_,_,ag h⟩
theorem GL(s:Shf)(p v:zA):∃E F,val s ⟨1,p,v⟩=.idx E F:=by
 rw[py s (ah 1)];show ∃E F,idxOf (s (1,p,e0))=_;cases s (1,p,e0) with
 |none=>exact⟨_,_,rfl⟩
 |some t=>
  unfold idxOf;by_cases h:di t=[]
  ·exact⟨_,_,aj h⟩
  ·exact⟨_,_,ag h⟩
theorem Jn(hF:eG S G Y I mb now cap L r)(p:zA)(hp:p.size<=N48)(hD:D.length+grow r<=N15)(w:zW)(h:Tsk A S w B J G Y I mb now cap cs D L Z U)(aa:U.length<=9999):
  zC 174 #[zP J,.string p] w fun e w'=>∃A2 Q F u E k V T,e=.returned (.agg #[zI (F:Nat),u])/\RdA A2 gf w' u E/\k.f=.idx F E/\gR A S w B J G Y I mb now cap cs D L Z U r ⟨1,p,e0⟩ w' A2 Q k V T:=by
 have a1:zB w (w.alloc (.cells #[zI 0,zN] 219)):=(ae _ _).alloc (ah _) _;have hP:∀b,b=w.heap.size->w.heap.size<=b/\b<(w.alloc (.cells #[zI 0,zN] 219)).heap.size:=fun b e=>by rw[e];exact⟨ah _,by simp⟩
 have ka:=tG hF ⟨1,p,e0⟩ (aJ _) (by show 1<=4;decide) ⟨hp,aJ _⟩ hD _ (h.wide a1 (fun b=>b=w.heap.size) hP) aa;have HT:Hid (Tsk A S w B J G Y I mb now cap cs D L Z U):=h;have a0:Hid (zB w (w.alloc (.cells #[zI 0,zN] 219))/\∀b,b=w.heap.size->w.heap.size<=b/\b<(w.alloc (.cells #[zI 0,zN] 219)).heap.size):=⟨a1,hP⟩;have a8:Hid ((w.alloc (.cells #[zI 0,zN] 219)).heap[w.heap.size]?=some (.cells #[zI 0,zN] 219)):=aA _ _;clear a1 hP h hF hp hD;go_enter func174,ntmps174
 go_wp2_with (go_at_call 64;fail)
 generalize w.alloc (.cells #[zI 0,zN] 219)=W1 at*;go_at_call 64;refine ka.mono ?_;rintro e O ⟨A2,Q,fv,k,V,T,rfl,a4,hk⟩;have hv:=hk.val HT.out.eng.inv (aJ _) (by show 1<=4;decide);obtain⟨F,E,a5⟩:=GL (S now) p e0;rw[a5] at hv;rw[hv.1] at a4;obtain⟨u,rfl,hu⟩:=a4;obtain⟨M,uc,e1⟩:=hu.len;subst e1;have HK:Hid (gR (fun b=>A b\/b=w.heap.size) S W1 B J G Y I mb now cap cs D L Z U r ⟨1,p,e0⟩ O A2 Q k V T/\RdA A2 gf O (.slice M E.length uc) E/\k.f=.idx F E):=⟨hk,hu,hv.1⟩;have a2:Hid (O.heap[w.heap.size]?=some (.cells #[zI 0,zN] 219)):=(hk.stay HT.out (ah _) (a0.out.2 _ rfl).2).trans a8.out;have a3:Hid ((O.alloc (.cells #[zI (F:Nat),.slice M E.length uc] 219)).heap[w.heap.size]?=some (.cells #[zI 0,zN] 219)):=(aH _ _ _ (af a2.out)).trans a2.out;have a6:Hid (zB O (O.alloc (.cells #[zI (F:Nat),.slice M E.length uc] 219))):=(ae _ _).alloc (ah _) _;have a7:Hid ((O.alloc (.cells #[zI (F:Nat),.slice M E.length uc] 219)).heap[O.heap.size]?=some (.cells #[zI (F:Nat),.slice M E.length uc] 219)):=aA _ _;clear hk hu hv a5 ka;have a9:=Lj (.agg #[zI (F:Nat),.slice M E.length uc]) O;go_upto_region 2 with fail;obtain⟨⟨c0,f0⟩,⟨c1,f1⟩⟩:=fd2 a3.out;obtain⟨⟨d0,_⟩,⟨d1,_⟩⟩:=fd2 a7.out;clear a9
 generalize O.alloc (.cells #[zI (F:Nat),.slice M E.length uc] 219)=W3 at*;go_wp2;refine aI (bG results174 _ _ w.heap.size 219 _ (0,0) _ rfl (gM a3.out _ _) underlying219 rfl (by kernel_rfl)) rfl ?_;have hT:ai (fun b=>b=w.heap.size) O ((W3.setCell ⟨w.heap.size,0,none⟩ (zI (F:Nat))).setCell ⟨w.heap.size,1,none⟩ (.slice M E.length uc)):=((ai.of_below (p:=fun b=>b=w.heap.size) a6.out).set (a:=⟨w.heap.size,0,none⟩) (fun _=>rfl) _).set (a:=⟨w.heap.size,1,none⟩) (fun _=>rfl) _;refine⟨A2,Q,F,_,E,k,V,T,rfl,HK.out.2.1.turn (hT.mono (fun b _ e=>HK.out.1.2.2.2.1 b (Or.inr e))),HK.out.2.2,HK.out.1.lift HT.out a0.out.1 a0.out.2 hT⟩
