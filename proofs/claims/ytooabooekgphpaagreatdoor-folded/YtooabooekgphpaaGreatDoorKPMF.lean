import Derived.Test.YtooabooekgphpaaGreatDoorKPME
set_option linter.all false
open Go.Proofs.Tryz
set_option maxRecDepth 100000
set_option maxHeartbeats 20000000
namespace Go.Proofs.YtooabooekgphpaaGreatDoor
abbrev tD(b o:Nat):Addr:=⟨b,o,none⟩
abbrev tS(x:ByteArray):Value:=.string x
def oE:=@Or.inl
def oS:=@Or.inr
open Go.RowKit
namespace Pn
open Mf Ed
abbrev N48:Nat:=2000
structure QOk(q:Qn):Prop where
 p:q.path.size<=N48
 v:q.ver.size<=N48
def yV:Fi->Prop
 | .man _ m=>xB N48 m
 | .idx _ M=>∀x∈M,x.size<=N48
 | .wants ms _=>∀x∈ms,x.1.size<=N48/\x.2.size<=N48
 | .list ms _=>∀x∈ms,x.1.size<=N48/\x.2.size<=N48
 | .ord _ _=>True
def jr:Tie->Prop
 | .rd p _=>POk p
 | .ask q=>QOk q
structure KOk(k:Kp):Prop where
 f:yV k.f
 s:Small k.f
 t:∀t∈k.ties,jr t
 n:k.ties.length<=10000
def counted(U:List Int)(W:List Qn):List Int:=W.foldl (fun c q=>bump c q.kind) U
variable{A:Nat->Prop}{S:Nat->Shf}{w w' W:zW}{I Z J mb G:Nat}{cap:Int}{U:List Int}{D:List Kp}{L:List (zV×zV)}
theorem cP.below(h:cP A w I Z J cap U D)(M:Below w.heap.size w w'):cP A w' I Z J cap U D:=by
 have e:=M.block I h.f0.lt;obtain⟨L,h1,h2⟩:=h.map;exact⟨h.f0.of_block e,h.f1.of_block e,h.f2.of_block e,fun j c hj=>(h.cn j c hj).of_block e,⟨L,h1.of_block (M.block J h1.lt),h2.turn (ai.of_below M)⟩,h.ne,h.hd,h.hf⟩
structure Eng(A:Nat->Prop)(S:Nat->Shf)(w:World)(I Z J mb G:Nat)(cap:Int)(U:List Int)(D:List Kp)(L:List (zV×zV)):Prop where
 desk:cP A w I Z J cap U D
 shelf:aC w Z mb G L
 on:sB L (S G)
 inv:Inv S G D
 ml:Ml w
 len:U.length=5
 hA:∀b,A b->b<w.heap.size
 ns:A Z/\A mb
 ne:I≠Z/\I≠mb/\J≠Z/\J≠mb/\I≠0/\J≠0
 ok:∀k∈D,KOk k
 rt:∀t,S G aA=some t->t.size<=N48
theorem Eng.below(h:Eng A S w I Z J mb G cap U D L)(M:Below w.heap.size w w'):Eng A S w' I Z J mb G cap U D L:=
 ⟨h.desk.below M,h.shelf.below M,h.on,h.inv,h.ml.below M,h.len,fun b e=>by have:=h.hA b e;have:=M.size;omega,h.ns,h.ne,h.ok,h.rt⟩
theorem Eng.turn{p:Nat->Prop}(h:Eng A S w I Z J mb G cap U D L)(M:ai p w w')(hp:∀b,b<w.heap.size->p b->A b)(hq:¬p I/\¬p J/\¬p Z/\¬p mb/\¬p 0):Eng A S w' I Z J mb G cap U D L:=by
 have hA:ai A w w':=M.mono hp;obtain⟨L',h1,h2⟩:=h.desk.map;have e:=M.block I (h.hA _ h.desk.hd) hq.1;obtain⟨m,hm⟩:=h.ml
 exact⟨⟨h.desk.f0.of_block e,h.desk.f1.of_block e,h.desk.f2.of_block e,fun j c hj=>(h.desk.cn j c hj).of_block e,⟨L',h1.of_block (M.block J (h.hA _ h.desk.hf) hq.2.1),h2.turn hA⟩,h.desk.ne,h.desk.hd,h.desk.hf⟩,
  h.shelf.of_block (M.block Z (h.hA _ h.ns.1) hq.2.2.1) (M.block mb (h.hA _ h.ns.2) hq.2.2.2.1),h.on,h.inv,⟨m,by rw[M.cell (a:=⟨0,0,none⟩) (aY _ _ hm) hq.2.2.2.2];exact hm⟩,h.len,fun b e=>by have:=h.hA b e;have:=M.size;omega,h.ns,h.ne,h.ok,h.rt⟩
def eC(S:Nat->Shf)(I Z J mb G:Nat)(cap:Int)(L:List (zV×zV))(r:Nat):Prop:=
 ∀(A:Nat->Prop)(q:Qn)(w:zW)(U:List Int)(D:List Kp),rk q<=r->q.kind<=4->QOk q->D.length+grow r<=N15->Eng A S w I Z J mb G cap U D L->
  zC 74 #[zP I,qv q] w fun e w'=>∃v k O R,e=.returned v/\iD A w' v k/\fnd (S G) G r D q k O R/\Eng A S w' I Z J mb G cap (counted U R) O L/\ai (fun b=>b=I\/b=J) w w'
structure Tsk(A:Nat->Prop)(S:Nat->Shf)(w:World)(B Q I Z J mb G:Nat)(cap:Int)(U:List Int)(D:List Kp)(L:List (zV×zV))(V:zV)(T:List Tie):Prop where
 eng:Eng A S w I Z J mb G cap U D L
 task:dA B w Q I V T
 pr:∀b,Own Q V b->A b
 lt:I<B/\J<B/\Z<B/\mb<B/\0<B
 hB:B<=w.heap.size
variable{B Q:Nat}{V:zV}{T:List Tie}
theorem Tsk.below(h:Tsk A S w B Q I Z J mb G cap U D L V T)(M:Below w.heap.size w w'):Tsk A S w' B Q I Z J mb G cap U D L V T:=
 ⟨h.eng.below M,h.task.below M,h.pr,h.lt,by have:=h.hB;have:=M.size;omega⟩
theorem dA.Qb(h:dA B w Q I V T){b:Nat}(e:Own Q V b):B<=b:=by
 rcases e with e|e
 ·rw[e];exact h.hb
 exact(h.row.lt b e).1
theorem Tsk.grown{Y:zV}{a0:List Tie}(h:Tsk A S w B Q I Z J mb G cap U D L V T)(ht:ai (Own Q V) w w')(hT:dA B w' Q I Y a0)(a1:∀b,Y.ownBlock=some b->V.ownBlock=some b\/w.heap.size<=b):
  Tsk (fun b=>A b\/Y.ownBlock=some b) S w' B Q I Z J mb G cap U D L Y a0:=by
 have M:∀b,b<B->¬Own Q V b:=fun b hb e=>by have:=h.task.Qb e;omega
 have he:=h.eng.turn ht (fun b _ e=>h.pr b e) ⟨M _ h.lt.1,M _ h.lt.2.1,M _ h.lt.2.2.1,M _ h.lt.2.2.2.1,M _ h.lt.2.2.2.2⟩;obtain⟨L',g1,g2⟩:=h.eng.desk.map
 have g3:dT (fun b=>A b\/Y.ownBlock=some b) w L' D:=g2.more (fun b hb e=>by
  rcases e with e|e
  ·exact e
  rcases a1 b e with e2|e2
  ·exact h.pr b (Or.inr e2)
  omega)
 have g4:dT (fun b=>A b\/Y.ownBlock=some b) w' L' D:=g3.turn (ht.mono (fun b _ e=>Or.inl (h.pr b e)));have g5:=he.desk.map;refine⟨⟨⟨he.desk.f0,he.desk.f1,he.desk.f2,he.desk.cn,⟨L',g1.of_block (ht.block J (h.eng.hA _ h.eng.desk.hf) (M _ h.lt.2.1)),g4⟩,he.desk.ne,Or.inl he.desk.hd,Or.inl he.desk.hf⟩,he.shelf,he.on,he.inv,he.ml,he.len,fun b e=>?_,⟨Or.inl he.ns.1,Or.inl he.ns.2⟩,he.ne,he.ok,he.rt⟩,hT,fun b e=>?_,h.lt,by have:=h.hB;have:=ht.size;omega⟩
 ·rcases e with e|e
  ·exact he.hA b e
  exact(hT.row.lt b e).2
 rcases e with e|e
 ·exact Or.inl (h.pr b (Or.inl e))
 exact Or.inr e
theorem Tsk.wide(h:Tsk A S w B Q I Z J mb G cap U D L V T)(hb:Below w.heap.size w w')(P:Nat->Prop)(hP:∀b,P b->w.heap.size<=b/\b<w'.heap.size):Tsk (fun b=>A b\/P b) S w' B Q I Z J mb G cap U D L V T:=by
 have M:=h.below hb;obtain⟨L',g1,g2⟩:=h.eng.desk.map
 have g3:dT (fun b=>A b\/P b) w L' D:=g2.more (fun b a0 e=>by
  rcases e with e|e
  ·exact e
  have:=(hP b e).1;omega)
 have he:=M.eng
 exact⟨⟨⟨he.desk.f0,he.desk.f1,he.desk.f2,he.desk.cn,⟨L',g1.of_block (hb.block J g1.lt),g3.turn (ai.of_below hb)⟩,he.desk.ne,Or.inl he.desk.hd,Or.inl he.desk.hf⟩,he.shelf,he.on,he.inv,he.ml,he.len,fun b e=>by
   rcases e with e|e
   ·exact he.hA b e
   exact(hP b e).2,⟨Or.inl he.ns.1,Or.inl he.ns.2⟩,he.ne,he.ok,he.rt⟩,M.task,fun b e=>Or.inl (M.pr b e),M.lt,M.hB⟩
theorem Tsk.turn{p:Nat->Prop}(h:Tsk A S w B Q I Z J mb G cap U D L V T)(ht:ai p w w')(hp:∀b,b<w.heap.size->p b->A b)(hB:∀b,p b->B<=b/\¬Own Q V b):Tsk A S w' B Q I Z J mb G cap U D L V T:=by
 have M:∀b,b<B->¬p b:=fun b hb e=>by have:=(hB b e).1;omega
 exact⟨h.eng.turn ht hp ⟨M _ h.lt.1,M _ h.lt.2.1,M _ h.lt.2.2.1,M _ h.lt.2.2.2.1,M _ h.lt.2.2.2.2⟩,h.task.of_block (ht.block Q h.task.t0.lt (fun e=>(hB Q e).2 (Or.inl rfl))) (fun b e=>ht.block b (h.task.row.lt b e).2 (fun e2=>(hB b e2).2 (Or.inr e))),h.pr,h.lt,by have:=h.hB;have:=ht.size;omega⟩
abbrev Fr4(I J Q:Nat)(V:zV)(b:Nat):Prop:=b=I\/b=J\/Own Q V b
end Pn
namespace Pn
open Mf Ed
variable{A:Nat->Prop}{S:Nat->Shf}{w w' W:zW}{I Z J mb G:Nat}{cap:Int}{U:List Int}{D:List Kp}{L:List (zV×zV)}{B Q:Nat}{V:zV}{T:List Tie}
theorem K0(a b c d:zV)(W:zW):(Instr.field 109 (.agg #[a,b,c,d]) 0).run prog W=.ok a W:=by kernel_rfl
def gG(A:Nat->Prop)(S:Nat->Shf)(w:zW)(B Q I Z J mb G:Nat)(cap:Int)(U:List Int)(D:List Kp)(L:List (zV×zV))(V:zV)(T:List Tie)(r:Nat)(q:Qn)(w':zW)(A2:Nat->Prop)(Y:zV)(k:Kp)(O:List Kp)(R:List Qn):Prop:=
 fnd (S G) G r D q k O R/\Tsk A2 S w' B Q I Z J mb G cap (counted U R) O L Y (T++[.ask q])/\ai (Fr4 I J Q V) w w'/\(∀b,A b->A2 b)/\(∀b,A2 b->A b\/w.heap.size<=b)/\(∀b,Y.ownBlock=some b->V.ownBlock=some b\/w.heap.size<=b)
theorem sH{r:Nat}(hF:eC S I Z J mb G cap L r)(q:Qn)(hr:rk q<=r)(hk:q.kind<=4)(hq:QOk q)(hD:D.length+grow r<=N15)(w:zW)(h:Tsk A S w B Q I Z J mb G cap U D L V T)(bt:T.length<=9999):
  zC 55 #[zP Q,qv q] w fun e w'=>∃A2 Y fv k O R,e=.returned fv/\fP A2 w' fv k.f/\gG A S w B Q I Z J mb G cap U D L V T r q w' A2 Y k O R:=by
 obtain⟨i3,b2,b3,b4,b5⟩:=Bm.fB 185 .nilIface 1 16 (by kernel_rfl);have HI:Hid (prog.info? 185=some i3/\i3.zero=some .nilIface/\i3.size=1/\i3.bytes=16):=⟨b2,b3,b4,b5⟩;clear b2 b3 b4 b5;have a4:=zH h;have bq:=h.hB;have ak:Hid (∀A2 W U,Eng A2 S W I Z J mb G cap U D L->zC 74 #[zP I,qv q] W fun e w'=>∃v k O R,e=.returned v/\iD A2 w' v k/\fnd (S G) G r D q k O R/\Eng A2 S w' I Z J mb G cap (counted U R) O L/\ai (fun b=>b=I\/b=J) W w'):=fun A2 W U he=>hF A2 q W U D hr hk hq hD he
 clear h hF hr hk hq hD;have HW:Hid (pJ (.ask q)=.iface 82 (.agg #[zI (q.kind:Nat),.string q.path,.string q.ver])):=rfl;obtain⟨qk,qp,qw⟩:=q;show zC 55 #[zP Q,.agg #[zI (qk:Nat),.string qp,.string qw]] w _;have b9:Hid (∀A2 W U,Eng A2 S W I Z J mb G cap U D L->zC 74 #[zP I,.agg #[zI (qk:Nat),.string qp,.string qw]] W fun e w'=>∃v k O R,e=.returned v/\iD A2 w' v k/\fnd (S G) G r D ⟨qk,qp,qw⟩ k O R/\Eng A2 S w' I Z J mb G cap (counted U R) O L/\ai (fun b=>b=I\/b=J) W w'):=ak;have HV:Hid (pJ (.ask ⟨qk,qp,qw⟩)=.iface 82 (.agg #[zI (qk:Nat),.string qp,.string qw])):=HW;clear ak HW;generalize bp:(⟨qk,qp,qw⟩:Qn)=q at*;generalize ((qk:Nat):Int)=kk at*;clear bp;go_enter func55,ntmps55;go_upto_region 1 with fail;have a9:Below w.heap.size w (w.alloc (.cells #[zI kk,.string qp,.string qw] 82)):=(ae _ _).alloc (af _) _;have a2:Hid (Tsk A S (w.alloc (.cells #[zI kk,.string qp,.string qw] 82)) B Q I Z J mb G cap U D L V T):=a4.out.below a9;have a6:Hid ((w.alloc (.cells #[zI kk,.string qp,.string qw] 82)).heap[w.heap.size]?=some (.cells #[zI kk,.string qp,.string qw] 82)):=ay _ _;have ab:Hid (Below w.heap.size w (w.alloc (.cells #[zI kk,.string qp,.string qw] 82))):=a9;clear a9;generalize w.alloc (.cells #[zI kk,.string qp,.string qw] 82)=W1 at*
 have a3:Hid (Q<w.heap.size/\(∀b,V.ownBlock=some b->b<w.heap.size)/\w.heap.size<W1.heap.size):=⟨a4.out.task.t0.lt,fun b e=>(a4.out.task.row.lt b e).2,ah a6.out⟩;generalize aa:w.heap.size=bx at*
 go_cut [] (fun wx=>∃Y,Hid (dA B wx Q I Y (T++[.ask q])/\ai (Own Q V) W1 wx/\∀b,Y.ownBlock=some b->V.ownBlock=some b\/W1.heap.size<=b))
 case first=>
  obtain⟨⟨x0,_⟩,⟨x1,_⟩,⟨x2,_⟩⟩:=fd3 a6.out;generalize a8:W1.alloc (.cells #[.iface 82 (.agg #[zI kk,.string qp,.string qw])] 185)=W2;have av:Below W1.heap.size W1 W2:=by rw[<-a8];exact(ae _ _).alloc (af _) _
  have bc:Hid (dA B W2 Q I V T):=a2.out.task.below av;have a0:Hid (dA B W2.drew Q I V T):=a2.out.task.below av.drew;have c1:W1.cell? ⟨Q,1,none⟩=some V:=a2.out.task.t1.1;have br:W2.cell? ⟨Q,1,none⟩=some V:=bc.out.t1.1;have bn:W2.drew.ownsRow B 185 1 V T.length (T.map pJ):=a0.out.row;have bm:∀j u,[Value.iface 82 (.agg #[zI kk,.string qp,.string qw])][j]?=some u->W2.drew.cell? ((⟨W1.heap.size,0,none⟩:Addr).add j)=some u:=by rw[<-a8];exact Gh W1 _ 185
  have bs:B<=W1.heap.size:=a2.out.hB;obtain⟨sa,sc,rfl⟩:=ax a2.out.task.row;subst a8
  go_region_law
   (first|(refine step_append_lies _ rfl (.tmp 9) (.tmp 12) 85 rfl B 185 i3 .nilIface 1 16 underlying85 HI.out.1 HI.out.2.1 HI.out.2.2.1 HI.out.2.2.2 rfl (by decide) _ T.length _ rfl bn ⟨W1.heap.size,0,none⟩ 1 1 [.iface 82 (.agg #[zI kk,.string qp,.string qw])] rfl rfl bm (fun u hu=>by simp at hu;subst hu;rfl) (by decide) (by unfold maxLen;omega) (by omega) (by show B<=(W1.alloc _).heap.size;simp;omega) _ rfl ?_;intro g cap w5 b6 M au vB;have c3:w5.cell? ⟨Q,1,none⟩=some (.slice sa T.length sc):=(a0.out.t1.of_block (M.block Q a0.out.t1.lt (fun e=>a0.out.ne e.symm))).1;have f3:w5.frozen? ⟨Q,1,none⟩=false:=(a0.out.t1.of_block (M.block Q a0.out.t1.lt (fun e=>a0.out.ne e.symm))).2))
  all_goals
   have hG:=a0.out.grow (t:=.ask q) ⟨M.os,M.tape,M.output,M.size,M.block⟩ (by rw[HV.out];exact b6) (by
    rcases au with h|h
    ·exact Or.inl h
    right;rw[h];exact af _)
   go_wp2_with fail
   go_meet
   refine⟨_,hG.1,(ai.of_below (((ae W1.heap.size W1).alloc (af _) _).drew)).trans hG.2 (fun _ _ h=>h) (fun _ _ h=>h),fun b e=>?_⟩;have e1:g=b:=by simpa[Value.ownBlock] using e
   rcases au with h|h
   ·exact Or.inl (by rw[<-e1];exact h)
   right
   have h2:g=(W1.alloc (.cells #[.iface 82 (.agg #[zI kk,.string qp,.string qw])] 185)).heap.size:=h;rw[<-e1,h2];simp
 case rest=>
  obtain⟨Y,HC⟩:=hcut;obtain⟨A2,a7⟩:∃A2:Nat->Prop,A2=(fun b=>A b\/Y.ownBlock=some b):=⟨_,rfl⟩;have a1:Hid (Tsk A2 S wc B Q I Z J mb G cap U D L Y (T++[.ask q])):=by rw[a7];exact a2.out.grown HC.out.2.1 HC.out.1 HC.out.2.2
  have aq:Hid (wc.heap[bx]?=some (.cells #[zI kk,.string qp,.string qw] 82)):=(HC.out.2.1.block bx a3.out.2.2 (fun e=>by
   rcases e with e|e
   ·have:=a3.out.1;omega
   have:=a3.out.2.1 _ e;omega)).trans a6.out
  have bd:Hid (ai (Fr4 I J Q V) w wc):=(ai.of_below (by have h:=ab.out;rw[<-aa] at h;exact h)).trans HC.out.2.1 (fun _ _ h=>h) (fun _ _ h=>Or.inr (Or.inr h))
  have b7:Hid (∀b,A2 b->A b\/bx<=b):=fun b e=>by
   rw[a7] at e;rcases e with e|e
   ·exact Or.inl e
   rcases HC.out.2.2 b e with e|e
   ·exact Or.inl (a4.out.pr b (Or.inr e))
   right;have:=a3.out.2.2;omega
  have b8:Hid (∀b,A b->A2 b):=fun b e=>by rw[a7];exact Or.inl e
  have bb:Hid (∀b,Y.ownBlock=some b->V.ownBlock=some b\/bx<=b):=fun b e=>by
   rcases HC.out.2.2 b e with e|e
   ·exact Or.inl e
   right;have:=a3.out.2.2;omega
  clear HC a2 a6 ab a4 a7
  have ad:Hid (bx≠I/\bx≠J/\Q≠I/\Q≠J):=by
   have h1:=a1.out.lt;have h2:=a1.out.task.hb;have h3:=a3.out.1;refine⟨?_,?_,?_,?_⟩<;>omega
  have KF:Hid (∀W,Below wc.heap.size wc W->zC 74 #[zP I,.agg #[zI kk,.string qp,.string qw]] W fun e w'=>∃v k O R,e=.returned v/\iD A2 w' v k/\fnd (S G) G r D q k O R/\Eng A2 S w' I Z J mb G cap (counted U R) O L/\ai (fun b=>b=I\/b=J) wc w'):=fun W hb=>(b9.out A2 W U (a1.out.eng.below hb)).mono (by
   rintro e w' ⟨v,k,O,R,e1,e2,e3,e4,e5⟩;exact⟨v,k,O,R,e1,e2,e3,e4,(ai.of_below hb).trans e5 (fun _ _ h=>h) (fun _ _ h=>h)⟩)
  have an:Hid (∀W,ai (fun b=>b=I\/b=J) wc W->W.cell? ⟨Q,0,none⟩=some (zP I)/\W.cell? ⟨bx,0,none⟩=some (zI kk)/\W.cell? ⟨bx,1,none⟩=some (.string qp)/\W.cell? ⟨bx,2,none⟩=some (.string qw)):=fun W hb=>by
   have e1:=hb.block bx (ah aq.out) (fun e=>by have:=ad.out;rcases e with e|e<;>omega);obtain⟨⟨x0,_⟩,⟨x1,_⟩,⟨x2,_⟩⟩:=fd3 (e1.trans aq.out);refine⟨?_,x0,x1,x2⟩;rw[hb.cell (a:=⟨Q,0,none⟩) a1.out.task.t0.lt (fun e=>by have:=ad.out;rcases e with e|e<;>(have e2:Q=_:=e;omega))];exact a1.out.task.t0.1
  obtain⟨p0,p1,p2,p3⟩:=an.out wc (ai.refl _ _);have bi:=K0;go_upto_region 2 with fail
  go_region_held3 (fun w'=>w'.cell? ⟨Q,0,none⟩=some (zP I)/\w'.cell? ⟨bx,0,none⟩=some (zI kk)/\w'.cell? ⟨bx,1,none⟩=some (.string qp)/\w'.cell? ⟨bx,2,none⟩=some (.string qw))
   (first|exact⟨p0,p1,p2,p3⟩|exact an.out _ a5)
   ((go_at_call 74;refine(KF.out _ ((ae _ _).drew)).mono ?_;rintro e w3 ⟨v,k,O,R,rfl,bk,b0,az,a5⟩;obtain⟨fv,kv,e4,b1,_⟩:=bk;subst e4))
  have a0:Hid (Tsk A2 S w3 B Q I Z J mb G cap (counted U R) O L Y (T++[.ask q])):=⟨az,a1.out.task.turn a5 (fun b e=>by have:=a1.out.lt;rcases e with e|e<;>omega),a1.out.pr,a1.out.lt,by have:=a1.out.hB;have:=a5.size;omega⟩
  have bh:Hid (ai (Fr4 I J Q V) w w3):=bd.out.trans a5 (fun _ _ h=>h) (fun _ _ h=>by
   rcases h with h|h
   ·exact Or.inl h
   exact Or.inr (Or.inl h))
  have HR:Hid (fP A2 w3 fv k.f/\fnd (S G) G r D q k O R):=⟨b1,b0⟩;clear b1 b0 az a5 bi;go_wp2;go_ret;exact⟨A2,Y,fv,k,O,R,rfl,HR.out.1,HR.out.2,a0.out,bh.out,b8.out,fun b e=>by have:=b7.out b e;rw[aa];exact this,fun b e=>by have:=bb.out b e;rw[aa];exact this⟩
end Pn
namespace Pn
open Mf Ed
variable{A F A2:Nat->Prop}{S:Nat->Shf}{w w' W W1 E wf:zW}{I Z J mb G:Nat}{cap:Int}{U:List Int}{D O:List Kp}{L:List (zV×zV)}{B Q:Nat}{V Y:zV}{T:List Tie}{r:Nat}{q:Qn}{k:Kp}{R:List Qn}
theorem gG.lift{P:Nat->Prop}(h:Tsk A S w B Q I Z J mb G cap U D L V T)(hb:Below w.heap.size w W1)(hP:∀b,P b->w.heap.size<=b/\b<W1.heap.size)(hk:gG (fun b=>A b\/P b) S W1 B Q I Z J mb G cap U D L V T r q E A2 Y k O R)(ht:ai P E wf):
  gG A S w B Q I Z J mb G cap U D L V T r q wf A2 Y k O R:=by
 obtain⟨h1,h2,h3,h4,h5,h6⟩:=hk;have hs:=hb.size;refine⟨h1,h2.turn ht (fun b _ e=>h4 b (Or.inr e)) (fun b e=>⟨by have:=(hP b e).1;have:=h.hB;omega,fun M=>?_⟩),?_,fun b e=>h4 b (Or.inl e),fun b e=>?_,fun b e=>?_⟩
 ·have h7:=hP b e
  rcases M with M|M
  ·have:=h.task.t0.lt;omega
  rcases h6 b M with e3|e3
  ·have:=(h.task.row.lt b e3).2;omega
  omega
 ·exact((ai.of_below hb).trans h3 (fun _ _ e=>e) (fun _ _ e=>e)).trans ht (fun _ _ e=>e) (fun b a0 e=>by have:=(hP b e).1;omega)
 ·rcases h5 b e with(e|e)|e
  ·exact Or.inl e
  ·exact Or.inr (hP b e).1
  exact Or.inr (by omega)
 rcases h6 b e with e|e
 ·exact Or.inl e
 exact Or.inr (by omega)
theorem gG.stay{P:Nat->Prop}(h:Tsk A S w B Q I Z J mb G cap U D L V T)(hk:gG (fun b=>A b\/P b) S W1 B Q I Z J mb G cap U D L V T r q E A2 Y k O R){b:Nat}(h1:w.heap.size<=b)(M:b<W1.heap.size):E.heap[b]?=W1.heap[b]?:=by
 refine hk.2.2.1.block b M (fun e=>?_);have h3:=h.lt;have h4:=h.hB;rcases e with e|e|e|e
 ·omega
 ·omega
 ·have:=h.task.t0.lt;omega
 have:=(h.task.row.lt b e).2;omega
theorem gG.val(M:Inv S G D)(hk:gG A S w B Q I Z J mb G cap U D L V T r q E A2 Y k O R)(hr:rk q<=r)(hq:q.kind<=4):k.f=val (S G) q/\k∈O:=
 have h:=lH r D q k O R M (nL hr) hq hk.1
 ⟨h.2.2.2.2.2,h.2.2.1⟩
theorem Bw(s:Shf)(p v:zA):∃M m,val s ⟨0,p,v⟩=.man M m:=by
 rw[qO s (aL 1)];show ∃M m,eN (s (0,p,v))=_;cases s (0,p,v) with
 |none=>exact⟨_,_,rfl⟩
 |some t=>
  unfold eN;by_cases h:bg t=[]
  ·exact⟨_,_,aj h⟩
  exact⟨_,_,ag h⟩
theorem Gj(s:Shf)(p v:zA):∃M vs,val s ⟨1,p,v⟩=.idx M vs:=by
 rw[qO s (af 1)];show ∃M vs,idxOf (s (1,p,e0))=_;cases s (1,p,e0) with
 |none=>exact⟨_,_,rfl⟩
 |some t=>
  unfold idxOf;by_cases h:dM t=[]
  ·exact⟨_,_,aj h⟩
  exact⟨_,_,ag h⟩
theorem IJ(hF:eC S I Z J mb G cap L r)(p:zA)(hp:p.size<=N48)(hD:D.length+grow r<=N15)(w:zW)(h:Tsk A S w B Q I Z J mb G cap U D L V T)(aa:T.length<=9999):
  zC 163 #[zP Q,.string p] w fun e w'=>∃A2 Y pr u M k O R,e=.returned (.agg #[zI (pr:Nat),u])/\RdA A2 dB w' u M/\k.f=.idx pr M/\gG A S w B Q I Z J mb G cap U D L V T r ⟨1,p,e0⟩ w' A2 Y k O R:=by
 have a1:Below w.heap.size w (w.alloc (.cells #[zI 0,zN] 211)):=(ae _ _).alloc (af _) _;have hP:∀b,b=w.heap.size->w.heap.size<=b/\b<(w.alloc (.cells #[zI 0,zN] 211)).heap.size:=fun b e=>by rw[e];exact⟨af _,by simp⟩
 have ka:=sH hF ⟨1,p,e0⟩ (aL _) (by show 1<=4;decide) ⟨hp,aL _⟩ hD _ (h.wide a1 (fun b=>b=w.heap.size) hP) aa;have HT:=zH h;have a0:Hid (Below w.heap.size w (w.alloc (.cells #[zI 0,zN] 211))/\∀b,b=w.heap.size->w.heap.size<=b/\b<(w.alloc (.cells #[zI 0,zN] 211)).heap.size):=⟨a1,hP⟩;have a8:Hid ((w.alloc (.cells #[zI 0,zN] 211)).heap[w.heap.size]?=some (.cells #[zI 0,zN] 211)):=ay _ _;clear a1 hP h hF hp hD;go_enter func163,ntmps163
 go_wp2_with (go_at_call 55;fail)
 generalize w.alloc (.cells #[zI 0,zN] 211)=W1 at*;go_at_call 55;refine ka.mono ?_;rintro e E ⟨A2,Y,fv,k,O,R,rfl,a4,hk⟩;have hv:=hk.val HT.out.eng.inv (aL _) (by show 1<=4;decide);obtain⟨pr,M,a5⟩:=Gj (S G) p e0;rw[a5] at hv;rw[hv.1] at a4;obtain⟨u,rfl,hu⟩:=a4;obtain⟨ua,uc,e1⟩:=hu.len;subst e1;have HK:Hid (gG (fun b=>A b\/b=w.heap.size) S W1 B Q I Z J mb G cap U D L V T r ⟨1,p,e0⟩ E A2 Y k O R/\RdA A2 dB E (.slice ua M.length uc) M/\k.f=.idx pr M):=⟨hk,hu,hv.1⟩;have a2:Hid (E.heap[w.heap.size]?=some (.cells #[zI 0,zN] 211)):=(hk.stay HT.out (af _) (a0.out.2 _ rfl).2).trans a8.out;have a3:Hid ((E.alloc (.cells #[zI (pr:Nat),.slice ua M.length uc] 211)).heap[w.heap.size]?=some (.cells #[zI 0,zN] 211)):=(aG _ _ _ (ah a2.out)).trans a2.out;have a6:Hid (Below E.heap.size E (E.alloc (.cells #[zI (pr:Nat),.slice ua M.length uc] 211))):=(ae _ _).alloc (af _) _;have a7:Hid ((E.alloc (.cells #[zI (pr:Nat),.slice ua M.length uc] 211)).heap[E.heap.size]?=some (.cells #[zI (pr:Nat),.slice ua M.length uc] 211)):=ay _ _;clear hk hu hv a5 ka;have a9:=KJ (.agg #[zI (pr:Nat),.slice ua M.length uc]) E;go_upto_region 2 with fail;obtain⟨⟨c0,f0⟩,⟨c1,f1⟩⟩:=fd2 a3.out;obtain⟨⟨d0,_⟩,⟨d1,_⟩⟩:=fd2 a7.out;clear a9
 generalize E.alloc (.cells #[zI (pr:Nat),.slice ua M.length uc] 211)=W3 at*;go_wp2;refine aI (bG results163 _ _ w.heap.size 211 _ (0,0) _ rfl (gA a3.out _ _) underlying211 rfl (by kernel_rfl)) rfl ?_;have hT:ai (fun b=>b=w.heap.size) E ((W3.setCell ⟨w.heap.size,0,none⟩ (zI (pr:Nat))).setCell ⟨w.heap.size,1,none⟩ (.slice ua M.length uc)):=((ai.of_below (p:=fun b=>b=w.heap.size) a6.out).set (a:=⟨w.heap.size,0,none⟩) (fun _=>rfl) _).set (a:=⟨w.heap.size,1,none⟩) (fun _=>rfl) _;refine⟨A2,Y,pr,_,M,k,O,R,rfl,HK.out.2.1.turn (hT.mono (fun b _ e=>HK.out.1.2.2.2.1 b (Or.inr e))),HK.out.2.2,HK.out.1.lift HT.out a0.out.1 a0.out.2 hT⟩
