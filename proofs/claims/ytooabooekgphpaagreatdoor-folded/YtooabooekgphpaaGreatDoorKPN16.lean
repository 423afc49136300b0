import Derived.Test.YtooabooekgphpaaGreatDoorKPNB
set_option linter.all false
open Go.Proofs.Tryz
set_option maxRecDepth 100000
set_option maxHeartbeats 20000000
namespace Go.Proofs.YtooabooekgphpaaGreatDoor
open Go.RowKit
namespace Pn
open Mf Ed
variable{A:Nat->Prop}{S:Nat->Shf}{w w':zW}{I Q J mb G:Nat}{cap:Int}{Y:List Int}{D Z:List Kp}{L:List (zV×zV)}
theorem uB(w:zW)(E o2:Obj):zB w ((w.alloc E).alloc o2)/\((w.alloc E).alloc o2).heap[w.heap.size]?=some E/\((w.alloc E).alloc o2).heap[w.heap.size+1]?=some o2:=by
 have F:zB w (w.alloc E):=(ae _ _).alloc (af _) _;have s1:(w.alloc E).heap.size=w.heap.size+1:=by simp
 refine⟨F.alloc F.size o2,?_,?_⟩
 ·rw[aG _ _ _ (by omega)];exact ay _ _
 rw[<-s1];exact ay _ _
theorem BH{w:zW}{base E size n:Nat}{e:TypeId}{v:zV}{xs:List zV}(h:w.ownsRow base e size v n xs)(M:E<=base):w.ownsRow E e size v n xs:=
 ⟨h.1,h.2.elim oE (fun⟨g,cap,F,T,O,r⟩=>oS ⟨g,cap,F,T,aO M O,r⟩)⟩
def Gw(A:Nat->Prop)(S:Nat->Shf)(w:zW)(I Q J mb G:Nat)(cap:Int)(Y:List Int)(D:List Kp)(L:List (zV×zV))(e:Ending)(w':zW):Prop:=
 ∃v1 v2 W ms ps T U k2 k3 V E O F M,e=.returned (.agg #[v1,v2,W])/\(val (S G) ⟨3,e0,e0⟩=.list ms ps/\val (S G) ⟨4,e0,e0⟩=.ord T U)/\
  (w'.ownsRow w.heap.size 63 2 v1 ms.length (mcs ms)/\w'.ownsRow w.heap.size 65 3 v2 (once (ps++U)).length ((once (ps++U)).flatMap aJ)/\w'.ownsRow w.heap.size 9 1 W T.length (T.flatMap dB))/\
  Eng A S w' I Q J mb G cap (counted Y (F++M)) O L/\(fnd (S G) G 3 D ⟨3,e0,e0⟩ k2 V F/\fnd (S G) G 3 V ⟨4,e0,e0⟩ k3 E M)/\
  (O.Sublist E/\(O.length:Int)<=cap/\((E.length:Int)<=cap->O=E)/\E.length<=D.length+1948378)/\
  (ms.length<=100000/\ps.length<=1000000/\T.length<=100000/\U.length<=100000)/\ai (fun b=>b=I\/b=J) w w'
theorem yr(hF:eC S I Q J mb G cap L 3)(hD:D.length<=1000000000000)(hc:0<=cap/\cap<=9223372036854775807)(w:zW)(h:Eng A S w I Q J mb G cap Y D L):
  zC 27 #[zP I] w fun e w'=>Gw A S w I Q J mb G cap Y D L e w':=by
 have HE:=zH h;have HF:=zH hF;have hq:=uB w (.cells #[zN,zN,zN] 34) (.cells #[zP I,zN] 87)
 have HP:Hid (∀b,b=w.heap.size\/b=w.heap.size+1->w.heap.size<=b/\b<((w.alloc (.cells #[zN,zN,zN] 34)).alloc (.cells #[zP I,zN] 87)).heap.size):=fun b e=>by
  simp;omega
 have cc:=h.wide hq.1 (fun b=>b=w.heap.size\/b=w.heap.size+1) HP.o;have HQ:Hid _:=hq;clear hq;have c2:=fd2 HQ.o.2.2
 have cd:Tsk (fun b=>A b\/(b=w.heap.size\/b=w.heap.size+1)) S ((w.alloc (.cells #[zN,zN,zN] 34)).alloc (.cells #[zP I,zN] 87)) w.heap.size (w.heap.size+1) I Q J mb G cap Y D L (zN) []:=
  ⟨cc,⟨c2.1,c2.2,eM ..,by simp[Value.ownBlock],by omega⟩,fun b e=>by
   rcases e with e|e
   ·exact oS (oS e)
   simp[Value.ownBlock] at e,⟨h.hA _ h.desk.hd,h.hA _ h.desk.hf,h.hA _ h.ns.1,h.hA _ h.ns.2,by have:=h.hA _ h.desk.hd;omega⟩,HQ.o.1.size⟩
 have kl:=Dg hF (by decide) (by simp only[grow,N15];omega) _ cd (by show 0<=_;omega);clear h cc c2 cd hF;go_enter func27,ntmps27
 go_wp2_with (go_at_call 39;fail)
 generalize (w.alloc (.cells #[zN,zN,zN] 34)).alloc (.cells #[zP I,zN] 87)=W1 at*;go_at_call 39;refine kl.mono ?_;rintro e w2 ⟨A2,cs,ms,ps,la,lb,k2,D2,b5,rfl,cn,ck,bh⟩;have cb:Hid (RdA A2 Sm.mc w2 la ms/\RdA A2 aJ w2 lb ps):=cn;have E:Hid (k2.f=.list ms ps/\gG (fun b=>A b\/(b=w.heap.size\/b=w.heap.size+1)) S W1 w.heap.size (w.heap.size+1) I Q J mb G cap Y D L (zN) [] 3 ⟨3,e0,e0⟩ w2 A2 cs k2 D2 b5):=⟨ck,bh⟩;have bv:Hid (D2.length<=D.length+489099):=vg HE.o.inv (by decide) (by decide) bh.1;have ko:=IK HF.o (by decide) (by have:=bv.o;simp only[grow,N15];omega) w2 bh.2.1 (by show 1<=_;omega);clear kl cn ck bh
 go_wp2_with (go_at_call 40;fail)
 go_at_call 40;refine ko.mono ?_;rintro e T ⟨A3,da,ns,M,oa,ob,k3,D3,bd,rfl,cp,cm,b0⟩;have ca:Hid (D3.length<=D2.length+1459279):=vg E.o.2.2.1.eng.inv (by decide) (by decide) b0.1
 have bp:Hid (ai A3 w2 T):=b0.2.2.1.mono (fun b _ e=>b0.2.2.2.1 b (by
  rcases e with e|e|e|e
  ·rw[e];exact E.o.2.2.1.eng.desk.hd
  ·rw[e];exact E.o.2.2.1.eng.desk.hf
  ·exact E.o.2.2.1.pr b (oE e)
  exact E.o.2.2.1.pr b (oS e)))
 have b8:∀b,b<w2.heap.size->A3 b->A2 b:=fun b F e=>by
  rcases b0.2.2.2.2.1 b e with e|e
  ·exact e
  omega
 have an:Hid ((RdA A3 Sm.mc T la ms/\RdA A3 aJ T lb ps)/\RdA A3 dB T oa ns/\RdA A3 aJ T ob M):=
  ⟨⟨(cb.o.1.more b8).turn bp.o,(cb.o.2.more b8).turn bp.o⟩,cp⟩
 clear b8;have O:Hid (k3.f=.ord ns M/\gG A2 S w2 w.heap.size (w.heap.size+1) I Q J mb G cap (counted Y b5) D2 L cs ([]++[.ask ⟨3,e0,e0⟩]) 3 ⟨4,e0,e0⟩ T A3 da k3 D3 bd):=⟨cm,b0⟩;clear ko cp cm b0;obtain⟨a3,a4,rfl⟩:=an.o.1.1.len;obtain⟨a5,a7,rfl⟩:=an.o.1.2.len;obtain⟨aa,ab,rfl⟩:=an.o.2.1.len;obtain⟨ad,ak,rfl⟩:=an.o.2.2.len;have V:Hid _:=uB T (.cells #[.slice a3 ms.length a4,.slice a5 ps.length a7] 89) (.cells #[.slice aa ns.length ab,.slice ad M.length ak] 92);have b9:Hid (Eng A3 S ((T.alloc (.cells #[.slice a3 ms.length a4,.slice a5 ps.length a7] 89)).alloc (.cells #[.slice aa ns.length ab,.slice ad M.length ak] 92)) I Q J mb G cap (counted (counted Y b5) bd) D3 L):=O.o.2.2.1.eng.below V.o.1;have ks:=FK _ b9.o.desk b9.o.ml (by have:=bv.o;have:=ca.o;omega) hc
 go_wp2_with (go_at_call 41;fail)
 generalize (T.alloc (.cells #[.slice a3 ms.length a4,.slice a5 ps.length a7] 89)).alloc (.cells #[.slice aa ns.length ab,.slice ad M.length ak] 92)=W4 at*;go_at_call 41;refine ks.mono ?_;rintro e U ⟨rfl,D5,ch,b7,bk⟩;have bu:Hid (Eng A3 S U I Q J mb G cap (counted (counted Y b5) bd) D5 L):=b9.o.shrunk ch b7.1 bk;have a0:Hid ((D5.length:Int)<=cap/\((D3.length:Int)<=cap->D5=D3)/\D5.Sublist D3/\ai (fun b=>b=J) W4 U):=⟨b7.2.1,b7.2.2,b7.1,bk⟩;have az:Hid (ai A3 W4 U):=bk.mono (fun b _ e=>by rw[e];exact b9.o.desk.hf);clear ks ch b7 bk
 have bc:Hid (∀W,zB U W->(RdA A3 Sm.mc W (.slice a3 ms.length a4) ms/\RdA A3 aJ W (.slice a5 ps.length a7) ps)/\RdA A3 dB W (.slice aa ns.length ab) ns/\RdA A3 aJ W (.slice ad M.length ak) M):=fun W F=>
  ⟨⟨((an.o.1.1.below V.o.1).turn az.o).below F,((an.o.1.2.below V.o.1).turn az.o).below F⟩,((an.o.2.1.below V.o.1).turn az.o).below F,((an.o.2.2.below V.o.1).turn az.o).below F⟩
 have bx:Hid (∀W,zB U W->W.cell? (tD T.heap.size 0)=some (.slice a3 ms.length a4)/\W.cell? (tD T.heap.size 1)=some (.slice a5 ps.length a7)/\W.cell? (tD (T.heap.size+1) 0)=some (.slice aa ns.length ab)/\W.cell? (tD (T.heap.size+1) 1)=some (.slice ad M.length ak)):=fun W F=>by
  have cv:=O.o.2.2.1.eng.hA _ O.o.2.2.1.eng.desk.hf;have g0:=ah V.o.2.1;have g1:=ah V.o.2.2;have hs:=a0.o.2.2.2.size;have h0:=(F.block T.heap.size (by omega)).trans ((a0.o.2.2.2.block T.heap.size g0 (by omega)).trans V.o.2.1);have h1:=(F.block (T.heap.size+1) (by omega)).trans ((a0.o.2.2.2.block (T.heap.size+1) g1 (by omega)).trans V.o.2.2);exact⟨(fd2 h0).1.1,(fd2 h0).2.1,(fd2 h1).1.1,(fd2 h1).2.1⟩
 have au:Hid (ms.length<=100000/\ps.length<=1000000/\ns.length<=100000/\M.length<=100000):=by
  have h2:=(kK HE.o.inv E.o.2.1 (by decide) (by decide) E.o.2.2.1.eng.ok).2.s;have h3:=(kK E.o.2.2.1.eng.inv O.o.2.1 (by decide) (by decide) O.o.2.2.1.eng.ok).2.s;rw[E.o.1] at h2;rw[O.o.1] at h3;exact⟨h2.1,h2.2,h3.1,h3.2⟩
 have bq:Hid (∀W,zB U W->zC 42 #[.slice a3 ms.length a4] W fun e w'=>∃v',e=.returned v'/\w'.ownsRow W.heap.size 63 2 v' ms.length (mcs ms)/\zB W w'):=fun W F=>yY _ ms W (bc.o W F).1.1 (by have:=au.o.1;omega)
 have bt:Hid (∀W,zB U W->zC 45 #[.slice aa ns.length ab] W fun e w'=>∃v',e=.returned v'/\w'.ownsRow W.heap.size 9 1 v' ns.length (ns.flatMap dB)/\zB W w'):=fun W F=>pX _ ns W (bc.o W F).2.1 (by have:=au.o.2.2.1;omega)
 have bs:Hid (∀W bb,zB U W->W.heap[bb]?=some (.cells #[.slice a5 ps.length a7,.slice ad M.length ak] 31)->zC 44 #[.slice (some (tD bb 0)) 2 2] W fun e w'=>∃v,e=.returned v/\w'.ownsRow W.heap.size 65 3 v (ps++M).length ((ps++M).flatMap aJ)/\zB W w'):=fun W bb F h=>FF bb _ _ ps M W h (bc.o W F).1.2 (bc.o W F).2.2 ⟨au.o.2.1,by have:=au.o.2.2.2;omega⟩
 have br:Hid (∀W B v,zB U W->U.heap.size<=B->W.ownsRow B 65 3 v (ps++M).length ((ps++M).flatMap aJ)->zC 43 #[v] W fun e w'=>∃v',e=.returned v'/\w'.ownsRow B 65 3 v' (once (ps++M)).length ((once (ps++M)).flatMap aJ)/\ai (fun b=>v.ownBlock=some b) W w'):=fun W B v F hB ho=>BG B v (ps++M) W (bu.o.ml.below F) (by have:=bu.o.ml.pos;omega) ho (by have h1:=au.o.2.1;have h2:=au.o.2.2.2;rw[aW];omega)
 have HZ:Hid (∀W,zB U W->W.heap[w.heap.size]?=some (.cells #[zN,zN,zN] 34)):=fun W F=>by
  have cv:=HE.o.hA _ HE.o.desk.hf;have dm:=HE.o.hA _ HE.o.desk.hd;have g0:=ah HQ.o.2.1
  have h2:=E.o.2.2.2.1.block w.heap.size g0 (fun e=>by
   rcases e with e|e|e|e
   ·omega
   ·omega
   ·omega
   simp[Value.ownBlock] at e)
  have s2:=E.o.2.2.2.1.size
  have h3:=O.o.2.2.2.1.block w.heap.size (by omega) (fun e=>by
   rcases e with e|e|e|e
   ·omega
   ·omega
   ·omega
   rcases E.o.2.2.2.2.2.2 _ e with e|e
   ·simp[Value.ownBlock] at e
   omega)
  have s3:=O.o.2.2.2.1.size;have h4:=V.o.1.block w.heap.size (by omega);have s4:=V.o.1.size;have h5:=a0.o.2.2.2.block w.heap.size (by omega) (by omega);have s5:=a0.o.2.2.2.size;exact(F.block w.heap.size (by omega)).trans (h5.trans (h4.trans (h3.trans (h2.trans HQ.o.2.1))))
 have c3:Hid (∀W,zB U W->zC 42 #[.slice a3 ms.length a4] W fun e w'=>∃v',e=.returned v'/\w'.ownsRow W.heap.size 63 2 v' ms.length (mcs ms)/\zB W w'/\zB U w'/\(∀bb o,W.heap[bb]?=some o->w'.heap[bb]?=some o)):=fun W F=>(bq.o W F).mono (fun e w' ⟨v',g1,g2,g3⟩=>⟨v',g1,g2,g3,F.trans (g3.mono F.size),fun bb o ho=>(g3.block bb (ah ho)).trans ho⟩)
 have c5:Hid (∀W bb,zB U W->W.heap[bb]?=some (.cells #[.slice a5 ps.length a7,.slice ad M.length ak] 31)->zC 44 #[.slice (some (tD bb 0)) 2 2] W fun e w'=>∃v,e=.returned v/\w'.ownsRow W.heap.size 65 3 v (ps++M).length ((ps++M).flatMap aJ)/\zB W w'/\zB U w'/\U.heap.size<=W.heap.size):=fun W bb F h=>(bs.o W bb F h).mono (fun e w' ⟨v',g1,g2,g3⟩=>⟨v',g1,g2,g3,F.trans (g3.mono F.size),F.size⟩)
 have c4:Hid (∀W B v,zB U W->U.heap.size<=B->W.ownsRow B 65 3 v (ps++M).length ((ps++M).flatMap aJ)->zC 43 #[v] W fun e w'=>∃v',e=.returned v'/\w'.ownsRow B 65 3 v' (once (ps++M)).length ((once (ps++M)).flatMap aJ)/\ai (fun b=>v.ownBlock=some b) W w'/\zB U w'):=fun W B v F hB ho=>(br.o W B v F hB ho).mono (fun e w' ⟨v',g1,g2,g3⟩=>⟨v',g1,g2,g3,bl F g3 (fun b e=>aO hB (ho.lt b e).1)⟩)
 have c7:Hid (∀W,zB U W->zC 45 #[.slice aa ns.length ab] W fun e w'=>∃v',e=.returned v'/\w'.ownsRow W.heap.size 9 1 v' ns.length (ns.flatMap dB)/\zB W w'/\zB U w'):=fun W F=>(bt.o W F).mono (fun e w' ⟨v',g1,g2,g3⟩=>⟨v',g1,g2,g3,F.trans (g3.mono F.size)⟩)
 clear bq br bs bt
 have ct:Hid (∀W u0 u1 u2,zB U W->(((W.setCell (tD w.heap.size 0) u0).setCell (tD w.heap.size 1) u1).setCell (tD w.heap.size 2) u2).cell? (tD T.heap.size 0)=some (.slice a3 ms.length a4)/\(((W.setCell (tD w.heap.size 0) u0).setCell (tD w.heap.size 1) u1).setCell (tD w.heap.size 2) u2).cell? (tD T.heap.size 1)=some (.slice a5 ps.length a7)/\(((W.setCell (tD w.heap.size 0) u0).setCell (tD w.heap.size 1) u1).setCell (tD w.heap.size 2) u2).cell? (tD (T.heap.size+1) 0)=some (.slice aa ns.length ab)/\(((W.setCell (tD w.heap.size 0) u0).setCell (tD w.heap.size 1) u1).setCell (tD w.heap.size 2) u2).cell? (tD (T.heap.size+1) 1)=some (.slice ad M.length ak)):=fun W u0 u1 u2 F=>by
  have g0:=ah HQ.o.2.1;have s2:=E.o.2.2.2.1.size;have s3:=O.o.2.2.2.1.size
  have hn:∀z,z≠w.heap.size->(((W.setCell (tD w.heap.size 0) u0).setCell (tD w.heap.size 1) u1).setCell (tD w.heap.size 2) u2).heap[z]?=W.heap[z]?:=fun z hz=>by
   rw[aM _ _ _ _ hz,aM _ _ _ _ hz,aM _ _ _ _ hz]
  obtain⟨g0,g1,g2,g3⟩:=bx.o W F;have n0:=hn T.heap.size (by omega);have n1:=hn (T.heap.size+1) (by omega);exact⟨(aZ n0).trans g0,(aZ n0).trans g1,(aZ n1).trans g2,(aZ n1).trans g3⟩
 have bn:Hid (ai (fun b=>b=I\/b=J\/b=w.heap.size) w U):=by
  have t1:ai (fun b=>b=I\/b=J\/b=w.heap.size) w w2:=(ai.of_below (p:=fun _=>False) HQ.o.1).trans E.o.2.2.2.1 (fun _ _ e=>e.elim) (fun b F e=>by
   rcases e with e|e|e|e
   ·exact oE e
   ·exact oS (oE e)
   ·omega
   simp[Value.ownBlock] at e)
  have t2:ai (fun b=>b=I\/b=J\/b=w.heap.size) w T:=t1.trans O.o.2.2.2.1 (fun _ _ e=>e) (fun b F e=>by
   have hs:=HQ.o.1.size;rcases e with e|e|e|e
   ·exact oE e
   ·exact oS (oE e)
   ·omega
   rcases E.o.2.2.2.2.2.2 _ e with e|e
   ·simp[Value.ownBlock] at e
   omega)
  exact(t2.trans (ai.of_below (p:=fun _=>False) V.o.1) (fun _ _ e=>e) (fun _ _ e=>e.elim)).trans a0.o.2.2.2 (fun _ _ e=>e) (fun b _ e=>oS (oE e))
 have bm:Hid (∀(B6 B7:Nat)(w6 w7 w8 w9:zW)(v6 v7 v8 v9:zV),zB U w9->U.heap.size<=B6->w6.ownsRow B6 63 2 v6 ms.length (mcs ms)->(∀b,b<w6.heap.size->w7.heap[b]?=w6.heap[b]?)->w6.heap.size<=B7->U.heap.size<=w6.heap.size->w6.heap.size<=w7.heap.size->w7.ownsRow B7 65 3 v7 (ps++M).length ((ps++M).flatMap aJ)->
   w8.ownsRow B7 65 3 v8 (once (ps++M)).length ((once (ps++M)).flatMap aJ)->ai (fun b=>v7.ownBlock=some b) w7 w8->w9.ownsRow w8.heap.size 9 1 v9 ns.length (ns.flatMap dB)->zB w8 w9->
   Gw A S w I Q J mb G cap Y D L (.returned (.agg #[v6,v8,v9])) (((w9.setCell (tD w.heap.size 0) v6).setCell (tD w.heap.size 1) v8).setCell (tD w.heap.size 2) v9)):=fun B6 B7 w6 w7 w8 w9 v6 v7 v8 v9 a1 dj b2 b1 c0 db dc b6 b3 aq b4 av=>by
  have g0:=ah HQ.o.2.1;have s2:=E.o.2.2.2.1.size;have dn:=bn.o.size;have h5:=ah (HZ.o U (ae _ _));have hT:ai (fun b=>b=w.heap.size) w9 (((w9.setCell (tD w.heap.size 0) v6).setCell (tD w.heap.size 1) v8).setCell (tD w.heap.size 2) v9):=(((ai.refl (fun b=>b=w.heap.size) w9).set (a:=(tD w.heap.size 0)) (fun _=>rfl) _).set (a:=(tD w.heap.size 1)) (fun _=>rfl) _).set (a:=(tD w.heap.size 2)) (fun _=>rfl) _
  have q6:=ar (w':=((w9.setCell (tD w.heap.size 0) v6).setCell (tD w.heap.size 1) v8).setCell (tD w.heap.size 2) v9) b2 (fun b e=>by
   have hl:=b2.lt b e;have n8:=aq.block b (by omega) (fun e2=>by have:=(b6.lt b e2).1;omega);have n9:=av.block b (by have:=aq.size;omega);exact(hT.block b (by have:=aq.size;have:=av.size;omega) (by omega)).trans (n9.trans (n8.trans (b1 b hl.2))))
  have q8:=ar (w':=((w9.setCell (tD w.heap.size 0) v6).setCell (tD w.heap.size 1) v8).setCell (tD w.heap.size 2) v9) b3 (fun b e=>by
   have hl:=b3.lt b e;exact(hT.block b (by have:=av.size;omega) (by omega)).trans (av.block b hl.2))
  have q9:=ar (w':=((w9.setCell (tD w.heap.size 0) v6).setCell (tD w.heap.size 1) v8).setCell (tD w.heap.size 2) v9) b4 (fun b e=>by
   have hl:=b4.lt b e;exact hT.block b hl.2 (by have:=aq.size;omega))
  have TK:=aq.size;have a2:∀b,(A b\/b=w.heap.size\/b=w.heap.size+1)->A3 b:=fun b e=>O.o.2.2.2.2.1 b (E.o.2.2.2.2.1 b e)
  have bi:∀b,A b->b<w.heap.size:=HE.o.hA;have l1:=bi _ HE.o.desk.hd;have l2:=bi _ HE.o.desk.hf;have l3:=bi _ HE.o.ns.1;have l4:=bi _ HE.o.ns.2;have he:=((bu.o.below a1).turn hT (fun b _ e=>a2 b (oS (oE e))) ⟨by omega,by omega,by omega,by omega,by omega⟩).less (fun b e=>a2 b (oE e)) ⟨HE.o.desk.hd,HE.o.desk.hf,HE.o.ns.1,HE.o.ns.2⟩;rw[fF] at he;have v2:=(kK HE.o.inv E.o.2.1 (by decide) (by decide) E.o.2.2.1.eng.ok).1;have v3:=(kK E.o.2.2.1.eng.inv O.o.2.1 (by decide) (by decide) O.o.2.2.1.eng.ok).1
  exact⟨v6,v8,v9,ms,ps,ns,M,k2,k3,D2,D3,D5,b5,bd,rfl,⟨v2.symm.trans E.o.1,v3.symm.trans O.o.1⟩,⟨BH q6 (by omega),BH q8 (by omega),BH q9 (by omega)⟩,he,⟨E.o.2.1,O.o.2.1⟩,⟨a0.o.2.2.1,a0.o.1,a0.o.2.1,by have:=bv.o;have:=ca.o;omega⟩,au.o,
   ((bn.o.trans (ai.of_below (p:=fun _=>False) a1) (fun _ _ e=>e) (fun _ _ e=>e.elim)).trans hT (r:=fun b=>b=I\/b=J) (fun b F e=>by
    rcases e with e|e|e
    ·exact oE e
    ·exact oS e
    omega) (fun b F e=>by omega))⟩
 obtain⟨p0,p1,p2,p3⟩:=bx.o U (ae _ _);go_upto_region 4 with fail
 go_region_held3 (fun w'=>w'.cell? (tD T.heap.size 0)=some (.slice a3 ms.length a4)/\w'.cell? (tD T.heap.size 1)=some (.slice a5 ps.length a7)/\w'.cell? (tD (T.heap.size+1) 0)=some (.slice aa ns.length ab)/\w'.cell? (tD (T.heap.size+1) 1)=some (.slice ad M.length ak))
  (first|with_reducible exact⟨p0,p1,p2,p3⟩|with_reducible exact ct.o _ _ _ _ a1|(with_reducible refine bx.o _ ?_;repeat' first|with_reducible exact ae _ _|with_reducible exact c1|with_reducible exact cf|with_reducible exact cg|with_reducible exact a1|with_reducible refine aB ?_ _|with_reducible refine Below.drew ?_))
  (first
   |(go_at_call 42;refine(c3.o _ (by repeat' first|with_reducible exact ae _ _|with_reducible refine aB ?_ _|with_reducible refine Below.drew ?_)).mono ?_;rintro e w6 ⟨v6,rfl,b2,dk,c1,cx⟩;obtain⟨a6,c6,rfl⟩:=ax b2)
   |(go_at_call 44;refine(c5.o _ _ (by repeat' first|with_reducible exact c1|with_reducible refine aB ?_ _|with_reducible refine Below.drew ?_) (by first|exact ay _ _|exact cx _ _ (ay _ _))).mono ?_;rintro e w7 ⟨v7,rfl,b6,b1,cf,c0⟩)
   |(go_at_call 43;refine(c4.o _ _ _ cf c0 b6).mono ?_;rintro e w8 ⟨v8,rfl,b3,aq,cg⟩;obtain⟨a8,c8,rfl⟩:=ax b3)
   |(go_at_call 45;refine(c7.o _ cg).mono ?_;rintro e w9 ⟨v9,rfl,b4,av,a1⟩;obtain⟨a9,c9,rfl⟩:=ax b4;obtain⟨⟨z0,f0⟩,⟨z1,f1⟩,⟨z2,f2⟩⟩:=fd3 (HZ.o w9 a1)))
 all_goals go_wp2
 all_goals refine aI (bG results27 _ _ w.heap.size 34 _ (0,0) _ rfl (xM (HZ.o w9 a1) _ _ _) underlying34 rfl (by kernel_rfl)) rfl ?_
 all_goals first
  |exact bm.o _ _ w6 w7 w8 w9 _ _ _ _ a1 (by first|exact af _|simp) b2 (fun b F=>b1.block b F) (af _) c0 b1.size b6 b3 aq b4 av
  |exact bm.o _ _ w6 w7 w8 w9 _ _ _ _ a1 (by first|exact af _|simp) b2 (fun b F=>(b1.block b (by simp;omega)).trans (aG _ _ _ F)) (by simp) c1.size (aO (by simp) b1.size) b6 b3 aq b4 av
