import Derived.Test.YtkfobfbiblgohaaGreatDoorKPNC
import Derived.Test.YtkfobfbiblgohaaGreatDoorKPFB
import Derived.Test.YtkfobfbiblgohaaGreatDoorKPNB
set_option linter.all false
open Go.Proofs.Tryz
set_option maxRecDepth 100000
set_option maxHeartbeats 9000000
namespace Go.Proofs.YtkfobfbiblgohaaGreatDoor
open Go.RowKit
namespace Pn
open Mf Ed
variable{A:Nat->Prop}{S:Nat->Shf}{w w':zW}{G J I mb now:Nat}{cap:Int}{cs:List Int}{D Q:List Kp}{L:List (zV×zV)}
theorem vo(w:zW)(E o2:Obj):zB w ((w.alloc E).alloc o2)/\((w.alloc E).alloc o2).heap[w.heap.size]?=some E/\((w.alloc E).alloc o2).heap[w.heap.size+1]?=some o2:=by
 have F:zB w (w.alloc E):=(ae _ _).alloc (ah _) _;have s1:(w.alloc E).heap.size=w.heap.size+1:=by simp
 refine⟨F.alloc F.size o2,?_,?_⟩
 ·rw[aH _ _ _ (by omega)];exact aA _ _
 ·rw[<-s1];exact aA _ _
theorem Ck{w:zW}{base E size n:Nat}{e:TypeId}{v:zV}{xs:List zV}(h:w.ownsRow base e size v n xs)(M:E<=base):w.ownsRow E e size v n xs:=
 ⟨h.1,h.2.elim oE (fun⟨g,cap,F,T,O,r⟩=>oS ⟨g,cap,F,T,aN M O,r⟩)⟩
def G3(A:Nat->Prop)(S:Nat->Shf)(w:zW)(G J I mb now:Nat)(cap:Int)(cs:List Int)(D:List Kp)(L:List (zV×zV))(e:Ending)(w':zW):Prop:=
 ∃v1 v2 U ms ps M O Y k3 V T E F,e=.returned (.agg #[v1,v2,U])/\(val (S now) ⟨3,e0,e0⟩=.list ms ps/\val (S now) ⟨4,e0,e0⟩=.ord M O)/\
  (w'.ownsRow w.heap.size 70 2 v1 ms.length (mcs ms)/\w'.ownsRow w.heap.size 95 3 v2 (once (ps++O)).length ((once (ps++O)).flatMap aW)/\w'.ownsRow w.heap.size 9 1 U M.length (M.flatMap gf))/\
  Eng A S w' G J I mb now cap (counted cs (E++F)) T L/\Two (S now) now D Y k3 V T E F/\
  (ms.length<=100000/\ps.length<=1000000/\M.length<=100000/\O.length<=100000)/\ai (fun b=>b=G\/b=I) w w'
theorem yS(hF:eG S G J I mb now cap L 3)(hD:D.length<=1000000000000)(hc:cap<=9223372036854775807)(Ey:∀k2 k3 D2 D3 W2 W3,Two (S now) now D k2 k3 D2 D3 W2 W3->(D3.length:Int)<=cap)(w:zW)(h:Eng A S w G J I mb now cap cs D L):
  zC 30 #[zP G] w fun e w'=>G3 A S w G J I mb now cap cs D L e w':=by
 have HE:Hid (Eng A S w G J I mb now cap cs D L):=h;have HF:Hid (eG S G J I mb now cap L 3):=hF;have cx:Hid (∀k2 k3 D2 D3 W2 W3,Two (S now) now D k2 k3 D2 D3 W2 W3->(D3.length:Int)<=cap):=Ey;have hq:=vo w (.cells #[zN,zN,zN] 37) (.cells #[zP G,zN] 84)
 have HP:Hid (∀b,b=w.heap.size\/b=w.heap.size+1->w.heap.size<=b/\b<((w.alloc (.cells #[zN,zN,zN] 37)).alloc (.cells #[zP G,zN] 84)).heap.size):=fun b e=>by
  simp;omega
 have cb:=h.wide hq.1 (fun b=>b=w.heap.size\/b=w.heap.size+1) HP.out;have HQ:Hid _:=hq;clear hq;have c0:=fd2 HQ.out.2.2
 have cc:Tsk (fun b=>A b\/(b=w.heap.size\/b=w.heap.size+1)) S ((w.alloc (.cells #[zN,zN,zN] 37)).alloc (.cells #[zP G,zN] 84)) w.heap.size (w.heap.size+1) G J I mb now cap cs D L (zN) []:=
  ⟨cb,⟨c0.1,c0.2,eC ..,by simp[Value.ownBlock],by omega⟩,fun b e=>by
   rcases e with e|e
   ·exact oS (oS e)
   ·simp[Value.ownBlock] at e,⟨h.hA _ h.desk.hd,h.hA _ h.desk.hf,h.hA _ h.ns.1,h.hA _ h.ns.2,by have:=h.hA _ h.desk.hd;omega⟩,HQ.out.1.size⟩
 have kl:=DZ hF (by decide) (by simp only[grow,N15];omega) _ cc (by show 0<=_;omega);clear h cb c0 cc hF Ey;go_enter func30,ntmps30
 go_wp2_with (go_at_call 48;fail)
 generalize (w.alloc (.cells #[zN,zN,zN] 37)).alloc (.cells #[zP G,zN] 84)=W1 at*;go_at_call 48;refine kl.mono ?_;rintro e w2 ⟨A2,ct,ms,ps,la,lb,k2,D2,b4,rfl,cm,ch,bc⟩;have ca:Hid (RdA A2 Sm.mc w2 la ms/\RdA A2 aW w2 lb ps):=cm;have E:Hid (k2.f=.list ms ps/\gR (fun b=>A b\/(b=w.heap.size\/b=w.heap.size+1)) S W1 w.heap.size (w.heap.size+1) G J I mb now cap cs D L (zN) [] 3 ⟨3,e0,e0⟩ w2 A2 ct k2 D2 b4):=⟨ch,bc⟩;have da:Hid (D2.length<=D.length+grow 3):=kJ _ _ 3 _ _ _ _ _ bc.1;have ko:=Jo HF.out (by decide) (by have:=da.out;simp only[grow,N15] at*;omega) w2 bc.2.1 (by show 1<=_;omega);clear kl cm ch bc
 go_wp2_with (go_at_call 49;fail)
 go_at_call 49;refine ko.mono ?_;rintro e T ⟨A3,dp,ns,O,oa,ob,k3,D3,b9,rfl,cp,ck,b5⟩
 have bm:Hid (ai A3 w2 T):=b5.2.2.1.mono (fun b _ e=>b5.2.2.2.1 b (by
  rcases e with e|e|e|e
  ·rw[e];exact E.out.2.2.1.eng.desk.hd
  ·rw[e];exact E.out.2.2.1.eng.desk.hf
  ·exact E.out.2.2.1.pr b (oE e)
  ·exact E.out.2.2.1.pr b (oS e)))
 have b7:∀b,b<w2.heap.size->A3 b->A2 b:=fun b F e=>by
  rcases b5.2.2.2.2.1 b e with e|e
  ·exact e
  ·omega
 have ak:Hid ((RdA A3 Sm.mc T la ms/\RdA A3 aW T lb ps)/\RdA A3 gf T oa ns/\RdA A3 aW T ob O):=
  ⟨⟨(ca.out.1.more b7).turn bm.out,(ca.out.2.more b7).turn bm.out⟩,cp⟩
 clear b7;have M:Hid (k3.f=.ord ns O/\gR A2 S w2 w.heap.size (w.heap.size+1) G J I mb now cap (counted cs b4) D2 L ct ([]++[.ask ⟨3,e0,e0⟩]) 3 ⟨4,e0,e0⟩ T A3 dp k3 D3 b9):=⟨ck,b5⟩;clear ko cp ck b5;obtain⟨a1,a3,rfl⟩:=ak.out.1.1.len;obtain⟨a4,a5,rfl⟩:=ak.out.1.2.len;obtain⟨a7,aa,rfl⟩:=ak.out.2.1.len;obtain⟨ab,ad,rfl⟩:=ak.out.2.2.len;have V:Hid _:=vo T (.cells #[.slice a1 ms.length a3,.slice a4 ps.length a5] 86) (.cells #[.slice a7 ns.length aa,.slice ab O.length ad] 89);have c5:Hid (Eng A3 S ((T.alloc (.cells #[.slice a1 ms.length a3,.slice a4 ps.length a5] 86)).alloc (.cells #[.slice a7 ns.length aa,.slice ab O.length ad] 89)) G J I mb now cap (counted (counted cs b4) b9) D3 L):=M.out.2.2.1.eng.below V.out.1;have ks:=FW _ c5.out.desk (cx.out _ _ _ _ _ _ ⟨E.out.2.1,M.out.2.1⟩) hc
 go_wp2_with (go_at_call 50;fail)
 generalize (T.alloc (.cells #[.slice a1 ms.length a3,.slice a4 ps.length a5] 86)).alloc (.cells #[.slice a7 ns.length aa,.slice ab O.length ad] 89)=W4 at*;go_at_call 50;refine ks.mono ?_;rintro e U ⟨rfl,bd⟩;have bt:Hid (Eng A3 S U G J I mb now cap (counted (counted cs b4) b9) D3 L):=c5.out.below bd;have az:Hid (ai (fun b=>b=I) W4 U):=ai.of_below bd;have av:Hid (ai A3 W4 U):=ai.of_below bd;clear ks bd
 have b8:Hid (∀W,zB U W->(RdA A3 Sm.mc W (.slice a1 ms.length a3) ms/\RdA A3 aW W (.slice a4 ps.length a5) ps)/\RdA A3 gf W (.slice a7 ns.length aa) ns/\RdA A3 aW W (.slice ab O.length ad) O):=fun W F=>
  ⟨⟨((ak.out.1.1.below V.out.1).turn av.out).below F,((ak.out.1.2.below V.out.1).turn av.out).below F⟩,((ak.out.2.1.below V.out.1).turn av.out).below F,((ak.out.2.2.below V.out.1).turn av.out).below F⟩
 have bu:Hid (∀W,zB U W->W.cell? (tD T.heap.size 0)=some (.slice a1 ms.length a3)/\W.cell? (tD T.heap.size 1)=some (.slice a4 ps.length a5)/\W.cell? (tD (T.heap.size+1) 0)=some (.slice a7 ns.length aa)/\W.cell? (tD (T.heap.size+1) 1)=some (.slice ab O.length ad)):=fun W F=>by
  have dj:=M.out.2.2.1.eng.hA _ M.out.2.2.1.eng.desk.hf;have g0:=af V.out.2.1;have g1:=af V.out.2.2;have hs:=az.out.size;have h0:=(F.block T.heap.size (by omega)).trans ((az.out.block T.heap.size g0 (by omega)).trans V.out.2.1);have h1:=(F.block (T.heap.size+1) (by omega)).trans ((az.out.block (T.heap.size+1) g1 (by omega)).trans V.out.2.2);exact⟨(fd2 h0).1.1,(fd2 h0).2.1,(fd2 h1).1.1,(fd2 h1).2.1⟩
 have aq:Hid (ms.length<=100000/\ps.length<=1000000/\ns.length<=100000/\O.length<=100000):=by
  have h2:=(kN HE.out.inv E.out.2.1 (by decide) (by decide) E.out.2.2.1.eng.ok).2.s;have h3:=(kN E.out.2.2.1.eng.inv M.out.2.1 (by decide) (by decide) M.out.2.2.1.eng.ok).2.s;rw[E.out.1] at h2;rw[M.out.1] at h3;exact⟨h2.1,h2.2,h3.1,h3.2⟩
 have bn:Hid (∀W,zB U W->zC 51 #[.slice a1 ms.length a3] W fun e w'=>∃Y,e=.returned Y/\w'.ownsRow W.heap.size 70 2 Y ms.length (mcs ms)/\zB W w'):=fun W F=>zJ _ ms W (b8.out W F).1.1 (by have:=aq.out.1;omega)
 have bs:Hid (∀W,zB U W->zC 54 #[.slice a7 ns.length aa] W fun e w'=>∃Y,e=.returned Y/\w'.ownsRow W.heap.size 9 1 Y ns.length (ns.flatMap gf)/\zB W w'):=fun W F=>qI _ ns W (b8.out W F).2.1 (by have:=aq.out.2.2.1;omega)
 have bq:Hid (∀W bb,zB U W->W.heap[bb]?=some (.cells #[.slice a4 ps.length a5,.slice ab O.length ad] 34)->zC 53 #[.slice (some (tD bb 0)) 2 2] W fun e w'=>∃v,e=.returned v/\w'.ownsRow W.heap.size 95 3 v (ps++O).length ((ps++O).flatMap aW)/\zB W w'):=fun W bb F h=>FX bb _ _ ps O W h (b8.out W F).1.2 (b8.out W F).2.2 ⟨aq.out.2.1,by have:=aq.out.2.2.2;omega⟩
 have bp:Hid (∀W B v,zB U W->U.heap.size<=B->W.ownsRow B 95 3 v (ps++O).length ((ps++O).flatMap aW)->zC 52 #[v] W fun e w'=>∃Y,e=.returned Y/\w'.ownsRow B 95 3 Y (once (ps++O)).length ((once (ps++O)).flatMap aW)/\ai (fun b=>v.ownBlock=some b) W w'):=fun W B v F hB ho=>Cj B v (ps++O) W (bt.out.ml.below F) (by have:=bt.out.ml.pos;omega) ho (by have h1:=aq.out.2.1;have h2:=aq.out.2.2.2;rw[aU];omega)
 have HZ:Hid (∀W,zB U W->W.heap[w.heap.size]?=some (.cells #[zN,zN,zN] 37)):=fun W F=>by
  have dj:=HE.out.hA _ HE.out.desk.hf;have fb:=HE.out.hA _ HE.out.desk.hd;have g0:=af HQ.out.2.1
  have h2:=E.out.2.2.2.1.block w.heap.size g0 (fun e=>by
   rcases e with e|e|e|e
   ·omega
   ·omega
   ·omega
   ·simp[Value.ownBlock] at e)
  have s2:=E.out.2.2.2.1.size
  have h3:=M.out.2.2.2.1.block w.heap.size (by omega) (fun e=>by
   rcases e with e|e|e|e
   ·omega
   ·omega
   ·omega
   ·rcases E.out.2.2.2.2.2.2 _ e with e|e
    ·simp[Value.ownBlock] at e
    ·omega)
  have s3:=M.out.2.2.2.1.size;have h4:=V.out.1.block w.heap.size (by omega);have s4:=V.out.1.size;have h5:=az.out.block w.heap.size (by omega) (by omega);have s5:=az.out.size;exact(F.block w.heap.size (by omega)).trans (h5.trans (h4.trans (h3.trans (h2.trans HQ.out.2.1))))
 have c1:Hid (∀W,zB U W->zC 51 #[.slice a1 ms.length a3] W fun e w'=>∃Y,e=.returned Y/\w'.ownsRow W.heap.size 70 2 Y ms.length (mcs ms)/\zB W w'/\zB U w'/\(∀bb o,W.heap[bb]?=some o->w'.heap[bb]?=some o)):=fun W F=>(bn.out W F).mono (fun e w' ⟨Y,g1,g2,g3⟩=>⟨Y,g1,g2,g3,F.trans (g3.mono F.size),fun bb o ho=>(g3.block bb (af ho)).trans ho⟩)
 have c3:Hid (∀W bb,zB U W->W.heap[bb]?=some (.cells #[.slice a4 ps.length a5,.slice ab O.length ad] 34)->zC 53 #[.slice (some (tD bb 0)) 2 2] W fun e w'=>∃v,e=.returned v/\w'.ownsRow W.heap.size 95 3 v (ps++O).length ((ps++O).flatMap aW)/\zB W w'/\zB U w'/\U.heap.size<=W.heap.size):=fun W bb F h=>(bq.out W bb F h).mono (fun e w' ⟨Y,g1,g2,g3⟩=>⟨Y,g1,g2,g3,F.trans (g3.mono F.size),F.size⟩)
 have c2:Hid (∀W B v,zB U W->U.heap.size<=B->W.ownsRow B 95 3 v (ps++O).length ((ps++O).flatMap aW)->zC 52 #[v] W fun e w'=>∃Y,e=.returned Y/\w'.ownsRow B 95 3 Y (once (ps++O)).length ((once (ps++O)).flatMap aW)/\ai (fun b=>v.ownBlock=some b) W w'/\zB U w'):=fun W B v F hB ho=>(bp.out W B v F hB ho).mono (fun e w' ⟨Y,g1,g2,g3⟩=>⟨Y,g1,g2,g3,bw F g3 (fun b e=>aN hB (ho.lt b e).1)⟩)
 have c4:Hid (∀W,zB U W->zC 54 #[.slice a7 ns.length aa] W fun e w'=>∃Y,e=.returned Y/\w'.ownsRow W.heap.size 9 1 Y ns.length (ns.flatMap gf)/\zB W w'/\zB U w'):=fun W F=>(bs.out W F).mono (fun e w' ⟨Y,g1,g2,g3⟩=>⟨Y,g1,g2,g3,F.trans (g3.mono F.size)⟩)
 clear bn bp bq bs
 have db:Hid (∀W u0 u1 u2,zB U W->(((W.setCell (tD w.heap.size 0) u0).setCell (tD w.heap.size 1) u1).setCell (tD w.heap.size 2) u2).cell? (tD T.heap.size 0)=some (.slice a1 ms.length a3)/\(((W.setCell (tD w.heap.size 0) u0).setCell (tD w.heap.size 1) u1).setCell (tD w.heap.size 2) u2).cell? (tD T.heap.size 1)=some (.slice a4 ps.length a5)/\(((W.setCell (tD w.heap.size 0) u0).setCell (tD w.heap.size 1) u1).setCell (tD w.heap.size 2) u2).cell? (tD (T.heap.size+1) 0)=some (.slice a7 ns.length aa)/\(((W.setCell (tD w.heap.size 0) u0).setCell (tD w.heap.size 1) u1).setCell (tD w.heap.size 2) u2).cell? (tD (T.heap.size+1) 1)=some (.slice ab O.length ad)):=fun W u0 u1 u2 F=>by
  have g0:=af HQ.out.2.1;have s2:=E.out.2.2.2.1.size;have s3:=M.out.2.2.2.1.size
  have hn:∀z,z≠w.heap.size->(((W.setCell (tD w.heap.size 0) u0).setCell (tD w.heap.size 1) u1).setCell (tD w.heap.size 2) u2).heap[z]?=W.heap[z]?:=fun z hz=>by
   rw[aL _ _ _ _ hz,aL _ _ _ _ hz,aL _ _ _ _ hz]
  obtain⟨g0,g1,g2,g3⟩:=bu.out W F;have n0:=hn T.heap.size (by omega);have n1:=hn (T.heap.size+1) (by omega);exact⟨(bg n0).trans g0,(bg n0).trans g1,(bg n1).trans g2,(bg n1).trans g3⟩
 have bk:Hid (ai (fun b=>b=G\/b=I\/b=w.heap.size) w U):=by
  have t1:ai (fun b=>b=G\/b=I\/b=w.heap.size) w w2:=(ai.of_below (p:=fun _=>False) HQ.out.1).trans E.out.2.2.2.1 (fun _ _ e=>e.elim) (fun b F e=>by
   rcases e with e|e|e|e
   ·exact oE e
   ·exact oS (oE e)
   ·omega
   ·simp[Value.ownBlock] at e)
  have t2:ai (fun b=>b=G\/b=I\/b=w.heap.size) w T:=t1.trans M.out.2.2.2.1 (fun _ _ e=>e) (fun b F e=>by
   have hs:=HQ.out.1.size;rcases e with e|e|e|e
   ·exact oE e
   ·exact oS (oE e)
   ·omega
   ·rcases E.out.2.2.2.2.2.2 _ e with e|e
    ·simp[Value.ownBlock] at e
    ·omega)
  exact(t2.trans (ai.of_below (p:=fun _=>False) V.out.1) (fun _ _ e=>e) (fun _ _ e=>e.elim)).trans az.out (fun _ _ e=>e) (fun b _ e=>oS (oE e))
 have bi:Hid (∀(B6 B7:Nat)(w6 w7 w8 w9:zW)(v6 v7 v8 v9:zV),zB U w9->U.heap.size<=B6->w6.ownsRow B6 70 2 v6 ms.length (mcs ms)->(∀b,b<w6.heap.size->w7.heap[b]?=w6.heap[b]?)->w6.heap.size<=B7->U.heap.size<=w6.heap.size->w6.heap.size<=w7.heap.size->w7.ownsRow B7 95 3 v7 (ps++O).length ((ps++O).flatMap aW)->
   w8.ownsRow B7 95 3 v8 (once (ps++O)).length ((once (ps++O)).flatMap aW)->ai (fun b=>v7.ownBlock=some b) w7 w8->w9.ownsRow w8.heap.size 9 1 v9 ns.length (ns.flatMap gf)->zB w8 w9->
   G3 A S w G J I mb now cap cs D L (.returned (.agg #[v6,v8,v9])) (((w9.setCell (tD w.heap.size 0) v6).setCell (tD w.heap.size 1) v8).setCell (tD w.heap.size 2) v9)):=fun B6 B7 w6 w7 w8 w9 v6 v7 v8 v9 a0 du b1 b0 bv dq ds b6 b2 an b3 au=>by
  have g0:=af HQ.out.2.1;have s2:=E.out.2.2.2.1.size;have fd:=bk.out.size;have h5:=af (HZ.out U (ae _ _));have hT:ai (fun b=>b=w.heap.size) w9 (((w9.setCell (tD w.heap.size 0) v6).setCell (tD w.heap.size 1) v8).setCell (tD w.heap.size 2) v9):=(((ai.refl (fun b=>b=w.heap.size) w9).set (a:=(tD w.heap.size 0)) (fun _=>rfl) _).set (a:=(tD w.heap.size 1)) (fun _=>rfl) _).set (a:=(tD w.heap.size 2)) (fun _=>rfl) _
  have q6:=ar (w':=((w9.setCell (tD w.heap.size 0) v6).setCell (tD w.heap.size 1) v8).setCell (tD w.heap.size 2) v9) b1 (fun b e=>by
   have hl:=b1.lt b e;have n8:=an.block b (by omega) (fun e2=>by have:=(b6.lt b e2).1;omega);have n9:=au.block b (by have:=an.size;omega);exact(hT.block b (by have:=an.size;have:=au.size;omega) (by omega)).trans (n9.trans (n8.trans (b0 b hl.2))))
  have q8:=ar (w':=((w9.setCell (tD w.heap.size 0) v6).setCell (tD w.heap.size 1) v8).setCell (tD w.heap.size 2) v9) b2 (fun b e=>by
   have hl:=b2.lt b e;exact(hT.block b (by have:=au.size;omega) (by omega)).trans (au.block b hl.2))
  have q9:=ar (w':=((w9.setCell (tD w.heap.size 0) v6).setCell (tD w.heap.size 1) v8).setCell (tD w.heap.size 2) v9) b3 (fun b e=>by
   have hl:=b3.lt b e;exact hT.block b hl.2 (by have:=an.size;omega))
  have Vd:=an.size;have a2:∀b,(A b\/b=w.heap.size\/b=w.heap.size+1)->A3 b:=fun b e=>M.out.2.2.2.2.1 b (E.out.2.2.2.2.1 b e)
  have bf:∀b,A b->b<w.heap.size:=HE.out.hA;have l1:=bf _ HE.out.desk.hd;have l2:=bf _ HE.out.desk.hf;have l3:=bf _ HE.out.ns.1;have l4:=bf _ HE.out.ns.2;have he:=((bt.out.below a0).turn hT (fun b _ e=>a2 b (oS (oE e))) ⟨by omega,by omega,by omega,by omega,by omega⟩).less (fun b e=>a2 b (oE e)) ⟨HE.out.desk.hd,HE.out.desk.hf,HE.out.ns.1,HE.out.ns.2⟩;rw[fJ] at he;have v2:=(kN HE.out.inv E.out.2.1 (by decide) (by decide) E.out.2.2.1.eng.ok).1;have v3:=(kN E.out.2.2.1.eng.inv M.out.2.1 (by decide) (by decide) M.out.2.2.1.eng.ok).1
  exact⟨v6,v8,v9,ms,ps,ns,O,k2,k3,D2,D3,b4,b9,rfl,⟨v2.symm.trans E.out.1,v3.symm.trans M.out.1⟩,⟨Ck q6 (by omega),Ck q8 (by omega),Ck q9 (by omega)⟩,he,⟨E.out.2.1,M.out.2.1⟩,aq.out,
   ((bk.out.trans (ai.of_below (p:=fun _=>False) a0) (fun _ _ e=>e) (fun _ _ e=>e.elim)).trans hT (r:=fun b=>b=G\/b=I) (fun b F e=>by
    rcases e with e|e|e
    ·exact oE e
    ·exact oS e
    ·omega) (fun b F e=>by omega))⟩
 obtain⟨p0,p1,p2,p3⟩:=bu.out U (ae _ _);go_upto_region 4 with fail
 go_region_held3 (fun w'=>w'.cell? (tD T.heap.size 0)=some (.slice a1 ms.length a3)/\w'.cell? (tD T.heap.size 1)=some (.slice a4 ps.length a5)/\w'.cell? (tD (T.heap.size+1) 0)=some (.slice a7 ns.length aa)/\w'.cell? (tD (T.heap.size+1) 1)=some (.slice ab O.length ad))
  (first|with_reducible exact⟨p0,p1,p2,p3⟩|with_reducible exact db.out _ _ _ _ a0|(with_reducible refine bu.out _ ?_;repeat' first|with_reducible exact ae _ _|with_reducible exact bx|with_reducible exact cd|with_reducible exact cf|with_reducible exact a0|with_reducible refine ax ?_ _|with_reducible refine Below.drew ?_))
  (first
   |(go_at_call 51;refine(c1.out _ (by repeat' first|with_reducible exact ae _ _|with_reducible refine ax ?_ _|with_reducible refine Below.drew ?_)).mono ?_;rintro e w6 ⟨v6,rfl,b1,fa,bx,dk⟩;obtain⟨a6,c6,rfl⟩:=aC b1)
   |(go_at_call 53;refine(c3.out _ _ (by repeat' first|with_reducible exact bx|with_reducible refine ax ?_ _|with_reducible refine Below.drew ?_) (by first|exact aA _ _|exact dk _ _ (aA _ _))).mono ?_;rintro e w7 ⟨v7,rfl,b6,b0,cd,bv⟩)
   |(go_at_call 52;refine(c2.out _ _ _ cd bv b6).mono ?_;rintro e w8 ⟨v8,rfl,b2,an,cf⟩;obtain⟨a8,c8,rfl⟩:=aC b2)
   |(go_at_call 54;refine(c4.out _ cf).mono ?_;rintro e w9 ⟨v9,rfl,b3,au,a0⟩;obtain⟨a9,c9,rfl⟩:=aC b3;obtain⟨⟨z0,f0⟩,⟨z1,f1⟩,⟨z2,f2⟩⟩:=fd3 (HZ.out w9 a0)))
 all_goals go_wp2
 all_goals refine aI (bG results30 _ _ w.heap.size 37 _ (0,0) _ rfl (yy (HZ.out w9 a0) _ _ _) underlying37 rfl (by kernel_rfl)) rfl ?_
 all_goals first
  |exact bi.out _ _ w6 w7 w8 w9 _ _ _ _ a0 (by first|exact ah _|simp) b1 (fun b F=>b0.block b F) (ah _) bv b0.size b6 b2 an b3 au
  |exact bi.out _ _ w6 w7 w8 w9 _ _ _ _ a0 (by first|exact ah _|simp) b1 (fun b F=>(b0.block b (by simp;omega)).trans (aH _ _ _ F)) (by simp) bx.size (aN (by simp) b0.size) b6 b2 an b3 au
