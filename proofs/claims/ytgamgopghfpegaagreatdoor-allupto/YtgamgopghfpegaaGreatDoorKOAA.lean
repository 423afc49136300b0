import Derived.Test.YtgamgopghfpegaaGreatDoorKPNB
set_option linter.all false
open Go.Proofs.Tryz
set_option maxRecDepth 100000
set_option maxHeartbeats 4000000
namespace Go.Proofs.YtgamgopghfpegaaGreatDoor
open Go.RowKit
namespace Pn
open Mf Ed
variable{A:Nat→Prop}{S:Nat→Shf}{w w':zW}{Q U fb mb G:Nat}{cap:Int}{V:List Int}{D E:List Kp}{L:List (zV×zV)}
theorem nH(w:zW)M o2:Below w w ((w.alloc M).alloc o2)∧((w.alloc M).alloc o2).heap[w.heap.size]?=M∧((w.alloc M).alloc o2).heap[w.heap.size+1]?=o2:=by
 have b1:zB w (w.alloc M):=(af _ _).alloc (ai _) _;have s1:(w.alloc M)=w.heap.size+1:=ah;refine⟨b1.alloc b1.size o2,?_,?_⟩
 ·rw[aO _ _ _ ae];exact aI _ _
 ·rw[←s1];exact aI _ _
theorem CF{w:zW}{base M size n}{e}{v}{xs}(h:w.ownsRow base e size v n xs)(hb:M≤base):w.ownsRow M e size v n xs:=
 ⟨h.1,h.2.elim Or.inl (fun⟨g,cap,a0,hv,hg,r⟩=>Or.inr ⟨g,cap,a0,hv,aP hb hg,r⟩)⟩
def Ih(A:Nat→Prop)(S:Nat→Shf)(w:zW)(Q U fb mb G:Nat)(cap:Int)(V:List Int)(D:List Kp)(L:List (zV×zV))(e:Ending)(w':zW):Prop:=
 ∃m v1 v2 v3 I ps ns qs k2 k3 D2 M D5 a0 a1,w.heap.size≤m∧e=.returned (.agg #[v1,v2,v3])∧(val (S G) ⟨3,e0,e0⟩=.list I ps∧val (S G) ⟨4,e0,e0⟩=.ord ns qs)∧
  (w'.ownsRow m 68 2 v1 I.length (mcs I)∧w'.ownsRow m 72 3 v2 (once (ps++qs)).length ((once (ps++qs)).flatMap aZ)∧w'.ownsRow m 9 1 v3 ns.length (ns.flatMap dU))∧
  Eng (fun b=>A b∨(m≤b∧b<w'.heap.size)) S w' Q U fb mb G cap (counted V (a0++a1)) D5 L∧(fnd (S G) G 3 D ⟨3,e0,e0⟩ k2 D2 a0∧fnd (S G) G 3 D2 ⟨4,e0,e0⟩ k3 M a1)∧
  (D5.Sublist M∧(D5.length:Int)≤cap∧((M.length:Int)≤cap→D5=M)∧M.length≤D.length+1948378)∧
  (I.length≤100000∧ps.length≤1000000∧ns.length≤100000∧qs.length≤100000)∧aj (fun b=>b=Q∨b=fb) w w'
theorem yG(hF:fG S Q U fb mb G cap L 3)(hD:D.length≤1000000000000)(hc:0≤cap∧cap≤9223372036854775807)w(h:Eng A S w Q U fb mb G cap V D L):
  zC 61 #[.pointer (some (Q,0))] w fun e w'=>Ih A S w Q U fb mb G cap V D L e w':=by
 have HE:=zH h;have HF:=zH hF;have hq:=nH w (.cells #[zN,zN,zN] 59) (.cells #[.pointer (some (Q,0)),zN] 147)
 have HP:Hid (∀b,b=w.heap.size∨b=w+1→w≤b∧b<((w.alloc (.cells #[zN,zN,zN] 59)).alloc (.cells #[.pointer (some (Q,0)),zN] 147))):=fun b e=>by
  simp;omega
 have cj:=h.wide hq.1 _ HP.out;have HQ:=zH hq;clear hq;have c7:=fd2 HQ.out.2.2
 have ck:Tsk _ S _ _ _ Q U fb mb G cap V D L _ []:=
  ⟨cj,⟨c7.1,c7.2,bP ..,by simp[Value.ownBlock],ae⟩,fun b e=>by
   rcases e with e|e
   ·omega
   ·simp[Value.ownBlock] at e,⟨h.hA _ h.desk.hd,h.hA _ h.desk.hf,h.hA _ h.ns.1,h.hA _ h.ns.2,by have:=h.hA _ h.desk.hd;omega⟩,HQ.out.1.size⟩
 have kl:=Eo hF aA (by simp only[grow,N15];omega) _ ck ah;clear h cj c7 ck hF;go_enter func61,ntmps61
 go_wp2_with (go_at_call 78;fail)
 generalize (w.alloc (.cells #[zN,zN,zN] 59)).alloc (.cells #[.pointer (some ⟨Q,0,none⟩),zN] 147)=W1 at*;go_at_call 78;refine kl.mono ?_;rintro e w2 ⟨A2,dv,I,ps,la,lb,k2,D2,da,rfl,ct,cq,bh⟩;have ch:=zH ct;have M:Hid (_∧_):=⟨cq,bh⟩;have c2:Hid (_≤_+489099):=vJ HE.out.inv aA aA bh.1;have ko:=iu HF.out aA (by have:=c2.out;simp only[grow,N15];omega) w2 bh.2.1 ah;clear kl ct cq bh
 go_wp2_with (go_at_call 79;fail)
 go_at_call 79;refine ko.mono ?_;rintro e w3 ⟨A3,fa,ns,qs,oa,ob,k3,D3,db,rfl,cv,cs,ak⟩;have cf:Hid (_≤_+1459279):=vJ M.out.2.2.1.eng.inv aA aA ak.1
 have bq:=zH (ak.2.2.1.mono (fun b _ e=>ak.2.2.2.1 b (by
  rcases e with e|e|e|e
  ·rw[e];exact M.out.2.2.1.eng.desk.hd
  ·rw[e];exact M.out.2.2.1.eng.desk.hf
  ·exact M.out.2.2.1.pr b (Or.inl e)
  ·exact M.out.2.2.1.pr b (Or.inr e))))
 have b2:∀b,b<w2.heap.size→A3 b→A2 b:=fun b hb e=>by
  rcases ak.2.2.2.2.1 b e with e|e
  ·exact e
  ·omega
 have a5:Hid ((_∧_)∧_):=
  ⟨⟨(ch.out.1.more b2).turn bq.out,(ch.out.2.more b2).turn bq.out⟩,cv⟩
 clear b2;have a0:Hid (_∧_):=⟨cs,ak⟩;clear ko cv cs ak;obtain⟨b3,b4,rfl⟩:=a5.out.1.1.len;obtain⟨b5,b6,rfl⟩:=a5.out.1.2.len;obtain⟨b7,b8,rfl⟩:=a5.out.2.1.len;obtain⟨b9,ba,rfl⟩:=a5.out.2.2.len;have a1:=zH (nH w3 (.cells #[.slice b3 I b4,.slice b5 ps b6] 149) (.cells #[.slice b7 ns b8,.slice b9 qs ba] 152));have bc:=zH (a0.out.2.2.1.eng.below a1.out.1);have ks:=GH _ bc.out.desk bc.out.ml (by have:=c2.out;have:=cf.out;omega) hc
 go_wp2_with (go_at_call 80;fail)
 generalize (w3.alloc (.cells #[.slice b3 I.length b4,.slice b5 ps.length b6] 149)).alloc (.cells #[.slice b7 ns.length b8,.slice b9 qs.length ba] 152)=W4 at*;go_at_call 80;refine ks.mono ?_;rintro e w5 ⟨rfl,D5,cp,b1,bk⟩;have c1:=zH (bc.out.shrunk cp b1.1 bk);have a3:Hid (_∧_∧_∧_):=⟨b1.2.1,b1.2.2,b1.1,bk⟩;have ad:Hid (aj A3 W4 w5):=bk.mono (fun b _ e=>by rw[e];exact bc.out.desk.hf);clear ks cp b1 bk
 have bd:Hid (∀W,zB w5 W→(_∧_)∧_∧_):=fun W hb=>
  ⟨⟨((a5.out.1.1.below a1.out.1).turn ad.out).below hb,((a5.out.1.2.below a1.out.1).turn ad.out).below hb⟩,((a5.out.2.1.below a1.out.1).turn ad.out).below hb,((a5.out.2.2.below a1.out.1).turn ad.out).below hb⟩
 have c3:Hid (∀W,zB w5 W→W.cell? (w3,0)=some (.slice b3 I b4)∧W.cell? (w3,1)=some (.slice b5 ps b6)∧W.cell? ⟨w3+1,0,none⟩=some (.slice b7 ns b8)∧W.cell? ⟨w3+1,1,none⟩=some (.slice b9 qs ba)):=fun W hb=>by
  have dc:=a0.out.2.2.1.eng.hA _ a0.out.2.2.1.eng.desk.hf;have g0:=ag a1.out.2.1;have g1:=ag a1.out.2.2;have hs:=a3.out.2.2.2.size;have h0:=(hb.block _ ae).trans ((a3.out.2.2.2.block _ g0 ae).trans a1.out.2.1);have h1:=(hb.block _ ae).trans ((a3.out.2.2.2.block _ g1 ae).trans a1.out.2.2);exact⟨(fd2 h0).1.1,(fd2 h0).2.1,(fd2 h1).1.1,(fd2 h1).2.1⟩
 have aa:Hid (I.length≤100000∧ps.length≤1000000∧ns.length≤100000∧qs.length≤100000):=by
  have h2:=(kJ HE.out.inv M.out.2.1 aA aA M.out.2.2.1.eng.ok).2.s;have h3:=(kJ M.out.2.2.1.eng.inv a0.out.2.1 aA aA a0.out.2.2.1.eng.ok).2.s;rw[M.out.1] at h2;rw[a0.out.1] at h3;exact⟨h2.1,h2.2,h3.1,h3.2⟩
 have bs:=zH (fun W hb=>zT _ I W (bd.out W hb).1.1 (by have:=aa.out.1;omega));have c0:=zH (fun W hb=>qA _ ns W (bd.out W hb).2.1 (by have:=aa.out.2.2.1;omega));have bv:=zH (fun W bb hb h=>GB bb _ _ ps qs W h (bd.out W hb).1.2 (bd.out W hb).2.2 ⟨aa.out.2.1,by have:=aa.out.2.2.2;omega⟩);have bt:Hid (∀W B v,_→w5.heap.size≤B→_):=fun W B v hb hB ho=>CC B v (ps++qs) W (c1.out.ml.below hb) (by have:=c1.out.ml.pos;omega) ho (by have h1:=aa.out.2.1;have h2:=aa.out.2.2.2;grind)
 have HZ:Hid (∀W,zB w5 W→W.heap[w.heap.size]?=some (.cells #[zN,zN,zN] 59)):=fun W hb=>by
  have dc:=HE.out.hA _ HE.out.desk.hf;have ds:=HE.out.hA _ HE.out.desk.hd;have g0:=ag HQ.out.2.1
  have h2:=M.out.2.2.2.1.block _ g0 (fun e=>by
   rcases e with e|e|e|e
   ·omega
   ·omega
   ·omega
   ·simp[Value.ownBlock] at e)
  have s2:=M.out.2.2.2.1.size
  have h3:=a0.out.2.2.2.1.block w ae (fun e=>by
   rcases e with e|e|e|e
   ·omega
   ·omega
   ·omega
   ·rcases M.out.2.2.2.2.2.2 _ e with e|e
    ·simp[Value.ownBlock] at e
    ·omega)
  have s3:=a0.out.2.2.2.1.size;have h4:=a1.out.1.block w ae;have s4:=a1.out.1.size;have h5:=a3.out.2.2.2.block w ae ae;have s5:=a3.out.2.2.2.size;exact(hb.block _ ae).trans (h5.trans (h4.trans (h3.trans (h2.trans HQ.out.2.1))))
 have ca:Hid (∀W,_→Calls _ 81 _ W fun e w'=>∃v',_∧_∧_∧_∧(∀bb o,_=some o→_)):=fun W hb=>(bs.out W hb).mono (fun e w' ⟨v',g1,g2,g3⟩=>⟨v',g1,g2,g3,hb.trans (g3.mono hb.size),fun bb o ho=>(g3.block bb (ag ho)).trans ho⟩)
 have cc:Hid (∀W bb,_→_→Calls _ 83 _ W fun e w'=>∃v,_∧_∧_∧_∧_):=fun W bb hb h=>(bv.out W bb hb h).mono (fun e w' ⟨v',g1,g2,g3⟩=>⟨v',g1,g2,g3,hb.trans (g3.mono hb.size),hb.size⟩)
 have cb:Hid (∀W B v,_→_→_→Calls _ 82 #[v] W fun e w'=>∃v',_∧_∧_∧_):=fun W B v hb hB ho=>(bt.out W B v hb hB ho).mono (fun e w' ⟨v',g1,g2,g3⟩=>⟨v',g1,g2,g3,bg hb g3 (fun b e=>aP hB (ho.lt b e).1)⟩)
 have cd:Hid (∀W,_→Calls _ 84 _ W fun e w'=>∃v',_∧_∧_∧_):=fun W hb=>(c0.out W hb).mono (fun e w' ⟨v',g1,g2,g3⟩=>⟨v',g1,g2,g3,hb.trans (g3.mono hb.size)⟩)
 clear bs bt bv c0
 have cx:Hid (∀W u0 u1 u2,zB w5 W→(((W.setCell (w,0) u0).setCell (w,1) u1).setCell ⟨w,2,none⟩ u2).cell? ⟨w3,0,none⟩=some (.slice b3 I b4)∧(((W.setCell ⟨w,0,none⟩ u0).setCell ⟨w,1,none⟩ u1).setCell ⟨w,2,none⟩ u2).cell? ⟨w3,1,none⟩=some (.slice b5 ps b6)∧(((W.setCell ⟨w,0,none⟩ u0).setCell ⟨w,1,none⟩ u1).setCell ⟨w,2,none⟩ u2).cell? ⟨w3+1,0,none⟩=some (.slice b7 ns b8)∧(((W.setCell ⟨w,0,none⟩ u0).setCell ⟨w,1,none⟩ u1).setCell ⟨w,2,none⟩ u2).cell? ⟨w3+1,1,none⟩=some (.slice b9 qs ba)):=fun W u0 u1 u2 hb=>by
  have g0:=ag HQ.out.2.1;have s2:=M.out.2.2.2.1.size;have s3:=a0.out.2.2.2.1.size
  have hn:∀z,z≠w.heap.size→(((W.setCell (w,0) u0).setCell (w,1) u1).setCell (w,2) u2).heap[z]?=W.heap[z]?:=fun z hz=>by
   rw[aM _ _ _ _ hz,aM _ _ _ _ hz,aM _ _ _ _ hz]
  obtain⟨g0,g1,g2,g3⟩:=c3.out W hb;have n0:=hn w3 ae;have n1:=hn (w3+1) ae;exact⟨(dW n0).trans g0,(dW n0).trans g1,(dW n1).trans g2,(dW n1).trans g3⟩
 have bn:Hid (aj (fun b=>b=Q∨b=fb∨b=w) w w5):=by
  have t1:aj (fun b=>b=Q∨b=fb∨b=w) w w2:=(aj.of_below (p:=fun _=>False) HQ.out.1).trans M.out.2.2.2.1 (fun _ _ e=>e.elim) (fun b hb e=>by
   rcases e with e|e|e|e
   ·exact Or.inl e
   ·exact Or.inr (Or.inl e)
   ·omega
   ·simp[Value.ownBlock] at e)
  have t2:=t1.trans a0.out.2.2.2.1 (fun _ _ e=>e) (fun b hb e=>by
   have hs:=HQ.out.1.size;rcases e with e|e|e|e
   ·exact Or.inl e
   ·exact Or.inr (Or.inl e)
   ·omega
   ·rcases M.out.2.2.2.2.2.2 _ e with e|e
    ·simp[Value.ownBlock] at e
    ·omega)
  exact(t2.trans (aj.of_below (p:=fun _=>False) a1.out.1) (fun _ _ e=>e) (fun _ _ e=>e.elim)).trans a3.out.2.2.2 (fun _ _ e=>e) (fun b _ e=>Or.inr (Or.inl e))
 have bm:Hid (∀(B6 B7:Nat)(w6 w7 w8 w9:zW)(v6 v7 v8 v9:zV),zB w5 w9→w5≤B6→w6.ownsRow B6 68 2 v6 I (mcs I)→(∀b,b<w6.heap.size→w7.heap[b]?=w6.heap[b]?)→w6≤B7→w5≤w6.heap.size→w6≤w7.heap.size→w7.ownsRow B7 72 3 v7 (ps++qs) ((ps++qs).flatMap aZ)→
   w8.ownsRow B7 72 3 v8 (once (ps++qs)) ((once (ps++qs)).flatMap aZ)→aj (fun b=>v7.ownBlock=some b) w7 w8→w9.ownsRow w8.heap.size 9 1 v9 ns.length (ns.flatMap dU)→zB w8 w9→
   Ih A S w Q U fb mb G cap V D L (.returned (.agg #[v6,v8,v9])) (((w9.setCell ⟨w,0,none⟩ v6).setCell ⟨w,1,none⟩ v8).setCell ⟨w,2,none⟩ v9)):=fun B6 B7 w6 w7 w8 w9 v6 v7 v8 v9 a4 dp aq an c4 dk dn b0 av a7 az ab=>by
  have g0:=ag HQ.out.2.1;have s2:=M.out.2.2.2.1.size;have du:=bn.out.size;have h5:=ag (HZ.out w5 (af _ _));have hT:aj _ w9 (((w9.setCell _ v6).setCell _ v8).setCell _ v9):=(((aj.refl (fun b=>b=w) w9).set (a:=(w,0)) (fun _=>rfl) _).set (a:=(w,1)) (fun _=>rfl) _).set (a:=⟨w,2,none⟩) (fun _=>rfl) _
  have q6:=ar (w':=((w9.setCell (w,0) v6).setCell (w,1) v8).setCell (w,2) v9) aq (fun b e=>by
   have hl:=aq.lt b e;have n8:=a7.block b ae (fun e2=>by have:=(b0.lt b e2).1;omega);have n9:=ab.block b (by have:=a7.size;omega);exact(hT.block b (by have:=a7.size;have:=ab.size;omega) ae).trans (n9.trans (n8.trans (an b hl.2))))
  have q8:=ar (w':=((w9.setCell (w,0) v6).setCell (w,1) v8).setCell (w,2) v9) av (fun b e=>by
   have hl:=av.lt b e;exact(hT.block b (by have:=ab.size;omega) ae).trans (ab.block b hl.2))
  have q9:=ar (w':=((w9.setCell (w,0) v6).setCell (w,1) v8).setCell (w,2) v9) az (fun b e=>by
   have hl:=az.lt b e;exact hT.block b hl.2 (by have:=a7.size;omega))
  have Xe:=a7.size;have a2:=fun b e=>a0.out.2.2.2.2.1 b (M.out.2.2.2.2.1 b e)
  have bi:=HE.out.hA;have l1:=bi _ HE.out.desk.hd;have l2:=bi _ HE.out.desk.hf;have l3:=bi _ HE.out.ns.1;have l4:=bi _ HE.out.ns.2;have sT:(((w9.setCell (w.heap.size,0) v6).setCell (w.heap.size,1) v8).setCell ⟨w.heap.size,2,none⟩ v9)=w9.heap.size:=ah;have he:=((c1.out.wide a4 _ (fun _ e=>e)).turn hT (fun b _ e=>Or.inl (a2 b (Or.inr (Or.inl e)))) ⟨ae,ae,ae,ae,ae⟩).less (A:=fun b=>A b∨(w5≤b∧b<(((w9.setCell (w.heap.size,0) v6).setCell (w.heap.size,1) v8).setCell (w.heap.size,2) v9))) (fun b e=>e.imp (fun e=>a2 b (Or.inl e)) (fun e=>⟨e.1,ae⟩)) ⟨Or.inl HE.out.desk.hd,Or.inl HE.out.desk.hf,Or.inl HE.out.ns.1,Or.inl HE.out.ns.2⟩;rw[fy] at he;have v2:=(kJ HE.out.inv M.out.2.1 aA aA M.out.2.2.1.eng.ok).1;have v3:=(kJ M.out.2.2.1.eng.inv a0.out.2.1 aA aA a0.out.2.2.1.eng.ok).1
  exact⟨_,v6,v8,v9,I,ps,ns,qs,k2,k3,D2,D3,D5,da,db,ae,rfl,⟨v2.symm.trans M.out.1,v3.symm.trans a0.out.1⟩,⟨CF q6 ae,CF q8 ae,CF q9 ae⟩,he,⟨M.out.2.1,a0.out.2.1⟩,⟨a3.out.2.2.1,a3.out.1,a3.out.2.1,by have:=c2.out;have:=cf.out;omega⟩,aa.out,
   ((bn.out.trans (aj.of_below (p:=fun _=>False) a4) (fun _ _ e=>e) (fun _ _ e=>e.elim)).trans hT (fun b hb e=>by
    rcases e with e|e|e
    ·exact Or.inl e
    ·exact Or.inr e
    ·omega) (fun b hb e=>ae))⟩
 obtain⟨p0,p1,p2,p3⟩:=c3.out w5 (af _ _);go_upto_region 4 with fail
 go_region_held3 (fun w'=>w'.cell? (w3,0)=some (.slice b3 I b4)∧w'.cell? (w3,1)=some (.slice b5 ps b6)∧w'.cell? ⟨w3+1,0,none⟩=some (.slice b7 ns b8)∧w'.cell? ⟨w3+1,1,none⟩=some (.slice b9 qs ba))
  (first|with_reducible exact⟨p0,p1,p2,p3⟩|with_reducible exact cx.out _ _ _ _ a4|(with_reducible refine c3.out _ ?_;repeat' first|with_reducible exact af _ _|with_reducible exact c5|with_reducible exact cm|with_reducible exact cn|with_reducible exact a4|with_reducible refine aD ?_ _|with_reducible refine Below.drew ?_))
  (first
   |(go_at_call 81;refine(ca.out _ (by repeat' first|with_reducible exact af _ _|with_reducible refine aD ?_ _|with_reducible refine Below.drew ?_)).mono ?_;rintro e w6 ⟨v6,rfl,aq,dq,c5,dj⟩;obtain⟨a6,c6,rfl⟩:=aC aq)
   |(go_at_call 83;refine(cc.out _ _ (by repeat' first|with_reducible exact c5|with_reducible refine aD ?_ _|with_reducible refine Below.drew ?_) (by first|exact aI _ _|exact dj _ _ (aI _ _))).mono ?_;rintro e w7 ⟨v7,rfl,b0,an,cm,c4⟩)
   |(go_at_call 82;refine(cb.out _ _ _ cm c4 b0).mono ?_;rintro e w8 ⟨v8,rfl,av,a7,cn⟩;obtain⟨a8,c8,rfl⟩:=aC av)
   |(go_at_call 84;refine(cd.out _ cn).mono ?_;rintro e w9 ⟨v9,rfl,az,ab,a4⟩;obtain⟨a9,c9,rfl⟩:=aC az;obtain⟨⟨z0,f0⟩,⟨z1,f1⟩,⟨z2,f2⟩⟩:=fd3 (HZ.out w9 a4)))
 all_goals go_wp2
 all_goals refine aL (bz results61 _ _ _ 59 _ _ _ rfl (uR (HZ.out w9 a4) _ _ _) underlying59 rfl aB) rfl ?_
 all_goals first
  |exact bm.out _ _ w6 w7 w8 w9 _ _ _ _ a4 (by first|exact ai _|simp) aq (fun b hb=>an.block b hb) (ai _) c4 an.size b0 av a7 az ab
  |exact bm.out _ _ w6 w7 w8 w9 _ _ _ _ a4 (by first|exact ai _|simp) aq (fun b hb=>(an.block b aJ).trans (aO _ _ _ hb)) ah c5.size (aP ah an.size) b0 av a7 az ab
end Pn
namespace Pn
open Mf Ed
def textOf(l:List Tt)(p v:zA):Option zA:=(l.find? (hit p v)).map (·.s)
open Classical in
noncomputable def ez(I J:List Tt)(root:zA):Shf:=fun p=>
 if p.1=0 then textOf I p.2.1 p.2.2 else if p.1=1 then textOf J p.2.1 p.2.2 else if p=aU∧root.size≠0 then some root else none
theorem Bc{l}{p v t:zA}(h:textOf l p v=t):∃x∈l,x.path=p∧x.ver=v∧x.s=t:=by
 unfold textOf at h;cases hf:l.find? (hit p v) with
 |none=>rw[hf] at h;cases h
 |some x=>
  rw[hf] at h;have h1:=List.mem_of_find?_eq_some hf;have M:=wD.1 (List.find?_some hf);exact⟨x,h1,M.1,M.2,by simpa using h⟩
theorem Be{l}{p v}(h:textOf l p v=none):l.findIdx? (hit p v)=none:=by
 unfold textOf at h;simp_all
theorem Ii I J root:sO (fH I J root) (ez I J root):=fun p=>by
 obtain⟨k,M,pv⟩:=p;by_cases h0:k=0
 ·subst h0
  have e:ez I J root (0,M,pv)=textOf I M pv:=ay rfl;rw[e];cases h:textOf I M pv with
  |some t=>
   obtain⟨x,hx,e1,e2,e3⟩:=Bc h;have:ent 0 x=(plV (0,M,pv),Ed.txt t):=by rw[ent,e1,e2,e3];rfl
   show(plV (0,M,pv),Ed.txt t)∈fH I J root;rw[←this];exact lA _ (dC.2 ⟨x,hx,rfl⟩)
  |none=>exact rY (BP 0) ((gV aA J).append (iw aA root)) (Be h)
 ·by_cases h1:k=1
  ·subst h1
   have e:ez I J root (1,M,pv)=textOf J M pv:=(au Nat.one_ne_zero).trans (ay rfl);rw[e];cases h:textOf J M pv with
   |some t=>
    obtain⟨x,hx,e1,e2,e3⟩:=Bc h;have:ent 1 x=(plV (1,M,pv),Ed.txt t):=by rw[ent,e1,e2,e3];rfl
    show(plV (1,M,pv),Ed.txt t)∈fH I J root;rw[←this];exact Fx _ (lA _ (dC.2 ⟨x,hx,rfl⟩))
   |none=>exact rY (gV aA I) (iw aA root) (Be h)
  ·have e:ez I J root (k,M,pv)=if (k,M,pv)=aU∧_≠0 then _ else none:=(au h0).trans (au h1)
   rw[e];by_cases hr:(k,M,pv)=aU∧root.size≠0
   ·rw[ay hr]
    obtain⟨hr,hs⟩:=hr;show(plV (k,M,pv),Ed.txt root)∈fH I J root;rw[hr];refine Fx _ (Fx _ ?_);unfold dO
    grind
   ·rw[au hr]
    show ∀x∈fH I J root,x.1≠plV (k,M,pv);intro x hx;rcases bT.1 hx with hx|hx
    ·exact(gV ae I).ne hx M pv
    ·rcases bT.1 hx with hx|hx
     ·exact(gV ae J).ne hx M pv
     ·unfold dO at hx
      grind
theorem Ko{l}{t}{M}(h:(dw l t M).2.2=0):(dw l t M).1=l:=by
 unfold dw at h ⊢
 grind
end Pn
namespace Pn
open Mf Ed
abbrev Tri:=List Mo×List Pb×List zA
variable{A X:Nat→Prop}{S:Nat→Shf}{w w':zW}{Y Q U fb mb G:Nat}{cap:Int}{V:List Int}{D E:List Kp}{T:Tri}{I J R O:List Tt}{root Z:zA}
theorem yH I J root:ez I J root aU=if root.size=0 then none else root:=by
 have e:ez I J root aU=_:=(au aA).trans (au aA)
 grind
theorem Eng.edited(h:Eng A S w Q U fb mb G cap V D (fH I J root))(hS:S G=ez I J root){d}(hs:aW w' U mb (G+d) (fH R O Z))(ht:aj (fun b=>b=U∨b=mb) w w')(hd:d=0→R=I∧O=J∧Z=root)(hr:Z.size≤N48)(hz:U≠0∧mb≠0):
  ∃S',Eng A S' w' Q U fb mb (G+d) cap V D (fH R O Z)∧S' (G+d)=ez R O Z∧∀n,n≤G→S' n=S n:=by
 obtain⟨L',h1,h2⟩:=h.desk.map;have e:=ht.block Q (h.hA _ h.desk.hd) (fun e=>e.elim h.ne.1 h.ne.2.1);have ef:=ht.block fb (h.hA _ h.desk.hf) (fun e=>e.elim h.ne.2.2.1 h.ne.2.2.2.1)
 obtain⟨S',M,a0⟩:∃S':Nat→Shf,S' (G+d)=ez R O Z∧∀n,n≤G→S' n=S n:=by
  refine⟨fun n=>if n≤G then S n else ez R O Z,?_,fun n hn=>ay hn⟩
  grind
 obtain⟨m,hm⟩:=h.ml;refine⟨S',⟨⟨h.desk.f0.of_block e,h.desk.f1.of_block e,h.desk.f2.of_block e,fun j c hj=>(h.desk.cn j c hj).of_block e,⟨L',h1.of_block ef,h2.turn (ht.mono (fun b _ e=>?_))⟩,h.desk.ne,h.desk.hd,h.desk.hf⟩,hs,?_,h.inv.later (Nat.le_add_right _ _) a0,⟨m,(ht.cell h.ml.pos (fun e=>e.elim (fun e=>hz.1 e.symm) (fun e=>hz.2 e.symm))).trans hm⟩,h.len,fun b e=>bU (h.hA b e) ht.size,h.ns,h.ne,h.ok,fun t e=>?_⟩,M,a0⟩
 ·rcases e with e|e
  ·rw[e];exact h.ns.1
  ·rw[e];exact h.ns.2
 ·rw[M];exact Ii _ _ _
 ·rw[M,yH] at e
  grind
theorem RdA.keep{α:Type}{enc:α→List zV}{A2 p:Nat→Prop}{v:zV}{L:List α}(h:RdA A enc w v L)(ht:aj p w w')(h2:∀b,b<w.heap.size→A2 b→A b)(hp:∀b,b<w.heap.size→p b→A b:=by exact fun _ _ e=>e):RdA A2 enc w' v L:=by
 rcases h with h|⟨b,off,c,h,M,hc⟩
 ·exact Or.inl h
 ·exact Or.inr ⟨b,off,c,h,⟨fun e=>M.1 (h2 b M.2.2.2 e),M.2.1,M.2.2.1,bU M.2.2.2 ht.size⟩,fun j u hj=>(ht.cell M.2.2.2 (fun e=>M.1 (hp b M.2.2.2 e))).trans (hc j u hj)⟩
def Tol(A:Nat→Prop)(w:zW)(Y U Q:Nat)(T:Tri):Prop:=
 ∃a b c,w.heap[Y]?=some (.cells #[.pointer (some ⟨U,0,none⟩),.pointer (some ⟨Q,0,none⟩),a,b,c] 80)∧RdA A Sm.mc w a T.1∧RdA A aZ w b T.2.1∧RdA A dU w c T.2.2
theorem Tol.turn(h:Tol A w Y U Q T)(M:aj A w w')(e:w'.heap[Y]?=w.heap[Y]?):Tol A w' Y U Q T:=by
 obtain⟨a,b,c,h0,h1,h2,h3⟩:=h;exact⟨a,b,c,e.trans h0,h1.turn M,h2.turn M,h3.turn M⟩
theorem Tol.more{A2}(h:Tol A w Y U Q T)(M:∀b,b<w.heap.size→A2 b→A b):Tol A2 w Y U Q T:=by
 obtain⟨a,b,c,h0,h1,h2,h3⟩:=h;exact⟨a,b,c,h0,h1.more M,h2.more M,h3.more M⟩
structure Egn(A X:Nat→Prop)(S:Nat→Shf)(w:World)(Y Q U fb mb G:Nat)(cap:Int)(V:List Int)(D:List Kp)(T:Tri)(I J:List Tt)(root:zA):Prop where
 eng:Eng A S w Q U fb mb G cap V D (fH I J root)
 sh:S G=ez I J root
 tl:Tol A w Y U Q T
 xa:∀b,X b→A b
 xx:X Y∧X Q∧X U∧X fb∧X mb
 az:¬A 0
 ne:Y≠Q∧Y≠U∧Y≠fb∧Y≠mb
 dc:(D.length:Int)≤cap
theorem Egn.p0(h:Egn A X S w Y Q U fb mb G cap V D T I J root):Ed.Fd w Y 0 (.pointer (some (U,0)))∧Ed.Fd w Y 1 (.pointer (some (Q,0))):=by
 obtain⟨a,b,c,M,_⟩:=h.tl;exact⟨(fd5 M).1,(fd5 M).2.1⟩
theorem Egn.at2{A2}(h:Egn A X S w Y Q U fb mb G cap V D T I J root){M}(he:Eng A2 S w' Q U fb mb G cap M E (fH I J root))(ht:aj A w w')(e:w'.heap[Y]?=w.heap[Y]?)(hd:(E:Int)≤cap)(h2:∀b,b<w.heap.size→A2 b→A b)(hx:∀b,X b→A2 b):Egn A2 X S w' Y Q U fb mb G cap M E T I J root:=by
 obtain⟨a,b,c,h0,h1,q2,h3⟩:=h.tl;exact⟨he,h.sh,⟨a,b,c,e.trans h0,h1.keep ht h2,q2.keep ht h2,h3.keep ht h2⟩,hx,h.xx,fun e=>h.az (h2 0 h.eng.ml.pos e),h.ne,hd⟩
theorem Egn.at(h:Egn A X S w Y Q U fb mb G cap V D T I J root){M}(he:Eng A S w' Q U fb mb G cap M E (fH I J root))(ht:aj A w w')(e:w'.heap[Y]?=w.heap[Y]?)(hd:(E:Int)≤cap):Egn A X S w' Y Q U fb mb G cap M E T I J root:=
 ⟨he,h.sh,h.tl.turn ht e,h.xa,h.xx,h.az,h.ne,hd⟩
theorem Egn.below(h:Egn A X S w Y Q U fb mb G cap V D T I J root)(M:Below w w w'):Egn A X S w' Y Q U fb mb G cap V D T I J root:=h.at (h.eng.below M) (aj.of_below M) (M.block Y h.p0.1.lt) h.dc
theorem Egn.turn{p}(h:Egn A X S w Y Q U fb mb G cap V D T I J root)(ht:aj p w w')(hp:∀b,b<w.heap.size→p b→A b∧¬X b):Egn A X S w' Y Q U fb mb G cap V D T I J root:=by
 have M:=fun b e=>h.eng.hA b (h.xa b e)
 have hn:∀b,X b→¬p b:=fun b e e2=>(hp b (M b e) e2).2 e
 have hz:=fun e=>h.az (hp 0 h.eng.ml.pos e).1
 exact h.at (h.eng.turn ht (fun b hb e=>(hp b hb e).1) ⟨hn _ h.xx.2.1,hn _ h.xx.2.2.2.1,hn _ h.xx.2.2.1,hn _ h.xx.2.2.2.2,hz⟩) (ht.mono (fun b hb e=>(hp b hb e).1)) (ht.block Y (M _ h.xx.1) (hn _ h.xx.1)) h.dc
theorem Egn.wide(h:Egn A X S w Y Q U fb mb G cap V D T I J root)(M:Below w w w')(P:Nat→Prop)(hP:∀b,P b→w≤b∧b<w'):Egn (fun b=>A b∨P b) X S w' Y Q U fb mb G cap V D T I J root:=
 ⟨h.eng.wide M P hP,h.sh,(h.tl.more (fun b a0 e=>e.elim id (fun e=>ax))).turn (aj.of_below M) (M.block Y h.p0.1.lt),fun b e=>Or.inl (h.xa b e),h.xx,fun e=>e.elim h.az (fun e=>by have:=(hP 0 e).1;have:=h.eng.ml.pos;omega),h.ne,h.dc⟩
def EgT(A X:Nat→Prop)(w:zW)(Y:Nat)(cap:Int)(I J:List Tt)(root:zA)(G:Nat)(T:Tri)(n:Nat):Prop:=
 ∃S V D Q U fb mb,Egn A X S w Y Q U fb mb G cap V D T I J root∧D.length=n
variable{n:Nat}{p:Nat→Prop}
theorem EgT.below(h:EgT A X w Y cap I J root G T n)(M:Below w w w'):EgT A X w' Y cap I J root G T n:=by
 obtain⟨S,V,D,Q,U,fb,mb,g,r⟩:=h;exact⟨S,V,D,Q,U,fb,mb,g.below M,r⟩
theorem EgT.turn(h:EgT A X w Y cap I J root G T n)(ht:aj p w w')(M:∀b,b<w.heap.size→p b→A b∧¬X b):EgT A X w' Y cap I J root G T n:=by
 obtain⟨S,V,D,Q,U,fb,mb,g,r⟩:=h;exact⟨S,V,D,Q,U,fb,mb,g.turn ht M,r⟩
theorem EgT.wide(h:EgT A X w Y cap I J root G T n)(hb:Below w w w')(P:Nat→Prop)(M:∀b,P b→w≤b∧b<w'):EgT (fun b=>A b∨P b) X w' Y cap I J root G T n:=by
 obtain⟨S,V,D,Q,U,fb,mb,g,r⟩:=h;exact⟨S,V,D,Q,U,fb,mb,g.wide hb P M,r⟩
theorem EgT.lt(h:EgT A X w Y cap I J root G T n):(∀b,A b→b<w)∧(∀b,X b→A b)∧¬A 0∧X Y∧(n:Int)≤cap:=by
 obtain⟨S,V,D,Q,U,fb,mb,g,r⟩:=h;exact⟨g.eng.hA,g.xa,g.az,g.xx.1,r▸g.dc⟩
theorem yI(h:aj p w w'):∃w1,Below w w w1∧aj (fun b=>p b∧b<w) w1 w'∧w1=w'.heap.size:=by
 have hs:=h.size;have e:∀b,_→(w.heap++w'.heap.extract w w')[b]?=_:=fun b hb=>Array.getElem?_append_left hb
 have z:(w.heap++w'.heap.extract w w').size=w':=aJ;refine⟨{w' with heap:=_++_},⟨h.os,h.tape,h.output,aP hs (Nat.le_of_eq z.symm),e⟩,⟨rfl,rfl,rfl,Nat.le_of_eq z,fun b hb hn=>?_⟩,z⟩;show _=(w.heap++w'.heap.extract w.heap.size w'.heap.size)[b]?;by_cases M:b<w
 ·rw[e b M];exact h.block b M fun q=>hn ⟨q,M⟩
 grind
theorem EgT.grow(h:EgT A X w Y cap I J root G T n)(ht:aj p w w')(M:∀b,b<w.heap.size→p b→A b∧¬X b)(P:Nat→Prop)(hP:∀b,P b→w≤b∧b<w'):EgT (fun b=>A b∨P b) X w' Y cap I J root G T n:=by
 obtain⟨w1,h1,h2,h3⟩:=yI ht;exact(h.wide h1 P (fun b e=>ax)).turn h2 (fun b _ e=>⟨Or.inl (M b e.2 e.1).1,(M b e.2 e.1).2⟩)
theorem rA:∀(t:List UInt8)(e n:Nat),n≤8→Pv.gK e n t=true→t.length+9*e+n≤35
 |[],e,n,M,h=>by
  simp[Pv.gK] at h
  grind
 |c::t,e,n,M,h=>by
  rw[Pv.gK] at h;simp only[dF]
  split at h
  ·split at h
   ·cases h
   ·have:=rA t e _ ae h
    omega
  ·split at h
   ·have:=rA t (e+1) 0 ae (by simpa using h)
    omega
   ·cases h
theorem Kr{p:zA}(h:Pv.aK p=true):p.size≤26:=by
 have k:=rA _ 1 0 ae ((Pv.qo _).trans h);simp_all
inductive EdK(p v s:zA)(I J:List Tt)(root:zA):Nat→Nat→List zV→List Tt→List Tt→zA→Int→Nat→Prop
 |pm:EdK p v s I J root 13 14 [.string p,.string v,.string s] (eI I ⟨p,v,s⟩ 60 (aT p v)).1 J root (eI I ⟨p,v,s⟩ 60 (aT p v)).2.1 (eI I ⟨p,v,s⟩ 60 (aT p v)).2.2
 |dm:EdK p v s I J root 15 16 [.string p,.string v] (bY I p v (aT p v)).1 J root (aT p v) (bY I p v (aT p v)).2
 |pi:EdK p v s I J root 17 18 [.string p,.string s] I (eI J ⟨p,⟨#[]⟩,s⟩ 30 (aT p ⟨#[]⟩)).1 root (eI J ⟨p,⟨#[]⟩,s⟩ 30 (aT p ⟨#[]⟩)).2.1 (eI J ⟨p,⟨#[]⟩,s⟩ 30 (aT p ⟨#[]⟩)).2.2
 |di:EdK p v s I J root 19 20 [.string p] I (bY J p ⟨#[]⟩ (aT p ⟨#[]⟩)).1 root (aT p ⟨#[]⟩) (bY J p ⟨#[]⟩ (aT p ⟨#[]⟩)).2
 |sr:EdK p v s I J root 21 22 [.string p] I J (Ed.rootOf root p).1 (fE p) (Ed.rootOf root p).2
theorem NY(l:List Tt)t(M:Nat)F(h:l≤M):(eI l t M F).1≤M∧(eI l t M F).2.2≤1∧((eI l t M F).2.2=0→(eI l t M F).1=l):=by
 unfold eI
 split
 ·refine⟨FV l t M h,?_,Ko⟩
  unfold dw
  grind
 grind
theorem Ij l p v F:(bY l p v F).1≤l.length∧(bY l p v F).2≤1∧((bY l p v F).2=0→(bY l p v F).1=l):=by
 refine⟨FR l p v F,?_⟩;unfold bY
 grind
theorem Qp r p(h:r.size≤N48):(Ed.rootOf r p).1.size≤N48∧(Ed.rootOf r p).2≤1∧((Ed.rootOf r p).2=0→(Ed.rootOf r p).1=r):=by
 unfold Ed.rootOf;by_cases M:fE p=0
 ·rw[ay M]
  split
  ·grind
  ·refine⟨?_,ai _,fun e=>absurd e Nat.one_ne_zero⟩
   show p.size≤2000;unfold fE at M;by_cases h0:p.size=0
   ·omega
   ·cases hp:Pv.aK p.data.toList with
    |true=>have:=Kr hp;omega
    |false=>rw[ay ⟨h0,hp⟩] at M;exact absurd M aA
 grind
variable{p v s:zA}{f g d:Nat}{args:List zV}{F:Int}
theorem EdK.ok(k:EdK p v s I J root f g args R O Z F d)(M:I.length≤60∧J.length≤30)(hr:root.size≤N48):(R.length≤60∧O.length≤30)∧Z.size≤N48∧d≤1∧(d=0→R=I∧O=J∧Z=root):=by
 cases k
 ·have k:=NY I ⟨p,v,s⟩ 60 (aT p v) M.1
  grind
 ·have k:=Ij I p v (aT p v)
  grind
 ·have k:=NY J ⟨p,⟨#[]⟩,s⟩ 30 (aT p ⟨#[]⟩) M.2
  grind
 ·have k:=Ij J p ⟨#[]⟩ (aT p ⟨#[]⟩)
  grind
 ·have k:=Qp root p hr
  grind
theorem Egn.edit(g:Egn A X S w Y Q U fb mb G cap V D T I J root)(a0:Z.size≤N48)(hd:d=0→R=I∧O=J∧Z=root)(h1:aW w' U mb (G+d) (fH R O Z))(M:aj (fun b=>b=U∨b=mb) w w'):EgT A X w' Y cap R O Z (G+d) T D∧aj X w w':=by
 have hz:U≠0∧mb≠0:=⟨fun e=>g.az (g.xa _ (e▸g.xx.2.2.1)),fun e=>g.az (g.xa _ (e▸g.xx.2.2.2.2))⟩;obtain⟨S',q1,q2,_⟩:=g.eng.edited g.sh h1 M hd a0 hz;have ep:=M.block Y g.p0.1.lt (fun e=>e.elim g.ne.2.1 g.ne.2.2.2);have hX:=M.mono (fun b _ e=>e.elim (fun e=>e▸g.xx.2.2.1) (fun e=>e▸g.xx.2.2.2.2));exact⟨⟨S',V,D,Q,U,fb,mb,⟨q1,q2,g.tl.turn (hX.mono fun b _ e=>g.xa b e) ep,g.xa,g.xx,g.az,g.ne,g.dc⟩,rfl⟩,hX⟩
theorem UB(k:EdK p v s I J root f g args R O Z F d)(hl:I.length≤60∧J.length≤30)(hr:root.size≤N48)(hp:p.size<281474976710656)(hv:v.size<281474976710656)(hs:s.size<281474976710656)(M:G<4611686018427387904)(h:EgT A X w Y cap I J root G T n):
  zC f (.pointer (some (Y,0))::args).toArray w fun e w'=>e=.returned (F)∧EgT A X w' Y cap R O Z (G+d) T n∧aj X w w':=by
 obtain⟨S,V,D,Q,U,fb,mb,g,rfl⟩:=h;have q:=k.ok hl hr;have c:=g.p0.1.1;have sh:=g.eng.shelf;have m:=g.eng.ml;have z:∀{e:Ending} {w':zW},e=F∧_∧aj _ w w'→_∧_:=fun h=>⟨h.1,g.edit q.2.1 q.2.2.2 h.2.1 h.2.2⟩
 cases k
 ·exact(BR p v s w c (BQ p v s w sh m ae hp ae ae M)).mono fun e w' h=>z h
 ·exact(zD p v w c (zx p v w sh m hp ae M)).mono fun e w' h=>z h
 ·exact(Jf p s w c (Je p s w sh m ae hp ae M)).mono fun e w' h=>z h
 ·exact(FY p w c (FW p w sh m hp M)).mono fun e w' h=>z h
 ·exact(LX p w c (LW p w sh m ae hp M)).mono fun e w' h=>z h
theorem Ks(h:EgT A X w Y cap I J root G T n):zC 23 #[.pointer (some (Y,0))] w fun e w'=>e=.returned (G)∧w'=w:=by
 obtain⟨S,V,D,Q,U,fb,mb,g,_⟩:=h;exact Jg w g.p0.1.1 g.eng.shelf
end Pn
namespace Pn
open Mf Ed
variable{A X:Nat→Prop}{S:Nat→Shf}{w w':zW}{Y Q U fb mb G:Nat}{cap:Int}{V:List Int}{D E:List Kp}{T:Tri}{I J R O:List Tt}{root Z:zA}{n:Nat}
abbrev zi:zV:=.int .i64 0
theorem UC(b:Nat)(c:Int)w:zC 30 #[.pointer (some (b,0)),c] w fun e w'=>e=.returned (.pointer (some ⟨w+1,0,none⟩))∧Below w w w'∧Mp.MapAt prog 128 w' w []∧(∀j u,(#[.pointer (some (b,0)),c,.map (w),zi,zi,zi,zi,zi]:Array zV)[j]?=some u→Ed.Fd w' (w+1) j u):=by
 have HM:=zH (Mp.made w prog 128);have a0:=@run_makeMap prog;go_enter func30,ntmps30;go_wp2;go_ret;have hs:(w.alloc (.map #[] 0))=w.heap.size+1:=ah;have M:=fun j u=>dL (w.alloc (.map #[] 0)) #[.pointer (some (b,0)),c,.map (w),zi,zi,zi,zi,zi] 106 (j:=j) (u:=u)
 rw[hs] at M;exact⟨rfl,((af _ w).alloc (ai _) _).alloc ah _,HM.out.of_block (aO _ _ _ ah),M⟩
theorem Qq S n:Inv S n []:=⟨fun _ h=>absurd h dI,fun _ h=>absurd h dI,fun _ h=>absurd h dI,fun _ h=>absurd h dI,List.Pairwise.nil⟩
theorem NZ:fH [] [] e0=[]:=rfl
theorem VM(c:Int)(hc:1≤c)w(hm:Ml w)(A0:Nat→Prop)(a6:∀b,A0 b→b<w)(h0:¬A0 0):
  zC 10 #[c] w fun e w'=>∃Y,e=.returned (.tuple #[.pointer (some (Y,0)),.int .i64 0])∧EgT (fun b=>A0 b∨(w≤b∧b<w')) (fun b=>w≤b∧b<w') w' Y c [] [] e0 0 ([],[],[]) 0∧Below w w w':=by
 have av:¬c<1:=ae;have k1:=Vi w;have HP:Hid (Ml w∧_∧_∧_):=⟨hm,a6,h0,hc⟩;clear hm a6 h0 hc;go_enter func10,ntmps10
 go_wp2_with (go_at_call 29;fail)
 go_at_call 29;refine k1.mono ?_;rintro e w1 ⟨rfl,ab,a7⟩;have a3:=zH ab;have a1:=zH a7;clear k1 ab a7;have k2:=UC (w+1) c w1
 go_wp2_with (go_at_call 30;fail)
 go_at_call 30;refine k2.mono ?_;rintro e w2 ⟨rfl,a4,a9,a8⟩;have ad:=zH (a3.out.below a4);have a0:=zH (a1.out.trans (a4.mono a1.out.size));have a2:Hid (_∧_):=⟨a9,a8⟩;have H1:=zH a3.out.f0.lt;clear k2 a4 a3 a1 a9 a8;go_wp2;go_ret2;generalize a5:w2.alloc _=w3;have M:zB w2 w3:=by rw[←a5];exact(af _ _).alloc (ai _) _
 have az:w3=w2.heap.size+1:=by rw[←a5];simp
 have ak:w3.heap[w2.heap.size]?=some (.cells #[.pointer (some ⟨w+1,0,none⟩),.pointer (some ⟨w1+1,0,none⟩),zN,zN,zN] 80):=by rw[←a5];exact aI _ _
 have h1:=H1.out;have an:=(a2.out.2 0 _ rfl).lt;have aa:=a2.out.1.of_block (M.block _ ae);have hd:=fun j u h=>(a2.out.2 j u h).of_block (M.block _ an)
 have aq:=HP.out.1.pos;refine⟨_,rfl,⟨fun _=>ez [] [] e0,[0,0,0,0,0],[],_,_,_,w,⟨⟨⟨hd 0 _ rfl,hd 1 _ rfl,hd 2 _ rfl,fun j c hj=>?_,⟨[],aa,trivial⟩,ae,Or.inr ae,Or.inr ae⟩,?_,Ii _ _ _,Qq _ _,HP.out.1.below (a0.out.trans (M.mono a0.out.size)),rfl,fun b e=>?_,⟨Or.inr ae,Or.inr ae⟩,ae,fun _ h=>absurd h dI,fun t e=>?_⟩,rfl,⟨_,_,_,ak,RdA.nil _,RdA.nil _,RdA.nil _⟩,fun b e=>Or.inr e,ae,fun e=>?_,ae,?_⟩,rfl⟩,a0.out.trans (M.mono a0.out.size)⟩
 ·rcases j with _|_|_|_|_|j
  ·grind
  ·grind
  ·grind
  ·simp_all
  ·simp_all
  ·cases hj
 ·rw[NZ];exact ad.out.below M
 ·rcases e with e|e
  ·have:=HP.out.2.1 b e;omega
  ·exact e.2
 ·have e:=e
  rw[yH,ay (show e0.size=0 from rfl)] at e;cases e
 ·rcases e with e|e
  ·exact HP.out.2.2.1 e
  ·omega
 grind
def N0(s:Shf)(B:Nat)(e:Ending)(w':zW):Prop:=
 ∃v1 v2 v3 I ps M qs,e=.returned (.agg #[v1,v2,v3])∧(val s ⟨3,e0,e0⟩=.list I ps∧val s ⟨4,e0,e0⟩=.ord M qs)∧
  (w'.ownsRow B 68 2 v1 I.length (mcs I)∧w'.ownsRow B 72 3 v2 (once (ps++qs)).length ((once (ps++qs)).flatMap aZ)∧w'.ownsRow B 9 1 v3 M.length (M.flatMap dU))∧
  (I.length≤100000∧ps.length≤1000000∧M.length≤100000∧qs.length≤100000)
theorem Qr(hc:cap≤9223372036854775807)(hn:n≤1000000000000)w(h:EgT A X w Y cap I J root G T n):
  zC 42 #[.pointer (some (Y,0))] w fun e w'=>∃m,w.heap.size≤m∧N0 (ez I J root) m e w'∧(∃n',n'≤n+1948378∧EgT (fun b=>A b∨(m≤b∧b<w')) X w' Y cap I J root G T n')∧aj X w w':=by
 obtain⟨S,V,D,Q,U,fb,mb,g,rfl⟩:=h;have a5:zB w (w.alloc (.cells #[zN,zN,zN] 59)):=(af _ _).alloc (ai _) _;have aa:(w.alloc (.cells #[zN,zN,zN] 59)).heap[_]?=_:=aI _ _;have a7:∀b,b=w.heap.size→w≤b∧b<(w.alloc (.cells #[zN,zN,zN] 59)):=fun b e=>ax
 have a4:=g.wide a5 _ a7;have an:=g.dc;have ka:=yG yz hn ⟨ae,hc⟩ _ a4.eng;have HG:Hid (_∧_):=⟨a4,g⟩;have a0:Hid (_∧_):=⟨a5,aa⟩;have c1:=a4.p0.2.1;clear a5 aa a7 a4 g an hc;go_enter func42,ntmps42
 go_wp2_with (go_at_call 61;fail)
 generalize w.alloc _=W1 at*;go_at_call 61;refine ka.mono ?_;rintro e w2 ⟨m,v1,v2,v3,ak,ps,ns,qs,k2,k3,D2,D3,D5,az,b0,hm,rfl,hv,ho,he,aq,hD,ab,ht⟩;have HM:=zH hm;have HE:Hid (Eng (fun b=>_∨_) S w2 Q U fb mb G cap _ D5 _∧_∧_∧_):=⟨he,ht,hD.2.1,aP hD.1.length_le hD.2.2.2⟩;have HV:Hid (_∧_):=⟨hv,ab⟩;have HO:=zH ho
 have a6:Hid (w2.heap[w.heap.size]?=some (.cells #[zN,zN,zN] 59)):=by
  have hl:=ag a0.out.2;have l1:=HG.out.2.eng.hA _ HG.out.2.eng.desk.hd;have l2:=HG.out.2.eng.hA _ HG.out.2.eng.desk.hf;exact(ht.block _ hl ae).trans a0.out.2
 clear ka hv ho he aq hD ab ht c1 hm;obtain⟨a1,c1,rfl⟩:=aC HO.out.1;obtain⟨a2,c2,rfl⟩:=aC HO.out.2.1;obtain⟨a3,c3,rfl⟩:=aC HO.out.2.2;obtain⟨⟨z0,f0⟩,⟨z1,f1⟩,⟨z2,f2⟩⟩:=fd3 a6.out;go_wp2;refine aL (bz results42 _ _ _ 59 _ _ _ rfl (uR a6.out _ _ _) underlying59 rfl aB) rfl ?_;generalize ad:((w2.setCell ⟨w.heap.size,0,none⟩ (.slice a1 ak.length c1)).setCell ⟨w.heap.size,1,none⟩ (.slice a2 (once (ps++qs)).length c2)).setCell ⟨w.heap.size,2,none⟩ (.slice a3 ns.length c3)=wf
 have hT:aj (fun b=>b=w) w2 wf:=by
  rw[←ad];exact(((aj.refl (fun b=>b=_) w2).set (a:=(w,0)) (fun _=>rfl) _).set (a:=⟨w,1,none⟩) (fun _=>rfl) _).set (a:=⟨w,2,none⟩) (fun _=>rfl) _
 have hl:=ag a0.out.2;have hm:=HM.out;have hz:wf=w2.heap.size:=by rw[←ad];simp
 have M:=HG.out.2;have lt:=fun b e=>M.eng.hA b (M.xa b e)
 have own:∀{e k n:Nat} {v:zV} {xs:List zV},_→wf.ownsRow m e k v n xs:=fun h=>ar h (fun b e=>hT.block b (h.lt b e).2 (by have:=(h.lt b e).1;omega))
 have hS:=M.sh;have a8:=HE.out.2.1.trans hT (fun b _ e=>by rcases e with e|e;exact Or.inl e;exact Or.inr (Or.inl e)) (fun b _ e=>Or.inr (Or.inr e))
 have a9:aj X w wf:=(aj.of_below (p:=fun _=>False) a0.out.1).trans a8 (fun _ _ e=>e.elim) (fun b hb e=>by
  rcases e with e|e|e
  ·rw[e];exact M.xx.2.1
  ·rw[e];exact M.xx.2.2.2.1
  ·omega)
 have l1:=lt _ M.xx.2.1;have l2:=lt _ M.xx.2.2.2.1;have l3:=lt _ M.xx.2.2.1;have l4:=lt _ M.xx.2.2.2.2;have l5:=lt _ M.xx.1;have av:=M.eng.ml.pos
 have ep:=a8.block Y ae (fun e=>by
  rcases e with e|e|e
  ·exact M.ne.1 e
  ·exact M.ne.2.2.1 e
  ·omega)
 have he:=(HE.out.1.turn hT (fun b _ e=>Or.inl (Or.inr e)) ⟨ae,ae,ae,ae,ae⟩).less (A:=fun b=>A b∨(m≤b∧b<wf)) (fun b e=>e.imp Or.inl (fun e=>⟨e.1,ae⟩)) ⟨Or.inl (M.xa _ M.xx.2.1),Or.inl (M.xa _ M.xx.2.2.2.1),Or.inl (M.xa _ M.xx.2.2.1),Or.inl (M.xa _ M.xx.2.2.2.2)⟩;have eg:=ep.trans (a0.out.1.block Y ae);refine⟨m,ae,⟨_,_,_,ak,ps,ns,qs,rfl,by rw[←hS];exact HV.out.1,⟨own HO.out.1,own HO.out.2.1,own HO.out.2.2⟩,HV.out.2⟩,⟨_,HE.out.2.2.2,S,_,D5,Q,U,fb,mb,M.at2 he (a9.mono fun b _ e=>M.xa b e) eg HE.out.2.2.1 (fun b hb e=>e.elim id (fun e=>ae)) (fun b e=>Or.inl (M.xa b e)),rfl⟩,a9⟩
end Pn
namespace Pn
open Mf Ed
variable{A X:Nat→Prop}{S:Nat→Shf}{w w' W:zW}{Y Q U fb G:Nat}{cap:Int}{V:List Int}{D E:List Kp}{T:Tri}{I J:List Tt}{root:zA}{m:Nat}{q:Qn}
open Classical in
theorem EV:∀{D:List Kp},D.Pairwise (fun a b=>a.q≠b.q)→(∃k∈D,k.q=q)→(D.filter fun k=>decide (k.q≠q)).length+1=D.length
 |[],_,⟨_,h,_⟩=>absurd h dI
 |k::r,hp,⟨k',hk,e⟩=>by
  have h1:=eM.1 hp;by_cases M:k.q=q
  ·have e2:r.filter (fun k=>decide (k.q≠q))=r:=List.filter_eq_self.2 (fun x hx=>bu (fun e=>h1.1 x hx (M.trans e.symm)))
   grind
  ·rw[List.filter_cons,ay (by simpa using M),dF,dF]
   have:=EV h1.2 ⟨k',(bI.1 hk).resolve_left (fun e'=>M (by rw[←e',e])),e⟩;omega
theorem Kt(n:Int)w(h:dB A w Q U fb cap V D)(hm:Ml w)(hD:D.length≤2000000000000)(hp:0<D.length)(a2:D.Pairwise (fun a b=>a.q≠b.q)):
  zC 52 #[.pointer (some (Q,0)),n] w fun e w'=>e=.returned (.tuple #[])∧∃E,dB A w' Q U fb cap V E∧(E.Sublist D∧E+1=D.length)∧aj (fun b=>b=fb) w w':=by
 have kT:=rz w h hm hD;have HK:=zH h;have HA:=zH a2;obtain⟨T,hT⟩:∃T,T=Ss.aQ (Go.Proofs.ltOf nV) (D.map yE):=⟨_,rfl⟩
 have HT:Hid (T.Perm (D.map yE)∧T=D.length):=by
  rw[hT];exact⟨Ss.cg _,by rw[Ss.aY,dM]⟩
 rw[←hT] at kT;clear hT h hm a2;generalize hn:D.length=m at*;have HN:=zH hn;clear hn;go_enter func52,ntmps52
 go_wp2_with (go_at_call 70;fail)
 go_at_call 70;refine kT.mono ?_;rintro e w4 ⟨g,c,rfl,a5,a3⟩;have HO:Hid (_∧_):=⟨a5,a3⟩;clear kT a5 a3;have aq:((m:Int)==0)=false:=by rw[bX];omega
 have av:¬(m:Int)=0:=ae;have a9:n.tmod _<m:=Int.tmod_lt_of_pos _ ae
 have aa:-m<n.tmod (m:Int):=by
  have:=Int.tmod_lt_of_pos (-n) (b:=m) ae;rw[Int.neg_tmod] at this;omega
 obtain⟨j,hj⟩:∃j:Nat,(j:Int)=if n.tmod (m:Int)<0 then n.tmod (m:Int)+m else n.tmod (m:Int):=⟨(if n.tmod (m:Int)<0 then n.tmod (m:Int)+m else n.tmod (m:Int)).toNat,by split<;>omega⟩
 have an:j<m:=by split at hj<;>omega
 have hT:=HT.out.2;have a8:j<T:=ae;have hx:=dE a8;obtain⟨y0,y1,y2,y3⟩:=Ig hx;have x0:w4.cell? (g,j*4)=(T[j].2.1):=by rw[HO.out.1.cellAt _ ae];exact y0
 have x1:w4.cell? (g,j*4+1)=T[j].2.2.1:=by rw[HO.out.1.cellAt _ ae];exact y1
 have x2:w4.cell? (g,j*4+2)=T[j].2.2.2:=by rw[HO.out.1.cellAt _ ae];exact y2
 have HX:=zH hx;clear hx y0 y1 y2 y3;generalize T[j]=y at*;obtain⟨qn,qk,qp,qw⟩:=y;simp only at x0 x1 x2
 have a1:∃k∈D,k.q=⟨qk,qp,qw⟩:=by
  obtain⟨k,hk,e⟩:=dC.1 (HT.out.1.mem_iff.1 (wK HX.out));unfold yE at e;injection e with _ e;injection e with e1 e;injection e with e2 e3;exact⟨k,hk,by rw[←e1,←e2,←e3]⟩
 have M:=HK.out.below HO.out.2;have c2:=M.f2.1;have ad:=M.f0.lt;obtain⟨w7,a0,a4,a6⟩:=(M.below ((af _ _).drew)).dropped a1;have EU:∀ty,(Builtin.delete_ _ ty #[_,.agg #[qk,qp,qw]]).run _ _=_:=a0;have a7:Hid (∃E,dB A w7 Q U fb cap V E∧(E.Sublist D∧_+1=m)∧_):=⟨_,a4,⟨List.filter_sublist,(EV HA.out a1).trans HN.out⟩,((aj.of_below HO.out.2).trans (aj.of_below ((af _ _).drew)) (fun _ _ e=>e) (fun _ _ e=>e)).trans a6 (fun _ _ e=>e) (fun _ _ e=>e)⟩;clear a0 a4 a6 M a1;have ak:j<(m:Int):=ae;have ab:wrap64 (n.tmod (m:Int)+m)=n.tmod (m:Int)+m:=by unfold wrap64;omega
 by_cases hn:n.tmod (m:Int)<0
 all_goals
  first|rw[ay hn] at hj|rw[au hn] at hj
  go_upto_region 5 with fail;rw[←hj];clear hj hn ab a9 aa
  go_region_law (refine jY rfl (.tmp 24) (.tmp 29) 72 82 rfl fb (.agg #[.int .i64 ((qk:Nat):Int),.string qp,.string qw]) rfl rfl w7 EU ?_)
  all_goals
   clear EU x0 x1 x2 c2;go_wp2;exact fQ (by simp[results,results52,go_sem]) rfl ⟨rfl,a7.out⟩
theorem GI(n:Int)w(h:dB A w Q U fb cap V [])(hm:Ml w):
  zC 52 #[.pointer (some (Q,0)),n] w fun e w'=>e=.returned (.tuple #[])∧Below w w w':=by
 have kT:=rz w h hm (aN _);go_enter func52,ntmps52
 go_wp2_with (go_at_call 70;fail)
 go_at_call 70;refine kT.mono ?_;rintro e w4 ⟨g,c,rfl,a0,M⟩;have HO:=zH M;clear kT a0 M;go_wp2;exact aL (by simp[results,results52,go_sem]) rfl ⟨rfl,HO.out⟩
theorem S6(n:Int)w(h:EgT A X w Y cap I J root G T m)(hm:m≤1000000000000):zC 26 #[.pointer (some (Y,0)),n] w fun e w'=>e=.returned (.tuple #[])∧EgT A X w' Y cap I J root G T (m-1)∧aj X w w':=by
 obtain⟨S,V,D,Q,U,fb,mb,g,rfl⟩:=h;have a0:=g.dc
 have k:zC 52 #[.pointer (some (Q,0)),n] w fun e w'=>e=.returned (.tuple #[])∧EgT A X w' Y cap I J root G T (D-1)∧aj X w w':=by
  rcases D with _|⟨d,D⟩
  ·exact(GI n w g.eng.desk g.eng.ml).mono (fun e w' ⟨h1,M⟩=>⟨h1,⟨S,V,[],Q,U,fb,mb,g.below M,rfl⟩,aj.of_below M⟩)
  ·refine(Kt n w g.eng.desk g.eng.ml ae (Nat.succ_pos _) g.eng.inv.one).mono (fun e w' ⟨h1,E,hd,hs,ht⟩=>?_)
   have hX:aj X w w':=ht.mono (fun b _ e=>by rw[e];exact g.xx.2.2.2.1);exact⟨h1,⟨S,V,E,Q,U,fb,mb,g.at (g.eng.shrunk hd hs.1 ht) (hX.mono fun b _ e=>g.xa b e) (ht.block Y g.p0.1.lt g.ne.2.2.1) ae,ae⟩,hX⟩
 have c1:=g.p0.2.1;clear g a0;go_enter func26,ntmps26
 go_wp2_with (go_at_call 52;fail)
 go_at_call 52;refine k.mono ?_;rintro e w2 ⟨rfl,M⟩;have HF:=zH M;clear k M c1;go_wp2;exact fQ (by simp[results,results26,go_sem]) rfl ⟨rfl,HF.out⟩
theorem uX(h:EgT A X w Y cap I J root G T m):zC 27 #[.pointer (some (Y,0))] w fun e w'=>e=.returned (m)∧w'=w:=by
 obtain⟨S,V,D,Q,U,fb,mb,g,rfl⟩:=h
 have kd:zC 53 #[.pointer (some (Q,0))] w fun e w'=>e=D∧w'=w:=by
  obtain⟨L,hM,M⟩:=g.eng.desk.map;have c2:=g.eng.desk.f2.1;have hl:=M.len;clear g M;go_enter func53,ntmps53
  go_wp2_with (first|(at_len;refine qD _ rfl _ 102 rfl 128 169 underlying102 fb L rfl hM ?_)|go_in)
  go_ret;exact⟨rfl,rfl⟩
 have c1:=g.p0.2.1;clear g;go_enter func27,ntmps27
 go_wp2_with (go_at_call 53;refine kd.mono ?_;rintro e w2 ⟨rfl,rfl⟩)
 go_ret;simp
