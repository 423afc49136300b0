import Derived.Test.YtkfobfbiblgohaaGreatDoorKPMF
set_option linter.all false
open Go.Proofs.Tryz
set_option maxRecDepth 100000
set_option maxHeartbeats 9000000
namespace Go.Proofs.YtkfobfbiblgohaaGreatDoor
open Go.RowKit
namespace Pn
open Mf Ed
variable{A F A2:Nat->Prop}{S:Nat->Shf}{w w' W W1 I wf:zW}{Q Z Y mb now:Nat}{cap:Int}{cs:List Int}{D T:List Kp}{L:List (zV×zV)}{B J:Nat}{U G:zV}{V:List Tie}{r:Nat}{q:Qn}{k:Kp}{O:List Qn}
theorem lA(root:zA)(X:List Mo)(s:Shf)(o:Qn->Fi):∀(l ms:List Mo)(ps:List Pb),∃a0 a1,(br root X l ms ps).run s o=.wants a0 a1
 |[],ms,ps=>⟨ms,ps,rfl⟩
 |x::M,ms,ps=>by
  unfold br
  split
  ·exact lA root X s o M ms ps
  ·show ∃a0 a1,(match choose x (px (o ⟨1,x.1,e0⟩)) X with | .inl m=>_ | .inr p=>_:Cm Fi).run s o=_
   cases choose x (px (o ⟨1,x.1,e0⟩)) X with
   |inl m=>exact lA root X s o M _ ps
   |inr p=>exact lA root X s o M ms _
theorem LI(node:Mo)(s:Shf)(o:Qn->Fi):∃ms ps,(fz node).run s o=.wants ms ps:=by
 unfold fz;simp only[Cm.run]
 split
 ·exact⟨_,_,rfl⟩
 ·exact lA _ _ s o _ _ _
theorem vQ(root:zA)(s:Shf)(o:Qn->Fi):∀(n:Nat)(l:List Mo)(i:Nat)(ps:List Pb),∃M a0,(cq root n l i ps).run s o=.list M a0
 |0,_,_,_=>⟨_,_,rfl⟩
 |n+1,l,i,ps=>by
  unfold cq;cases l[i]? with
  |none=>exact⟨_,_,rfl⟩
  |some m=>
   show ∃M a0,(match bX l (cO (o ⟨2,m.1,m.2⟩)).1 with|none=>_|some l'=>_:Cm Fi).run s o=_;cases bX l (cO (o ⟨2,m.1,m.2⟩)).1 with
   |none=>exact⟨_,_,rfl⟩
   |some l'=>exact vQ root s o n l' _ _
theorem Oi(s:Shf)(o:Qn->Fi):∃ms ps,gq.run s o=.list ms ps:=by
 unfold gq;simp only[Cm.run]
 split
 ·exact⟨_,_,rfl⟩
 ·exact vQ _ s o _ _ _ _
theorem vR(ms:List Mo)(s:Shf)(o:Qn->Fi):∀(l:List Mo)(ws:List (List Mo)),∃ns ps,(fg (jr ms) l ws).run s o=.ord ns ps
 |[],_=>⟨_,_,rfl⟩
 |_::M,_=>vR ms s o M _
theorem QW(s:Shf)(o:Qn->Fi):∃M ps,(vE jr).run s o=.ord M ps:=vR _ s o _ _
theorem Az(s:Shf)(p v:zA):∃ms ps,val s ⟨2,p,v⟩=.wants ms ps:=by
 rw[xX s (ah 2)];show ∃ms ps,(if (2:Nat)=2 then _ else _)=_;rw[aj rfl];exact LI _ _ _
theorem yA(s:Shf)(p v:zA):∃ms ps,val s ⟨3,p,v⟩=.list ms ps:=by
 rw[xW s (ah 3)];show ∃ms ps,(if (3:Nat)=3 then _ else _)=_;rw[aj rfl];exact Oi _ _
theorem GM(s:Shf)(p v:zA):∃M ps,val s ⟨4,p,v⟩=.ord M ps:=by
 show ∃ms ps,(if (4:Nat)=4 then _ else _)=_;rw[aj rfl];exact QW _ _
theorem eF(hF:eG S Q Z Y mb now cap L r)(M m2:zA)(hp:M.size<=N48)(a6:m2.size<=N48)(hD:D.length+grow r<=N15)(w:zW)(h:Tsk A S w B J Q Z Y mb now cap cs D L U V)(ad:V.length<=9999):
  zC 171 #[zP J,.agg #[tS M,tS m2]] w fun e w'=>∃A2 G pr m rv xv sv k T O,e=.returned (.agg #[zI (pr:Nat),tS m.p,rv,xv,sv])/\(RdA A2 Sm.mc w' rv m.R/\RdA A2 Sm.mc w' xv m.X/\RdA A2 Sw.mc w' sv m.S)/\k.f=.man pr m/\gR A S w B J Q Z Y mb now cap cs D L U V r ⟨0,M,m2⟩ w' A2 G k T O:=by
 have a1:zB w (w.alloc (.cells #[tS M,tS m2] 70)):=(ae _ _).alloc (ah _) _;have a2:zB w ((w.alloc (.cells #[tS M,tS m2] 70)).alloc (.cells #[zI 0,zE,zN,zN,zN] 216)):=a1.alloc a1.size _;have hP:∀b,b=w.heap.size+1->w.heap.size<=b/\b<((w.alloc (.cells #[tS M,tS m2] 70)).alloc (.cells #[zI 0,zE,zN,zN,zN] 216)).heap.size:=fun b e=>by rw[e];exact⟨cE _,by simp⟩
 have aa:Hid (((w.alloc (.cells #[tS M,tS m2] 70)).alloc (.cells #[zI 0,zE,zN,zN,zN] 216)).heap[w.heap.size+1]?=some (.cells #[zI 0,zE,zN,zN,zN] 216)):=eD w _ _;have ak:Hid (((w.alloc (.cells #[tS M,tS m2] 70)).alloc (.cells #[zI 0,zE,zN,zN,zN] 216)).heap[w.heap.size]?=some (.cells #[tS M,tS m2] 70)):=(aH _ _ _ (by simp)).trans (aA _ _);have ka:=tG hF ⟨0,M,m2⟩ (aJ _) (by show 0<=4;decide) ⟨hp,a6⟩ hD _ (h.wide a2 (fun b=>b=w.heap.size+1) hP) ad;have HT:=zH h;have a0:Hid (zB w ((w.alloc (.cells #[tS M,tS m2] 70)).alloc (.cells #[zI 0,zE,zN,zN,zN] 216))/\∀b,b=w.heap.size+1->w.heap.size<=b/\b<((w.alloc (.cells #[tS M,tS m2] 70)).alloc (.cells #[zI 0,zE,zN,zN,zN] 216)).heap.size):=⟨a2,hP⟩;clear a1 a2 hP h hF hD hp a6;go_enter func171,ntmps171
 go_wp2_with (go_at_call 64;fail)
 generalize (w.alloc (.cells #[tS M,tS m2] 70)).alloc (.cells #[zI 0,zE,zN,zN,zN] 216)=W1 at*;go_at_call 64;refine ka.mono ?_;rintro e I ⟨A2,G,fv,k,T,O,rfl,a5,hk⟩;have hv:=hk.val HT.out.eng.inv (aJ _) (by show 0<=4;decide);obtain⟨pr,m,a7⟩:=Ca (S now) M m2;rw[a7] at hv;rw[hv.1] at a5;obtain⟨rv,xv,sv,rfl,h1,h2,h3⟩:=a5;obtain⟨ra,rc,e1⟩:=h1.len;obtain⟨xa,xc,e2⟩:=h2.len;obtain⟨sa,sc,e3⟩:=h3.len;subst e1;subst e2;subst e3;have HK:Hid (gR (fun b=>A b\/b=w.heap.size+1) S W1 B J Q Z Y mb now cap cs D L U V r ⟨0,M,m2⟩ I A2 G k T O/\(RdA A2 Sm.mc I (.slice ra m.R.length rc) m.R/\RdA A2 Sm.mc I (.slice xa m.X.length xc) m.X/\RdA A2 Sw.mc I (.slice sa m.S.length sc) m.S)/\k.f=.man pr m):=⟨hk,⟨h1,h2,h3⟩,hv.1⟩;have a3:Hid (I.heap[w.heap.size+1]?=some (.cells #[zI 0,zE,zN,zN,zN] 216)):=(hk.stay HT.out (by omega) (a0.out.2 _ rfl).2).trans aa.out;have a4:Hid ((I.alloc (.cells #[zI (pr:Nat),tS m.p,.slice ra m.R.length rc,.slice xa m.X.length xc,.slice sa m.S.length sc] 216)).heap[w.heap.size+1]?=some (.cells #[zI 0,zE,zN,zN,zN] 216)):=(aH _ _ _ (af a3.out)).trans a3.out
 have a8:Hid (zB I (I.alloc (.cells #[zI (pr:Nat),tS m.p,.slice ra m.R.length rc,.slice xa m.X.length xc,.slice sa m.S.length sc] 216))):=(ae _ _).alloc (ah _) _;have a9:Hid ((I.alloc (.cells #[zI (pr:Nat),tS m.p,.slice ra m.R.length rc,.slice xa m.X.length xc,.slice sa m.S.length sc] 216)).heap[I.heap.size]?=some (.cells #[zI (pr:Nat),tS m.p,.slice ra m.R.length rc,.slice xa m.X.length xc,.slice sa m.S.length sc] 216)):=aA _ _;clear hk hv a7 ka h1 h2 h3;have ab:=Li (.agg #[zI (pr:Nat),tS m.p,.slice ra m.R.length rc,.slice xa m.X.length xc,.slice sa m.S.length sc]) I;go_upto_region 2 with fail;obtain⟨⟨c0,f0⟩,⟨c1,f1⟩,⟨c2,f2⟩,⟨c3,f3⟩,⟨c4,f4⟩⟩:=fd5 a4.out;obtain⟨⟨d0,_⟩,⟨d1,_⟩,⟨d2,_⟩,⟨d3,_⟩,⟨d4,_⟩⟩:=fd5 a9.out;clear ab;generalize I.alloc (.cells #[zI (pr:Nat),tS m.p,.slice ra m.R.length rc,.slice xa m.X.length xc,.slice sa m.S.length sc] 216)=W3 at*;go_wp2;refine aI (bG results171 _ _ (w.heap.size+1) 216 _ (0,0) _ rfl (gW a4.out _ _ _ _ _) underlying216 rfl (by kernel_rfl)) rfl ?_
 have hT:ai (fun b=>b=w.heap.size+1) I (((((W3.setCell (tD (w.heap.size+1) 0) (zI (pr:Nat))).setCell (tD (w.heap.size+1) 1) (tS m.p)).setCell (tD (w.heap.size+1) 2) (.slice ra m.R.length rc)).setCell (tD (w.heap.size+1) 3) (.slice xa m.X.length xc)).setCell (tD (w.heap.size+1) 4) (.slice sa m.S.length sc)):=((((((ai.of_below (p:=fun b=>b=w.heap.size+1) a8.out).set (a:=(tD (w.heap.size+1) 0)) (fun _=>rfl) _).set (a:=(tD (w.heap.size+1) 1)) (fun _=>rfl) _).set (a:=(tD (w.heap.size+1) 2)) (fun _=>rfl) _).set (a:=(tD (w.heap.size+1) 3)) (fun _=>rfl) _).set (a:=(tD (w.heap.size+1) 4)) (fun _=>rfl) _);have hM:=hT.mono (r:=A2) (fun b _ e=>HK.out.1.2.2.2.1 b (oS e));exact⟨A2,G,pr,m,_,_,_,k,T,O,rfl,⟨HK.out.2.1.1.turn hM,HK.out.2.1.2.1.turn hM,HK.out.2.1.2.2.turn hM⟩,HK.out.2.2,HK.out.1.lift HT.out a0.out.1 a0.out.2 hT⟩
theorem iW(hF:eG S Q Z Y mb now cap L r)(M m2:zA)(hp:M.size<=N48)(a6:m2.size<=N48)(hr:1<=r)(hD:D.length+grow r<=N15)(w:zW)(h:Tsk A S w B J Q Z Y mb now cap cs D L U V)(ak:V.length<=9999):
  zC 175 #[zP J,.agg #[tS M,tS m2]] w fun e w'=>∃A2 G ms ps a b k T O,e=.returned (.agg #[a,b])/\(RdA A2 Sm.mc w' a ms/\RdA A2 aW w' b ps)/\k.f=.wants ms ps/\gR A S w B J Q Z Y mb now cap cs D L U V r ⟨2,M,m2⟩ w' A2 G k T O:=by
 have a1:zB w (w.alloc (.cells #[tS M,tS m2] 70)):=(ae _ _).alloc (ah _) _;have a2:zB w ((w.alloc (.cells #[tS M,tS m2] 70)).alloc (.cells #[zN,zN] 221)):=a1.alloc a1.size _;have hP:∀b,b=w.heap.size+1->w.heap.size<=b/\b<((w.alloc (.cells #[tS M,tS m2] 70)).alloc (.cells #[zN,zN] 221)).heap.size:=fun b e=>by rw[e];exact⟨cE _,by simp⟩
 have ab:Hid (((w.alloc (.cells #[tS M,tS m2] 70)).alloc (.cells #[zN,zN] 221)).heap[w.heap.size+1]?=some (.cells #[zN,zN] 221)):=eD w _ _;have an:Hid (((w.alloc (.cells #[tS M,tS m2] 70)).alloc (.cells #[zN,zN] 221)).heap[w.heap.size]?=some (.cells #[tS M,tS m2] 70)):=(aH _ _ _ (by simp)).trans (aA _ _);have ka:=tG hF ⟨2,M,m2⟩ hr (by show 2<=4;decide) ⟨hp,a6⟩ hD _ (h.wide a2 (fun b=>b=w.heap.size+1) hP) ak;have HT:=zH h;have a0:Hid (zB w ((w.alloc (.cells #[tS M,tS m2] 70)).alloc (.cells #[zN,zN] 221))/\∀b,b=w.heap.size+1->w.heap.size<=b/\b<((w.alloc (.cells #[tS M,tS m2] 70)).alloc (.cells #[zN,zN] 221)).heap.size):=⟨a2,hP⟩;clear a1 a2 hP h hF hD hp a6;go_enter func175,ntmps175
 go_wp2_with (go_at_call 64;fail)
 generalize (w.alloc (.cells #[tS M,tS m2] 70)).alloc (.cells #[zN,zN] 221)=W1 at*;go_at_call 64;refine ka.mono ?_;rintro e I ⟨A2,G,fv,k,T,O,rfl,a5,hk⟩;have hv:=hk.val HT.out.eng.inv hr (by show 2<=4;decide);obtain⟨ms,ps,a7⟩:=Az (S now) M m2;rw[a7] at hv;rw[hv.1] at a5;obtain⟨a,b,rfl,h1,h2⟩:=a5;obtain⟨aa,ac,e1⟩:=h1.len;obtain⟨ba,bc,e2⟩:=h2.len;subst e1;subst e2;have HK:Hid (gR (fun b=>A b\/b=w.heap.size+1) S W1 B J Q Z Y mb now cap cs D L U V r ⟨2,M,m2⟩ I A2 G k T O/\(RdA A2 Sm.mc I (.slice aa ms.length ac) ms/\RdA A2 aW I (.slice ba ps.length bc) ps)/\k.f=.wants ms ps):=⟨hk,⟨h1,h2⟩,hv.1⟩;have a3:Hid (I.heap[w.heap.size+1]?=some (.cells #[zN,zN] 221)):=(hk.stay HT.out (by omega) (a0.out.2 _ rfl).2).trans ab.out;have a4:Hid ((I.alloc (.cells #[.slice aa ms.length ac,.slice ba ps.length bc] 221)).heap[w.heap.size+1]?=some (.cells #[zN,zN] 221)):=(aH _ _ _ (af a3.out)).trans a3.out;have a8:Hid (zB I (I.alloc (.cells #[.slice aa ms.length ac,.slice ba ps.length bc] 221))):=(ae _ _).alloc (ah _) _;have a9:Hid ((I.alloc (.cells #[.slice aa ms.length ac,.slice ba ps.length bc] 221)).heap[I.heap.size]?=some (.cells #[.slice aa ms.length ac,.slice ba ps.length bc] 221)):=aA _ _;clear hk hv a7 ka h1 h2;have ad:=Ll (.agg #[.slice aa ms.length ac,.slice ba ps.length bc]) I
 go_upto_region 2 with fail;obtain⟨⟨c0,f0⟩,⟨c1,f1⟩⟩:=fd2 a4.out;obtain⟨⟨d0,_⟩,⟨d1,_⟩⟩:=fd2 a9.out;clear ad;generalize I.alloc (.cells #[.slice aa ms.length ac,.slice ba ps.length bc] 221)=W3 at*;go_wp2;refine aI (bG results175 _ _ (w.heap.size+1) 221 _ (0,0) _ rfl (gM a4.out _ _) underlying221 rfl (by kernel_rfl)) rfl ?_;have hT:ai (fun b=>b=w.heap.size+1) I ((W3.setCell (tD (w.heap.size+1) 0) (.slice aa ms.length ac)).setCell (tD (w.heap.size+1) 1) (.slice ba ps.length bc)):=(((ai.of_below (p:=fun b=>b=w.heap.size+1) a8.out).set (a:=(tD (w.heap.size+1) 0)) (fun _=>rfl) _).set (a:=(tD (w.heap.size+1) 1)) (fun _=>rfl) _);have hM:=hT.mono (r:=A2) (fun b _ e=>HK.out.1.2.2.2.1 b (oS e));exact⟨A2,G,ms,ps,_,_,k,T,O,rfl,⟨HK.out.2.1.1.turn hM,HK.out.2.1.2.turn hM⟩,HK.out.2.2,HK.out.1.lift HT.out a0.out.1 a0.out.2 hT⟩
theorem DZ(hF:eG S Q Z Y mb now cap L r)(hr:2<=r)(hD:D.length+grow r<=N15)(w:zW)(h:Tsk A S w B J Q Z Y mb now cap cs D L U V)(ab:V.length<=9999):
  zC 48 #[zP J] w fun e w'=>∃A2 G ms ps a b k T O,e=.returned (.agg #[a,b])/\(RdA A2 Sm.mc w' a ms/\RdA A2 aW w' b ps)/\k.f=.list ms ps/\gR A S w B J Q Z Y mb now cap cs D L U V r ⟨3,e0,e0⟩ w' A2 G k T O:=by
 have a1:zB w (w.alloc (.cells #[zN,zN] 86)):=(ae _ _).alloc (ah _) _;have hP:∀b,b=w.heap.size->w.heap.size<=b/\b<(w.alloc (.cells #[zN,zN] 86)).heap.size:=fun b e=>by rw[e];exact⟨ah _,by simp⟩
 have a8:Hid ((w.alloc (.cells #[zN,zN] 86)).heap[w.heap.size]?=some (.cells #[zN,zN] 86)):=aA _ _;have ka:=tG hF ⟨3,e0,e0⟩ hr (by show 3<=4;decide) ⟨aJ _,aJ _⟩ hD _ (h.wide a1 (fun b=>b=w.heap.size) hP) ab;have HT:=zH h;have a0:Hid (zB w (w.alloc (.cells #[zN,zN] 86))/\∀b,b=w.heap.size->w.heap.size<=b/\b<(w.alloc (.cells #[zN,zN] 86)).heap.size):=⟨a1,hP⟩;clear a1 hP h hF hD;go_enter func48,ntmps48
 go_wp2_with (go_at_call 64;fail)
 generalize w.alloc (.cells #[zN,zN] 86)=W1 at*;go_at_call 64;refine ka.mono ?_;rintro e I ⟨A2,G,fv,k,T,O,rfl,a4,hk⟩;have hv:=hk.val HT.out.eng.inv hr (by show 3<=4;decide);obtain⟨ms,ps,a5⟩:=yA (S now) e0 e0;rw[a5] at hv;rw[hv.1] at a4;obtain⟨a,b,rfl,h1,h2⟩:=a4;obtain⟨M,ac,e1⟩:=h1.len;obtain⟨ba,bc,e2⟩:=h2.len;subst e1;subst e2;have HK:Hid (gR (fun b=>A b\/b=w.heap.size) S W1 B J Q Z Y mb now cap cs D L U V r ⟨3,e0,e0⟩ I A2 G k T O/\(RdA A2 Sm.mc I (.slice M ms.length ac) ms/\RdA A2 aW I (.slice ba ps.length bc) ps)/\k.f=.list ms ps):=⟨hk,⟨h1,h2⟩,hv.1⟩;have a2:Hid (I.heap[w.heap.size]?=some (.cells #[zN,zN] 86)):=(hk.stay HT.out (by omega) (a0.out.2 _ rfl).2).trans a8.out;have a3:Hid ((I.alloc (.cells #[.slice M ms.length ac,.slice ba ps.length bc] 86)).heap[w.heap.size]?=some (.cells #[zN,zN] 86)):=(aH _ _ _ (af a2.out)).trans a2.out;have a6:Hid (zB I (I.alloc (.cells #[.slice M ms.length ac,.slice ba ps.length bc] 86))):=(ae _ _).alloc (ah _) _;have a7:Hid ((I.alloc (.cells #[.slice M ms.length ac,.slice ba ps.length bc] 86)).heap[I.heap.size]?=some (.cells #[.slice M ms.length ac,.slice ba ps.length bc] 86)):=aA _ _;clear hk hv a5 ka h1 h2;have a9:=Lq (.agg #[.slice M ms.length ac,.slice ba ps.length bc]) I;go_upto_region 2 with fail;obtain⟨⟨c0,f0⟩,⟨c1,f1⟩⟩:=fd2 a3.out
 obtain⟨⟨d0,_⟩,⟨d1,_⟩⟩:=fd2 a7.out;clear a9;generalize I.alloc (.cells #[.slice M ms.length ac,.slice ba ps.length bc] 86)=W3 at*;go_wp2;refine aI (bG results48 _ _ (w.heap.size) 86 _ (0,0) _ rfl (gM a3.out _ _) underlying86 rfl (by kernel_rfl)) rfl ?_;have hT:ai (fun b=>b=w.heap.size) I ((W3.setCell (tD w.heap.size 0) (.slice M ms.length ac)).setCell (tD w.heap.size 1) (.slice ba ps.length bc)):=(((ai.of_below (p:=fun b=>b=w.heap.size) a6.out).set (a:=(tD w.heap.size 0)) (fun _=>rfl) _).set (a:=(tD w.heap.size 1)) (fun _=>rfl) _);have hM:=hT.mono (r:=A2) (fun b _ e=>HK.out.1.2.2.2.1 b (oS e));exact⟨A2,G,ms,ps,_,_,k,T,O,rfl,⟨HK.out.2.1.1.turn hM,HK.out.2.1.2.turn hM⟩,HK.out.2.2,HK.out.1.lift HT.out a0.out.1 a0.out.2 hT⟩
theorem Jo(hF:eG S Q Z Y mb now cap L r)(hr:3<=r)(hD:D.length+grow r<=N15)(w:zW)(h:Tsk A S w B J Q Z Y mb now cap cs D L U V)(ab:V.length<=9999):
  zC 49 #[zP J] w fun e w'=>∃A2 G ms ps a b k T O,e=.returned (.agg #[a,b])/\(RdA A2 gf w' a ms/\RdA A2 aW w' b ps)/\k.f=.ord ms ps/\gR A S w B J Q Z Y mb now cap cs D L U V r ⟨4,e0,e0⟩ w' A2 G k T O:=by
 have a1:zB w (w.alloc (.cells #[zN,zN] 89)):=(ae _ _).alloc (ah _) _;have hP:∀b,b=w.heap.size->w.heap.size<=b/\b<(w.alloc (.cells #[zN,zN] 89)).heap.size:=fun b e=>by rw[e];exact⟨ah _,by simp⟩
 have a8:Hid ((w.alloc (.cells #[zN,zN] 89)).heap[w.heap.size]?=some (.cells #[zN,zN] 89)):=aA _ _;have ka:=tG hF ⟨4,e0,e0⟩ hr (by show 4<=4;decide) ⟨aJ _,aJ _⟩ hD _ (h.wide a1 (fun b=>b=w.heap.size) hP) ab;have HT:=zH h;have a0:Hid (zB w (w.alloc (.cells #[zN,zN] 89))/\∀b,b=w.heap.size->w.heap.size<=b/\b<(w.alloc (.cells #[zN,zN] 89)).heap.size):=⟨a1,hP⟩;clear a1 hP h hF hD;go_enter func49,ntmps49
 go_wp2_with (go_at_call 64;fail)
 generalize w.alloc (.cells #[zN,zN] 89)=W1 at*;go_at_call 64;refine ka.mono ?_;rintro e I ⟨A2,G,fv,k,T,O,rfl,a4,hk⟩;have hv:=hk.val HT.out.eng.inv hr (by show 4<=4;decide);obtain⟨ms,ps,a5⟩:=GM (S now) e0 e0;rw[a5] at hv;rw[hv.1] at a4;obtain⟨a,b,rfl,h1,h2⟩:=a4;obtain⟨M,ac,e1⟩:=h1.len;obtain⟨ba,bc,e2⟩:=h2.len;subst e1;subst e2;have HK:Hid (gR (fun b=>A b\/b=w.heap.size) S W1 B J Q Z Y mb now cap cs D L U V r ⟨4,e0,e0⟩ I A2 G k T O/\(RdA A2 gf I (.slice M ms.length ac) ms/\RdA A2 aW I (.slice ba ps.length bc) ps)/\k.f=.ord ms ps):=⟨hk,⟨h1,h2⟩,hv.1⟩;have a2:Hid (I.heap[w.heap.size]?=some (.cells #[zN,zN] 89)):=(hk.stay HT.out (by omega) (a0.out.2 _ rfl).2).trans a8.out;have a3:Hid ((I.alloc (.cells #[.slice M ms.length ac,.slice ba ps.length bc] 89)).heap[w.heap.size]?=some (.cells #[zN,zN] 89)):=(aH _ _ _ (af a2.out)).trans a2.out;have a6:Hid (zB I (I.alloc (.cells #[.slice M ms.length ac,.slice ba ps.length bc] 89))):=(ae _ _).alloc (ah _) _;have a7:Hid ((I.alloc (.cells #[.slice M ms.length ac,.slice ba ps.length bc] 89)).heap[I.heap.size]?=some (.cells #[.slice M ms.length ac,.slice ba ps.length bc] 89)):=aA _ _;clear hk hv a5 ka h1 h2;have a9:=Lt (.agg #[.slice M ms.length ac,.slice ba ps.length bc]) I;go_upto_region 2 with fail;obtain⟨⟨c0,f0⟩,⟨c1,f1⟩⟩:=fd2 a3.out
 obtain⟨⟨d0,_⟩,⟨d1,_⟩⟩:=fd2 a7.out;clear a9;generalize I.alloc (.cells #[.slice M ms.length ac,.slice ba ps.length bc] 89)=W3 at*;go_wp2;refine aI (bG results49 _ _ (w.heap.size) 89 _ (0,0) _ rfl (gM a3.out _ _) underlying89 rfl (by kernel_rfl)) rfl ?_;have hT:ai (fun b=>b=w.heap.size) I ((W3.setCell (tD w.heap.size 0) (.slice M ms.length ac)).setCell (tD w.heap.size 1) (.slice ba ps.length bc)):=(((ai.of_below (p:=fun b=>b=w.heap.size) a6.out).set (a:=(tD w.heap.size 0)) (fun _=>rfl) _).set (a:=(tD w.heap.size 1)) (fun _=>rfl) _);have hM:=hT.mono (r:=A2) (fun b _ e=>HK.out.1.2.2.2.1 b (oS e));exact⟨A2,G,ms,ps,_,_,k,T,O,rfl,⟨HK.out.2.1.1.turn hM,HK.out.2.1.2.turn hM⟩,HK.out.2.2,HK.out.1.lift HT.out a0.out.1 a0.out.2 hT⟩
end Pn
namespace Pn
open Mf Ed
variable{A F A2:Nat->Prop}{S:Nat->Shf}{w w' W W1 I wf:zW}{Q Z Y mb now:Nat}{cap:Int}{cs:List Int}{D T:List Kp}{L:List (zV×zV)}{B J:Nat}{U G:zV}{V E:List Tie}{r:Nat}{q:Qn}{k:Kp}{O:List Qn}{cs':List Int}
structure dH(A:Nat->Prop)(S:Nat->Shf)(w:World)(B J Q Z Y mb now:Nat)(cap:Int)(L:List (zV×zV))(U:zV)(w':World)(A2:Nat->Prop)(cs':List Int)(T:List Kp)(G:zV)(E:List Tie):Prop where
 t:Tsk A2 S w' B J Q Z Y mb now cap cs' T L G E
 f:ai (Fr4 Q Y J U) w w'
 sub:∀b,A b->A2 b
 new:∀b,A2 b->A b\/w.heap.size<=b
 own:∀b,G.ownBlock=some b->U.ownBlock=some b\/w.heap.size<=b
theorem gR.went(h:gR A S w B J Q Z Y mb now cap cs D L U V r q I A2 G k T O):dH A S w B J Q Z Y mb now cap L U I A2 (counted cs O) T G (V++[.ask q]):=⟨h.2.1,h.2.2.1,h.2.2.2.1,h.2.2.2.2.1,h.2.2.2.2.2⟩
theorem dH.trans{a1:zV}{A3:Nat->Prop}{M:List Int}{D2:List Kp}{a0:List Tie}{w3:zW}(h:dH A S w B J Q Z Y mb now cap L U I A2 cs' T G E)(g:dH A2 S I B J Q Z Y mb now cap L G w3 A3 M D2 a1 a0):dH A S w B J Q Z Y mb now cap L U w3 A3 M D2 a1 a0:=by
 have hs:=h.f.size;refine⟨g.t,h.f.trans g.f (fun _ _ e=>e) (fun b hb e=>?_),fun b e=>g.sub b (h.sub b e),fun b e=>?_,fun b e=>?_⟩
 ·rcases e with e|e|e|e
  ·exact oE e
  ·exact oS (oE e)
  ·exact oS (oS (oE e))
  ·rcases h.own b e with e|e
   ·exact oS (oS (oS e))
   ·omega
 ·rcases g.new b e with e|e
  ·exact h.new b e
  ·exact oS (by omega)
 ·rcases g.own b e with e|e
  ·exact h.own b e
  ·exact oS (by omega)
theorem dH.lift{P:Nat->Prop}(h:Tsk A S w B J Q Z Y mb now cap cs D L U V)(hb:zB w W1)(hP:∀b,P b->w.heap.size<=b/\b<W1.heap.size)(M:dH (fun b=>A b\/P b) S W1 B J Q Z Y mb now cap L U I A2 cs' T G E)(ht:ai P I wf):
  dH A S w B J Q Z Y mb now cap L U wf A2 cs' T G E:=by
 have hs:=hb.size;refine⟨M.t.turn ht (fun b _ e=>M.sub b (oS e)) (fun b e=>⟨by have:=(hP b e).1;have:=h.hB;omega,fun e2=>?_⟩),?_,fun b e=>M.sub b (oE e),fun b e=>?_,fun b e=>?_⟩
 ·have h7:=hP b e
  rcases e2 with e2|e2
  ·have:=h.task.t0.lt;omega
  ·rcases M.own b e2 with e3|e3
   ·have:=(h.task.row.lt b e3).2;omega
   ·omega
 ·exact((ai.of_below hb).trans M.f (fun _ _ e=>e) (fun _ _ e=>e)).trans ht (fun _ _ e=>e) (fun b a0 e=>by have:=(hP b e).1;omega)
 ·rcases M.new b e with(e|e)|e
  ·exact oE e
  ·exact oS (hP b e).1
  ·exact oS (by omega)
 ·rcases M.own b e with e|e
  ·exact oE e
  ·exact oS (by omega)
theorem dH.stay(h:Tsk A S w B J Q Z Y mb now cap cs D L U V)(hk:dH F S W1 B J Q Z Y mb now cap L U I A2 cs' T G E){b:Nat}(h1:w.heap.size<=b)(M:b<W1.heap.size):I.heap[b]?=W1.heap[b]?:=by
 refine hk.f.block b M (fun e=>?_);have h3:=h.lt;have h4:=h.hB;rcases e with e|e|e|e
 ·omega
 ·omega
 ·have:=h.task.t0.lt;omega
 ·have:=(h.task.row.lt b e).2;omega
theorem yB(p:Plc)(hp:POk p)(w:zW)(h:Tsk A S w B J Q Z Y mb now cap cs D L U V)(a0:V.length<=9999):
  zC 152 #[zP J,plV p] w fun e w'=>∃A2 G,e=.returned (txV (S now p))/\dH A S w B J Q Z Y mb now cap L U w' A2 cs D G (V++[.rd p (S now p)]):=by
 refine(pd (S now) p w h.eng.shelf h.eng.on hp h.task h.eng.desk.f0.1 (by omega) h.hB).mono ?_;rintro e w' ⟨G,rfl,hT,ht,M⟩
 exact⟨_,G,rfl,h.grown ht hT M,ht.mono (fun b _ e=>oS (oS e)),fun b e=>oE e,fun b e=>by
  rcases e with e|e
  ·exact oE e
  ·rcases M b e with e|e
   ·exact oE (h.pr b (oS e))
   ·exact oS e,M⟩
theorem Jp(a b:zV)(W:zW):(Instr.field 129 (.agg #[a,b]) 0).run prog W=.ok a W:=by kernel_rfl
theorem Jq(t:Option zA):bU t=rootOf t:=by cases t<;>rfl
theorem D7(w:zW)(h:Tsk A S w B J Q Z Y mb now cap cs D L U V)(a3:V.length<=9999):
  zC 168 #[zP J] w fun e w'=>∃A2 G,e=.returned (.agg #[tS (rootOf (S now ay)),tS e0])/\dH A S w B J Q Z Y mb now cap L U w' A2 cs D G (V++[.rd ay (S now ay)]):=by
 have a0:zB w (w.alloc (.cells #[zE,zE] 70)):=(ae _ _).alloc (ah _) _;have hP:∀b,b=w.heap.size->w.heap.size<=b/\b<(w.alloc (.cells #[zE,zE] 70)).heap.size:=fun b e=>by rw[e];exact⟨ah _,by simp⟩
 have a2:Hid ((w.alloc (.cells #[zE,zE] 70)).heap[w.heap.size]?=some (.cells #[zE,zE] 70)):=aA _ _;have ka:=yB ay ⟨by show 2<=4;decide,aJ _,aJ _⟩ _ (h.wide a0 (fun b=>b=w.heap.size) hP) a3;have HT:=zH h;have M:Hid (zB w (w.alloc (.cells #[zE,zE] 70))/\∀b,b=w.heap.size->w.heap.size<=b/\b<(w.alloc (.cells #[zE,zE] 70)).heap.size):=⟨a0,hP⟩;clear a0 hP h;rw[<-Jq];go_enter func168,ntmps168
 go_wp2_with (go_at_call 152;fail)
 generalize w.alloc (.cells #[zE,zE] 70)=W1 at*;go_at_call 152;refine ka.mono ?_;rintro e I ⟨A2,G,rfl,hk⟩;have HK:=zH hk;have a1:=zH ((hk.stay HT.out (ah _) (M.out.2 _ rfl).2).trans a2.out);clear hk ka;obtain⟨⟨c0,f0⟩,⟨c1,f1⟩⟩:=fd2 a1.out;have a4:=Jp (tS (bU (S now ay))) (.bool (S now ay).isSome) I;go_wp2;refine aI (bG results168 _ _ w.heap.size 70 _ (0,0) _ rfl (gM a1.out _ _) underlying70 rfl (by kernel_rfl)) rfl ?_;have hT:ai (fun b=>b=w.heap.size) I ((I.setCell (tD w.heap.size 0) (tS (bU (S now ay)))).setCell (tD w.heap.size 1) (zE)):=((ai.refl (fun b=>b=w.heap.size) I).set (a:=(tD w.heap.size 0)) (fun _=>rfl) _).set (a:=(tD w.heap.size 1)) (fun _=>rfl) _;exact⟨A2,G,rfl,HK.out.lift HT.out M.out.1 M.out.2 hT⟩
end Pn
namespace Pn
open Mf Ed
variable{A F A2:Nat->Prop}{S:Nat->Shf}{w w' W W1 I wf:zW}{Q Z Y mb now:Nat}{cap:Int}{cs:List Int}{D T:List Kp}{L:List (zV×zV)}{B J:Nat}{U G:zV}{V E:List Tie}{r:Nat}{q:Qn}{k:Kp}{O:List Qn}{cs':List Int}
theorem lO{W:zW}{r:Nat}{t:TypeId}{x0 x1 x2 x3:zV}(h:W.heap[r]?=some (.cells #[x0,x1,x2,x3] t))(a b c d:zV):((((W.setCell (tD r 0) a).setCell (tD r 1) b).setCell (tD r 2) c).setCell (tD r 3) d).heap[r]?=some (.cells #[a,b,c,d] t):=by
 have M:=bo _ _ 0 _ _ a h;have h2:=bo _ _ 1 _ _ b M;have h3:=bo _ _ 2 _ _ c h2;exact bo _ _ 3 _ _ d h3
theorem fd4{W:zW}{r:Nat}{t:TypeId}{M x1 x2 x3:zV}(h:W.heap[r]?=some (.cells #[M,x1,x2,x3] t)):(W.cell? (tD r 0)=some M/\W.frozen? (tD r 0)=false)/\(W.cell? (tD r 1)=some x1/\W.frozen? (tD r 1)=false)/\(W.cell? (tD r 2)=some x2/\W.frozen? (tD r 2)=false)/\(W.cell? (tD r 3)=some x3/\W.frozen? (tD r 3)=false):=by
 simp only[World.cell?,World.frozen?,h];exact⟨⟨rfl,rfl⟩,⟨rfl,rfl⟩,⟨rfl,rfl⟩,⟨rfl,rfl⟩⟩
theorem Jr(hF:eG S Q Z Y mb now cap L r)(M:zA)(hp:M.size<=N48)(hD:D.length+grow r<=N15)(w:zW)(h:Tsk A S w B J Q Z Y mb now cap cs D L U V)(av:V.length<=9999):
  zC 169 #[zP J,.agg #[tS M,tS e0]] w fun e w'=>∃A2 G rv xv sv k T O,e=.returned (.agg #[tS (cg M k.f).p,rv,xv,sv])/\(RdA A2 Sm.mc w' rv (cg M k.f).R/\RdA A2 Sm.mc w' xv (cg M k.f).X/\RdA A2 Sw.mc w' sv (cg M k.f).S)/\fnd (S now) now r D ⟨0,M,e0⟩ k T O/\dH A S w B J Q Z Y mb now cap L U w' A2 (counted cs O) T G (V++[.ask ⟨0,M,e0⟩]):=by
 have a8:zB w (w.alloc (.cells #[tS M,tS e0] 70)):=(ae _ _).alloc (ah _) _;have a9:zB w ((w.alloc (.cells #[tS M,tS e0] 70)).alloc (.cells #[zE,zN,zN,zN] 214)):=a8.alloc a8.size _;have hP:∀b,b=w.heap.size+1->w.heap.size<=b/\b<((w.alloc (.cells #[tS M,tS e0] 70)).alloc (.cells #[zE,zN,zN,zN] 214)).heap.size:=fun b e=>by rw[e];exact⟨cE _,by simp⟩
 have ad:Hid (((w.alloc (.cells #[tS M,tS e0] 70)).alloc (.cells #[zE,zN,zN,zN] 214)).heap[w.heap.size+1]?=some (.cells #[zE,zN,zN,zN] 214)):=eD w _ _;have ab:Hid (((w.alloc (.cells #[tS M,tS e0] 70)).alloc (.cells #[zE,zN,zN,zN] 214)).heap[w.heap.size]?=some (.cells #[tS M,tS e0] 70)):=(aH _ _ _ (by simp)).trans (aA _ _);have ka:=eF hF M e0 hp (aJ _) hD _ (h.wide a9 (fun b=>b=w.heap.size+1) hP) av;have HT:=zH h;have a0:Hid (zB w ((w.alloc (.cells #[tS M,tS e0] 70)).alloc (.cells #[zE,zN,zN,zN] 214))/\∀b,b=w.heap.size+1->w.heap.size<=b/\b<((w.alloc (.cells #[tS M,tS e0] 70)).alloc (.cells #[zE,zN,zN,zN] 214)).heap.size):=⟨a9,hP⟩;clear a8 a9 hP h hF hp hD;go_enter func169,ntmps169
 go_wp2_with (go_at_call 171;fail)
 generalize (w.alloc (.cells #[tS M,tS e0] 70)).alloc (.cells #[zE,zN,zN,zN] 214)=W1 at*;go_at_call 171;refine ka.mono ?_;rintro e I ⟨A2,G,pr,m,rv,xv,sv,k,T,O,rfl,⟨h1,h2,h3⟩,an,hk⟩;obtain⟨ra,rc,e1⟩:=h1.len;obtain⟨xa,xc,e2⟩:=h2.len;obtain⟨sa,sc,e3⟩:=h3.len;subst e1;subst e2;subst e3;have HK:Hid (dH (fun b=>A b\/b=w.heap.size+1) S W1 B J Q Z Y mb now cap L U I A2 (counted cs O) T G (V++[.ask ⟨0,M,e0⟩])/\fnd (S now) now r D ⟨0,M,e0⟩ k T O/\k.f=.man pr m):=⟨hk.went,hk.1,an⟩;have a6:Hid (RdA A2 Sm.mc I (.slice ra m.R.length rc) m.R/\RdA A2 Sm.mc I (.slice xa m.X.length xc) m.X/\RdA A2 Sw.mc I (.slice sa m.S.length sc) m.S):=⟨h1,h2,h3⟩;have ak:=zH ((hk.went.stay HT.out (cE _) (a0.out.2 _ rfl).2).trans ad.out);have a4:Hid (I.heap[w.heap.size]?=some (.cells #[tS M,tS e0] 70)):=(hk.went.stay HT.out (ah _) (by have:=(a0.out.2 _ rfl).2;omega)).trans ab.out;have a5:Hid (zB I (I.alloc (.cells #[zI (pr:Nat),tS m.p,.slice ra m.R.length rc,.slice xa m.X.length xc,.slice sa m.S.length sc] 216))):=(ae _ _).alloc (ah _) _
 have a1:Hid ((I.alloc (.cells #[zI (pr:Nat),tS m.p,.slice ra m.R.length rc,.slice xa m.X.length xc,.slice sa m.S.length sc] 216)).heap[I.heap.size]?=some (.cells #[zI (pr:Nat),tS m.p,.slice ra m.R.length rc,.slice xa m.X.length xc,.slice sa m.S.length sc] 216)):=aA _ _;have a2:Hid ((I.alloc (.cells #[zI (pr:Nat),tS m.p,.slice ra m.R.length rc,.slice xa m.X.length xc,.slice sa m.S.length sc] 216)).heap[w.heap.size+1]?=some (.cells #[zE,zN,zN,zN] 214)/\(I.alloc (.cells #[zI (pr:Nat),tS m.p,.slice ra m.R.length rc,.slice xa m.X.length xc,.slice sa m.S.length sc] 216)).heap[w.heap.size]?=some (.cells #[tS M,tS e0] 70)):=⟨(aH _ _ _ (af ak.out)).trans ak.out,(aH _ _ _ (af a4.out)).trans a4.out⟩;clear hk h1 h2 h3 an ka ad ab;go_upto_region 2 with fail;generalize au:I.alloc (.cells #[zI (pr:Nat),tS m.p,.slice ra m.R.length rc,.slice xa m.X.length xc,.slice sa m.S.length sc] 216)=W3 at*;clear au;obtain⟨⟨d0,_⟩,⟨d1,_⟩,⟨d2,_⟩,⟨d3,_⟩,⟨d4,_⟩⟩:=fd5 a1.out;obtain⟨⟨b0,_⟩,⟨b1,_⟩⟩:=fd2 a2.out.2;have kp:=qE pr m ra xa sa m.R.length rc m.X.length xc m.S.length sc M W3
 go_wp2_with (go_at_call 172;fail)
 go_at_call 172;refine kp.mono ?_;rintro e w4 ⟨rfl,a3⟩;have aa:=zH (a5.out.trans (a3.mono a5.out.size));have a7:=zH ((a3.block _ (af a2.out.1)).trans a2.out.1);have aq:=zH ((a3.block _ (af a1.out)).trans a1.out);clear a3 kp d0 d1 d2 d3 d4 b0 b1 a2 a1 a5;obtain⟨⟨c0,f0⟩,⟨c1,f1⟩,⟨c2,f2⟩,⟨c3,f3⟩⟩:=fd4 a7.out;obtain⟨⟨d0,_⟩,⟨d1,_⟩,⟨d2,_⟩,⟨d3,_⟩,⟨d4,_⟩⟩:=fd5 aq.out;by_cases h0:dM (pr,m) M=0
 ·have HE:Hid (cg M k.f=m):=by
   show cg M k.f=m;unfold cg;rw[HK.out.2.2];show(if dM (pr,m) M≠0 then _ else m)=m;rw[ag (fun hh=>hh h0)]
  rw[h0];clear h0;go_wp2;refine aI (bG results169 _ _ (w.heap.size+1) 214 _ (0,0) _ rfl (lO a7.out _ _ _ _) underlying214 rfl (by kernel_rfl)) rfl ?_;have hT:ai (fun b=>b=w.heap.size+1) I ((((w4.setCell (tD (w.heap.size+1) 0) (tS m.p)).setCell (tD (w.heap.size+1) 1) (.slice ra m.R.length rc)).setCell (tD (w.heap.size+1) 2) (.slice xa m.X.length xc)).setCell (tD (w.heap.size+1) 3) (.slice sa m.S.length sc)):=((((ai.of_below (p:=fun b=>b=w.heap.size+1) aa.out).set (a:=(tD (w.heap.size+1) 0)) (fun _=>rfl) _).set (a:=(tD (w.heap.size+1) 1)) (fun _=>rfl) _).set (a:=(tD (w.heap.size+1) 2)) (fun _=>rfl) _).set (a:=(tD (w.heap.size+1) 3)) (fun _=>rfl) _;have hM:=hT.mono (r:=A2) (fun b _ e=>HK.out.1.sub b (oS e));refine⟨A2,G,.slice ra m.R.length rc,.slice xa m.X.length xc,.slice sa m.S.length sc,k,T,O,?_,?_,HK.out.2.1,HK.out.1.lift HT.out a0.out.1 a0.out.2 hT⟩
  ·rw[HE.out]
  ·rw[HE.out]
   exact⟨a6.out.1.turn hM,a6.out.2.1.turn hM,a6.out.2.2.turn hM⟩
 ·have HE:Hid (cg M k.f=⟨e0,[],[],[]⟩):=by
   show cg M k.f=_;unfold cg;rw[HK.out.2.2];show(if dM (pr,m) M≠0 then _ else m)=_;rw[aj h0]
  have q0:(((dM (pr,m) M:Nat):Int)==0)=false:=int_ne (b:=0) h0;clear h0;generalize dM (pr,m) M=pq at*;go_wp2;refine aI (bG results169 _ _ (w.heap.size+1) 214 _ (0,0) _ rfl (lO a7.out _ _ _ _) underlying214 rfl (by kernel_rfl)) rfl ?_;have hT:ai (fun b=>b=w.heap.size+1) I ((((w4.setCell (tD (w.heap.size+1) 0) (zE)).setCell (tD (w.heap.size+1) 1) (zN)).setCell (tD (w.heap.size+1) 2) (zN)).setCell (tD (w.heap.size+1) 3) (zN)):=((((ai.of_below (p:=fun b=>b=w.heap.size+1) aa.out).set (a:=(tD (w.heap.size+1) 0)) (fun _=>rfl) _).set (a:=(tD (w.heap.size+1) 1)) (fun _=>rfl) _).set (a:=(tD (w.heap.size+1) 2)) (fun _=>rfl) _).set (a:=(tD (w.heap.size+1) 3)) (fun _=>rfl) _;refine⟨A2,G,zN,zN,zN,k,T,O,?_,?_,HK.out.2.1,HK.out.1.lift HT.out a0.out.1 a0.out.2 hT⟩
  ·rw[HE.out]
  ·rw[HE.out]
   exact⟨RdA.nil _,RdA.nil _,RdA.nil _⟩
