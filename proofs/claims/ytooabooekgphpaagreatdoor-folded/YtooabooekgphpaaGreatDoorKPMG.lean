import Derived.Test.YtooabooekgphpaaGreatDoorKPMF
set_option linter.all false
open Go.Proofs.Tryz
set_option maxRecDepth 100000
set_option maxHeartbeats 20000000
namespace Go.Proofs.YtooabooekgphpaaGreatDoor
theorem _root_.Go.RowKit.Hid.o{p:Prop}(h:Go.RowKit.Hid p):p:=h
open Go.RowKit
namespace Pn
open Mf Ed
variable{A j A2:Nat->Prop}{S:Nat->Shf}{w w' W W1 J wf:zW}{Y U Z mb G:Nat}{cap:Int}{F:List Int}{D O:List Kp}{L:List (zV×zV)}{B Q:Nat}{V I:zV}{T:List Tie}{r:Nat}{q:Qn}{k:Kp}{E:List Qn}
theorem lg(root:zA)(X:List Mo)(s:Shf)(o:Qn->Fi):∀(l ms:List Mo)(ps:List Pb),∃a0 a1,(bf root X l ms ps).run s o=.wants a0 a1
 |[],ms,ps=>⟨ms,ps,rfl⟩
 |x::rest,ms,ps=>by
  unfold bf
  split
  ·exact lg root X s o rest ms ps
  show ∃a0 a1,(match choose x (oF (o ⟨1,x.1,e0⟩)) X with | .inl m=>_ | .inr p=>_:Cm Fi).run s o=_
  cases choose x (oF (o ⟨1,x.1,e0⟩)) X with
  |inl m=>exact lg root X s o rest _ ps
  |inr p=>exact lg root X s o rest ms _
theorem K7(node:Mo)(s:Shf)(o:Qn->Fi):∃ms ps,(gP node).run s o=.wants ms ps:=by
 unfold gP;simp only[Cm.run]
 split
 ·exact⟨_,_,rfl⟩
 exact lg _ _ s o _ _ _
theorem uX(root:zA)(s:Shf)(o:Qn->Fi):∀(n:Nat)(l:List Mo)(i:Nat)(ps:List Pb),∃a0 a1,(bY root n l i ps).run s o=.list a0 a1
 |0,_,_,_=>⟨_,_,rfl⟩
 |n+1,l,i,ps=>by
  unfold bY;cases l[i]? with
  |none=>exact⟨_,_,rfl⟩
  |some m=>
   show ∃a0 a1,(match bU l (cC (o ⟨2,m.1,m.2⟩)).1 with|none=>_|some l'=>_:Cm Fi).run s o=_;cases bU l (cC (o ⟨2,m.1,m.2⟩)).1 with
   |none=>exact⟨_,_,rfl⟩
   |some l'=>exact uX root s o n l' _ _
theorem NJ(s:Shf)(o:Qn->Fi):∃ms ps,gX.run s o=.list ms ps:=by
 unfold gX;simp only[Cm.run]
 split
 ·exact⟨_,_,rfl⟩
 exact uX _ s o _ _ _ _
theorem uY(ms:List Mo)(s:Shf)(o:Qn->Fi):∀(l:List Mo)(ws:List (List Mo)),∃ns ps,(eY (jF ms) l ws).run s o=.ord ns ps
 |[],_=>⟨_,_,rfl⟩
 |_::rest,_=>uY ms s o rest _
theorem Qc(s:Shf)(o:Qn->Fi):∃ns ps,(uP jF).run s o=.ord ns ps:=uY _ s o _ _
theorem Ab(s:Shf)(p v:zA):∃ms ps,val s ⟨2,p,v⟩=.wants ms ps:=by
 rw[oG s (af 2)];show ∃ms ps,(if (2:Nat)=2 then _ else _)=_;rw[aj rfl];exact K7 _ _ _
theorem Df(s:Shf)(p v:zA):∃ms ps,val s ⟨3,p,v⟩=.list ms ps:=by
 rw[qN s (af 3)];show ∃ms ps,(if (3:Nat)=3 then _ else _)=_;rw[aj rfl];exact NJ _ _
theorem Gk(s:Shf)(p v:zA):∃ns ps,val s ⟨4,p,v⟩=.ord ns ps:=by
 show ∃ms ps,(if (4:Nat)=4 then _ else _)=_;rw[aj rfl];exact Qc _ _
theorem iE(hF:eC S Y U Z mb G cap L r)(m1 m2:zA)(hp:m1.size<=N48)(a6:m2.size<=N48)(hD:D.length+grow r<=N15)(w:zW)(h:Tsk A S w B Q Y U Z mb G cap F D L V T)(ad:T.length<=9999):
  zC 160 #[zP Q,.agg #[tS m1,tS m2]] w fun e w'=>∃A2 I pr m rv xv sv k O E,e=.returned (.agg #[zI (pr:Nat),tS m.p,rv,xv,sv])/\(RdA A2 Sm.mc w' rv m.R/\RdA A2 Sm.mc w' xv m.X/\RdA A2 Sw.mc w' sv m.S)/\k.f=.man pr m/\gG A S w B Q Y U Z mb G cap F D L V T r ⟨0,m1,m2⟩ w' A2 I k O E:=by
 have a1:zB w (w.alloc (.cells #[tS m1,tS m2] 63)):=(ae _ _).alloc (af _) _;have a2:zB w ((w.alloc (.cells #[tS m1,tS m2] 63)).alloc (.cells #[zI 0,zE,zN,zN,zN] 208)):=a1.alloc a1.size _;have hP:∀b,b=w.heap.size+1->w.heap.size<=b/\b<((w.alloc (.cells #[tS m1,tS m2] 63)).alloc (.cells #[zI 0,zE,zN,zN,zN] 208)).heap.size:=fun b e=>by rw[e];exact⟨bS _,by simp⟩
 have aa:Hid (((w.alloc (.cells #[tS m1,tS m2] 63)).alloc (.cells #[zI 0,zE,zN,zN,zN] 208)).heap[w.heap.size+1]?=some (.cells #[zI 0,zE,zN,zN,zN] 208)):=eA w _ _;have ak:Hid (((w.alloc (.cells #[tS m1,tS m2] 63)).alloc (.cells #[zI 0,zE,zN,zN,zN] 208)).heap[w.heap.size]?=some (.cells #[tS m1,tS m2] 63)):=(aG _ _ _ (by simp)).trans (ay _ _);have ka:=sH hF ⟨0,m1,m2⟩ (aL _) (by show 0<=4;decide) ⟨hp,a6⟩ hD _ (h.wide a2 (fun b=>b=w.heap.size+1) hP) ad;have HT:=zH h;have a0:Hid (zB w ((w.alloc (.cells #[tS m1,tS m2] 63)).alloc (.cells #[zI 0,zE,zN,zN,zN] 208))/\∀b,b=w.heap.size+1->w.heap.size<=b/\b<((w.alloc (.cells #[tS m1,tS m2] 63)).alloc (.cells #[zI 0,zE,zN,zN,zN] 208)).heap.size):=⟨a2,hP⟩;clear a1 a2 hP h hF hD hp a6;go_enter func160,ntmps160
 go_wp2_with (go_at_call 55;fail)
 generalize (w.alloc (.cells #[tS m1,tS m2] 63)).alloc (.cells #[zI 0,zE,zN,zN,zN] 208)=W1 at*;go_at_call 55;refine ka.mono ?_;rintro e J ⟨A2,I,fv,k,O,E,rfl,a5,hk⟩;have hv:=hk.val HT.out.eng.inv (aL _) (by show 0<=4;decide);obtain⟨pr,m,a7⟩:=Bw (S G) m1 m2;rw[a7] at hv;rw[hv.1] at a5;obtain⟨rv,xv,sv,rfl,h1,h2,h3⟩:=a5;obtain⟨ra,rc,e1⟩:=h1.len;obtain⟨xa,xc,e2⟩:=h2.len;obtain⟨sa,sc,e3⟩:=h3.len;subst e1;subst e2;subst e3;have HK:Hid (gG (fun b=>A b\/b=w.heap.size+1) S W1 B Q Y U Z mb G cap F D L V T r ⟨0,m1,m2⟩ J A2 I k O E/\(RdA A2 Sm.mc J (.slice ra m.R.length rc) m.R/\RdA A2 Sm.mc J (.slice xa m.X.length xc) m.X/\RdA A2 Sw.mc J (.slice sa m.S.length sc) m.S)/\k.f=.man pr m):=⟨hk,⟨h1,h2,h3⟩,hv.1⟩;have a3:Hid (J.heap[w.heap.size+1]?=some (.cells #[zI 0,zE,zN,zN,zN] 208)):=(hk.stay HT.out (by omega) (a0.out.2 _ rfl).2).trans aa.out;have a4:Hid ((J.alloc (.cells #[zI (pr:Nat),tS m.p,.slice ra m.R.length rc,.slice xa m.X.length xc,.slice sa m.S.length sc] 208)).heap[w.heap.size+1]?=some (.cells #[zI 0,zE,zN,zN,zN] 208)):=(aG _ _ _ (ah a3.out)).trans a3.out
 have a8:Hid (zB J (J.alloc (.cells #[zI (pr:Nat),tS m.p,.slice ra m.R.length rc,.slice xa m.X.length xc,.slice sa m.S.length sc] 208))):=(ae _ _).alloc (af _) _;have a9:Hid ((J.alloc (.cells #[zI (pr:Nat),tS m.p,.slice ra m.R.length rc,.slice xa m.X.length xc,.slice sa m.S.length sc] 208)).heap[J.heap.size]?=some (.cells #[zI (pr:Nat),tS m.p,.slice ra m.R.length rc,.slice xa m.X.length xc,.slice sa m.S.length sc] 208)):=ay _ _;clear hk hv a7 ka h1 h2 h3;have ab:=KE (.agg #[zI (pr:Nat),tS m.p,.slice ra m.R.length rc,.slice xa m.X.length xc,.slice sa m.S.length sc]) J;go_upto_region 2 with fail;obtain⟨⟨c0,f0⟩,⟨c1,f1⟩,⟨c2,f2⟩,⟨c3,f3⟩,⟨c4,f4⟩⟩:=fd5 a4.out;obtain⟨⟨d0,_⟩,⟨d1,_⟩,⟨d2,_⟩,⟨d3,_⟩,⟨d4,_⟩⟩:=fd5 a9.out;clear ab;generalize J.alloc (.cells #[zI (pr:Nat),tS m.p,.slice ra m.R.length rc,.slice xa m.X.length xc,.slice sa m.S.length sc] 208)=W3 at*;go_wp2;refine aI (bG results160 _ _ (w.heap.size+1) 208 _ (0,0) _ rfl (Fa a4.out _ _ _ _ _) underlying208 rfl (by kernel_rfl)) rfl ?_
 have hT:ai (fun b=>b=w.heap.size+1) J (((((W3.setCell (tD (w.heap.size+1) 0) (zI (pr:Nat))).setCell (tD (w.heap.size+1) 1) (tS m.p)).setCell (tD (w.heap.size+1) 2) (.slice ra m.R.length rc)).setCell (tD (w.heap.size+1) 3) (.slice xa m.X.length xc)).setCell (tD (w.heap.size+1) 4) (.slice sa m.S.length sc)):=((((((ai.of_below (p:=fun b=>b=w.heap.size+1) a8.out).set (a:=(tD (w.heap.size+1) 0)) (fun _=>rfl) _).set (a:=(tD (w.heap.size+1) 1)) (fun _=>rfl) _).set (a:=(tD (w.heap.size+1) 2)) (fun _=>rfl) _).set (a:=(tD (w.heap.size+1) 3)) (fun _=>rfl) _).set (a:=(tD (w.heap.size+1) 4)) (fun _=>rfl) _);have hM:=hT.mono (r:=A2) (fun b _ e=>HK.out.1.2.2.2.1 b (oS e));exact⟨A2,I,pr,m,_,_,_,k,O,E,rfl,⟨HK.out.2.1.1.turn hM,HK.out.2.1.2.1.turn hM,HK.out.2.1.2.2.turn hM⟩,HK.out.2.2,HK.out.1.lift HT.out a0.out.1 a0.out.2 hT⟩
theorem Ac(hF:eC S Y U Z mb G cap L r)(m1 m2:zA)(hp:m1.size<=N48)(a6:m2.size<=N48)(hr:1<=r)(hD:D.length+grow r<=N15)(w:zW)(h:Tsk A S w B Q Y U Z mb G cap F D L V T)(ak:T.length<=9999):
  zC 164 #[zP Q,.agg #[tS m1,tS m2]] w fun e w'=>∃A2 I ms ps a b k O E,e=.returned (.agg #[a,b])/\(RdA A2 Sm.mc w' a ms/\RdA A2 aJ w' b ps)/\k.f=.wants ms ps/\gG A S w B Q Y U Z mb G cap F D L V T r ⟨2,m1,m2⟩ w' A2 I k O E:=by
 have a1:zB w (w.alloc (.cells #[tS m1,tS m2] 63)):=(ae _ _).alloc (af _) _;have a2:zB w ((w.alloc (.cells #[tS m1,tS m2] 63)).alloc (.cells #[zN,zN] 213)):=a1.alloc a1.size _;have hP:∀b,b=w.heap.size+1->w.heap.size<=b/\b<((w.alloc (.cells #[tS m1,tS m2] 63)).alloc (.cells #[zN,zN] 213)).heap.size:=fun b e=>by rw[e];exact⟨bS _,by simp⟩
 have ab:Hid (((w.alloc (.cells #[tS m1,tS m2] 63)).alloc (.cells #[zN,zN] 213)).heap[w.heap.size+1]?=some (.cells #[zN,zN] 213)):=eA w _ _;have an:Hid (((w.alloc (.cells #[tS m1,tS m2] 63)).alloc (.cells #[zN,zN] 213)).heap[w.heap.size]?=some (.cells #[tS m1,tS m2] 63)):=(aG _ _ _ (by simp)).trans (ay _ _);have ka:=sH hF ⟨2,m1,m2⟩ hr (by show 2<=4;decide) ⟨hp,a6⟩ hD _ (h.wide a2 (fun b=>b=w.heap.size+1) hP) ak;have HT:=zH h;have a0:Hid (zB w ((w.alloc (.cells #[tS m1,tS m2] 63)).alloc (.cells #[zN,zN] 213))/\∀b,b=w.heap.size+1->w.heap.size<=b/\b<((w.alloc (.cells #[tS m1,tS m2] 63)).alloc (.cells #[zN,zN] 213)).heap.size):=⟨a2,hP⟩;clear a1 a2 hP h hF hD hp a6;go_enter func164,ntmps164
 go_wp2_with (go_at_call 55;fail)
 generalize (w.alloc (.cells #[tS m1,tS m2] 63)).alloc (.cells #[zN,zN] 213)=W1 at*;go_at_call 55;refine ka.mono ?_;rintro e J ⟨A2,I,fv,k,O,E,rfl,a5,hk⟩;have hv:=hk.val HT.out.eng.inv hr (by show 2<=4;decide);obtain⟨ms,ps,a7⟩:=Ab (S G) m1 m2;rw[a7] at hv;rw[hv.1] at a5;obtain⟨a,b,rfl,h1,h2⟩:=a5;obtain⟨aa,ac,e1⟩:=h1.len;obtain⟨ba,bc,e2⟩:=h2.len;subst e1;subst e2;have HK:Hid (gG (fun b=>A b\/b=w.heap.size+1) S W1 B Q Y U Z mb G cap F D L V T r ⟨2,m1,m2⟩ J A2 I k O E/\(RdA A2 Sm.mc J (.slice aa ms.length ac) ms/\RdA A2 aJ J (.slice ba ps.length bc) ps)/\k.f=.wants ms ps):=⟨hk,⟨h1,h2⟩,hv.1⟩;have a3:Hid (J.heap[w.heap.size+1]?=some (.cells #[zN,zN] 213)):=(hk.stay HT.out (by omega) (a0.out.2 _ rfl).2).trans ab.out;have a4:Hid ((J.alloc (.cells #[.slice aa ms.length ac,.slice ba ps.length bc] 213)).heap[w.heap.size+1]?=some (.cells #[zN,zN] 213)):=(aG _ _ _ (ah a3.out)).trans a3.out;have a8:Hid (zB J (J.alloc (.cells #[.slice aa ms.length ac,.slice ba ps.length bc] 213))):=(ae _ _).alloc (af _) _;have a9:Hid ((J.alloc (.cells #[.slice aa ms.length ac,.slice ba ps.length bc] 213)).heap[J.heap.size]?=some (.cells #[.slice aa ms.length ac,.slice ba ps.length bc] 213)):=ay _ _;clear hk hv a7 ka h1 h2;have ad:=KL (.agg #[.slice aa ms.length ac,.slice ba ps.length bc]) J
 go_upto_region 2 with fail;obtain⟨⟨c0,f0⟩,⟨c1,f1⟩⟩:=fd2 a4.out;obtain⟨⟨d0,_⟩,⟨d1,_⟩⟩:=fd2 a9.out;clear ad;generalize J.alloc (.cells #[.slice aa ms.length ac,.slice ba ps.length bc] 213)=W3 at*;go_wp2;refine aI (bG results164 _ _ (w.heap.size+1) 213 _ (0,0) _ rfl (gA a4.out _ _) underlying213 rfl (by kernel_rfl)) rfl ?_;have hT:ai (fun b=>b=w.heap.size+1) J ((W3.setCell (tD (w.heap.size+1) 0) (.slice aa ms.length ac)).setCell (tD (w.heap.size+1) 1) (.slice ba ps.length bc)):=(((ai.of_below (p:=fun b=>b=w.heap.size+1) a8.out).set (a:=(tD (w.heap.size+1) 0)) (fun _=>rfl) _).set (a:=(tD (w.heap.size+1) 1)) (fun _=>rfl) _);have hM:=hT.mono (r:=A2) (fun b _ e=>HK.out.1.2.2.2.1 b (oS e));exact⟨A2,I,ms,ps,_,_,k,O,E,rfl,⟨HK.out.2.1.1.turn hM,HK.out.2.1.2.turn hM⟩,HK.out.2.2,HK.out.1.lift HT.out a0.out.1 a0.out.2 hT⟩
theorem Dg(hF:eC S Y U Z mb G cap L r)(hr:2<=r)(hD:D.length+grow r<=N15)(w:zW)(h:Tsk A S w B Q Y U Z mb G cap F D L V T)(ab:T.length<=9999):
  zC 39 #[zP Q] w fun e w'=>∃A2 I ms ps a b k O E,e=.returned (.agg #[a,b])/\(RdA A2 Sm.mc w' a ms/\RdA A2 aJ w' b ps)/\k.f=.list ms ps/\gG A S w B Q Y U Z mb G cap F D L V T r ⟨3,e0,e0⟩ w' A2 I k O E:=by
 have a1:zB w (w.alloc (.cells #[zN,zN] 89)):=(ae _ _).alloc (af _) _;have hP:∀b,b=w.heap.size->w.heap.size<=b/\b<(w.alloc (.cells #[zN,zN] 89)).heap.size:=fun b e=>by rw[e];exact⟨af _,by simp⟩
 have a8:Hid ((w.alloc (.cells #[zN,zN] 89)).heap[w.heap.size]?=some (.cells #[zN,zN] 89)):=ay _ _;have ka:=sH hF ⟨3,e0,e0⟩ hr (by show 3<=4;decide) ⟨aL _,aL _⟩ hD _ (h.wide a1 (fun b=>b=w.heap.size) hP) ab;have HT:=zH h;have a0:Hid (zB w (w.alloc (.cells #[zN,zN] 89))/\∀b,b=w.heap.size->w.heap.size<=b/\b<(w.alloc (.cells #[zN,zN] 89)).heap.size):=⟨a1,hP⟩;clear a1 hP h hF hD;go_enter func39,ntmps39
 go_wp2_with (go_at_call 55;fail)
 generalize w.alloc (.cells #[zN,zN] 89)=W1 at*;go_at_call 55;refine ka.mono ?_;rintro e J ⟨A2,I,fv,k,O,E,rfl,a4,hk⟩;have hv:=hk.val HT.out.eng.inv hr (by show 3<=4;decide);obtain⟨ms,ps,a5⟩:=Df (S G) e0 e0;rw[a5] at hv;rw[hv.1] at a4;obtain⟨a,b,rfl,h1,h2⟩:=a4;obtain⟨aa,ac,e1⟩:=h1.len;obtain⟨ba,bc,e2⟩:=h2.len;subst e1;subst e2;have HK:Hid (gG (fun b=>A b\/b=w.heap.size) S W1 B Q Y U Z mb G cap F D L V T r ⟨3,e0,e0⟩ J A2 I k O E/\(RdA A2 Sm.mc J (.slice aa ms.length ac) ms/\RdA A2 aJ J (.slice ba ps.length bc) ps)/\k.f=.list ms ps):=⟨hk,⟨h1,h2⟩,hv.1⟩;have a2:Hid (J.heap[w.heap.size]?=some (.cells #[zN,zN] 89)):=(hk.stay HT.out (by omega) (a0.out.2 _ rfl).2).trans a8.out;have a3:Hid ((J.alloc (.cells #[.slice aa ms.length ac,.slice ba ps.length bc] 89)).heap[w.heap.size]?=some (.cells #[zN,zN] 89)):=(aG _ _ _ (ah a2.out)).trans a2.out;have a6:Hid (zB J (J.alloc (.cells #[.slice aa ms.length ac,.slice ba ps.length bc] 89))):=(ae _ _).alloc (af _) _;have a7:Hid ((J.alloc (.cells #[.slice aa ms.length ac,.slice ba ps.length bc] 89)).heap[J.heap.size]?=some (.cells #[.slice aa ms.length ac,.slice ba ps.length bc] 89)):=ay _ _;clear hk hv a5 ka h1 h2;have a9:=KN (.agg #[.slice aa ms.length ac,.slice ba ps.length bc]) J;go_upto_region 2 with fail;obtain⟨⟨c0,f0⟩,⟨c1,f1⟩⟩:=fd2 a3.out
 obtain⟨⟨d0,_⟩,⟨d1,_⟩⟩:=fd2 a7.out;clear a9;generalize J.alloc (.cells #[.slice aa ms.length ac,.slice ba ps.length bc] 89)=W3 at*;go_wp2;refine aI (bG results39 _ _ (w.heap.size) 89 _ (0,0) _ rfl (gA a3.out _ _) underlying89 rfl (by kernel_rfl)) rfl ?_;have hT:ai (fun b=>b=w.heap.size) J ((W3.setCell (tD w.heap.size 0) (.slice aa ms.length ac)).setCell (tD w.heap.size 1) (.slice ba ps.length bc)):=(((ai.of_below (p:=fun b=>b=w.heap.size) a6.out).set (a:=(tD w.heap.size 0)) (fun _=>rfl) _).set (a:=(tD w.heap.size 1)) (fun _=>rfl) _);have hM:=hT.mono (r:=A2) (fun b _ e=>HK.out.1.2.2.2.1 b (oS e));exact⟨A2,I,ms,ps,_,_,k,O,E,rfl,⟨HK.out.2.1.1.turn hM,HK.out.2.1.2.turn hM⟩,HK.out.2.2,HK.out.1.lift HT.out a0.out.1 a0.out.2 hT⟩
theorem IK(hF:eC S Y U Z mb G cap L r)(hr:3<=r)(hD:D.length+grow r<=N15)(w:zW)(h:Tsk A S w B Q Y U Z mb G cap F D L V T)(ab:T.length<=9999):
  zC 40 #[zP Q] w fun e w'=>∃A2 I ms ps a b k O E,e=.returned (.agg #[a,b])/\(RdA A2 dB w' a ms/\RdA A2 aJ w' b ps)/\k.f=.ord ms ps/\gG A S w B Q Y U Z mb G cap F D L V T r ⟨4,e0,e0⟩ w' A2 I k O E:=by
 have a1:zB w (w.alloc (.cells #[zN,zN] 92)):=(ae _ _).alloc (af _) _;have hP:∀b,b=w.heap.size->w.heap.size<=b/\b<(w.alloc (.cells #[zN,zN] 92)).heap.size:=fun b e=>by rw[e];exact⟨af _,by simp⟩
 have a8:Hid ((w.alloc (.cells #[zN,zN] 92)).heap[w.heap.size]?=some (.cells #[zN,zN] 92)):=ay _ _;have ka:=sH hF ⟨4,e0,e0⟩ hr (by show 4<=4;decide) ⟨aL _,aL _⟩ hD _ (h.wide a1 (fun b=>b=w.heap.size) hP) ab;have HT:=zH h;have a0:Hid (zB w (w.alloc (.cells #[zN,zN] 92))/\∀b,b=w.heap.size->w.heap.size<=b/\b<(w.alloc (.cells #[zN,zN] 92)).heap.size):=⟨a1,hP⟩;clear a1 hP h hF hD;go_enter func40,ntmps40
 go_wp2_with (go_at_call 55;fail)
 generalize w.alloc (.cells #[zN,zN] 92)=W1 at*;go_at_call 55;refine ka.mono ?_;rintro e J ⟨A2,I,fv,k,O,E,rfl,a4,hk⟩;have hv:=hk.val HT.out.eng.inv hr (by show 4<=4;decide);obtain⟨ms,ps,a5⟩:=Gk (S G) e0 e0;rw[a5] at hv;rw[hv.1] at a4;obtain⟨a,b,rfl,h1,h2⟩:=a4;obtain⟨aa,ac,e1⟩:=h1.len;obtain⟨ba,bc,e2⟩:=h2.len;subst e1;subst e2;have HK:Hid (gG (fun b=>A b\/b=w.heap.size) S W1 B Q Y U Z mb G cap F D L V T r ⟨4,e0,e0⟩ J A2 I k O E/\(RdA A2 dB J (.slice aa ms.length ac) ms/\RdA A2 aJ J (.slice ba ps.length bc) ps)/\k.f=.ord ms ps):=⟨hk,⟨h1,h2⟩,hv.1⟩;have a2:Hid (J.heap[w.heap.size]?=some (.cells #[zN,zN] 92)):=(hk.stay HT.out (by omega) (a0.out.2 _ rfl).2).trans a8.out;have a3:Hid ((J.alloc (.cells #[.slice aa ms.length ac,.slice ba ps.length bc] 92)).heap[w.heap.size]?=some (.cells #[zN,zN] 92)):=(aG _ _ _ (ah a2.out)).trans a2.out;have a6:Hid (zB J (J.alloc (.cells #[.slice aa ms.length ac,.slice ba ps.length bc] 92))):=(ae _ _).alloc (af _) _;have a7:Hid ((J.alloc (.cells #[.slice aa ms.length ac,.slice ba ps.length bc] 92)).heap[J.heap.size]?=some (.cells #[.slice aa ms.length ac,.slice ba ps.length bc] 92)):=ay _ _;clear hk hv a5 ka h1 h2;have a9:=KO (.agg #[.slice aa ms.length ac,.slice ba ps.length bc]) J;go_upto_region 2 with fail;obtain⟨⟨c0,f0⟩,⟨c1,f1⟩⟩:=fd2 a3.out
 obtain⟨⟨d0,_⟩,⟨d1,_⟩⟩:=fd2 a7.out;clear a9;generalize J.alloc (.cells #[.slice aa ms.length ac,.slice ba ps.length bc] 92)=W3 at*;go_wp2;refine aI (bG results40 _ _ (w.heap.size) 92 _ (0,0) _ rfl (gA a3.out _ _) underlying92 rfl (by kernel_rfl)) rfl ?_;have hT:ai (fun b=>b=w.heap.size) J ((W3.setCell (tD w.heap.size 0) (.slice aa ms.length ac)).setCell (tD w.heap.size 1) (.slice ba ps.length bc)):=(((ai.of_below (p:=fun b=>b=w.heap.size) a6.out).set (a:=(tD w.heap.size 0)) (fun _=>rfl) _).set (a:=(tD w.heap.size 1)) (fun _=>rfl) _);have hM:=hT.mono (r:=A2) (fun b _ e=>HK.out.1.2.2.2.1 b (oS e));exact⟨A2,I,ms,ps,_,_,k,O,E,rfl,⟨HK.out.2.1.1.turn hM,HK.out.2.1.2.turn hM⟩,HK.out.2.2,HK.out.1.lift HT.out a0.out.1 a0.out.2 hT⟩
end Pn
namespace Pn
open Mf Ed
variable{A j A2:Nat->Prop}{S:Nat->Shf}{w w' W W1 J wf:zW}{Y U Z mb G:Nat}{cap:Int}{F:List Int}{D O:List Kp}{L:List (zV×zV)}{B Q:Nat}{V I:zV}{T N:List Tie}{r:Nat}{q:Qn}{k:Kp}{E:List Qn}{M:List Int}
structure dH(A:Nat->Prop)(S:Nat->Shf)(w:World)(B Q Y U Z mb G:Nat)(cap:Int)(L:List (zV×zV))(V:zV)(w':World)(A2:Nat->Prop)(M:List Int)(O:List Kp)(I:zV)(N:List Tie):Prop where
 t:Tsk A2 S w' B Q Y U Z mb G cap M O L I N
 f:ai (Fr4 Y Z Q V) w w'
 sub:∀b,A b->A2 b
 new:∀b,A2 b->A b\/w.heap.size<=b
 own:∀b,I.ownBlock=some b->V.ownBlock=some b\/w.heap.size<=b
theorem gG.went(h:gG A S w B Q Y U Z mb G cap F D L V T r q J A2 I k O E):dH A S w B Q Y U Z mb G cap L V J A2 (counted F E) O I (T++[.ask q]):=⟨h.2.1,h.2.2.1,h.2.2.2.1,h.2.2.2.2.1,h.2.2.2.2.2⟩
theorem dH.trans{a2:zV}{A3:Nat->Prop}{a0:List Int}{D2:List Kp}{a1:List Tie}{w3:zW}(h:dH A S w B Q Y U Z mb G cap L V J A2 M O I N)(g:dH A2 S J B Q Y U Z mb G cap L I w3 A3 a0 D2 a2 a1):dH A S w B Q Y U Z mb G cap L V w3 A3 a0 D2 a2 a1:=by
 have hs:=h.f.size;refine⟨g.t,h.f.trans g.f (fun _ _ e=>e) (fun b hb e=>?_),fun b e=>g.sub b (h.sub b e),fun b e=>?_,fun b e=>?_⟩
 ·rcases e with e|e|e|e
  ·exact oE e
  ·exact oS (oE e)
  ·exact oS (oS (oE e))
  rcases h.own b e with e|e
  ·exact oS (oS (oS e))
  omega
 ·rcases g.new b e with e|e
  ·exact h.new b e
  exact oS (by omega)
 rcases g.own b e with e|e
 ·exact h.own b e
 exact oS (by omega)
theorem dH.lift{P:Nat->Prop}(h:Tsk A S w B Q Y U Z mb G cap F D L V T)(hb:zB w W1)(hP:∀b,P b->w.heap.size<=b/\b<W1.heap.size)(hk:dH (fun b=>A b\/P b) S W1 B Q Y U Z mb G cap L V J A2 M O I N)(ht:ai P J wf):
  dH A S w B Q Y U Z mb G cap L V wf A2 M O I N:=by
 have hs:=hb.size;refine⟨hk.t.turn ht (fun b _ e=>hk.sub b (oS e)) (fun b e=>⟨by have:=(hP b e).1;have:=h.hB;omega,fun e2=>?_⟩),?_,fun b e=>hk.sub b (oE e),fun b e=>?_,fun b e=>?_⟩
 ·have h7:=hP b e
  rcases e2 with e2|e2
  ·have:=h.task.t0.lt;omega
  rcases hk.own b e2 with e3|e3
  ·have:=(h.task.row.lt b e3).2;omega
  omega
 ·exact((ai.of_below hb).trans hk.f (fun _ _ e=>e) (fun _ _ e=>e)).trans ht (fun _ _ e=>e) (fun b a0 e=>by have:=(hP b e).1;omega)
 ·rcases hk.new b e with(e|e)|e
  ·exact oE e
  ·exact oS (hP b e).1
  exact oS (by omega)
 rcases hk.own b e with e|e
 ·exact oE e
 exact oS (by omega)
theorem dH.stay(h:Tsk A S w B Q Y U Z mb G cap F D L V T)(hk:dH j S W1 B Q Y U Z mb G cap L V J A2 M O I N){b:Nat}(h1:w.heap.size<=b)(h2:b<W1.heap.size):J.heap[b]?=W1.heap[b]?:=by
 refine hk.f.block b h2 (fun e=>?_);have h3:=h.lt;have h4:=h.hB;rcases e with e|e|e|e
 ·omega
 ·omega
 ·have:=h.task.t0.lt;omega
 have:=(h.task.row.lt b e).2;omega
theorem xN(p:Plc)(hp:POk p)(w:zW)(h:Tsk A S w B Q Y U Z mb G cap F D L V T)(a1:T.length<=9999):
  zC 142 #[zP Q,plV p] w fun e w'=>∃A2 I,e=.returned (txV (S G p))/\dH A S w B Q Y U Z mb G cap L V w' A2 F D I (T++[.rd p (S G p)]):=by
 refine(oz (S G) p w h.eng.shelf h.eng.on hp h.task h.eng.desk.f0.1 (by omega) h.hB).mono ?_;rintro e w' ⟨I,rfl,hT,ht,a0⟩
 exact⟨_,I,rfl,h.grown ht hT a0,ht.mono (fun b _ e=>oS (oS e)),fun b e=>oE e,fun b e=>by
  rcases e with e|e
  ·exact oE e
  rcases a0 b e with e|e
  ·exact oE (h.pr b (oS e))
  exact oS e,a0⟩
theorem IL(a b:zV)(W:zW):(Instr.field 123 (.agg #[a,b]) 0).run prog W=.ok a W:=by kernel_rfl
theorem IP(t:Option zA):bF t=rootOf t:=by cases t<;>rfl
theorem Dh(w:zW)(h:Tsk A S w B Q Y U Z mb G cap F D L V T)(a4:T.length<=9999):
  zC 157 #[zP Q] w fun e w'=>∃A2 I,e=.returned (.agg #[tS (rootOf (S G aA)),tS e0])/\dH A S w B Q Y U Z mb G cap L V w' A2 F D I (T++[.rd aA (S G aA)]):=by
 have a1:zB w (w.alloc (.cells #[zE,zE] 63)):=(ae _ _).alloc (af _) _;have hP:∀b,b=w.heap.size->w.heap.size<=b/\b<(w.alloc (.cells #[zE,zE] 63)).heap.size:=fun b e=>by rw[e];exact⟨af _,by simp⟩
 have a3:Hid ((w.alloc (.cells #[zE,zE] 63)).heap[w.heap.size]?=some (.cells #[zE,zE] 63)):=ay _ _;have ka:=xN aA ⟨by show 2<=4;decide,aL _,aL _⟩ _ (h.wide a1 (fun b=>b=w.heap.size) hP) a4;have HT:=zH h;have a0:Hid (zB w (w.alloc (.cells #[zE,zE] 63))/\∀b,b=w.heap.size->w.heap.size<=b/\b<(w.alloc (.cells #[zE,zE] 63)).heap.size):=⟨a1,hP⟩;clear a1 hP h;rw[<-IP];go_enter func157,ntmps157
 go_wp2_with (go_at_call 142;fail)
 generalize w.alloc (.cells #[zE,zE] 63)=W1 at*;go_at_call 142;refine ka.mono ?_;rintro e J ⟨A2,I,rfl,hk⟩;have HK:Hid (dH (fun b=>A b\/b=w.heap.size) S W1 B Q Y U Z mb G cap L V J A2 F D I (T++[.rd aA (S G aA)])):=hk;have a2:Hid (J.heap[w.heap.size]?=some (.cells #[zE,zE] 63)):=(hk.stay HT.out (af _) (a0.out.2 _ rfl).2).trans a3.out;clear hk ka;obtain⟨⟨c0,f0⟩,⟨c1,f1⟩⟩:=fd2 a2.out;have a5:=IL (tS (bF (S G aA))) (.bool (S G aA).isSome) J;go_wp2;refine aI (bG results157 _ _ w.heap.size 63 _ (0,0) _ rfl (gA a2.out _ _) underlying63 rfl (by kernel_rfl)) rfl ?_;have hT:ai (fun b=>b=w.heap.size) J ((J.setCell (tD w.heap.size 0) (tS (bF (S G aA)))).setCell (tD w.heap.size 1) (zE)):=((ai.refl (fun b=>b=w.heap.size) J).set (a:=(tD w.heap.size 0)) (fun _=>rfl) _).set (a:=(tD w.heap.size 1)) (fun _=>rfl) _;exact⟨A2,I,rfl,HK.out.lift HT.out a0.out.1 a0.out.2 hT⟩
end Pn
namespace Pn
open Mf Ed
variable{A j A2:Nat->Prop}{S:Nat->Shf}{w w' W W1 J wf:zW}{Y U Z mb G:Nat}{cap:Int}{F:List Int}{D O:List Kp}{L:List (zV×zV)}{B Q:Nat}{V I:zV}{T N:List Tie}{r:Nat}{q:Qn}{k:Kp}{E:List Qn}{M:List Int}
theorem lA{W:zW}{r:Nat}{t:TypeId}{x0 x1 x2 x3:zV}(h:W.heap[r]?=some (.cells #[x0,x1,x2,x3] t))(a b c d:zV):((((W.setCell (tD r 0) a).setCell (tD r 1) b).setCell (tD r 2) c).setCell (tD r 3) d).heap[r]?=some (.cells #[a,b,c,d] t):=by
 have h1:=aU _ _ 0 _ _ a h;have h2:=aU _ _ 1 _ _ b h1;have h3:=aU _ _ 2 _ _ c h2;exact aU _ _ 3 _ _ d h3
theorem fd4{W:zW}{r:Nat}{t:TypeId}{x0 x1 x2 x3:zV}(h:W.heap[r]?=some (.cells #[x0,x1,x2,x3] t)):(W.cell? (tD r 0)=some x0/\W.frozen? (tD r 0)=false)/\(W.cell? (tD r 1)=some x1/\W.frozen? (tD r 1)=false)/\(W.cell? (tD r 2)=some x2/\W.frozen? (tD r 2)=false)/\(W.cell? (tD r 3)=some x3/\W.frozen? (tD r 3)=false):=by
 simp only[World.cell?,World.frozen?,h];exact⟨⟨rfl,rfl⟩,⟨rfl,rfl⟩,⟨rfl,rfl⟩,⟨rfl,rfl⟩⟩
theorem IQ(hF:eC S Y U Z mb G cap L r)(m1:zA)(hp:m1.size<=N48)(hD:D.length+grow r<=N15)(w:zW)(h:Tsk A S w B Q Y U Z mb G cap F D L V T)(av:T.length<=9999):
  zC 158 #[zP Q,.agg #[tS m1,tS e0]] w fun e w'=>∃A2 I rv xv sv k O E,e=.returned (.agg #[tS (bT m1 k.f).p,rv,xv,sv])/\(RdA A2 Sm.mc w' rv (bT m1 k.f).R/\RdA A2 Sm.mc w' xv (bT m1 k.f).X/\RdA A2 Sw.mc w' sv (bT m1 k.f).S)/\fnd (S G) G r D ⟨0,m1,e0⟩ k O E/\dH A S w B Q Y U Z mb G cap L V w' A2 (counted F E) O I (T++[.ask ⟨0,m1,e0⟩]):=by
 have a8:zB w (w.alloc (.cells #[tS m1,tS e0] 63)):=(ae _ _).alloc (af _) _;have a9:zB w ((w.alloc (.cells #[tS m1,tS e0] 63)).alloc (.cells #[zE,zN,zN,zN] 206)):=a8.alloc a8.size _;have hP:∀b,b=w.heap.size+1->w.heap.size<=b/\b<((w.alloc (.cells #[tS m1,tS e0] 63)).alloc (.cells #[zE,zN,zN,zN] 206)).heap.size:=fun b e=>by rw[e];exact⟨bS _,by simp⟩
 have ad:Hid (((w.alloc (.cells #[tS m1,tS e0] 63)).alloc (.cells #[zE,zN,zN,zN] 206)).heap[w.heap.size+1]?=some (.cells #[zE,zN,zN,zN] 206)):=eA w _ _;have ab:Hid (((w.alloc (.cells #[tS m1,tS e0] 63)).alloc (.cells #[zE,zN,zN,zN] 206)).heap[w.heap.size]?=some (.cells #[tS m1,tS e0] 63)):=(aG _ _ _ (by simp)).trans (ay _ _);have ka:=iE hF m1 e0 hp (aL _) hD _ (h.wide a9 (fun b=>b=w.heap.size+1) hP) av;have HT:=zH h;have a0:Hid (zB w ((w.alloc (.cells #[tS m1,tS e0] 63)).alloc (.cells #[zE,zN,zN,zN] 206))/\∀b,b=w.heap.size+1->w.heap.size<=b/\b<((w.alloc (.cells #[tS m1,tS e0] 63)).alloc (.cells #[zE,zN,zN,zN] 206)).heap.size):=⟨a9,hP⟩;clear a8 a9 hP h hF hp hD;go_enter func158,ntmps158
 go_wp2_with (go_at_call 160;fail)
 generalize (w.alloc (.cells #[tS m1,tS e0] 63)).alloc (.cells #[zE,zN,zN,zN] 206)=W1 at*;go_at_call 160;refine ka.mono ?_;rintro e J ⟨A2,I,pr,m,rv,xv,sv,k,O,E,rfl,⟨h1,h2,h3⟩,an,hk⟩;obtain⟨ra,rc,e1⟩:=h1.len;obtain⟨xa,xc,e2⟩:=h2.len;obtain⟨sa,sc,e3⟩:=h3.len;subst e1;subst e2;subst e3;have HK:Hid (dH (fun b=>A b\/b=w.heap.size+1) S W1 B Q Y U Z mb G cap L V J A2 (counted F E) O I (T++[.ask ⟨0,m1,e0⟩])/\fnd (S G) G r D ⟨0,m1,e0⟩ k O E/\k.f=.man pr m):=⟨hk.went,hk.1,an⟩;have a6:Hid (RdA A2 Sm.mc J (.slice ra m.R.length rc) m.R/\RdA A2 Sm.mc J (.slice xa m.X.length xc) m.X/\RdA A2 Sw.mc J (.slice sa m.S.length sc) m.S):=⟨h1,h2,h3⟩;have ak:Hid (J.heap[w.heap.size+1]?=some (.cells #[zE,zN,zN,zN] 206)):=(hk.went.stay HT.out (bS _) (a0.out.2 _ rfl).2).trans ad.out;have a4:Hid (J.heap[w.heap.size]?=some (.cells #[tS m1,tS e0] 63)):=(hk.went.stay HT.out (af _) (by have:=(a0.out.2 _ rfl).2;omega)).trans ab.out;have a5:Hid (zB J (J.alloc (.cells #[zI (pr:Nat),tS m.p,.slice ra m.R.length rc,.slice xa m.X.length xc,.slice sa m.S.length sc] 208))):=(ae _ _).alloc (af _) _
 have a1:Hid ((J.alloc (.cells #[zI (pr:Nat),tS m.p,.slice ra m.R.length rc,.slice xa m.X.length xc,.slice sa m.S.length sc] 208)).heap[J.heap.size]?=some (.cells #[zI (pr:Nat),tS m.p,.slice ra m.R.length rc,.slice xa m.X.length xc,.slice sa m.S.length sc] 208)):=ay _ _;have a2:Hid ((J.alloc (.cells #[zI (pr:Nat),tS m.p,.slice ra m.R.length rc,.slice xa m.X.length xc,.slice sa m.S.length sc] 208)).heap[w.heap.size+1]?=some (.cells #[zE,zN,zN,zN] 206)/\(J.alloc (.cells #[zI (pr:Nat),tS m.p,.slice ra m.R.length rc,.slice xa m.X.length xc,.slice sa m.S.length sc] 208)).heap[w.heap.size]?=some (.cells #[tS m1,tS e0] 63)):=⟨(aG _ _ _ (ah ak.out)).trans ak.out,(aG _ _ _ (ah a4.out)).trans a4.out⟩;clear hk h1 h2 h3 an ka ad ab;go_upto_region 2 with fail;generalize au:J.alloc (.cells #[zI (pr:Nat),tS m.p,.slice ra m.R.length rc,.slice xa m.X.length xc,.slice sa m.S.length sc] 208)=W3 at*;clear au;obtain⟨⟨d0,_⟩,⟨d1,_⟩,⟨d2,_⟩,⟨d3,_⟩,⟨d4,_⟩⟩:=fd5 a1.out;obtain⟨⟨b0,_⟩,⟨b1,_⟩⟩:=fd2 a2.out.2;have kp:=pU pr m ra xa sa m.R.length rc m.X.length xc m.S.length sc m1 W3
 go_wp2_with (go_at_call 161;fail)
 go_at_call 161;refine kp.mono ?_;rintro e w4 ⟨rfl,a3⟩;have aa:Hid (zB J w4):=a5.out.trans (a3.mono a5.out.size);have a7:Hid (w4.heap[w.heap.size+1]?=some (.cells #[zE,zN,zN,zN] 206)):=(a3.block _ (ah a2.out.1)).trans a2.out.1;have aq:Hid (w4.heap[J.heap.size]?=some (.cells #[zI (pr:Nat),tS m.p,.slice ra m.R.length rc,.slice xa m.X.length xc,.slice sa m.S.length sc] 208)):=(a3.block _ (ah a1.out)).trans a1.out;clear a3 kp d0 d1 d2 d3 d4 b0 b1 a2 a1 a5;obtain⟨⟨c0,f0⟩,⟨c1,f1⟩,⟨c2,f2⟩,⟨c3,f3⟩⟩:=fd4 a7.out;obtain⟨⟨d0,_⟩,⟨d1,_⟩,⟨d2,_⟩,⟨d3,_⟩,⟨d4,_⟩⟩:=fd5 aq.out;by_cases h0:dK (pr,m) m1=0
 ·have HE:Hid (bT m1 k.f=m):=by
   show bT m1 k.f=m;unfold bT;rw[HK.out.2.2];show(if dK (pr,m) m1≠0 then _ else m)=m;rw[ag (fun hh=>hh h0)]
  rw[h0];clear h0;go_wp2;refine aI (bG results158 _ _ (w.heap.size+1) 206 _ (0,0) _ rfl (lA a7.out _ _ _ _) underlying206 rfl (by kernel_rfl)) rfl ?_;have hT:ai (fun b=>b=w.heap.size+1) J ((((w4.setCell (tD (w.heap.size+1) 0) (tS m.p)).setCell (tD (w.heap.size+1) 1) (.slice ra m.R.length rc)).setCell (tD (w.heap.size+1) 2) (.slice xa m.X.length xc)).setCell (tD (w.heap.size+1) 3) (.slice sa m.S.length sc)):=((((ai.of_below (p:=fun b=>b=w.heap.size+1) aa.out).set (a:=(tD (w.heap.size+1) 0)) (fun _=>rfl) _).set (a:=(tD (w.heap.size+1) 1)) (fun _=>rfl) _).set (a:=(tD (w.heap.size+1) 2)) (fun _=>rfl) _).set (a:=(tD (w.heap.size+1) 3)) (fun _=>rfl) _;have hM:=hT.mono (r:=A2) (fun b _ e=>HK.out.1.sub b (oS e));refine⟨A2,I,.slice ra m.R.length rc,.slice xa m.X.length xc,.slice sa m.S.length sc,k,O,E,?_,?_,HK.out.2.1,HK.out.1.lift HT.out a0.out.1 a0.out.2 hT⟩
  ·rw[HE.out]
  rw[HE.out]
  exact⟨a6.out.1.turn hM,a6.out.2.1.turn hM,a6.out.2.2.turn hM⟩
 have HE:Hid (bT m1 k.f=⟨e0,[],[],[]⟩):=by
  show bT m1 k.f=_;unfold bT;rw[HK.out.2.2];show(if dK (pr,m) m1≠0 then _ else m)=_;rw[aj h0]
 have q0:(((dK (pr,m) m1:Nat):Int)==0)=false:=int_ne (b:=0) h0;clear h0;generalize dK (pr,m) m1=pq at*;go_wp2;refine aI (bG results158 _ _ (w.heap.size+1) 206 _ (0,0) _ rfl (lA a7.out _ _ _ _) underlying206 rfl (by kernel_rfl)) rfl ?_;have hT:ai (fun b=>b=w.heap.size+1) J ((((w4.setCell (tD (w.heap.size+1) 0) (zE)).setCell (tD (w.heap.size+1) 1) (zN)).setCell (tD (w.heap.size+1) 2) (zN)).setCell (tD (w.heap.size+1) 3) (zN)):=((((ai.of_below (p:=fun b=>b=w.heap.size+1) aa.out).set (a:=(tD (w.heap.size+1) 0)) (fun _=>rfl) _).set (a:=(tD (w.heap.size+1) 1)) (fun _=>rfl) _).set (a:=(tD (w.heap.size+1) 2)) (fun _=>rfl) _).set (a:=(tD (w.heap.size+1) 3)) (fun _=>rfl) _;refine⟨A2,I,zN,zN,zN,k,O,E,?_,?_,HK.out.2.1,HK.out.1.lift HT.out a0.out.1 a0.out.2 hT⟩
 ·rw[HE.out]
 rw[HE.out]
 exact⟨RdA.nil _,RdA.nil _,RdA.nil _⟩
