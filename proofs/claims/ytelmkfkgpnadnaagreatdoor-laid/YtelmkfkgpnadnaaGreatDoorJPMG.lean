import Derived.Test.YtelmkfkgpnadnaaGreatDoorJPMF
set_option linter.all false
open Go.Proofs.Tryz
set_option maxRecDepth 100000
set_option maxHeartbeats 2000000
namespace Go.Proofs.YtelmkfkgpnadnaaGreatDoor
open Go.RowKit
namespace Pn
open Mf Ed
variable{A A1 A2:Nat→Prop}{S:Nat→Shf}{w w' W W1 w2 wf:zW}{db sb fb mb now:Nat}{cap:Int}{cs:List Int}{D D':List Kp}{L:List (zV×zV)}{B tb:Nat}{tv tv':zV}{ts:List Tie}{r:Nat}{q:Qn}{k:Kp}{Wk:List Qn}
theorem lu(root:zA)(X:List Mo)(s:Shf)(o:Qn→Fi):∀(l ms:List Mo)(ps:List Pb),∃ms' ps',(bj root X l ms ps).run s o=.wants ms' ps'
 |[],ms,ps=>⟨ms,ps,rfl⟩
 |x::rest,ms,ps=>by
  unfold bj
  split
  ·exact lu root X s o rest ms ps
  ·show ∃ms' ps',(match choose x (pd (o ⟨1,x.1,e0⟩)) X with | .inl m=>_ | .inr p=>_:Cm Fi).run s o=_
   cases choose x (pd (o ⟨1,x.1,e0⟩)) X with
   |inl m=>exact lu root X s o rest _ ps
   |inr p=>exact lu root X s o rest ms _
theorem K0(node:Mo)(s:Shf)(o:Qn→Fi):∃ms ps,(gD node).run s o=.wants ms ps:=by
 unfold gD;simp only[Cm.run]
 split
 ·exact⟨_,_,rfl⟩
 ·exact lu _ _ s o _ _ _
theorem vz(root:zA)(s:Shf)(o:Qn→Fi):∀(n:Nat)(l:List Mo)(i:Nat)(ps:List Pb),∃ms' ps',(cJ root n l i ps).run s o=.list ms' ps'
 |0,_,_,_=>⟨_,_,rfl⟩
 |n+1,l,i,ps=>by
  unfold cJ;cases l[i]? with
  |none=>exact⟨_,_,rfl⟩
  |some m=>
   show ∃ms' ps',(match cz l (cF (o ⟨2,m.1,m.2⟩)).1 with|none=>_|some l'=>_:Cm Fi).run s o=_;cases cz l (cF (o ⟨2,m.1,m.2⟩)).1 with
   |none=>exact⟨_,_,rfl⟩
   |some l'=>exact vz root s o n l' _ _
theorem NK(s:Shf)(o:Qn→Fi):∃ms ps,gX.run s o=.list ms ps:=by
 unfold gX;simp only[Cm.run]
 split
 ·exact⟨_,_,rfl⟩
 ·exact vz _ s o _ _ _ _
theorem vA(ms:List Mo)(s:Shf)(o:Qn→Fi):∀(l:List Mo)(ws:List (List Mo)),∃ns ps,(eN (gO ms) l ws).run s o=.ord ns ps
 |[],_=>⟨_,_,rfl⟩
 |_::rest,_=>vA ms s o rest _
theorem P6(s:Shf)(o:Qn→Fi):∃ns ps,(uZ gO).run s o=.ord ns ps:=vA _ s o _ _
theorem Af(s:Shf)(p v:zA):∃ms ps,val s ⟨2,p,v⟩=.wants ms ps:=by
 rw[lN s (ag 2)];show ∃ms ps,(if (2:Nat)=2 then _ else _)=_;rw[ah rfl];exact K0 _ _ _
theorem Dt(s:Shf)(p v:zA):∃ms ps,val s ⟨3,p,v⟩=.list ms ps:=by
 rw[rA s (ag 3)];show ∃ms ps,(if (3:Nat)=3 then _ else _)=_;rw[ah rfl];exact NK _ _
theorem Gj(s:Shf)(p v:zA):∃ns ps,val s ⟨4,p,v⟩=.ord ns ps:=by
 show ∃ms ps,(if (4:Nat)=4 then _ else _)=_;rw[ah rfl];exact P6 _ _
theorem iA(hF:eA S db sb fb mb now cap L r)(m1 m2:zA)(hp:m1.size≤N48)(hp2:m2.size≤N48)(hD:D.length+grow r≤N15)(w:zW)(h:Tsk A S w B tb db sb fb mb now cap cs D L tv ts)(hts:ts.length≤9999):
  zC 325 #[zP tb,.agg #[.string m1,.string m2]] w fun e w'=>∃A2 tv' pr m rv xv sv k D' Wk,e=.returned (.agg #[zI (pr:Nat),.string m.p,rv,xv,sv])∧(RdA A2 Sm.mc w' rv m.R∧RdA A2 Sm.mc w' xv m.X∧RdA A2 Sw.mc w' sv m.S)∧k.f=.man pr m∧gG A S w B tb db sb fb mb now cap cs D L tv ts r ⟨0,m1,m2⟩ w' A2 tv' k D' Wk:=by
 have hb0:zB w (w.alloc (.cells #[.string m1,.string m2] 29)):=(ae _ _).alloc (ag _) _;have hb1:zB w ((w.alloc (.cells #[.string m1,.string m2] 29)).alloc (.cells #[zI 0,zE,zN,zN,zN] 386)):=hb0.alloc hb0.size _;have hP:∀b,b=w.heap.size+1→w.heap.size≤b∧b<((w.alloc (.cells #[.string m1,.string m2] 29)).alloc (.cells #[zI 0,zE,zN,zN,zN] 386)).heap.size:=fun b e=>by rw[e];exact⟨cr _,by simp⟩
 have HX1:Hid (((w.alloc (.cells #[.string m1,.string m2] 29)).alloc (.cells #[zI 0,zE,zN,zN,zN] 386)).heap[w.heap.size+1]?=some (.cells #[zI 0,zE,zN,zN,zN] 386)):=ez w _ _;have HX0:Hid (((w.alloc (.cells #[.string m1,.string m2] 29)).alloc (.cells #[zI 0,zE,zN,zN,zN] 386)).heap[w.heap.size]?=some (.cells #[.string m1,.string m2] 29)):=(aG _ _ _ (by simp)).trans (aD _ _);have ka:=sW hF ⟨0,m1,m2⟩ (aK _) (by show 0≤4;decide) ⟨hp,hp2⟩ hD _ (h.wide hb1 (fun b=>b=w.heap.size+1) hP) hts;have HT:Hid (Tsk A S w B tb db sb fb mb now cap cs D L tv ts):=h;have HB1:Hid (zB w ((w.alloc (.cells #[.string m1,.string m2] 29)).alloc (.cells #[zI 0,zE,zN,zN,zN] 386))∧∀b,b=w.heap.size+1→w.heap.size≤b∧b<((w.alloc (.cells #[.string m1,.string m2] 29)).alloc (.cells #[zI 0,zE,zN,zN,zN] 386)).heap.size):=⟨hb1,hP⟩;clear hb0 hb1 hP h hF hD hp hp2;go_enter func325,ntmps325
 go_wp2_with (go_at_call 148;fail)
 generalize (w.alloc (.cells #[.string m1,.string m2] 29)).alloc (.cells #[zI 0,zE,zN,zN,zN] 386)=W1 at*;go_at_call 148;refine ka.mono ?_;rintro e w2 ⟨A2,tv',fv,k,D',Wk,rfl,hfv,hk⟩;have hv:=hk.val HT.out.eng.inv (aK _) (by show 0≤4;decide);obtain⟨pr,m,hvs⟩:=BL (S now) m1 m2;rw[hvs] at hv;rw[hv.1] at hfv;obtain⟨rv,xv,sv,rfl,h1,h2,h3⟩:=hfv;obtain⟨ra,rc,e1⟩:=h1.len;obtain⟨xa,xc,e2⟩:=h2.len;obtain⟨sa,sc,e3⟩:=h3.len;subst e1;subst e2;subst e3;have HK:Hid (gG (fun b=>A b∨b=w.heap.size+1) S W1 B tb db sb fb mb now cap cs D L tv ts r ⟨0,m1,m2⟩ w2 A2 tv' k D' Wk∧(RdA A2 Sm.mc w2 (.slice ra m.R.length rc) m.R∧RdA A2 Sm.mc w2 (.slice xa m.X.length xc) m.X∧RdA A2 Sw.mc w2 (.slice sa m.S.length sc) m.S)∧k.f=.man pr m):=⟨hk,⟨h1,h2,h3⟩,hv.1⟩;have HX2:Hid (w2.heap[w.heap.size+1]?=some (.cells #[zI 0,zE,zN,zN,zN] 386)):=(hk.stay HT.out (by omega) (HB1.out.2 _ rfl).2).trans HX1.out;have HX3:Hid ((w2.alloc (.cells #[zI (pr:Nat),.string m.p,.slice ra m.R.length rc,.slice xa m.X.length xc,.slice sa m.S.length sc] 386)).heap[w.heap.size+1]?=some (.cells #[zI 0,zE,zN,zN,zN] 386)):=(aG _ _ _ (ai HX2.out)).trans HX2.out
 have HB3:Hid (zB w2 (w2.alloc (.cells #[zI (pr:Nat),.string m.p,.slice ra m.R.length rc,.slice xa m.X.length xc,.slice sa m.S.length sc] 386))):=(ae _ _).alloc (ag _) _;have HN3:Hid ((w2.alloc (.cells #[zI (pr:Nat),.string m.p,.slice ra m.R.length rc,.slice xa m.X.length xc,.slice sa m.S.length sc] 386)).heap[w2.heap.size]?=some (.cells #[zI (pr:Nat),.string m.p,.slice ra m.R.length rc,.slice xa m.X.length xc,.slice sa m.S.length sc] 386)):=aD _ _;clear hk hv hvs ka h1 h2 h3;have hta:=KJ (.agg #[zI (pr:Nat),.string m.p,.slice ra m.R.length rc,.slice xa m.X.length xc,.slice sa m.S.length sc]) w2;go_upto_region 2 with fail;obtain⟨⟨c0,f0⟩,⟨c1,f1⟩,⟨c2,f2⟩,⟨c3,f3⟩,⟨c4,f4⟩⟩:=fd5 HX3.out;obtain⟨⟨d0,_⟩,⟨d1,_⟩,⟨d2,_⟩,⟨d3,_⟩,⟨d4,_⟩⟩:=fd5 HN3.out;clear hta;generalize w2.alloc (.cells #[zI (pr:Nat),.string m.p,.slice ra m.R.length rc,.slice xa m.X.length xc,.slice sa m.S.length sc] 386)=W3 at*;go_wp2;refine aI (bM results325 _ _ (w.heap.size+1) 386 _ (0,0) _ rfl (EZ HX3.out _ _ _ _ _) underlying386 rfl (by kernel_rfl)) rfl ?_
 have hT:aj (fun b=>b=w.heap.size+1) w2 (((((W3.setCell ⟨w.heap.size+1,0,none⟩ (zI (pr:Nat))).setCell ⟨w.heap.size+1,1,none⟩ (.string m.p)).setCell ⟨w.heap.size+1,2,none⟩ (.slice ra m.R.length rc)).setCell ⟨w.heap.size+1,3,none⟩ (.slice xa m.X.length xc)).setCell ⟨w.heap.size+1,4,none⟩ (.slice sa m.S.length sc)):=((((((aj.of_below (p:=fun b=>b=w.heap.size+1) HB3.out).set (a:=⟨w.heap.size+1,0,none⟩) (fun _=>rfl) _).set (a:=⟨w.heap.size+1,1,none⟩) (fun _=>rfl) _).set (a:=⟨w.heap.size+1,2,none⟩) (fun _=>rfl) _).set (a:=⟨w.heap.size+1,3,none⟩) (fun _=>rfl) _).set (a:=⟨w.heap.size+1,4,none⟩) (fun _=>rfl) _);have hM:=hT.mono (r:=A2) (fun b _ e=>HK.out.1.2.2.2.1 b (Or.inr e));exact⟨A2,tv',pr,m,_,_,_,k,D',Wk,rfl,⟨HK.out.2.1.1.turn hM,HK.out.2.1.2.1.turn hM,HK.out.2.1.2.2.turn hM⟩,HK.out.2.2,HK.out.1.lift HT.out HB1.out.1 HB1.out.2 hT⟩
theorem mE(hF:eA S db sb fb mb now cap L r)(m1 m2:zA)(hp:m1.size≤N48)(hp2:m2.size≤N48)(hr:1≤r)(hD:D.length+grow r≤N15)(w:zW)(h:Tsk A S w B tb db sb fb mb now cap cs D L tv ts)(hts:ts.length≤9999):
  zC 329 #[zP tb,.agg #[.string m1,.string m2]] w fun e w'=>∃A2 tv' ms ps a b k D' Wk,e=.returned (.agg #[a,b])∧(RdA A2 Sm.mc w' a ms∧RdA A2 aT w' b ps)∧k.f=.wants ms ps∧gG A S w B tb db sb fb mb now cap cs D L tv ts r ⟨2,m1,m2⟩ w' A2 tv' k D' Wk:=by
 have hb0:zB w (w.alloc (.cells #[.string m1,.string m2] 29)):=(ae _ _).alloc (ag _) _;have hb1:zB w ((w.alloc (.cells #[.string m1,.string m2] 29)).alloc (.cells #[zN,zN] 391)):=hb0.alloc hb0.size _;have hP:∀b,b=w.heap.size+1→w.heap.size≤b∧b<((w.alloc (.cells #[.string m1,.string m2] 29)).alloc (.cells #[zN,zN] 391)).heap.size:=fun b e=>by rw[e];exact⟨cr _,by simp⟩
 have HX1:Hid (((w.alloc (.cells #[.string m1,.string m2] 29)).alloc (.cells #[zN,zN] 391)).heap[w.heap.size+1]?=some (.cells #[zN,zN] 391)):=ez w _ _;have HX0:Hid (((w.alloc (.cells #[.string m1,.string m2] 29)).alloc (.cells #[zN,zN] 391)).heap[w.heap.size]?=some (.cells #[.string m1,.string m2] 29)):=(aG _ _ _ (by simp)).trans (aD _ _);have ka:=sW hF ⟨2,m1,m2⟩ hr (by show 2≤4;decide) ⟨hp,hp2⟩ hD _ (h.wide hb1 (fun b=>b=w.heap.size+1) hP) hts;have HT:Hid (Tsk A S w B tb db sb fb mb now cap cs D L tv ts):=h;have HB1:Hid (zB w ((w.alloc (.cells #[.string m1,.string m2] 29)).alloc (.cells #[zN,zN] 391))∧∀b,b=w.heap.size+1→w.heap.size≤b∧b<((w.alloc (.cells #[.string m1,.string m2] 29)).alloc (.cells #[zN,zN] 391)).heap.size):=⟨hb1,hP⟩;clear hb0 hb1 hP h hF hD hp hp2;go_enter func329,ntmps329
 go_wp2_with (go_at_call 148;fail)
 generalize (w.alloc (.cells #[.string m1,.string m2] 29)).alloc (.cells #[zN,zN] 391)=W1 at*;go_at_call 148;refine ka.mono ?_;rintro e w2 ⟨A2,tv',fv,k,D',Wk,rfl,hfv,hk⟩;have hv:=hk.val HT.out.eng.inv hr (by show 2≤4;decide);obtain⟨ms,ps,hvs⟩:=Af (S now) m1 m2;rw[hvs] at hv;rw[hv.1] at hfv;obtain⟨a,b,rfl,h1,h2⟩:=hfv;obtain⟨aa,ac,e1⟩:=h1.len;obtain⟨ba,bc,e2⟩:=h2.len;subst e1;subst e2;have HK:Hid (gG (fun b=>A b∨b=w.heap.size+1) S W1 B tb db sb fb mb now cap cs D L tv ts r ⟨2,m1,m2⟩ w2 A2 tv' k D' Wk∧(RdA A2 Sm.mc w2 (.slice aa ms.length ac) ms∧RdA A2 aT w2 (.slice ba ps.length bc) ps)∧k.f=.wants ms ps):=⟨hk,⟨h1,h2⟩,hv.1⟩;have HX2:Hid (w2.heap[w.heap.size+1]?=some (.cells #[zN,zN] 391)):=(hk.stay HT.out (by omega) (HB1.out.2 _ rfl).2).trans HX1.out;have HX3:Hid ((w2.alloc (.cells #[.slice aa ms.length ac,.slice ba ps.length bc] 391)).heap[w.heap.size+1]?=some (.cells #[zN,zN] 391)):=(aG _ _ _ (ai HX2.out)).trans HX2.out;have HB3:Hid (zB w2 (w2.alloc (.cells #[.slice aa ms.length ac,.slice ba ps.length bc] 391))):=(ae _ _).alloc (ag _) _;have HN3:Hid ((w2.alloc (.cells #[.slice aa ms.length ac,.slice ba ps.length bc] 391)).heap[w2.heap.size]?=some (.cells #[.slice aa ms.length ac,.slice ba ps.length bc] 391)):=aD _ _;clear hk hv hvs ka h1 h2;have hta:=KM (.agg #[.slice aa ms.length ac,.slice ba ps.length bc]) w2
 go_upto_region 2 with fail;obtain⟨⟨c0,f0⟩,⟨c1,f1⟩⟩:=fd2 HX3.out;obtain⟨⟨d0,_⟩,⟨d1,_⟩⟩:=fd2 HN3.out;clear hta;generalize w2.alloc (.cells #[.slice aa ms.length ac,.slice ba ps.length bc] 391)=W3 at*;go_wp2;refine aI (bM results329 _ _ (w.heap.size+1) 391 _ (0,0) _ rfl (gA HX3.out _ _) underlying391 rfl (by kernel_rfl)) rfl ?_;have hT:aj (fun b=>b=w.heap.size+1) w2 ((W3.setCell ⟨w.heap.size+1,0,none⟩ (.slice aa ms.length ac)).setCell ⟨w.heap.size+1,1,none⟩ (.slice ba ps.length bc)):=(((aj.of_below (p:=fun b=>b=w.heap.size+1) HB3.out).set (a:=⟨w.heap.size+1,0,none⟩) (fun _=>rfl) _).set (a:=⟨w.heap.size+1,1,none⟩) (fun _=>rfl) _);have hM:=hT.mono (r:=A2) (fun b _ e=>HK.out.1.2.2.2.1 b (Or.inr e));exact⟨A2,tv',ms,ps,_,_,k,D',Wk,rfl,⟨HK.out.2.1.1.turn hM,HK.out.2.1.2.turn hM⟩,HK.out.2.2,HK.out.1.lift HT.out HB1.out.1 HB1.out.2 hT⟩
theorem Du(hF:eA S db sb fb mb now cap L r)(hr:2≤r)(hD:D.length+grow r≤N15)(w:zW)(h:Tsk A S w B tb db sb fb mb now cap cs D L tv ts)(hts:ts.length≤9999):
  zC 102 #[zP tb] w fun e w'=>∃A2 tv' ms ps a b k D' Wk,e=.returned (.agg #[a,b])∧(RdA A2 Sm.mc w' a ms∧RdA A2 aT w' b ps)∧k.f=.list ms ps∧gG A S w B tb db sb fb mb now cap cs D L tv ts r ⟨3,e0,e0⟩ w' A2 tv' k D' Wk:=by
 have hb1:zB w (w.alloc (.cells #[zN,zN] 176)):=(ae _ _).alloc (ag _) _;have hP:∀b,b=w.heap.size→w.heap.size≤b∧b<(w.alloc (.cells #[zN,zN] 176)).heap.size:=fun b e=>by rw[e];exact⟨ag _,by simp⟩
 have HX1:Hid ((w.alloc (.cells #[zN,zN] 176)).heap[w.heap.size]?=some (.cells #[zN,zN] 176)):=aD _ _;have ka:=sW hF ⟨3,e0,e0⟩ hr (by show 3≤4;decide) ⟨aK _,aK _⟩ hD _ (h.wide hb1 (fun b=>b=w.heap.size) hP) hts;have HT:Hid (Tsk A S w B tb db sb fb mb now cap cs D L tv ts):=h;have HB1:Hid (zB w (w.alloc (.cells #[zN,zN] 176))∧∀b,b=w.heap.size→w.heap.size≤b∧b<(w.alloc (.cells #[zN,zN] 176)).heap.size):=⟨hb1,hP⟩;clear hb1 hP h hF hD;go_enter func102,ntmps102
 go_wp2_with (go_at_call 148;fail)
 generalize w.alloc (.cells #[zN,zN] 176)=W1 at*;go_at_call 148;refine ka.mono ?_;rintro e w2 ⟨A2,tv',fv,k,D',Wk,rfl,hfv,hk⟩;have hv:=hk.val HT.out.eng.inv hr (by show 3≤4;decide);obtain⟨ms,ps,hvs⟩:=Dt (S now) e0 e0;rw[hvs] at hv;rw[hv.1] at hfv;obtain⟨a,b,rfl,h1,h2⟩:=hfv;obtain⟨aa,ac,e1⟩:=h1.len;obtain⟨ba,bc,e2⟩:=h2.len;subst e1;subst e2;have HK:Hid (gG (fun b=>A b∨b=w.heap.size) S W1 B tb db sb fb mb now cap cs D L tv ts r ⟨3,e0,e0⟩ w2 A2 tv' k D' Wk∧(RdA A2 Sm.mc w2 (.slice aa ms.length ac) ms∧RdA A2 aT w2 (.slice ba ps.length bc) ps)∧k.f=.list ms ps):=⟨hk,⟨h1,h2⟩,hv.1⟩;have HX2:Hid (w2.heap[w.heap.size]?=some (.cells #[zN,zN] 176)):=(hk.stay HT.out (by omega) (HB1.out.2 _ rfl).2).trans HX1.out;have HX3:Hid ((w2.alloc (.cells #[.slice aa ms.length ac,.slice ba ps.length bc] 176)).heap[w.heap.size]?=some (.cells #[zN,zN] 176)):=(aG _ _ _ (ai HX2.out)).trans HX2.out;have HB3:Hid (zB w2 (w2.alloc (.cells #[.slice aa ms.length ac,.slice ba ps.length bc] 176))):=(ae _ _).alloc (ag _) _;have HN3:Hid ((w2.alloc (.cells #[.slice aa ms.length ac,.slice ba ps.length bc] 176)).heap[w2.heap.size]?=some (.cells #[.slice aa ms.length ac,.slice ba ps.length bc] 176)):=aD _ _;clear hk hv hvs ka h1 h2;have hta:=KN (.agg #[.slice aa ms.length ac,.slice ba ps.length bc]) w2;go_upto_region 2 with fail;obtain⟨⟨c0,f0⟩,⟨c1,f1⟩⟩:=fd2 HX3.out
 obtain⟨⟨d0,_⟩,⟨d1,_⟩⟩:=fd2 HN3.out;clear hta;generalize w2.alloc (.cells #[.slice aa ms.length ac,.slice ba ps.length bc] 176)=W3 at*;go_wp2;refine aI (bM results102 _ _ (w.heap.size) 176 _ (0,0) _ rfl (gA HX3.out _ _) underlying176 rfl (by kernel_rfl)) rfl ?_;have hT:aj (fun b=>b=w.heap.size) w2 ((W3.setCell ⟨w.heap.size,0,none⟩ (.slice aa ms.length ac)).setCell ⟨w.heap.size,1,none⟩ (.slice ba ps.length bc)):=(((aj.of_below (p:=fun b=>b=w.heap.size) HB3.out).set (a:=⟨w.heap.size,0,none⟩) (fun _=>rfl) _).set (a:=⟨w.heap.size,1,none⟩) (fun _=>rfl) _);have hM:=hT.mono (r:=A2) (fun b _ e=>HK.out.1.2.2.2.1 b (Or.inr e));exact⟨A2,tv',ms,ps,_,_,k,D',Wk,rfl,⟨HK.out.2.1.1.turn hM,HK.out.2.1.2.turn hM⟩,HK.out.2.2,HK.out.1.lift HT.out HB1.out.1 HB1.out.2 hT⟩
theorem Ix(hF:eA S db sb fb mb now cap L r)(hr:3≤r)(hD:D.length+grow r≤N15)(w:zW)(h:Tsk A S w B tb db sb fb mb now cap cs D L tv ts)(hts:ts.length≤9999):
  zC 103 #[zP tb] w fun e w'=>∃A2 tv' ms ps a b k D' Wk,e=.returned (.agg #[a,b])∧(RdA A2 fW w' a ms∧RdA A2 aT w' b ps)∧k.f=.ord ms ps∧gG A S w B tb db sb fb mb now cap cs D L tv ts r ⟨4,e0,e0⟩ w' A2 tv' k D' Wk:=by
 have hb1:zB w (w.alloc (.cells #[zN,zN] 179)):=(ae _ _).alloc (ag _) _;have hP:∀b,b=w.heap.size→w.heap.size≤b∧b<(w.alloc (.cells #[zN,zN] 179)).heap.size:=fun b e=>by rw[e];exact⟨ag _,by simp⟩
 have HX1:Hid ((w.alloc (.cells #[zN,zN] 179)).heap[w.heap.size]?=some (.cells #[zN,zN] 179)):=aD _ _;have ka:=sW hF ⟨4,e0,e0⟩ hr (by show 4≤4;decide) ⟨aK _,aK _⟩ hD _ (h.wide hb1 (fun b=>b=w.heap.size) hP) hts;have HT:Hid (Tsk A S w B tb db sb fb mb now cap cs D L tv ts):=h;have HB1:Hid (zB w (w.alloc (.cells #[zN,zN] 179))∧∀b,b=w.heap.size→w.heap.size≤b∧b<(w.alloc (.cells #[zN,zN] 179)).heap.size):=⟨hb1,hP⟩;clear hb1 hP h hF hD;go_enter func103,ntmps103
 go_wp2_with (go_at_call 148;fail)
 generalize w.alloc (.cells #[zN,zN] 179)=W1 at*;go_at_call 148;refine ka.mono ?_;rintro e w2 ⟨A2,tv',fv,k,D',Wk,rfl,hfv,hk⟩;have hv:=hk.val HT.out.eng.inv hr (by show 4≤4;decide);obtain⟨ms,ps,hvs⟩:=Gj (S now) e0 e0;rw[hvs] at hv;rw[hv.1] at hfv;obtain⟨a,b,rfl,h1,h2⟩:=hfv;obtain⟨aa,ac,e1⟩:=h1.len;obtain⟨ba,bc,e2⟩:=h2.len;subst e1;subst e2;have HK:Hid (gG (fun b=>A b∨b=w.heap.size) S W1 B tb db sb fb mb now cap cs D L tv ts r ⟨4,e0,e0⟩ w2 A2 tv' k D' Wk∧(RdA A2 fW w2 (.slice aa ms.length ac) ms∧RdA A2 aT w2 (.slice ba ps.length bc) ps)∧k.f=.ord ms ps):=⟨hk,⟨h1,h2⟩,hv.1⟩;have HX2:Hid (w2.heap[w.heap.size]?=some (.cells #[zN,zN] 179)):=(hk.stay HT.out (by omega) (HB1.out.2 _ rfl).2).trans HX1.out;have HX3:Hid ((w2.alloc (.cells #[.slice aa ms.length ac,.slice ba ps.length bc] 179)).heap[w.heap.size]?=some (.cells #[zN,zN] 179)):=(aG _ _ _ (ai HX2.out)).trans HX2.out;have HB3:Hid (zB w2 (w2.alloc (.cells #[.slice aa ms.length ac,.slice ba ps.length bc] 179))):=(ae _ _).alloc (ag _) _;have HN3:Hid ((w2.alloc (.cells #[.slice aa ms.length ac,.slice ba ps.length bc] 179)).heap[w2.heap.size]?=some (.cells #[.slice aa ms.length ac,.slice ba ps.length bc] 179)):=aD _ _;clear hk hv hvs ka h1 h2;have hta:=KO (.agg #[.slice aa ms.length ac,.slice ba ps.length bc]) w2;go_upto_region 2 with fail;obtain⟨⟨c0,f0⟩,⟨c1,f1⟩⟩:=fd2 HX3.out
 obtain⟨⟨d0,_⟩,⟨d1,_⟩⟩:=fd2 HN3.out;clear hta;generalize w2.alloc (.cells #[.slice aa ms.length ac,.slice ba ps.length bc] 179)=W3 at*;go_wp2;refine aI (bM results103 _ _ (w.heap.size) 179 _ (0,0) _ rfl (gA HX3.out _ _) underlying179 rfl (by kernel_rfl)) rfl ?_;have hT:aj (fun b=>b=w.heap.size) w2 ((W3.setCell ⟨w.heap.size,0,none⟩ (.slice aa ms.length ac)).setCell ⟨w.heap.size,1,none⟩ (.slice ba ps.length bc)):=(((aj.of_below (p:=fun b=>b=w.heap.size) HB3.out).set (a:=⟨w.heap.size,0,none⟩) (fun _=>rfl) _).set (a:=⟨w.heap.size,1,none⟩) (fun _=>rfl) _);have hM:=hT.mono (r:=A2) (fun b _ e=>HK.out.1.2.2.2.1 b (Or.inr e));exact⟨A2,tv',ms,ps,_,_,k,D',Wk,rfl,⟨HK.out.2.1.1.turn hM,HK.out.2.1.2.turn hM⟩,HK.out.2.2,HK.out.1.lift HT.out HB1.out.1 HB1.out.2 hT⟩
end Pn
namespace Pn
open Mf Ed
variable{A A1 A2:Nat→Prop}{S:Nat→Shf}{w w' W W1 w2 wf:zW}{db sb fb mb now:Nat}{cap:Int}{cs:List Int}{D D':List Kp}{L:List (zV×zV)}{B tb:Nat}{tv tv':zV}{ts ts':List Tie}{r:Nat}{q:Qn}{k:Kp}{Wk:List Qn}{cs':List Int}
structure dE(A:Nat→Prop)(S:Nat→Shf)(w:World)(B tb db sb fb mb now:Nat)(cap:Int)(L:List (zV×zV))(tv:zV)(w':World)(A2:Nat→Prop)(cs':List Int)(D':List Kp)(tv':zV)(ts':List Tie):Prop where
 t:Tsk A2 S w' B tb db sb fb mb now cap cs' D' L tv' ts'
 f:aj (Fr4 db fb tb tv) w w'
 sub:∀b,A b→A2 b
 new:∀b,A2 b→A b∨w.heap.size≤b
 own:∀b,tv'.ownBlock=some b→tv.ownBlock=some b∨w.heap.size≤b
theorem gG.went(h:gG A S w B tb db sb fb mb now cap cs D L tv ts r q w2 A2 tv' k D' Wk):dE A S w B tb db sb fb mb now cap L tv w2 A2 (counted cs Wk) D' tv' (ts++[.ask q]):=⟨h.2.1,h.2.2.1,h.2.2.2.1,h.2.2.2.2.1,h.2.2.2.2.2⟩
theorem dE.trans{tv2:zV}{A3:Nat→Prop}{cs2:List Int}{D2:List Kp}{ts2:List Tie}{w3:zW}(h:dE A S w B tb db sb fb mb now cap L tv w2 A2 cs' D' tv' ts')(g:dE A2 S w2 B tb db sb fb mb now cap L tv' w3 A3 cs2 D2 tv2 ts2):dE A S w B tb db sb fb mb now cap L tv w3 A3 cs2 D2 tv2 ts2:=by
 have hs:=h.f.size;refine⟨g.t,h.f.trans g.f (fun _ _ e=>e) (fun b hb e=>?_),fun b e=>g.sub b (h.sub b e),fun b e=>?_,fun b e=>?_⟩
 ·rcases e with e|e|e|e
  ·exact Or.inl e
  ·exact Or.inr (Or.inl e)
  ·exact Or.inr (Or.inr (Or.inl e))
  ·rcases h.own b e with e|e
   ·exact Or.inr (Or.inr (Or.inr e))
   ·omega
 ·rcases g.new b e with e|e
  ·exact h.new b e
  ·exact Or.inr (by omega)
 ·rcases g.own b e with e|e
  ·exact h.own b e
  ·exact Or.inr (by omega)
theorem dE.lift{P:Nat→Prop}(h:Tsk A S w B tb db sb fb mb now cap cs D L tv ts)(hb:zB w W1)(hP:∀b,P b→w.heap.size≤b∧b<W1.heap.size)(hk:dE (fun b=>A b∨P b) S W1 B tb db sb fb mb now cap L tv w2 A2 cs' D' tv' ts')(ht:aj P w2 wf):
  dE A S w B tb db sb fb mb now cap L tv wf A2 cs' D' tv' ts':=by
 have hs:=hb.size;refine⟨hk.t.turn ht (fun b _ e=>hk.sub b (Or.inr e)) (fun b e=>⟨by have:=(hP b e).1;have:=h.hB;omega,fun e2=>?_⟩),?_,fun b e=>hk.sub b (Or.inl e),fun b e=>?_,fun b e=>?_⟩
 ·have h7:=hP b e
  rcases e2 with e2|e2
  ·have:=h.task.t0.lt;omega
  ·rcases hk.own b e2 with e3|e3
   ·have:=(h.task.row.lt b e3).2;omega
   ·omega
 ·exact((aj.of_below hb).trans hk.f (fun _ _ e=>e) (fun _ _ e=>e)).trans ht (fun _ _ e=>e) (fun b hb2 e=>by have:=(hP b e).1;omega)
 ·rcases hk.new b e with(e|e)|e
  ·exact Or.inl e
  ·exact Or.inr (hP b e).1
  ·exact Or.inr (by omega)
 ·rcases hk.own b e with e|e
  ·exact Or.inl e
  ·exact Or.inr (by omega)
theorem dE.stay(h:Tsk A S w B tb db sb fb mb now cap cs D L tv ts)(hk:dE A1 S W1 B tb db sb fb mb now cap L tv w2 A2 cs' D' tv' ts'){b:Nat}(h1:w.heap.size≤b)(h2:b<W1.heap.size):w2.heap[b]?=W1.heap[b]?:=by
 refine hk.f.block b h2 (fun e=>?_);have h3:=h.lt;have h4:=h.hB;rcases e with e|e|e|e
 ·omega
 ·omega
 ·have:=h.task.t0.lt;omega
 ·have:=(h.task.row.lt b e).2;omega
theorem xY(p:Plc)(hp:POk p)(w:zW)(h:Tsk A S w B tb db sb fb mb now cap cs D L tv ts)(hts:ts.length≤9999):
  zC 308 #[zP tb,plV p] w fun e w'=>∃A2 tv',e=.returned (txV (S now p))∧dE A S w B tb db sb fb mb now cap L tv w' A2 cs D tv' (ts++[.rd p (S now p)]):=by
 refine(oW (S now) p w h.eng.shelf h.eng.on hp h.task h.eng.desk.f0.1 (by omega) h.hB).mono ?_;rintro e w' ⟨tv',rfl,hT,ht,hat⟩
 exact⟨_,tv',rfl,h.grown ht hT hat,ht.mono (fun b _ e=>Or.inr (Or.inr e)),fun b e=>Or.inl e,fun b e=>by
  rcases e with e|e
  ·exact Or.inl e
  ·rcases hat b e with e|e
   ·exact Or.inl (h.pr b (Or.inr e))
   ·exact Or.inr e,hat⟩
theorem Iy(a b:zV)(W:zW):(Instr.field 255 (.agg #[a,b]) 0).run prog W=.ok a W:=by kernel_rfl
theorem Iz(t:Option zA):bF t=rootOf t:=by cases t<;>rfl
theorem Dv(w:zW)(h:Tsk A S w B tb db sb fb mb now cap cs D L tv ts)(hts:ts.length≤9999):
  zC 322 #[zP tb] w fun e w'=>∃A2 tv',e=.returned (.agg #[.string (rootOf (S now ax)),.string e0])∧dE A S w B tb db sb fb mb now cap L tv w' A2 cs D tv' (ts++[.rd ax (S now ax)]):=by
 have hb1:zB w (w.alloc (.cells #[zE,zE] 29)):=(ae _ _).alloc (ag _) _;have hP:∀b,b=w.heap.size→w.heap.size≤b∧b<(w.alloc (.cells #[zE,zE] 29)).heap.size:=fun b e=>by rw[e];exact⟨ag _,by simp⟩
 have HX1:Hid ((w.alloc (.cells #[zE,zE] 29)).heap[w.heap.size]?=some (.cells #[zE,zE] 29)):=aD _ _;have ka:=xY ax ⟨by show 2≤4;decide,aK _,aK _⟩ _ (h.wide hb1 (fun b=>b=w.heap.size) hP) hts;have HT:Hid (Tsk A S w B tb db sb fb mb now cap cs D L tv ts):=h;have HB1:Hid (zB w (w.alloc (.cells #[zE,zE] 29))∧∀b,b=w.heap.size→w.heap.size≤b∧b<(w.alloc (.cells #[zE,zE] 29)).heap.size):=⟨hb1,hP⟩;clear hb1 hP h;rw[←Iz];go_enter func322,ntmps322
 go_wp2_with (go_at_call 308;fail)
 generalize w.alloc (.cells #[zE,zE] 29)=W1 at*;go_at_call 308;refine ka.mono ?_;rintro e w2 ⟨A2,tv',rfl,hk⟩;have HK:Hid (dE (fun b=>A b∨b=w.heap.size) S W1 B tb db sb fb mb now cap L tv w2 A2 cs D tv' (ts++[.rd ax (S now ax)])):=hk;have HX2:Hid (w2.heap[w.heap.size]?=some (.cells #[zE,zE] 29)):=(hk.stay HT.out (ag _) (HB1.out.2 _ rfl).2).trans HX1.out;clear hk ka;obtain⟨⟨c0,f0⟩,⟨c1,f1⟩⟩:=fd2 HX2.out;have hfd:=Iy (.string (bF (S now ax))) (.bool (S now ax).isSome) w2;go_wp2;refine aI (bM results322 _ _ w.heap.size 29 _ (0,0) _ rfl (gA HX2.out _ _) underlying29 rfl (by kernel_rfl)) rfl ?_;have hT:aj (fun b=>b=w.heap.size) w2 ((w2.setCell ⟨w.heap.size,0,none⟩ (.string (bF (S now ax)))).setCell ⟨w.heap.size,1,none⟩ (zE)):=((aj.refl (fun b=>b=w.heap.size) w2).set (a:=⟨w.heap.size,0,none⟩) (fun _=>rfl) _).set (a:=⟨w.heap.size,1,none⟩) (fun _=>rfl) _;exact⟨A2,tv',rfl,HK.out.lift HT.out HB1.out.1 HB1.out.2 hT⟩
end Pn
namespace Pn
open Mf Ed
variable{A A1 A2:Nat→Prop}{S:Nat→Shf}{w w' W W1 w2 wf:zW}{db sb fb mb now:Nat}{cap:Int}{cs:List Int}{D D':List Kp}{L:List (zV×zV)}{B tb:Nat}{tv tv':zV}{ts ts':List Tie}{r:Nat}{q:Qn}{k:Kp}{Wk:List Qn}{cs':List Int}
theorem lQ{W:zW}{r:Nat}{t:TypeId}{x0 x1 x2 x3:zV}(h:W.heap[r]?=some (.cells #[x0,x1,x2,x3] t))(a b c d:zV):((((W.setCell ⟨r,0,none⟩ a).setCell ⟨r,1,none⟩ b).setCell ⟨r,2,none⟩ c).setCell ⟨r,3,none⟩ d).heap[r]?=some (.cells #[a,b,c,d] t):=by
 have h1:=cg _ _ 0 _ _ a h;have h2:=cg _ _ 1 _ _ b h1;have h3:=cg _ _ 2 _ _ c h2;exact cg _ _ 3 _ _ d h3
theorem fd4{W:zW}{r:Nat}{t:TypeId}{x0 x1 x2 x3:zV}(h:W.heap[r]?=some (.cells #[x0,x1,x2,x3] t)):(W.cell? ⟨r,0,none⟩=some x0∧W.frozen? ⟨r,0,none⟩=false)∧(W.cell? ⟨r,1,none⟩=some x1∧W.frozen? ⟨r,1,none⟩=false)∧(W.cell? ⟨r,2,none⟩=some x2∧W.frozen? ⟨r,2,none⟩=false)∧(W.cell? ⟨r,3,none⟩=some x3∧W.frozen? ⟨r,3,none⟩=false):=by
 simp only[World.cell?,World.frozen?,h];exact⟨⟨rfl,rfl⟩,⟨rfl,rfl⟩,⟨rfl,rfl⟩,⟨rfl,rfl⟩⟩
theorem IA(hF:eA S db sb fb mb now cap L r)(m1:zA)(hp:m1.size≤N48)(hD:D.length+grow r≤N15)(w:zW)(h:Tsk A S w B tb db sb fb mb now cap cs D L tv ts)(hts:ts.length≤9999):
  zC 323 #[zP tb,.agg #[.string m1,.string e0]] w fun e w'=>∃A2 tv' rv xv sv k D' Wk,e=.returned (.agg #[.string (bO m1 k.f).p,rv,xv,sv])∧(RdA A2 Sm.mc w' rv (bO m1 k.f).R∧RdA A2 Sm.mc w' xv (bO m1 k.f).X∧RdA A2 Sw.mc w' sv (bO m1 k.f).S)∧fnd (S now) now r D ⟨0,m1,e0⟩ k D' Wk∧dE A S w B tb db sb fb mb now cap L tv w' A2 (counted cs Wk) D' tv' (ts++[.ask ⟨0,m1,e0⟩]):=by
 have hb0:zB w (w.alloc (.cells #[.string m1,.string e0] 29)):=(ae _ _).alloc (ag _) _;have hb1:zB w ((w.alloc (.cells #[.string m1,.string e0] 29)).alloc (.cells #[zE,zN,zN,zN] 26)):=hb0.alloc hb0.size _;have hP:∀b,b=w.heap.size+1→w.heap.size≤b∧b<((w.alloc (.cells #[.string m1,.string e0] 29)).alloc (.cells #[zE,zN,zN,zN] 26)).heap.size:=fun b e=>by rw[e];exact⟨cr _,by simp⟩
 have HX1:Hid (((w.alloc (.cells #[.string m1,.string e0] 29)).alloc (.cells #[zE,zN,zN,zN] 26)).heap[w.heap.size+1]?=some (.cells #[zE,zN,zN,zN] 26)):=ez w _ _;have HX0:Hid (((w.alloc (.cells #[.string m1,.string e0] 29)).alloc (.cells #[zE,zN,zN,zN] 26)).heap[w.heap.size]?=some (.cells #[.string m1,.string e0] 29)):=(aG _ _ _ (by simp)).trans (aD _ _);have ka:=iA hF m1 e0 hp (aK _) hD _ (h.wide hb1 (fun b=>b=w.heap.size+1) hP) hts;have HT:Hid (Tsk A S w B tb db sb fb mb now cap cs D L tv ts):=h;have HB1:Hid (zB w ((w.alloc (.cells #[.string m1,.string e0] 29)).alloc (.cells #[zE,zN,zN,zN] 26))∧∀b,b=w.heap.size+1→w.heap.size≤b∧b<((w.alloc (.cells #[.string m1,.string e0] 29)).alloc (.cells #[zE,zN,zN,zN] 26)).heap.size):=⟨hb1,hP⟩;clear hb0 hb1 hP h hF hp hD;go_enter func323,ntmps323
 go_wp2_with (go_at_call 325;fail)
 generalize (w.alloc (.cells #[.string m1,.string e0] 29)).alloc (.cells #[zE,zN,zN,zN] 26)=W1 at*;go_at_call 325;refine ka.mono ?_;rintro e w2 ⟨A2,tv',pr,m,rv,xv,sv,k,D',Wk,rfl,⟨h1,h2,h3⟩,hkf,hk⟩;obtain⟨ra,rc,e1⟩:=h1.len;obtain⟨xa,xc,e2⟩:=h2.len;obtain⟨sa,sc,e3⟩:=h3.len;subst e1;subst e2;subst e3;have HK:Hid (dE (fun b=>A b∨b=w.heap.size+1) S W1 B tb db sb fb mb now cap L tv w2 A2 (counted cs Wk) D' tv' (ts++[.ask ⟨0,m1,e0⟩])∧fnd (S now) now r D ⟨0,m1,e0⟩ k D' Wk∧k.f=.man pr m):=⟨hk.went,hk.1,hkf⟩;have HRd:Hid (RdA A2 Sm.mc w2 (.slice ra m.R.length rc) m.R∧RdA A2 Sm.mc w2 (.slice xa m.X.length xc) m.X∧RdA A2 Sw.mc w2 (.slice sa m.S.length sc) m.S):=⟨h1,h2,h3⟩;have HX2:Hid (w2.heap[w.heap.size+1]?=some (.cells #[zE,zN,zN,zN] 26)):=(hk.went.stay HT.out (cr _) (HB1.out.2 _ rfl).2).trans HX1.out;have HX2b:Hid (w2.heap[w.heap.size]?=some (.cells #[.string m1,.string e0] 29)):=(hk.went.stay HT.out (ag _) (by have:=(HB1.out.2 _ rfl).2;omega)).trans HX0.out;have HB3:Hid (zB w2 (w2.alloc (.cells #[zI (pr:Nat),.string m.p,.slice ra m.R.length rc,.slice xa m.X.length xc,.slice sa m.S.length sc] 386))):=(ae _ _).alloc (ag _) _
 have HN3:Hid ((w2.alloc (.cells #[zI (pr:Nat),.string m.p,.slice ra m.R.length rc,.slice xa m.X.length xc,.slice sa m.S.length sc] 386)).heap[w2.heap.size]?=some (.cells #[zI (pr:Nat),.string m.p,.slice ra m.R.length rc,.slice xa m.X.length xc,.slice sa m.S.length sc] 386)):=aD _ _;have HX3:Hid ((w2.alloc (.cells #[zI (pr:Nat),.string m.p,.slice ra m.R.length rc,.slice xa m.X.length xc,.slice sa m.S.length sc] 386)).heap[w.heap.size+1]?=some (.cells #[zE,zN,zN,zN] 26)∧(w2.alloc (.cells #[zI (pr:Nat),.string m.p,.slice ra m.R.length rc,.slice xa m.X.length xc,.slice sa m.S.length sc] 386)).heap[w.heap.size]?=some (.cells #[.string m1,.string e0] 29)):=⟨(aG _ _ _ (ai HX2.out)).trans HX2.out,(aG _ _ _ (ai HX2b.out)).trans HX2b.out⟩;clear hk h1 h2 h3 hkf ka HX1 HX0;go_upto_region 2 with fail;generalize hW3:w2.alloc (.cells #[zI (pr:Nat),.string m.p,.slice ra m.R.length rc,.slice xa m.X.length xc,.slice sa m.S.length sc] 386)=W3 at*;clear hW3;obtain⟨⟨d0,_⟩,⟨d1,_⟩,⟨d2,_⟩,⟨d3,_⟩,⟨d4,_⟩⟩:=fd5 HN3.out;obtain⟨⟨b0,_⟩,⟨b1,_⟩⟩:=fd2 HX3.out.2;have kp:=qG pr m ra xa sa m.R.length rc m.X.length xc m.S.length sc m1 W3
 go_wp2_with (go_at_call 326;fail)
 go_at_call 326;refine kp.mono ?_;rintro e w4 ⟨rfl,hb4⟩;have HB4:Hid (zB w2 w4):=HB3.out.trans (hb4.mono HB3.out.size);have HX4:Hid (w4.heap[w.heap.size+1]?=some (.cells #[zE,zN,zN,zN] 26)):=(hb4.block _ (ai HX3.out.1)).trans HX3.out.1;have HN4:Hid (w4.heap[w2.heap.size]?=some (.cells #[zI (pr:Nat),.string m.p,.slice ra m.R.length rc,.slice xa m.X.length xc,.slice sa m.S.length sc] 386)):=(hb4.block _ (ai HN3.out)).trans HN3.out;clear hb4 kp d0 d1 d2 d3 d4 b0 b1 HX3 HN3 HB3;obtain⟨⟨c0,f0⟩,⟨c1,f1⟩,⟨c2,f2⟩,⟨c3,f3⟩⟩:=fd4 HX4.out;obtain⟨⟨d0,_⟩,⟨d1,_⟩,⟨d2,_⟩,⟨d3,_⟩,⟨d4,_⟩⟩:=fd5 HN4.out;by_cases h0:dn (pr,m) m1=0
 ·have HE:Hid (bO m1 k.f=m):=by
   show bO m1 k.f=m;unfold bO;rw[HK.out.2.2];show(if dn (pr,m) m1≠0 then _ else m)=m;rw[af (fun hh=>hh h0)]
  rw[h0];clear h0;go_wp2;refine aI (bM results323 _ _ (w.heap.size+1) 26 _ (0,0) _ rfl (lQ HX4.out _ _ _ _) underlying26 rfl (by kernel_rfl)) rfl ?_;have hT:aj (fun b=>b=w.heap.size+1) w2 ((((w4.setCell ⟨w.heap.size+1,0,none⟩ (.string m.p)).setCell ⟨w.heap.size+1,1,none⟩ (.slice ra m.R.length rc)).setCell ⟨w.heap.size+1,2,none⟩ (.slice xa m.X.length xc)).setCell ⟨w.heap.size+1,3,none⟩ (.slice sa m.S.length sc)):=((((aj.of_below (p:=fun b=>b=w.heap.size+1) HB4.out).set (a:=⟨w.heap.size+1,0,none⟩) (fun _=>rfl) _).set (a:=⟨w.heap.size+1,1,none⟩) (fun _=>rfl) _).set (a:=⟨w.heap.size+1,2,none⟩) (fun _=>rfl) _).set (a:=⟨w.heap.size+1,3,none⟩) (fun _=>rfl) _;have hM:=hT.mono (r:=A2) (fun b _ e=>HK.out.1.sub b (Or.inr e));refine⟨A2,tv',.slice ra m.R.length rc,.slice xa m.X.length xc,.slice sa m.S.length sc,k,D',Wk,?_,?_,HK.out.2.1,HK.out.1.lift HT.out HB1.out.1 HB1.out.2 hT⟩
  ·rw[HE.out]
  ·rw[HE.out]
   exact⟨HRd.out.1.turn hM,HRd.out.2.1.turn hM,HRd.out.2.2.turn hM⟩
 ·have HE:Hid (bO m1 k.f=⟨e0,[],[],[]⟩):=by
   show bO m1 k.f=_;unfold bO;rw[HK.out.2.2];show(if dn (pr,m) m1≠0 then _ else m)=_;rw[ah h0]
  have q0:(((dn (pr,m) m1:Nat):Int)==0)=false:=int_ne (b:=0) h0;clear h0;generalize dn (pr,m) m1=pq at*;go_wp2;refine aI (bM results323 _ _ (w.heap.size+1) 26 _ (0,0) _ rfl (lQ HX4.out _ _ _ _) underlying26 rfl (by kernel_rfl)) rfl ?_;have hT:aj (fun b=>b=w.heap.size+1) w2 ((((w4.setCell ⟨w.heap.size+1,0,none⟩ (zE)).setCell ⟨w.heap.size+1,1,none⟩ (zN)).setCell ⟨w.heap.size+1,2,none⟩ (zN)).setCell ⟨w.heap.size+1,3,none⟩ (zN)):=((((aj.of_below (p:=fun b=>b=w.heap.size+1) HB4.out).set (a:=⟨w.heap.size+1,0,none⟩) (fun _=>rfl) _).set (a:=⟨w.heap.size+1,1,none⟩) (fun _=>rfl) _).set (a:=⟨w.heap.size+1,2,none⟩) (fun _=>rfl) _).set (a:=⟨w.heap.size+1,3,none⟩) (fun _=>rfl) _;refine⟨A2,tv',zN,zN,zN,k,D',Wk,?_,?_,HK.out.2.1,HK.out.1.lift HT.out HB1.out.1 HB1.out.2 hT⟩
  ·rw[HE.out]
  ·rw[HE.out]
   exact⟨RdA.nil _,RdA.nil _,RdA.nil _⟩
