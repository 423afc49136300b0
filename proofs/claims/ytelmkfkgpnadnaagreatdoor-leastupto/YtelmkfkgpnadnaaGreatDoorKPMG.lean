import Derived.Test.YtelmkfkgpnadnaaGreatDoorKPMF
open Go.Proofs.Tryz
set_option maxRecDepth 100000
set_option maxHeartbeats 2000000
namespace Go.Proofs.YtelmkfkgpnadnaaGreatDoor
open Go.RowKit
namespace Pn
open Mf Ed
variable{A A1 A2:Nat→Prop}{S:Nat→Shf}{w w' W W1 w2 wf:World}{db sb fb mb now:Nat}{cap:Int}{cs:List Int}{D D':List Kp}{L:List (Value×Value)}{B tb:Nat}{tv tv':Value}{ts:List Tie}{r:Nat}{q:Qn}{k:Kp}{Wk:List Qn}
theorem jV(root:ByteArray)(X:List Mo)(s:Shf)(o:Qn→Fi):∀(l ms:List Mo)(ps:List Pb),∃ms' ps',(aZ root X l ms ps).run s o=.wants ms' ps'
 |[],ms,ps=>⟨ms,ps,rfl⟩
 |x::rest,ms,ps=>by
  unfold aZ
  split
  ·exact jV root X s o rest ms ps
  ·show ∃ms' ps',(match choose x (nO (o ⟨1,x.1,e0⟩)) X with | .inl m=>_ | .inr p=>_:Cm Fi).run s o=_
   cases choose x (nO (o ⟨1,x.1,e0⟩)) X with
   |inl m=>exact jV root X s o rest _ ps
   |inr p=>exact jV root X s o rest ms _
theorem I7(node:Mo)(s:Shf)(o:Qn→Fi):∃ms ps,(fR node).run s o=.wants ms ps:=by
 unfold fR;simp only[Cm.run]
 split
 ·exact⟨_,_,rfl⟩
 ·exact jV _ _ s o _ _ _
theorem t8(root:ByteArray)(s:Shf)(o:Qn→Fi):∀(n:Nat)(l:List Mo)(i:Nat)(ps:List Pb),∃ms' ps',(cu root n l i ps).run s o=.list ms' ps'
 |0,_,_,_=>⟨_,_,rfl⟩
 |n+1,l,i,ps=>by
  unfold cu;cases l[i]? with
  |none=>exact⟨_,_,rfl⟩
  |some m=>
   show ∃ms' ps',(match bY l (cO (o ⟨2,m.1,m.2⟩)).1 with|none=>_|some l'=>_:Cm Fi).run s o=_;cases bY l (cO (o ⟨2,m.1,m.2⟩)).1 with
   |none=>exact⟨_,_,rfl⟩
   |some l'=>exact t8 root s o n l' _ _
theorem LG(s:Shf)(o:Qn→Fi):∃ms ps,gB.run s o=.list ms ps:=by
 unfold gB;simp only[Cm.run]
 split
 ·exact⟨_,_,rfl⟩
 ·exact t8 _ s o _ _ _ _
theorem uf(ms:List Mo)(s:Shf)(o:Qn→Fi):∀(l:List Mo)(ws:List (List Mo)),∃ns ps,(eC (iZ ms) l ws).run s o=.ord ns ps
 |[],_=>⟨_,_,rfl⟩
 |_::rest,_=>uf ms s o rest _
theorem Ob(s:Shf)(o:Qn→Fi):∃ns ps,(tQ iZ).run s o=.ord ns ps:=uf _ s o _ _
theorem yA(s:Shf)(p v:ByteArray):∃ms ps,val s ⟨2,p,v⟩=.wants ms ps:=by
 rw[kD s (ag 2)];show ∃ms ps,(if (2:Nat)=2 then _ else _)=_;rw[ai rfl];exact I7 _ _ _
theorem BF(s:Shf)(p v:ByteArray):∃ms ps,val s ⟨3,p,v⟩=.list ms ps:=by
 rw[qb s (ag 3)];show ∃ms ps,(if (3:Nat)=3 then _ else _)=_;rw[ai rfl];exact LG _ _
theorem EG(s:Shf)(p v:ByteArray):∃ns ps,val s ⟨4,p,v⟩=.ord ns ps:=by
 show ∃ms ps,(if (4:Nat)=4 then _ else _)=_;rw[ai rfl];exact Ob _ _
theorem fS(hF:dX S db sb fb mb now cap L r)(m1 m2:ByteArray)(hp:m1.size≤N48)(hp2:m2.size≤N48)(hD:D.length+grow r≤N15)(w:World)(h:Tsk A S w B tb db sb fb mb now cap cs D L tv ts)(hts:ts.length≤9999):
  Calls prog 325 #[.pointer (some ⟨tb,0,none⟩),.agg #[.string m1,.string m2]] w fun e w'=>∃A2 tv' pr m rv xv sv k D' Wk,e=.returned (.agg #[.int .i64 (pr:Nat),.string m.p,rv,xv,sv])∧(RdA A2 Sm.mc w' rv m.R∧RdA A2 Sm.mc w' xv m.X∧RdA A2 Sw.mc w' sv m.S)∧k.f=.man pr m∧fV A S w B tb db sb fb mb now cap cs D L tv ts r ⟨0,m1,m2⟩ w' A2 tv' k D' Wk:=by
 have hb0:Below w.heap.size w (w.alloc (.cells #[.string m1,.string m2] 29)):=(ae _ _).alloc (ag _) _;have hb1:Below w.heap.size w ((w.alloc (.cells #[.string m1,.string m2] 29)).alloc (.cells #[.int .i64 0,.string ⟨#[]⟩,.slice none 0 0,.slice none 0 0,.slice none 0 0] 386)):=hb0.alloc hb0.size _;have hP:∀b,b=w.heap.size+1→w.heap.size≤b∧b<((w.alloc (.cells #[.string m1,.string m2] 29)).alloc (.cells #[.int .i64 0,.string ⟨#[]⟩,.slice none 0 0,.slice none 0 0,.slice none 0 0] 386)).heap.size:=fun b e=>by rw[e];exact⟨bW _,by simp⟩
 have HX1:Hid (((w.alloc (.cells #[.string m1,.string m2] 29)).alloc (.cells #[.int .i64 0,.string ⟨#[]⟩,.slice none 0 0,.slice none 0 0,.slice none 0 0] 386)).heap[w.heap.size+1]?=some (.cells #[.int .i64 0,.string ⟨#[]⟩,.slice none 0 0,.slice none 0 0,.slice none 0 0] 386)):=dV w _ _;have HX0:Hid (((w.alloc (.cells #[.string m1,.string m2] 29)).alloc (.cells #[.int .i64 0,.string ⟨#[]⟩,.slice none 0 0,.slice none 0 0,.slice none 0 0] 386)).heap[w.heap.size]?=some (.cells #[.string m1,.string m2] 29)):=(aI _ _ _ (by simp)).trans (aB _ _);have ka:=rJ hF ⟨0,m1,m2⟩ (aL _) (by show 0≤4;decide) ⟨hp,hp2⟩ hD _ (h.wide hb1 (fun b=>b=w.heap.size+1) hP) hts;have HT:Hid (Tsk A S w B tb db sb fb mb now cap cs D L tv ts):=h;have HB1:Hid (Below w.heap.size w ((w.alloc (.cells #[.string m1,.string m2] 29)).alloc (.cells #[.int .i64 0,.string ⟨#[]⟩,.slice none 0 0,.slice none 0 0,.slice none 0 0] 386))∧∀b,b=w.heap.size+1→w.heap.size≤b∧b<((w.alloc (.cells #[.string m1,.string m2] 29)).alloc (.cells #[.int .i64 0,.string ⟨#[]⟩,.slice none 0 0,.slice none 0 0,.slice none 0 0] 386)).heap.size):=⟨hb1,hP⟩;clear hb0 hb1 hP h hF hD hp hp2;go_enter func325,ntmps325
 go_wp2_with (go_at_call 148;fail)
 generalize (w.alloc (.cells #[.string m1,.string m2] 29)).alloc (.cells #[.int .i64 0,.string ⟨#[]⟩,.slice none 0 0,.slice none 0 0,.slice none 0 0] 386)=W1 at*;go_at_call 148;refine ka.mono ?_;rintro e w2 ⟨A2,tv',fv,k,D',Wk,rfl,hfv,hk⟩;have hv:=hk.val HT.out.eng.inv (aL _) (by show 0≤4;decide);obtain⟨pr,m,hvs⟩:=zN (S now) m1 m2;rw[hvs] at hv;rw[hv.1] at hfv;obtain⟨rv,xv,sv,rfl,h1,h2,h3⟩:=hfv;obtain⟨ra,rc,e1⟩:=h1.len;obtain⟨xa,xc,e2⟩:=h2.len;obtain⟨sa,sc,e3⟩:=h3.len;subst e1;subst e2;subst e3;have HK:Hid (fV (fun b=>A b∨b=w.heap.size+1) S W1 B tb db sb fb mb now cap cs D L tv ts r ⟨0,m1,m2⟩ w2 A2 tv' k D' Wk∧(RdA A2 Sm.mc w2 (.slice ra m.R.length rc) m.R∧RdA A2 Sm.mc w2 (.slice xa m.X.length xc) m.X∧RdA A2 Sw.mc w2 (.slice sa m.S.length sc) m.S)∧k.f=.man pr m):=⟨hk,⟨h1,h2,h3⟩,hv.1⟩;have HX2:Hid (w2.heap[w.heap.size+1]?=some (.cells #[.int .i64 0,.string ⟨#[]⟩,.slice none 0 0,.slice none 0 0,.slice none 0 0] 386)):=(hk.stay HT.out (by omega) (HB1.out.2 _ rfl).2).trans HX1.out;have HX3:Hid ((w2.alloc (.cells #[.int .i64 (pr:Nat),.string m.p,.slice ra m.R.length rc,.slice xa m.X.length xc,.slice sa m.S.length sc] 386)).heap[w.heap.size+1]?=some (.cells #[.int .i64 0,.string ⟨#[]⟩,.slice none 0 0,.slice none 0 0,.slice none 0 0] 386)):=(aI _ _ _ (ah HX2.out)).trans HX2.out
 have HB3:Hid (Below w2.heap.size w2 (w2.alloc (.cells #[.int .i64 (pr:Nat),.string m.p,.slice ra m.R.length rc,.slice xa m.X.length xc,.slice sa m.S.length sc] 386))):=(ae _ _).alloc (ag _) _;have HN3:Hid ((w2.alloc (.cells #[.int .i64 (pr:Nat),.string m.p,.slice ra m.R.length rc,.slice xa m.X.length xc,.slice sa m.S.length sc] 386)).heap[w2.heap.size]?=some (.cells #[.int .i64 (pr:Nat),.string m.p,.slice ra m.R.length rc,.slice xa m.X.length xc,.slice sa m.S.length sc] 386)):=aB _ _;clear hk hv hvs ka h1 h2 h3;have hta:=IJ (.agg #[.int .i64 (pr:Nat),.string m.p,.slice ra m.R.length rc,.slice xa m.X.length xc,.slice sa m.S.length sc]) w2;go_upto_region 2 with fail;obtain⟨⟨c0,f0⟩,⟨c1,f1⟩,⟨c2,f2⟩,⟨c3,f3⟩,⟨c4,f4⟩⟩:=fd5 HX3.out;obtain⟨⟨d0,_⟩,⟨d1,_⟩,⟨d2,_⟩,⟨d3,_⟩,⟨d4,_⟩⟩:=fd5 HN3.out;clear hta;generalize w2.alloc (.cells #[.int .i64 (pr:Nat),.string m.p,.slice ra m.R.length rc,.slice xa m.X.length xc,.slice sa m.S.length sc] 386)=W3 at*;go_wp2;refine aJ (bJ results325 _ _ (w.heap.size+1) 386 _ (0,0) _ rfl (Di HX3.out _ _ _ _ _) underlying386 rfl (by kernel_rfl)) rfl ?_
 have hT:aj (fun b=>b=w.heap.size+1) w2 (((((W3.setCell ⟨w.heap.size+1,0,none⟩ (.int .i64 (pr:Nat))).setCell ⟨w.heap.size+1,1,none⟩ (.string m.p)).setCell ⟨w.heap.size+1,2,none⟩ (.slice ra m.R.length rc)).setCell ⟨w.heap.size+1,3,none⟩ (.slice xa m.X.length xc)).setCell ⟨w.heap.size+1,4,none⟩ (.slice sa m.S.length sc)):=((((((aj.of_below (p:=fun b=>b=w.heap.size+1) HB3.out).set (a:=⟨w.heap.size+1,0,none⟩) (fun _=>rfl) _).set (a:=⟨w.heap.size+1,1,none⟩) (fun _=>rfl) _).set (a:=⟨w.heap.size+1,2,none⟩) (fun _=>rfl) _).set (a:=⟨w.heap.size+1,3,none⟩) (fun _=>rfl) _).set (a:=⟨w.heap.size+1,4,none⟩) (fun _=>rfl) _);have hM:=hT.mono (r:=A2) (fun b _ e=>HK.out.1.2.2.2.1 b (Or.inr e));exact⟨A2,tv',pr,m,_,_,_,k,D',Wk,rfl,⟨HK.out.2.1.1.turn hM,HK.out.2.1.2.1.turn hM,HK.out.2.1.2.2.turn hM⟩,HK.out.2.2,HK.out.1.lift HT.out HB1.out.1 HB1.out.2 hT⟩
theorem jk(hF:dX S db sb fb mb now cap L r)(m1 m2:ByteArray)(hp:m1.size≤N48)(hp2:m2.size≤N48)(hr:1≤r)(hD:D.length+grow r≤N15)(w:World)(h:Tsk A S w B tb db sb fb mb now cap cs D L tv ts)(hts:ts.length≤9999):
  Calls prog 329 #[.pointer (some ⟨tb,0,none⟩),.agg #[.string m1,.string m2]] w fun e w'=>∃A2 tv' ms ps a b k D' Wk,e=.returned (.agg #[a,b])∧(RdA A2 Sm.mc w' a ms∧RdA A2 aU w' b ps)∧k.f=.wants ms ps∧fV A S w B tb db sb fb mb now cap cs D L tv ts r ⟨2,m1,m2⟩ w' A2 tv' k D' Wk:=by
 have hb0:Below w.heap.size w (w.alloc (.cells #[.string m1,.string m2] 29)):=(ae _ _).alloc (ag _) _;have hb1:Below w.heap.size w ((w.alloc (.cells #[.string m1,.string m2] 29)).alloc (.cells #[.slice none 0 0,.slice none 0 0] 391)):=hb0.alloc hb0.size _;have hP:∀b,b=w.heap.size+1→w.heap.size≤b∧b<((w.alloc (.cells #[.string m1,.string m2] 29)).alloc (.cells #[.slice none 0 0,.slice none 0 0] 391)).heap.size:=fun b e=>by rw[e];exact⟨bW _,by simp⟩
 have HX1:Hid (((w.alloc (.cells #[.string m1,.string m2] 29)).alloc (.cells #[.slice none 0 0,.slice none 0 0] 391)).heap[w.heap.size+1]?=some (.cells #[.slice none 0 0,.slice none 0 0] 391)):=dV w _ _;have HX0:Hid (((w.alloc (.cells #[.string m1,.string m2] 29)).alloc (.cells #[.slice none 0 0,.slice none 0 0] 391)).heap[w.heap.size]?=some (.cells #[.string m1,.string m2] 29)):=(aI _ _ _ (by simp)).trans (aB _ _);have ka:=rJ hF ⟨2,m1,m2⟩ hr (by show 2≤4;decide) ⟨hp,hp2⟩ hD _ (h.wide hb1 (fun b=>b=w.heap.size+1) hP) hts;have HT:Hid (Tsk A S w B tb db sb fb mb now cap cs D L tv ts):=h;have HB1:Hid (Below w.heap.size w ((w.alloc (.cells #[.string m1,.string m2] 29)).alloc (.cells #[.slice none 0 0,.slice none 0 0] 391))∧∀b,b=w.heap.size+1→w.heap.size≤b∧b<((w.alloc (.cells #[.string m1,.string m2] 29)).alloc (.cells #[.slice none 0 0,.slice none 0 0] 391)).heap.size):=⟨hb1,hP⟩;clear hb0 hb1 hP h hF hD hp hp2;go_enter func329,ntmps329
 go_wp2_with (go_at_call 148;fail)
 generalize (w.alloc (.cells #[.string m1,.string m2] 29)).alloc (.cells #[.slice none 0 0,.slice none 0 0] 391)=W1 at*;go_at_call 148;refine ka.mono ?_;rintro e w2 ⟨A2,tv',fv,k,D',Wk,rfl,hfv,hk⟩;have hv:=hk.val HT.out.eng.inv hr (by show 2≤4;decide);obtain⟨ms,ps,hvs⟩:=yA (S now) m1 m2;rw[hvs] at hv;rw[hv.1] at hfv;obtain⟨a,b,rfl,h1,h2⟩:=hfv;obtain⟨aa,ac,e1⟩:=h1.len;obtain⟨ba,bc,e2⟩:=h2.len;subst e1;subst e2;have HK:Hid (fV (fun b=>A b∨b=w.heap.size+1) S W1 B tb db sb fb mb now cap cs D L tv ts r ⟨2,m1,m2⟩ w2 A2 tv' k D' Wk∧(RdA A2 Sm.mc w2 (.slice aa ms.length ac) ms∧RdA A2 aU w2 (.slice ba ps.length bc) ps)∧k.f=.wants ms ps):=⟨hk,⟨h1,h2⟩,hv.1⟩;have HX2:Hid (w2.heap[w.heap.size+1]?=some (.cells #[.slice none 0 0,.slice none 0 0] 391)):=(hk.stay HT.out (by omega) (HB1.out.2 _ rfl).2).trans HX1.out;have HX3:Hid ((w2.alloc (.cells #[.slice aa ms.length ac,.slice ba ps.length bc] 391)).heap[w.heap.size+1]?=some (.cells #[.slice none 0 0,.slice none 0 0] 391)):=(aI _ _ _ (ah HX2.out)).trans HX2.out;have HB3:Hid (Below w2.heap.size w2 (w2.alloc (.cells #[.slice aa ms.length ac,.slice ba ps.length bc] 391))):=(ae _ _).alloc (ag _) _;have HN3:Hid ((w2.alloc (.cells #[.slice aa ms.length ac,.slice ba ps.length bc] 391)).heap[w2.heap.size]?=some (.cells #[.slice aa ms.length ac,.slice ba ps.length bc] 391)):=aB _ _;clear hk hv hvs ka h1 h2;have hta:=IL (.agg #[.slice aa ms.length ac,.slice ba ps.length bc]) w2
 go_upto_region 2 with fail;obtain⟨⟨c0,f0⟩,⟨c1,f1⟩⟩:=fd2 HX3.out;obtain⟨⟨d0,_⟩,⟨d1,_⟩⟩:=fd2 HN3.out;clear hta;generalize w2.alloc (.cells #[.slice aa ms.length ac,.slice ba ps.length bc] 391)=W3 at*;go_wp2;refine aJ (bJ results329 _ _ (w.heap.size+1) 391 _ (0,0) _ rfl (fO HX3.out _ _) underlying391 rfl (by kernel_rfl)) rfl ?_;have hT:aj (fun b=>b=w.heap.size+1) w2 ((W3.setCell ⟨w.heap.size+1,0,none⟩ (.slice aa ms.length ac)).setCell ⟨w.heap.size+1,1,none⟩ (.slice ba ps.length bc)):=(((aj.of_below (p:=fun b=>b=w.heap.size+1) HB3.out).set (a:=⟨w.heap.size+1,0,none⟩) (fun _=>rfl) _).set (a:=⟨w.heap.size+1,1,none⟩) (fun _=>rfl) _);have hM:=hT.mono (r:=A2) (fun b _ e=>HK.out.1.2.2.2.1 b (Or.inr e));exact⟨A2,tv',ms,ps,_,_,k,D',Wk,rfl,⟨HK.out.2.1.1.turn hM,HK.out.2.1.2.turn hM⟩,HK.out.2.2,HK.out.1.lift HT.out HB1.out.1 HB1.out.2 hT⟩
theorem BG(hF:dX S db sb fb mb now cap L r)(hr:2≤r)(hD:D.length+grow r≤N15)(w:World)(h:Tsk A S w B tb db sb fb mb now cap cs D L tv ts)(hts:ts.length≤9999):
  Calls prog 102 #[.pointer (some ⟨tb,0,none⟩)] w fun e w'=>∃A2 tv' ms ps a b k D' Wk,e=.returned (.agg #[a,b])∧(RdA A2 Sm.mc w' a ms∧RdA A2 aU w' b ps)∧k.f=.list ms ps∧fV A S w B tb db sb fb mb now cap cs D L tv ts r ⟨3,e0,e0⟩ w' A2 tv' k D' Wk:=by
 have hb1:Below w.heap.size w (w.alloc (.cells #[.slice none 0 0,.slice none 0 0] 176)):=(ae _ _).alloc (ag _) _;have hP:∀b,b=w.heap.size→w.heap.size≤b∧b<(w.alloc (.cells #[.slice none 0 0,.slice none 0 0] 176)).heap.size:=fun b e=>by rw[e];exact⟨ag _,by simp⟩
 have HX1:Hid ((w.alloc (.cells #[.slice none 0 0,.slice none 0 0] 176)).heap[w.heap.size]?=some (.cells #[.slice none 0 0,.slice none 0 0] 176)):=aB _ _;have ka:=rJ hF ⟨3,e0,e0⟩ hr (by show 3≤4;decide) ⟨aL _,aL _⟩ hD _ (h.wide hb1 (fun b=>b=w.heap.size) hP) hts;have HT:Hid (Tsk A S w B tb db sb fb mb now cap cs D L tv ts):=h;have HB1:Hid (Below w.heap.size w (w.alloc (.cells #[.slice none 0 0,.slice none 0 0] 176))∧∀b,b=w.heap.size→w.heap.size≤b∧b<(w.alloc (.cells #[.slice none 0 0,.slice none 0 0] 176)).heap.size):=⟨hb1,hP⟩;clear hb1 hP h hF hD;go_enter func102,ntmps102
 go_wp2_with (go_at_call 148;fail)
 generalize w.alloc (.cells #[.slice none 0 0,.slice none 0 0] 176)=W1 at*;go_at_call 148;refine ka.mono ?_;rintro e w2 ⟨A2,tv',fv,k,D',Wk,rfl,hfv,hk⟩;have hv:=hk.val HT.out.eng.inv hr (by show 3≤4;decide);obtain⟨ms,ps,hvs⟩:=BF (S now) e0 e0;rw[hvs] at hv;rw[hv.1] at hfv;obtain⟨a,b,rfl,h1,h2⟩:=hfv;obtain⟨aa,ac,e1⟩:=h1.len;obtain⟨ba,bc,e2⟩:=h2.len;subst e1;subst e2;have HK:Hid (fV (fun b=>A b∨b=w.heap.size) S W1 B tb db sb fb mb now cap cs D L tv ts r ⟨3,e0,e0⟩ w2 A2 tv' k D' Wk∧(RdA A2 Sm.mc w2 (.slice aa ms.length ac) ms∧RdA A2 aU w2 (.slice ba ps.length bc) ps)∧k.f=.list ms ps):=⟨hk,⟨h1,h2⟩,hv.1⟩;have HX2:Hid (w2.heap[w.heap.size]?=some (.cells #[.slice none 0 0,.slice none 0 0] 176)):=(hk.stay HT.out (by omega) (HB1.out.2 _ rfl).2).trans HX1.out;have HX3:Hid ((w2.alloc (.cells #[.slice aa ms.length ac,.slice ba ps.length bc] 176)).heap[w.heap.size]?=some (.cells #[.slice none 0 0,.slice none 0 0] 176)):=(aI _ _ _ (ah HX2.out)).trans HX2.out;have HB3:Hid (Below w2.heap.size w2 (w2.alloc (.cells #[.slice aa ms.length ac,.slice ba ps.length bc] 176))):=(ae _ _).alloc (ag _) _;have HN3:Hid ((w2.alloc (.cells #[.slice aa ms.length ac,.slice ba ps.length bc] 176)).heap[w2.heap.size]?=some (.cells #[.slice aa ms.length ac,.slice ba ps.length bc] 176)):=aB _ _;clear hk hv hvs ka h1 h2;have hta:=IP (.agg #[.slice aa ms.length ac,.slice ba ps.length bc]) w2;go_upto_region 2 with fail;obtain⟨⟨c0,f0⟩,⟨c1,f1⟩⟩:=fd2 HX3.out
 obtain⟨⟨d0,_⟩,⟨d1,_⟩⟩:=fd2 HN3.out;clear hta;generalize w2.alloc (.cells #[.slice aa ms.length ac,.slice ba ps.length bc] 176)=W3 at*;go_wp2;refine aJ (bJ results102 _ _ (w.heap.size) 176 _ (0,0) _ rfl (fO HX3.out _ _) underlying176 rfl (by kernel_rfl)) rfl ?_;have hT:aj (fun b=>b=w.heap.size) w2 ((W3.setCell ⟨w.heap.size,0,none⟩ (.slice aa ms.length ac)).setCell ⟨w.heap.size,1,none⟩ (.slice ba ps.length bc)):=(((aj.of_below (p:=fun b=>b=w.heap.size) HB3.out).set (a:=⟨w.heap.size,0,none⟩) (fun _=>rfl) _).set (a:=⟨w.heap.size,1,none⟩) (fun _=>rfl) _);have hM:=hT.mono (r:=A2) (fun b _ e=>HK.out.1.2.2.2.1 b (Or.inr e));exact⟨A2,tv',ms,ps,_,_,k,D',Wk,rfl,⟨HK.out.2.1.1.turn hM,HK.out.2.1.2.turn hM⟩,HK.out.2.2,HK.out.1.lift HT.out HB1.out.1 HB1.out.2 hT⟩
theorem Gi(hF:dX S db sb fb mb now cap L r)(hr:3≤r)(hD:D.length+grow r≤N15)(w:World)(h:Tsk A S w B tb db sb fb mb now cap cs D L tv ts)(hts:ts.length≤9999):
  Calls prog 103 #[.pointer (some ⟨tb,0,none⟩)] w fun e w'=>∃A2 tv' ms ps a b k D' Wk,e=.returned (.agg #[a,b])∧(RdA A2 gf w' a ms∧RdA A2 aU w' b ps)∧k.f=.ord ms ps∧fV A S w B tb db sb fb mb now cap cs D L tv ts r ⟨4,e0,e0⟩ w' A2 tv' k D' Wk:=by
 have hb1:Below w.heap.size w (w.alloc (.cells #[.slice none 0 0,.slice none 0 0] 179)):=(ae _ _).alloc (ag _) _;have hP:∀b,b=w.heap.size→w.heap.size≤b∧b<(w.alloc (.cells #[.slice none 0 0,.slice none 0 0] 179)).heap.size:=fun b e=>by rw[e];exact⟨ag _,by simp⟩
 have HX1:Hid ((w.alloc (.cells #[.slice none 0 0,.slice none 0 0] 179)).heap[w.heap.size]?=some (.cells #[.slice none 0 0,.slice none 0 0] 179)):=aB _ _;have ka:=rJ hF ⟨4,e0,e0⟩ hr (by show 4≤4;decide) ⟨aL _,aL _⟩ hD _ (h.wide hb1 (fun b=>b=w.heap.size) hP) hts;have HT:Hid (Tsk A S w B tb db sb fb mb now cap cs D L tv ts):=h;have HB1:Hid (Below w.heap.size w (w.alloc (.cells #[.slice none 0 0,.slice none 0 0] 179))∧∀b,b=w.heap.size→w.heap.size≤b∧b<(w.alloc (.cells #[.slice none 0 0,.slice none 0 0] 179)).heap.size):=⟨hb1,hP⟩;clear hb1 hP h hF hD;go_enter func103,ntmps103
 go_wp2_with (go_at_call 148;fail)
 generalize w.alloc (.cells #[.slice none 0 0,.slice none 0 0] 179)=W1 at*;go_at_call 148;refine ka.mono ?_;rintro e w2 ⟨A2,tv',fv,k,D',Wk,rfl,hfv,hk⟩;have hv:=hk.val HT.out.eng.inv hr (by show 4≤4;decide);obtain⟨ms,ps,hvs⟩:=EG (S now) e0 e0;rw[hvs] at hv;rw[hv.1] at hfv;obtain⟨a,b,rfl,h1,h2⟩:=hfv;obtain⟨aa,ac,e1⟩:=h1.len;obtain⟨ba,bc,e2⟩:=h2.len;subst e1;subst e2;have HK:Hid (fV (fun b=>A b∨b=w.heap.size) S W1 B tb db sb fb mb now cap cs D L tv ts r ⟨4,e0,e0⟩ w2 A2 tv' k D' Wk∧(RdA A2 gf w2 (.slice aa ms.length ac) ms∧RdA A2 aU w2 (.slice ba ps.length bc) ps)∧k.f=.ord ms ps):=⟨hk,⟨h1,h2⟩,hv.1⟩;have HX2:Hid (w2.heap[w.heap.size]?=some (.cells #[.slice none 0 0,.slice none 0 0] 179)):=(hk.stay HT.out (by omega) (HB1.out.2 _ rfl).2).trans HX1.out;have HX3:Hid ((w2.alloc (.cells #[.slice aa ms.length ac,.slice ba ps.length bc] 179)).heap[w.heap.size]?=some (.cells #[.slice none 0 0,.slice none 0 0] 179)):=(aI _ _ _ (ah HX2.out)).trans HX2.out;have HB3:Hid (Below w2.heap.size w2 (w2.alloc (.cells #[.slice aa ms.length ac,.slice ba ps.length bc] 179))):=(ae _ _).alloc (ag _) _;have HN3:Hid ((w2.alloc (.cells #[.slice aa ms.length ac,.slice ba ps.length bc] 179)).heap[w2.heap.size]?=some (.cells #[.slice aa ms.length ac,.slice ba ps.length bc] 179)):=aB _ _;clear hk hv hvs ka h1 h2;have hta:=IQ (.agg #[.slice aa ms.length ac,.slice ba ps.length bc]) w2;go_upto_region 2 with fail;obtain⟨⟨c0,f0⟩,⟨c1,f1⟩⟩:=fd2 HX3.out
 obtain⟨⟨d0,_⟩,⟨d1,_⟩⟩:=fd2 HN3.out;clear hta;generalize w2.alloc (.cells #[.slice aa ms.length ac,.slice ba ps.length bc] 179)=W3 at*;go_wp2;refine aJ (bJ results103 _ _ (w.heap.size) 179 _ (0,0) _ rfl (fO HX3.out _ _) underlying179 rfl (by kernel_rfl)) rfl ?_;have hT:aj (fun b=>b=w.heap.size) w2 ((W3.setCell ⟨w.heap.size,0,none⟩ (.slice aa ms.length ac)).setCell ⟨w.heap.size,1,none⟩ (.slice ba ps.length bc)):=(((aj.of_below (p:=fun b=>b=w.heap.size) HB3.out).set (a:=⟨w.heap.size,0,none⟩) (fun _=>rfl) _).set (a:=⟨w.heap.size,1,none⟩) (fun _=>rfl) _);have hM:=hT.mono (r:=A2) (fun b _ e=>HK.out.1.2.2.2.1 b (Or.inr e));exact⟨A2,tv',ms,ps,_,_,k,D',Wk,rfl,⟨HK.out.2.1.1.turn hM,HK.out.2.1.2.turn hM⟩,HK.out.2.2,HK.out.1.lift HT.out HB1.out.1 HB1.out.2 hT⟩
end Pn
namespace Pn
open Mf Ed
variable{A A1 A2:Nat→Prop}{S:Nat→Shf}{w w' W W1 w2 wf:World}{db sb fb mb now:Nat}{cap:Int}{cs:List Int}{D D':List Kp}{L:List (Value×Value)}{B tb:Nat}{tv tv':Value}{ts ts':List Tie}{r:Nat}{q:Qn}{k:Kp}{Wk:List Qn}{cs':List Int}
structure dx(A:Nat→Prop)(S:Nat→Shf)(w:World)(B tb db sb fb mb now:Nat)(cap:Int)(L:List (Value×Value))(tv:Value)(w':World)(A2:Nat→Prop)(cs':List Int)(D':List Kp)(tv':Value)(ts':List Tie):Prop where
 t:Tsk A2 S w' B tb db sb fb mb now cap cs' D' L tv' ts'
 f:aj (Fr4 db fb tb tv) w w'
 sub:∀b,A b→A2 b
 new:∀b,A2 b→A b∨w.heap.size≤b
 own:∀b,tv'.ownBlock=some b→tv.ownBlock=some b∨w.heap.size≤b
theorem fV.went(h:fV A S w B tb db sb fb mb now cap cs D L tv ts r q w2 A2 tv' k D' Wk):dx A S w B tb db sb fb mb now cap L tv w2 A2 (counted cs Wk) D' tv' (ts++[.ask q]):=⟨h.2.1,h.2.2.1,h.2.2.2.1,h.2.2.2.2.1,h.2.2.2.2.2⟩
theorem dx.trans{tv2:Value}{A3:Nat→Prop}{cs2:List Int}{D2:List Kp}{ts2:List Tie}{w3:World}(h:dx A S w B tb db sb fb mb now cap L tv w2 A2 cs' D' tv' ts')(g:dx A2 S w2 B tb db sb fb mb now cap L tv' w3 A3 cs2 D2 tv2 ts2):dx A S w B tb db sb fb mb now cap L tv w3 A3 cs2 D2 tv2 ts2:=by
 have hs:=h.f.size;refine⟨g.t,h.f.trans g.f (fun _ _ e=>e) (fun b hb e=>?_),fun b e=>g.sub b (h.sub b e),fun b e=>?_,fun b e=>?_⟩
 ·rcases e with e|e|e|e
  ·exact Or.inl e
  ·exact Or.inr (Or.inl e)
  ·exact Or.inr (Or.inr (Or.inl e))
  ·rcases h.own b e with e|e
   ·exact Or.inr (Or.inr (Or.inr e))
   ·omega
 ·rcases g.new b e with e|e
  ·exact h.new b e
  ·exact Or.inr (by omega)
 ·rcases g.own b e with e|e
  ·exact h.own b e
  ·exact Or.inr (by omega)
theorem dx.lift{P:Nat→Prop}(h:Tsk A S w B tb db sb fb mb now cap cs D L tv ts)(hb:Below w.heap.size w W1)(hP:∀b,P b→w.heap.size≤b∧b<W1.heap.size)(hk:dx (fun b=>A b∨P b) S W1 B tb db sb fb mb now cap L tv w2 A2 cs' D' tv' ts')(ht:aj P w2 wf):
  dx A S w B tb db sb fb mb now cap L tv wf A2 cs' D' tv' ts':=by
 have hs:=hb.size;refine⟨hk.t.turn ht (fun b _ e=>hk.sub b (Or.inr e)) (fun b e=>⟨by have:=(hP b e).1;have:=h.hB;omega,fun e2=>?_⟩),?_,fun b e=>hk.sub b (Or.inl e),fun b e=>?_,fun b e=>?_⟩
 ·have h7:=hP b e
  rcases e2 with e2|e2
  ·have:=h.task.t0.lt;omega
  ·rcases hk.own b e2 with e3|e3
   ·have:=(h.task.row.lt b e3).2;omega
   ·omega
 ·exact((aj.of_below hb).trans hk.f (fun _ _ e=>e) (fun _ _ e=>e)).trans ht (fun _ _ e=>e) (fun b hb2 e=>by have:=(hP b e).1;omega)
 ·rcases hk.new b e with(e|e)|e
  ·exact Or.inl e
  ·exact Or.inr (hP b e).1
  ·exact Or.inr (by omega)
 ·rcases hk.own b e with e|e
  ·exact Or.inl e
  ·exact Or.inr (by omega)
theorem dx.stay(h:Tsk A S w B tb db sb fb mb now cap cs D L tv ts)(hk:dx A1 S W1 B tb db sb fb mb now cap L tv w2 A2 cs' D' tv' ts'){b:Nat}(h1:w.heap.size≤b)(h2:b<W1.heap.size):w2.heap[b]?=W1.heap[b]?:=by
 refine hk.f.block b h2 (fun e=>?_);have h3:=h.lt;have h4:=h.hB;rcases e with e|e|e|e
 ·omega
 ·omega
 ·have:=h.task.t0.lt;omega
 ·have:=(h.task.row.lt b e).2;omega
theorem wy(p:Plc)(hp:POk p)(w:World)(h:Tsk A S w B tb db sb fb mb now cap cs D L tv ts)(hts:ts.length≤9999):
  Calls prog 308 #[.pointer (some ⟨tb,0,none⟩),plV p] w fun e w'=>∃A2 tv',e=.returned (txV (S now p))∧dx A S w B tb db sb fb mb now cap L tv w' A2 cs D tv' (ts++[.rd p (S now p)]):=by
 refine(nK (S now) p w h.eng.shelf h.eng.on hp h.task h.eng.aN.f0.1 (by omega) h.hB).mono ?_;rintro e w' ⟨tv',rfl,hT,ht,hat⟩
 exact⟨_,tv',rfl,h.grown ht hT hat,ht.mono (fun b _ e=>Or.inr (Or.inr e)),fun b e=>Or.inl e,fun b e=>by
  rcases e with e|e
  ·exact Or.inl e
  ·rcases hat b e with e|e
   ·exact Or.inl (h.pr b (Or.inr e))
   ·exact Or.inr e,hat⟩
theorem Gj(a b:Value)(W:World):(Instr.field 255 (.agg #[a,b]) 0).run prog W=.ok a W:=by kernel_rfl
theorem Gk(t:Option ByteArray):bE t=rootOf t:=by cases t<;>rfl
theorem BH(w:World)(h:Tsk A S w B tb db sb fb mb now cap cs D L tv ts)(hts:ts.length≤9999):
  Calls prog 322 #[.pointer (some ⟨tb,0,none⟩)] w fun e w'=>∃A2 tv',e=.returned (.agg #[.string (rootOf (S now ay)),.string e0])∧dx A S w B tb db sb fb mb now cap L tv w' A2 cs D tv' (ts++[.rd ay (S now ay)]):=by
 have hb1:Below w.heap.size w (w.alloc (.cells #[.string ⟨#[]⟩,.string ⟨#[]⟩] 29)):=(ae _ _).alloc (ag _) _;have hP:∀b,b=w.heap.size→w.heap.size≤b∧b<(w.alloc (.cells #[.string ⟨#[]⟩,.string ⟨#[]⟩] 29)).heap.size:=fun b e=>by rw[e];exact⟨ag _,by simp⟩
 have HX1:Hid ((w.alloc (.cells #[.string ⟨#[]⟩,.string ⟨#[]⟩] 29)).heap[w.heap.size]?=some (.cells #[.string ⟨#[]⟩,.string ⟨#[]⟩] 29)):=aB _ _;have ka:=wy ay ⟨by show 2≤4;decide,aL _,aL _⟩ _ (h.wide hb1 (fun b=>b=w.heap.size) hP) hts;have HT:Hid (Tsk A S w B tb db sb fb mb now cap cs D L tv ts):=h;have HB1:Hid (Below w.heap.size w (w.alloc (.cells #[.string ⟨#[]⟩,.string ⟨#[]⟩] 29))∧∀b,b=w.heap.size→w.heap.size≤b∧b<(w.alloc (.cells #[.string ⟨#[]⟩,.string ⟨#[]⟩] 29)).heap.size):=⟨hb1,hP⟩;clear hb1 hP h;rw[←Gk];go_enter func322,ntmps322
 go_wp2_with (go_at_call 308;fail)
 generalize w.alloc (.cells #[.string ⟨#[]⟩,.string ⟨#[]⟩] 29)=W1 at*;go_at_call 308;refine ka.mono ?_;rintro e w2 ⟨A2,tv',rfl,hk⟩;have HK:Hid (dx (fun b=>A b∨b=w.heap.size) S W1 B tb db sb fb mb now cap L tv w2 A2 cs D tv' (ts++[.rd ay (S now ay)])):=hk;have HX2:Hid (w2.heap[w.heap.size]?=some (.cells #[.string ⟨#[]⟩,.string ⟨#[]⟩] 29)):=(hk.stay HT.out (ag _) (HB1.out.2 _ rfl).2).trans HX1.out;clear hk ka;obtain⟨⟨c0,f0⟩,⟨c1,f1⟩⟩:=fd2 HX2.out;have hfd:=Gj (.string (bE (S now ay))) (.bool (S now ay).isSome) w2;go_wp2;refine aJ (bJ results322 _ _ w.heap.size 29 _ (0,0) _ rfl (fO HX2.out _ _) underlying29 rfl (by kernel_rfl)) rfl ?_;have hT:aj (fun b=>b=w.heap.size) w2 ((w2.setCell ⟨w.heap.size,0,none⟩ (.string (bE (S now ay)))).setCell ⟨w.heap.size,1,none⟩ (.string ⟨#[]⟩)):=((aj.refl (fun b=>b=w.heap.size) w2).set (a:=⟨w.heap.size,0,none⟩) (fun _=>rfl) _).set (a:=⟨w.heap.size,1,none⟩) (fun _=>rfl) _;exact⟨A2,tv',rfl,HK.out.lift HT.out HB1.out.1 HB1.out.2 hT⟩
end Pn
namespace Pn
open Mf Ed
variable{A A1 A2:Nat→Prop}{S:Nat→Shf}{w w' W W1 w2 wf:World}{db sb fb mb now:Nat}{cap:Int}{cs:List Int}{D D':List Kp}{L:List (Value×Value)}{B tb:Nat}{tv tv':Value}{ts ts':List Tie}{r:Nat}{q:Qn}{k:Kp}{Wk:List Qn}{cs':List Int}
theorem kH{W:World}{r:Nat}{t:TypeId}{x0 x1 x2 x3:Value}(h:W.heap[r]?=some (.cells #[x0,x1,x2,x3] t))(a b c d:Value):((((W.setCell ⟨r,0,none⟩ a).setCell ⟨r,1,none⟩ b).setCell ⟨r,2,none⟩ c).setCell ⟨r,3,none⟩ d).heap[r]?=some (.cells #[a,b,c,d] t):=by
 have h1:=bU _ _ 0 _ _ a h;have h2:=bU _ _ 1 _ _ b h1;have h3:=bU _ _ 2 _ _ c h2;exact bU _ _ 3 _ _ d h3
theorem fd4{W:World}{r:Nat}{t:TypeId}{x0 x1 x2 x3:Value}(h:W.heap[r]?=some (.cells #[x0,x1,x2,x3] t)):(W.cell? ⟨r,0,none⟩=some x0∧W.frozen? ⟨r,0,none⟩=false)∧(W.cell? ⟨r,1,none⟩=some x1∧W.frozen? ⟨r,1,none⟩=false)∧(W.cell? ⟨r,2,none⟩=some x2∧W.frozen? ⟨r,2,none⟩=false)∧(W.cell? ⟨r,3,none⟩=some x3∧W.frozen? ⟨r,3,none⟩=false):=by
 simp only[World.cell?,World.frozen?,h];exact⟨⟨rfl,rfl⟩,⟨rfl,rfl⟩,⟨rfl,rfl⟩,⟨rfl,rfl⟩⟩
theorem Gl(hF:dX S db sb fb mb now cap L r)(m1:ByteArray)(hp:m1.size≤N48)(hD:D.length+grow r≤N15)(w:World)(h:Tsk A S w B tb db sb fb mb now cap cs D L tv ts)(hts:ts.length≤9999):
  Calls prog 323 #[.pointer (some ⟨tb,0,none⟩),.agg #[.string m1,.string e0]] w fun e w'=>∃A2 tv' rv xv sv k D' Wk,e=.returned (.agg #[.string (bM m1 k.f).p,rv,xv,sv])∧(RdA A2 Sm.mc w' rv (bM m1 k.f).R∧RdA A2 Sm.mc w' xv (bM m1 k.f).X∧RdA A2 Sw.mc w' sv (bM m1 k.f).S)∧fnd (S now) now r D ⟨0,m1,e0⟩ k D' Wk∧dx A S w B tb db sb fb mb now cap L tv w' A2 (counted cs Wk) D' tv' (ts++[.ask ⟨0,m1,e0⟩]):=by
 have hb0:Below w.heap.size w (w.alloc (.cells #[.string m1,.string e0] 29)):=(ae _ _).alloc (ag _) _;have hb1:Below w.heap.size w ((w.alloc (.cells #[.string m1,.string e0] 29)).alloc (.cells #[.string ⟨#[]⟩,.slice none 0 0,.slice none 0 0,.slice none 0 0] 26)):=hb0.alloc hb0.size _;have hP:∀b,b=w.heap.size+1→w.heap.size≤b∧b<((w.alloc (.cells #[.string m1,.string e0] 29)).alloc (.cells #[.string ⟨#[]⟩,.slice none 0 0,.slice none 0 0,.slice none 0 0] 26)).heap.size:=fun b e=>by rw[e];exact⟨bW _,by simp⟩
 have HX1:Hid (((w.alloc (.cells #[.string m1,.string e0] 29)).alloc (.cells #[.string ⟨#[]⟩,.slice none 0 0,.slice none 0 0,.slice none 0 0] 26)).heap[w.heap.size+1]?=some (.cells #[.string ⟨#[]⟩,.slice none 0 0,.slice none 0 0,.slice none 0 0] 26)):=dV w _ _;have HX0:Hid (((w.alloc (.cells #[.string m1,.string e0] 29)).alloc (.cells #[.string ⟨#[]⟩,.slice none 0 0,.slice none 0 0,.slice none 0 0] 26)).heap[w.heap.size]?=some (.cells #[.string m1,.string e0] 29)):=(aI _ _ _ (by simp)).trans (aB _ _);have ka:=fS hF m1 e0 hp (aL _) hD _ (h.wide hb1 (fun b=>b=w.heap.size+1) hP) hts;have HT:Hid (Tsk A S w B tb db sb fb mb now cap cs D L tv ts):=h;have HB1:Hid (Below w.heap.size w ((w.alloc (.cells #[.string m1,.string e0] 29)).alloc (.cells #[.string ⟨#[]⟩,.slice none 0 0,.slice none 0 0,.slice none 0 0] 26))∧∀b,b=w.heap.size+1→w.heap.size≤b∧b<((w.alloc (.cells #[.string m1,.string e0] 29)).alloc (.cells #[.string ⟨#[]⟩,.slice none 0 0,.slice none 0 0,.slice none 0 0] 26)).heap.size):=⟨hb1,hP⟩;clear hb0 hb1 hP h hF hp hD;go_enter func323,ntmps323
 go_wp2_with (go_at_call 325;fail)
 generalize (w.alloc (.cells #[.string m1,.string e0] 29)).alloc (.cells #[.string ⟨#[]⟩,.slice none 0 0,.slice none 0 0,.slice none 0 0] 26)=W1 at*;go_at_call 325;refine ka.mono ?_;rintro e w2 ⟨A2,tv',pr,m,rv,xv,sv,k,D',Wk,rfl,⟨h1,h2,h3⟩,hkf,hk⟩;obtain⟨ra,rc,e1⟩:=h1.len;obtain⟨xa,xc,e2⟩:=h2.len;obtain⟨sa,sc,e3⟩:=h3.len;subst e1;subst e2;subst e3;have HK:Hid (dx (fun b=>A b∨b=w.heap.size+1) S W1 B tb db sb fb mb now cap L tv w2 A2 (counted cs Wk) D' tv' (ts++[.ask ⟨0,m1,e0⟩])∧fnd (S now) now r D ⟨0,m1,e0⟩ k D' Wk∧k.f=.man pr m):=⟨hk.went,hk.1,hkf⟩;have HRd:Hid (RdA A2 Sm.mc w2 (.slice ra m.R.length rc) m.R∧RdA A2 Sm.mc w2 (.slice xa m.X.length xc) m.X∧RdA A2 Sw.mc w2 (.slice sa m.S.length sc) m.S):=⟨h1,h2,h3⟩;have HX2:Hid (w2.heap[w.heap.size+1]?=some (.cells #[.string ⟨#[]⟩,.slice none 0 0,.slice none 0 0,.slice none 0 0] 26)):=(hk.went.stay HT.out (bW _) (HB1.out.2 _ rfl).2).trans HX1.out;have Pu:Hid (w2.heap[w.heap.size]?=some (.cells #[.string m1,.string e0] 29)):=(hk.went.stay HT.out (ag _) (by have:=(HB1.out.2 _ rfl).2;omega)).trans HX0.out;have HB3:Hid (Below w2.heap.size w2 (w2.alloc (.cells #[.int .i64 (pr:Nat),.string m.p,.slice ra m.R.length rc,.slice xa m.X.length xc,.slice sa m.S.length sc] 386))):=(ae _ _).alloc (ag _) _
 have HN3:Hid ((w2.alloc (.cells #[.int .i64 (pr:Nat),.string m.p,.slice ra m.R.length rc,.slice xa m.X.length xc,.slice sa m.S.length sc] 386)).heap[w2.heap.size]?=some (.cells #[.int .i64 (pr:Nat),.string m.p,.slice ra m.R.length rc,.slice xa m.X.length xc,.slice sa m.S.length sc] 386)):=aB _ _;have HX3:Hid ((w2.alloc (.cells #[.int .i64 (pr:Nat),.string m.p,.slice ra m.R.length rc,.slice xa m.X.length xc,.slice sa m.S.length sc] 386)).heap[w.heap.size+1]?=some (.cells #[.string ⟨#[]⟩,.slice none 0 0,.slice none 0 0,.slice none 0 0] 26)∧(w2.alloc (.cells #[.int .i64 (pr:Nat),.string m.p,.slice ra m.R.length rc,.slice xa m.X.length xc,.slice sa m.S.length sc] 386)).heap[w.heap.size]?=some (.cells #[.string m1,.string e0] 29)):=⟨(aI _ _ _ (ah HX2.out)).trans HX2.out,(aI _ _ _ (ah Pu.out)).trans Pu.out⟩;clear hk h1 h2 h3 hkf ka HX1 HX0;go_upto_region 2 with fail;generalize hW3:w2.alloc (.cells #[.int .i64 (pr:Nat),.string m.p,.slice ra m.R.length rc,.slice xa m.X.length xc,.slice sa m.S.length sc] 386)=W3 at*;clear hW3;obtain⟨⟨d0,_⟩,⟨d1,_⟩,⟨d2,_⟩,⟨d3,_⟩,⟨d4,_⟩⟩:=fd5 HN3.out;obtain⟨⟨b0,_⟩,⟨b1,_⟩⟩:=fd2 HX3.out.2;have kp:=pD pr m ra xa sa m.R.length rc m.X.length xc m.S.length sc m1 W3
 go_wp2_with (go_at_call 326;fail)
 go_at_call 326;refine kp.mono ?_;rintro e w4 ⟨rfl,hb4⟩;have HB4:Hid (Below w2.heap.size w2 w4):=HB3.out.trans (hb4.mono HB3.out.size);have HX4:Hid (w4.heap[w.heap.size+1]?=some (.cells #[.string ⟨#[]⟩,.slice none 0 0,.slice none 0 0,.slice none 0 0] 26)):=(hb4.block _ (ah HX3.out.1)).trans HX3.out.1;have HN4:Hid (w4.heap[w2.heap.size]?=some (.cells #[.int .i64 (pr:Nat),.string m.p,.slice ra m.R.length rc,.slice xa m.X.length xc,.slice sa m.S.length sc] 386)):=(hb4.block _ (ah HN3.out)).trans HN3.out;clear hb4 kp d0 d1 d2 d3 d4 b0 b1 HX3 HN3 HB3;obtain⟨⟨c0,f0⟩,⟨c1,f1⟩,⟨c2,f2⟩,⟨c3,f3⟩⟩:=fd4 HX4.out;obtain⟨⟨d0,_⟩,⟨d1,_⟩,⟨d2,_⟩,⟨d3,_⟩,⟨d4,_⟩⟩:=fd5 HN4.out;by_cases h0:cT (pr,m) m1=0
 ·have HE:Hid (bM m1 k.f=m):=by
   show bM m1 k.f=m;unfold bM;rw[HK.out.2.2];show(if cT (pr,m) m1≠0 then _ else m)=m;rw[af (fun hh=>hh h0)]
  rw[h0];clear h0;go_wp2;refine aJ (bJ results323 _ _ (w.heap.size+1) 26 _ (0,0) _ rfl (kH HX4.out _ _ _ _) underlying26 rfl (by kernel_rfl)) rfl ?_;have hT:aj (fun b=>b=w.heap.size+1) w2 ((((w4.setCell ⟨w.heap.size+1,0,none⟩ (.string m.p)).setCell ⟨w.heap.size+1,1,none⟩ (.slice ra m.R.length rc)).setCell ⟨w.heap.size+1,2,none⟩ (.slice xa m.X.length xc)).setCell ⟨w.heap.size+1,3,none⟩ (.slice sa m.S.length sc)):=((((aj.of_below (p:=fun b=>b=w.heap.size+1) HB4.out).set (a:=⟨w.heap.size+1,0,none⟩) (fun _=>rfl) _).set (a:=⟨w.heap.size+1,1,none⟩) (fun _=>rfl) _).set (a:=⟨w.heap.size+1,2,none⟩) (fun _=>rfl) _).set (a:=⟨w.heap.size+1,3,none⟩) (fun _=>rfl) _;have hM:=hT.mono (r:=A2) (fun b _ e=>HK.out.1.sub b (Or.inr e));refine⟨A2,tv',.slice ra m.R.length rc,.slice xa m.X.length xc,.slice sa m.S.length sc,k,D',Wk,?_,?_,HK.out.2.1,HK.out.1.lift HT.out HB1.out.1 HB1.out.2 hT⟩
  ·rw[HE.out]
  ·rw[HE.out]
   exact⟨HRd.out.1.turn hM,HRd.out.2.1.turn hM,HRd.out.2.2.turn hM⟩
 ·have HE:Hid (bM m1 k.f=⟨e0,[],[],[]⟩):=by
   show bM m1 k.f=_;unfold bM;rw[HK.out.2.2];show(if cT (pr,m) m1≠0 then _ else m)=_;rw[ai h0]
  have q0:(((cT (pr,m) m1:Nat):Int)==0)=false:=int_ne (b:=0) h0;clear h0;generalize cT (pr,m) m1=pq at*;go_wp2;refine aJ (bJ results323 _ _ (w.heap.size+1) 26 _ (0,0) _ rfl (kH HX4.out _ _ _ _) underlying26 rfl (by kernel_rfl)) rfl ?_;have hT:aj (fun b=>b=w.heap.size+1) w2 ((((w4.setCell ⟨w.heap.size+1,0,none⟩ (.string ⟨#[]⟩)).setCell ⟨w.heap.size+1,1,none⟩ (.slice none 0 0)).setCell ⟨w.heap.size+1,2,none⟩ (.slice none 0 0)).setCell ⟨w.heap.size+1,3,none⟩ (.slice none 0 0)):=((((aj.of_below (p:=fun b=>b=w.heap.size+1) HB4.out).set (a:=⟨w.heap.size+1,0,none⟩) (fun _=>rfl) _).set (a:=⟨w.heap.size+1,1,none⟩) (fun _=>rfl) _).set (a:=⟨w.heap.size+1,2,none⟩) (fun _=>rfl) _).set (a:=⟨w.heap.size+1,3,none⟩) (fun _=>rfl) _;refine⟨A2,tv',.slice none 0 0,.slice none 0 0,.slice none 0 0,k,D',Wk,?_,?_,HK.out.2.1,HK.out.1.lift HT.out HB1.out.1 HB1.out.2 hT⟩
  ·rw[HE.out]
  ·rw[HE.out]
   exact⟨RdA.nil _,RdA.nil _,RdA.nil _⟩
