import Derived.Test.YtgamgopghfpegaaGreatDoorKPMF
set_option linter.all false
open Go.Proofs.Tryz
set_option maxRecDepth 100000
set_option maxHeartbeats 2000000
namespace Go.Proofs.YtgamgopghfpegaaGreatDoor
open Go.RowKit
namespace Pn
open Mf Ed
variable{A j A2:Nat→Prop}{S:Nat→Shf}{w w' W N J wf:zW}{Y Z fb mb G:Nat}{cap:Int}{E:List Int}{D U:List Kp}{L:List (zV×zV)}{B Q:Nat}{V I:zV}{T:List Tie}{r:Nat}{q:Qn}{k:Kp}{O:List Qn}
theorem lq(root:zA)(X:List Mo)(s:Shf)(o:Qn→Fi):∀(l f:List Mo)(R:List Pb),∃a0 a1,(bp root X l f R).run s o=.wants a0 a1
 |[],f,R=>⟨f,R,rfl⟩
 |x::rest,f,R=>by
  unfold bp
  split
  ·exact lq root X s o rest f R
  ·show ∃a0 a1,(match choose x (li (o ⟨1,x.1,e0⟩)) X with | .inl m=>_ | .inr p=>_:Cm Fi).run s o=_
   cases choose x (li (o ⟨1,x.1,e0⟩)) X with
   |inl m=>exact lq root X s o rest _ R
   |inr p=>exact lq root X s o rest f _
theorem Nb node s o:∃f R,(gC node).run s o=.wants f R:=by
 unfold gC;simp only[Cm.run]
 split
 ·exact⟨_,_,rfl⟩
 ·exact lq _ _ s o _ _ _
theorem vF(root:zA)(s:Shf)(o:Qn→Fi):∀(n:Nat)(l:List Mo)(i:Nat)(ps:List Pb),∃f R,(cO root n l i ps).run s o=.list f R
 |0,_,_,_=>⟨_,_,rfl⟩
 |n+1,l,i,ps=>by
  unfold cO;cases l[i]? with
  |none=>exact⟨_,_,rfl⟩
  |some m=>
   show ∃f R,(match cz l (cM (o ⟨2,m.1,m.2⟩)).1 with|none=>_|some l'=>_:Cm Fi).run s o=_;cases cz l (cM (o ⟨2,m.1,m.2⟩)).1 with
   |none=>exact⟨_,_,rfl⟩
   |some l'=>exact vF root s o n l' _ _
theorem PY s o:∃f R,il.run s o=.list f R:=by
 unfold il;simp only[Cm.run]
 split
 ·exact⟨_,_,rfl⟩
 ·exact vF _ s o _ _ _ _
theorem vG(f:List Mo)(s:Shf)(o:Qn→Fi):∀(l:List Mo)(ws:List (List Mo)),∃R ps,(fh (fj f) l ws).run s o=.ord R ps
 |[],_=>⟨_,_,rfl⟩
 |_::rest,_=>vG f s o rest _
theorem SJ s o:∃f R,(vE fj).run s o=.ord f R:=vG _ s o _ _
theorem AV s p v:∃f R,val s ⟨2,p,v⟩=.wants f R:=by
 rw[xV s (ai 2)];show ∃f R,(if (2:Nat)=2 then _ else _)=_;rw[ay rfl];exact Nb _ _ _
theorem Em s p v:∃f R,val s ⟨3,p,v⟩=.list f R:=by
 rw[Cj s (ai 3)];show ∃f R,(if (3:Nat)=3 then _ else _)=_;rw[ay rfl];exact PY _ _
theorem Hw s p v:∃R f,val s ⟨4,p,v⟩=.ord R f:=by
 show ∃ms f,(if (4:Nat)=4 then _ else _)=_;rw[ay rfl];exact SJ _ _
theorem sW(hF:fG S Y Z fb mb G cap L r)(m1 m2:zA)(hp:m1.size≤N48)(a6:m2.size≤N48)(hD:D+grow r≤N15)w(h:Tsk A S w B Q Y Z fb mb G cap E D L V T)(ad:T.length≤9999):
  zC 219 #[.pointer (some (Q,0)),.agg #[m1,m2]] w fun e w'=>∃A2 I pr m rv xv sv k U O,e=.returned (.agg #[(pr:Nat),m.p,rv,xv,sv])∧(RdA A2 Sm.mc w' rv m.R∧RdA A2 Sm.mc w' xv m.X∧RdA A2 Sw.mc w' sv m.S)∧k.f=.man pr m∧kF A S w B Q Y Z fb mb G cap E D L V T r ⟨0,m1,m2⟩ w' A2 I k U O:=by
 have a1:zB w (w.alloc (.cells #[m1,m2] 68)):=(af _ _).alloc (ai _) _;have a2:zB w ((w.alloc _).alloc (.cells #[.int .i64 0,zE,zN,zN,zN] 294)):=a1.alloc a1.size _;have hP:∀b,b=w.heap.size+1→w≤b∧b<((w.alloc (.cells #[m1,m2] 68)).alloc (.cells #[.int .i64 0,zE,zN,zN,zN] 294)):=fun b e=>by simp_all
 have aa:Hid (((w.alloc (.cells #[m1,m2] 68)).alloc (.cells #[.int .i64 0,zE,zN,zN,zN] 294)).heap[_]?=_):=dX w _ _;have ak:Hid (((w.alloc (.cells #[m1,m2] 68)).alloc (.cells #[.int .i64 0,zE,zN,zN,zN] 294)).heap[_]?=_):=(aO _ _ _ ah).trans (aI _ _);have ka:=sV hF ⟨0,m1,m2⟩ (aN _) ah ⟨hp,a6⟩ hD _ (h.wide a2 _ hP) ad;have HT:=zH h;have a0:Hid (_∧_):=⟨a2,hP⟩;clear a1 a2 hP h hF hD hp a6;go_enter func219,ntmps219
 go_wp2_with (go_at_call 109;fail)
 generalize (w.alloc (.cells #[.string m1,.string m2] 68)).alloc (.cells #[.int .i64 0,zE,zN,zN,zN] 294)=N at*;go_at_call 109;refine ka.mono ?_;rintro e J ⟨A2,I,fv,k,U,O,rfl,a5,hk⟩;have hv:=hk.val HT.out.eng.inv (aN _) ah;obtain⟨pr,m,a7⟩:=Cu (S G) m1 m2;rw[a7] at hv;rw[hv.1] at a5;obtain⟨rv,xv,sv,rfl,h1,h2,h3⟩:=a5;obtain⟨ra,rc,e1⟩:=h1.len;obtain⟨xa,xc,e2⟩:=h2.len;obtain⟨sa,sc,e3⟩:=h3.len;subst e1;subst e2;subst e3;have HK:Hid (_∧(_∧_∧_)∧_):=⟨hk,⟨h1,h2,h3⟩,hv.1⟩;have a3:=zH ((hk.stay HT.out ae (a0.out.2 _ rfl).2).trans aa.out);have a4:Hid ((J.alloc (.cells #[pr,m.p,.slice ra m.R rc,.slice xa m.X xc,.slice sa m.S sc] 294)).heap[_]?=_):=(aO _ _ _ (ag a3.out)).trans a3.out;have a8:Hid (zB J (J.alloc (.cells #[pr,m.p,.slice ra m.R rc,.slice xa m.X xc,.slice sa m.S sc] 294))):=(af _ _).alloc (ai _) _;have a9:Hid ((J.alloc (.cells #[pr,m.p,.slice ra m.R rc,.slice xa m.X xc,.slice sa m.S sc] 294)).heap[_]?=_):=aI _ _;clear hk hv a7 ka h1 h2 h3;have ab:=MV (.agg #[pr,m.p,.slice ra m.R rc,.slice xa m.X xc,.slice sa m.S sc]) J;go_upto_region 2 with fail;obtain⟨⟨c0,f0⟩,⟨c1,f1⟩,⟨c2,f2⟩,⟨c3,f3⟩,⟨c4,f4⟩⟩:=fd5 a4.out;obtain⟨⟨d0,_⟩,⟨d1,_⟩,⟨d2,_⟩,⟨d3,_⟩,⟨d4,_⟩⟩:=fd5 a9.out;clear ab;generalize J.alloc _=W3 at*;go_wp2
 refine aL (bz results219 _ _ _ 294 _ _ _ rfl (Gh a4.out _ _ _ _ _) underlying294 rfl aB) rfl ?_;have hT:aj _ J (((((W3.setCell _ (pr)).setCell _ (m.p)).setCell _ (.slice ra m.R rc)).setCell _ (.slice xa m.X xc)).setCell _ (.slice sa m.S sc)):=((((((aj.of_below (p:=fun b=>b=w+1) a8.out).set (a:=⟨w+1,0,none⟩) (fun _=>rfl) _).set (a:=⟨w+1,1,none⟩) (fun _=>rfl) _).set (a:=⟨w+1,2,none⟩) (fun _=>rfl) _).set (a:=⟨w+1,3,none⟩) (fun _=>rfl) _).set (a:=⟨w+1,4,none⟩) (fun _=>rfl) _);have hM:=hT.mono (fun b _ e=>HK.out.1.2.2.2.1 b (Or.inr e));exact⟨A2,I,pr,m,_,_,_,k,U,O,rfl,⟨HK.out.2.1.1.turn hM,HK.out.2.1.2.1.turn hM,HK.out.2.1.2.2.turn hM⟩,HK.out.2.2,HK.out.1.lift HT.out a0.out.1 a0.out.2 hT⟩
theorem AW(hF:fG S Y Z fb mb G cap L r)(R m2:zA)(hp:R.size≤N48)(a6:m2.size≤N48)(hr:1≤r)(hD:D+grow r≤N15)w(h:Tsk A S w B Q Y Z fb mb G cap E D L V T)(ak:T.length≤9999):
  zC 223 #[.pointer (some (Q,0)),.agg #[R,m2]] w fun e w'=>∃A2 I ms ps a b k U O,e=.returned (.agg #[a,b])∧(RdA A2 Sm.mc w' a ms∧RdA A2 aZ w' b ps)∧k.f=.wants ms ps∧kF A S w B Q Y Z fb mb G cap E D L V T r ⟨2,R,m2⟩ w' A2 I k U O:=by
 have a1:zB w (w.alloc (.cells #[R,m2] 68)):=(af _ _).alloc (ai _) _;have a2:zB w ((w.alloc _).alloc (.cells #[zN,zN] 299)):=a1.alloc a1.size _;have hP:∀b,b=w.heap.size+1→w≤b∧b<((w.alloc (.cells #[R,m2] 68)).alloc (.cells #[zN,zN] 299)):=fun b e=>by simp_all
 have ab:Hid (((w.alloc (.cells #[R,m2] 68)).alloc (.cells #[zN,zN] 299)).heap[_]?=_):=dX w _ _;have an:Hid (((w.alloc (.cells #[R,m2] 68)).alloc (.cells #[zN,zN] 299)).heap[_]?=_):=(aO _ _ _ ah).trans (aI _ _);have ka:=sV hF ⟨2,R,m2⟩ hr ah ⟨hp,a6⟩ hD _ (h.wide a2 _ hP) ak;have HT:=zH h;have a0:Hid (_∧_):=⟨a2,hP⟩;clear a1 a2 hP h hF hD hp a6;go_enter func223,ntmps223
 go_wp2_with (go_at_call 109;fail)
 generalize (w.alloc (.cells #[.string R,.string m2] 68)).alloc (.cells #[zN,zN] 299)=N at*;go_at_call 109;refine ka.mono ?_;rintro e J ⟨A2,I,fv,k,U,O,rfl,a5,hk⟩;have hv:=hk.val HT.out.eng.inv hr ah;obtain⟨ms,ps,a7⟩:=AV (S G) R m2;rw[a7] at hv;rw[hv.1] at a5;obtain⟨a,b,rfl,h1,h2⟩:=a5;obtain⟨aa,ac,e1⟩:=h1.len;obtain⟨ba,bc,e2⟩:=h2.len;subst e1;subst e2;have HK:Hid (_∧(_∧_)∧_):=⟨hk,⟨h1,h2⟩,hv.1⟩;have a3:=zH ((hk.stay HT.out ae (a0.out.2 _ rfl).2).trans ab.out);have a4:Hid ((J.alloc (.cells #[.slice aa ms ac,.slice ba ps bc] 299)).heap[_]?=_):=(aO _ _ _ (ag a3.out)).trans a3.out;have a8:Hid (zB J (J.alloc (.cells #[.slice aa ms ac,.slice ba ps bc] 299))):=(af _ _).alloc (ai _) _;have a9:Hid ((J.alloc (.cells #[.slice aa ms ac,.slice ba ps bc] 299)).heap[_]?=_):=aI _ _;clear hk hv a7 ka h1 h2;have ad:=MX (.agg #[.slice aa ms ac,.slice ba ps bc]) J;go_upto_region 2 with fail;obtain⟨⟨c0,f0⟩,⟨c1,f1⟩⟩:=fd2 a4.out;obtain⟨⟨d0,_⟩,⟨d1,_⟩⟩:=fd2 a9.out;clear ad;generalize J.alloc _=W3 at*;go_wp2;refine aL (bz results223 _ _ _ 299 _ _ _ rfl (gz a4.out _ _) underlying299 rfl aB) rfl ?_;have hT:aj _ J ((W3.setCell _ (.slice aa ms ac)).setCell _ (.slice ba ps bc)):=(((aj.of_below (p:=fun b=>b=w+1) a8.out).set (a:=⟨w+1,0,none⟩) (fun _=>rfl) _).set (a:=⟨w+1,1,none⟩) (fun _=>rfl) _)
 have hM:=hT.mono (fun b _ e=>HK.out.1.2.2.2.1 b (Or.inr e));exact⟨A2,I,ms,ps,_,_,k,U,O,rfl,⟨HK.out.2.1.1.turn hM,HK.out.2.1.2.turn hM⟩,HK.out.2.2,HK.out.1.lift HT.out a0.out.1 a0.out.2 hT⟩
theorem Eo(hF:fG S Y Z fb mb G cap L r)(hr:2≤r)(hD:D+grow r≤N15)w(h:Tsk A S w B Q Y Z fb mb G cap E D L V T)(ab:T.length≤9999):
  zC 78 #[.pointer (some (Q,0))] w fun e w'=>∃A2 I R ps a b k U O,e=.returned (.agg #[a,b])∧(RdA A2 Sm.mc w' a R∧RdA A2 aZ w' b ps)∧k.f=.list R ps∧kF A S w B Q Y Z fb mb G cap E D L V T r ⟨3,e0,e0⟩ w' A2 I k U O:=by
 have a1:zB w (w.alloc (.cells #[zN,zN] 149)):=(af _ _).alloc (ai _) _;have hP:∀b,b=w.heap.size→w≤b∧b<(w.alloc (.cells #[zN,zN] 149)):=fun b e=>by simp_all
 have a8:Hid ((w.alloc (.cells #[zN,zN] 149)).heap[_]?=_):=aI _ _;have ka:=sV hF ⟨3,e0,e0⟩ hr ah ⟨aN _,aN _⟩ hD _ (h.wide a1 _ hP) ab;have HT:=zH h;have a0:Hid (_∧_):=⟨a1,hP⟩;clear a1 hP h hF hD;go_enter func78,ntmps78
 go_wp2_with (go_at_call 109;fail)
 generalize w.alloc _=N at*;go_at_call 109;refine ka.mono ?_;rintro e J ⟨A2,I,fv,k,U,O,rfl,a4,hk⟩;have hv:=hk.val HT.out.eng.inv hr ah;obtain⟨R,ps,a5⟩:=Em (S G) e0 e0;rw[a5] at hv;rw[hv.1] at a4;obtain⟨a,b,rfl,h1,h2⟩:=a4;obtain⟨aa,ac,e1⟩:=h1.len;obtain⟨ba,bc,e2⟩:=h2.len;subst e1;subst e2;have HK:Hid (_∧(_∧_)∧_):=⟨hk,⟨h1,h2⟩,hv.1⟩;have a2:=zH ((hk.stay HT.out ae (a0.out.2 _ rfl).2).trans a8.out);have a3:Hid ((J.alloc (.cells #[.slice aa R ac,.slice ba ps bc] 149)).heap[_]?=_):=(aO _ _ _ (ag a2.out)).trans a2.out;have a6:Hid (zB J (J.alloc (.cells #[.slice aa R ac,.slice ba ps bc] 149))):=(af _ _).alloc (ai _) _;have a7:Hid ((J.alloc (.cells #[.slice aa R ac,.slice ba ps bc] 149)).heap[_]?=_):=aI _ _;clear hk hv a5 ka h1 h2;have a9:=MY (.agg #[.slice aa R ac,.slice ba ps bc]) J;go_upto_region 2 with fail;obtain⟨⟨c0,f0⟩,⟨c1,f1⟩⟩:=fd2 a3.out;obtain⟨⟨d0,_⟩,⟨d1,_⟩⟩:=fd2 a7.out;clear a9;generalize J.alloc _=W3 at*;go_wp2;refine aL (bz results78 _ _ _ 149 _ _ _ rfl (gz a3.out _ _) underlying149 rfl aB) rfl ?_;have hT:aj _ J ((W3.setCell _ (.slice aa R ac)).setCell _ (.slice ba ps bc)):=(((aj.of_below (p:=fun b=>b=w) a6.out).set (a:=(w,0)) (fun _=>rfl) _).set (a:=(w,1)) (fun _=>rfl) _);have hM:=hT.mono (fun b _ e=>HK.out.1.2.2.2.1 b (Or.inr e))
 exact⟨A2,I,R,ps,_,_,k,U,O,rfl,⟨HK.out.2.1.1.turn hM,HK.out.2.1.2.turn hM⟩,HK.out.2.2,HK.out.1.lift HT.out a0.out.1 a0.out.2 hT⟩
theorem iu(hF:fG S Y Z fb mb G cap L r)(hr:3≤r)(hD:D+grow r≤N15)w(h:Tsk A S w B Q Y Z fb mb G cap E D L V T)(ab:T.length≤9999):
  zC 79 #[.pointer (some (Q,0))] w fun e w'=>∃A2 I R ps a b k U O,e=.returned (.agg #[a,b])∧(RdA A2 dU w' a R∧RdA A2 aZ w' b ps)∧k.f=.ord R ps∧kF A S w B Q Y Z fb mb G cap E D L V T r ⟨4,e0,e0⟩ w' A2 I k U O:=by
 have a1:zB w (w.alloc (.cells #[zN,zN] 152)):=(af _ _).alloc (ai _) _;have hP:∀b,b=w.heap.size→w≤b∧b<(w.alloc (.cells #[zN,zN] 152)):=fun b e=>by simp_all
 have a8:Hid ((w.alloc (.cells #[zN,zN] 152)).heap[_]?=_):=aI _ _;have ka:=sV hF ⟨4,e0,e0⟩ hr ah ⟨aN _,aN _⟩ hD _ (h.wide a1 _ hP) ab;have HT:=zH h;have a0:Hid (_∧_):=⟨a1,hP⟩;clear a1 hP h hF hD;go_enter func79,ntmps79
 go_wp2_with (go_at_call 109;fail)
 generalize w.alloc _=N at*;go_at_call 109;refine ka.mono ?_;rintro e J ⟨A2,I,fv,k,U,O,rfl,a4,hk⟩;have hv:=hk.val HT.out.eng.inv hr ah;obtain⟨R,ps,a5⟩:=Hw (S G) e0 e0;rw[a5] at hv;rw[hv.1] at a4;obtain⟨a,b,rfl,h1,h2⟩:=a4;obtain⟨aa,ac,e1⟩:=h1.len;obtain⟨ba,bc,e2⟩:=h2.len;subst e1;subst e2;have HK:Hid (_∧(_∧_)∧_):=⟨hk,⟨h1,h2⟩,hv.1⟩;have a2:=zH ((hk.stay HT.out ae (a0.out.2 _ rfl).2).trans a8.out);have a3:Hid ((J.alloc (.cells #[.slice aa R ac,.slice ba ps bc] 152)).heap[_]?=_):=(aO _ _ _ (ag a2.out)).trans a2.out;have a6:Hid (zB J (J.alloc (.cells #[.slice aa R ac,.slice ba ps bc] 152))):=(af _ _).alloc (ai _) _;have a7:Hid ((J.alloc (.cells #[.slice aa R ac,.slice ba ps bc] 152)).heap[_]?=_):=aI _ _;clear hk hv a5 ka h1 h2;have a9:=MZ (.agg #[.slice aa R ac,.slice ba ps bc]) J;go_upto_region 2 with fail;obtain⟨⟨c0,f0⟩,⟨c1,f1⟩⟩:=fd2 a3.out;obtain⟨⟨d0,_⟩,⟨d1,_⟩⟩:=fd2 a7.out;clear a9;generalize J.alloc _=W3 at*;go_wp2;refine aL (bz results79 _ _ _ 152 _ _ _ rfl (gz a3.out _ _) underlying152 rfl aB) rfl ?_;have hT:aj _ J ((W3.setCell _ (.slice aa R ac)).setCell _ (.slice ba ps bc)):=(((aj.of_below (p:=fun b=>b=w) a6.out).set (a:=(w,0)) (fun _=>rfl) _).set (a:=(w,1)) (fun _=>rfl) _);have hM:=hT.mono (fun b _ e=>HK.out.1.2.2.2.1 b (Or.inr e))
 exact⟨A2,I,R,ps,_,_,k,U,O,rfl,⟨HK.out.2.1.1.turn hM,HK.out.2.1.2.turn hM⟩,HK.out.2.2,HK.out.1.lift HT.out a0.out.1 a0.out.2 hT⟩
end Pn
namespace Pn
open Mf Ed
variable{A j A2:Nat→Prop}{S:Nat→Shf}{w w' W N J wf:zW}{Y Z fb mb G:Nat}{cap:Int}{E:List Int}{D U:List Kp}{L:List (zV×zV)}{B Q:Nat}{V I:zV}{T M:List Tie}{r:Nat}{q:Qn}{k:Kp}{O:List Qn}{F:List Int}
structure dT(A:Nat→Prop)(S:Nat→Shf)(w:World)(B Q Y Z fb mb G:Nat)(cap:Int)(L:List (zV×zV))(V:zV)(w':World)(A2:Nat→Prop)(F:List Int)(U:List Kp)(I:zV)(M:List Tie):Prop where
 t:Tsk A2 S w' B Q Y Z fb mb G cap F U L I M
 f:aj (Fr4 Y fb Q V) w w'
 sub:∀b,A b→A2 b
 new:∀b,A2 b→A b∨w.heap.size≤b
 own:∀b,I.ownBlock=some b→V.ownBlock=some b∨w.heap.size≤b
theorem kF.went(h:kF A S w B Q Y Z fb mb G cap E D L V T r q J A2 I k U O):dT A S w B Q Y Z fb mb G cap L V J A2 (counted E O) U I (T++[.ask q]):=⟨h.2.1,h.2.2.1,h.2.2.2.1,h.2.2.2.2.1,h.2.2.2.2.2⟩
theorem dT.trans{a1}{A3}{R}{D2}{a0}{w3}(h:dT A S w B Q Y Z fb mb G cap L V J A2 F U I M)(g:dT A2 S J B Q Y Z fb mb G cap L I w3 A3 R D2 a1 a0):dT A S w B Q Y Z fb mb G cap L V w3 A3 R D2 a1 a0:=by
 have hs:=h.f.size;refine⟨g.t,h.f.trans g.f (fun _ _ e=>e) (fun b hb e=>?_),fun b e=>g.sub b (h.sub b e),fun b e=>?_,fun b e=>?_⟩
 ·rcases e with e|e|e|e
  ·exact Or.inl e
  ·omega
  ·omega
  ·rcases h.own b e with e|e
   ·grind
   ·omega
 ·rcases g.new b e with e|e
  ·exact h.new b e
  omega
 ·rcases g.own b e with e|e
  ·exact h.own b e
  omega
theorem dT.lift{P:Nat→Prop}(h:Tsk A S w B Q Y Z fb mb G cap E D L V T)(hb:Below w w N)(hP:∀b,P b→w≤b∧b<N)(R:dT (fun b=>A b∨P b) S N B Q Y Z fb mb G cap L V J A2 F U I M)(ht:aj P J wf):
  dT A S w B Q Y Z fb mb G cap L V wf A2 F U I M:=by
 have hs:=hb.size;refine⟨R.t.turn ht (fun b _ e=>R.sub b (Or.inr e)) (fun b e=>⟨by have:=(hP b e).1;have:=h.hB;omega,fun e2=>?_⟩),?_,fun b e=>R.sub b (Or.inl e),fun b e=>?_,fun b e=>?_⟩
 ·have h7:=hP b e
  rcases e2 with e2|e2
  ·have:=h.task.t0.lt;omega
  ·rcases R.own b e2 with e3|e3
   ·have:=(h.task.row.lt b e3).2;omega
   ·omega
 ·exact((aj.of_below hb).trans R.f (fun _ _ e=>e) (fun _ _ e=>e)).trans ht (fun _ _ e=>e) (fun b a0 e=>ax)
 ·rcases R.new b e with(e|e)|e
  ·exact Or.inl e
  ·grind
  omega
 ·rcases R.own b e with e|e
  ·exact Or.inl e
  omega
theorem dT.stay(h:Tsk A S w B Q Y Z fb mb G cap E D L V T)(hk:dT j S N B Q Y Z fb mb G cap L V J A2 F U I M){b:Nat}(h1:w≤b)(R:b<N):J.heap[b]?=N.heap[b]?:=by
 refine hk.f.block b R (fun e=>?_);have h3:=h.lt;have h4:=h.hB;rcases e with e|e|e|e
 ·omega
 ·omega
 ·have:=h.task.t0.lt;omega
 ·have:=(h.task.row.lt b e).2;omega
theorem ye p(hp:POk p)w(h:Tsk A S w B Q Y Z fb mb G cap E D L V T)(a0:T.length≤9999):
  zC 205 #[.pointer (some (Q,0)),plV p] w fun e w'=>∃A2 I,e=(txV (S G p))∧dT A S w B Q Y Z fb mb G cap L V w' A2 E D I (T++[.rd p (S G p)]):=by
 refine(sG _ p w h.eng.shelf h.eng.on hp h.task h.eng.desk.f0.1 ae h.hB).mono ?_;rintro e w' ⟨I,rfl,hT,R,f⟩
 exact⟨_,I,rfl,h.grown R hT f,R.mono (fun b _ e=>Or.inr (Or.inr e)),fun b e=>Or.inl e,fun b e=>by
  rcases e with e|e
  ·exact Or.inl e
  ·rcases f b e with e|e
   ·exact Or.inl (h.pr b (Or.inr e))
   omega,f⟩
theorem JZ a b W:(Instr.field 137 (.agg #[a,b]) 0).run prog W=.ok a W:=aB
theorem J0 t:df t=rootOf t:=by cases t<;>rfl
theorem Ep w(h:Tsk A S w B Q Y Z fb mb G cap E D L V T)(a2:T.length≤9999):
  zC 216 #[.pointer (some (Q,0))] w fun e w'=>∃A2 I,e=.returned (.agg #[(rootOf (S G aU)),e0])∧dT A S w B Q Y Z fb mb G cap L V w' A2 E D I (T++[.rd aU (S G aU)]):=by
 have R:zB w (w.alloc (.cells #[zE,zE] 68)):=(af _ _).alloc (ai _) _;have hP:∀b,b=w.heap.size→w≤b∧b<(w.alloc (.cells #[zE,zE] 68)):=fun b e=>by simp_all
 have a1:Hid ((w.alloc (.cells #[zE,zE] 68)).heap[_]?=_):=aI _ _;have ka:=ye aU ⟨ah,aN _,aN _⟩ _ (h.wide R _ hP) a2;have HT:=zH h;have f:Hid (_∧_):=⟨R,hP⟩;clear R hP h;rw[←J0];go_enter func216,ntmps216
 go_wp2_with (go_at_call 205;fail)
 generalize w.alloc _=N at*;go_at_call 205;refine ka.mono ?_;rintro e J ⟨A2,I,rfl,hk⟩;have HK:=zH hk;have a0:=zH ((hk.stay HT.out (ai _) (f.out.2 _ rfl).2).trans a1.out);clear hk ka;obtain⟨⟨c0,f0⟩,⟨c1,f1⟩⟩:=fd2 a0.out;have a3:=JZ ((df (S G aU))) ((S G aU).isSome) J;go_wp2;refine aL (bz results216 _ _ _ 68 _ _ _ rfl (gz a0.out _ _) underlying68 rfl aB) rfl ?_;have hT:aj _ J ((J.setCell _ ((df (S G aU)))).setCell _ (zE)):=((aj.refl (fun b=>b=w) J).set (a:=(w,0)) (fun _=>rfl) _).set (a:=(w,1)) (fun _=>rfl) _;exact⟨A2,I,rfl,HK.out.lift HT.out f.out.1 f.out.2 hT⟩
end Pn
namespace Pn
open Mf Ed
variable{A j A2:Nat→Prop}{S:Nat→Shf}{w w' W N J wf:zW}{Y Z fb mb G:Nat}{cap:Int}{E:List Int}{D U:List Kp}{L:List (zV×zV)}{B Q:Nat}{V I:zV}{T M:List Tie}{r:Nat}{q:Qn}{k:Kp}{O:List Qn}{F:List Int}
theorem lN{W:zW}{r:Nat}{t}{x0 x1 x2 x3}(h:W.heap[r]?=some (.cells #[x0,x1,x2,x3] t))a b c d:((((W.setCell (r,0) a).setCell (r,1) b).setCell (r,2) c).setCell (r,3) d).heap[r]?=some (.cells #[a,b,c,d] t):=by
 have f:=bl _ _ 0 _ _ a h;have R:=bl _ _ 1 _ _ b f;have h3:=bl _ _ 2 _ _ c R;exact bl _ _ 3 _ _ d h3
theorem fd4{W:zW}{r:Nat}{t}{f R x2 x3}(h:W.heap[r]?=some (.cells #[f,R,x2,x3] t)):(W.cell? (r,0)=f∧W.frozen? (r,0)=false)∧(W.cell? (r,1)=R∧W.frozen? (r,1)=false)∧(W.cell? (r,2)=x2∧W.frozen? (r,2)=false)∧(W.cell? (r,3)=x3∧W.frozen? (r,3)=false):=by
 simp only[World.cell?,World.frozen?,h];simp
theorem J3(hF:fG S Y Z fb mb G cap L r)(m1:zA)(hp:m1.size≤N48)(hD:D+grow r≤N15)w(h:Tsk A S w B Q Y Z fb mb G cap E D L V T)(az:T.length≤9999):
  zC 217 #[.pointer (some (Q,0)),.agg #[m1,e0]] w fun e w'=>∃A2 I rv xv sv k U O,e=.returned (.agg #[(bL m1 k.f).p,rv,xv,sv])∧(RdA A2 Sm.mc w' rv (bL m1 k.f).R∧RdA A2 Sm.mc w' xv (bL m1 k.f).X∧RdA A2 Sw.mc w' sv (bL m1 k.f).S)∧fnd (S G) G r D ⟨0,m1,e0⟩ k U O∧dT A S w B Q Y Z fb mb G cap L V w' A2 (counted E O) U I (T++[.ask ⟨0,m1,e0⟩]):=by
 have a8:zB w (w.alloc (.cells #[m1,e0] 68)):=(af _ _).alloc (ai _) _;have a9:zB w ((w.alloc _).alloc (.cells #[zE,zN,zN,zN] 195)):=a8.alloc a8.size _;have hP:∀b,b=w.heap.size+1→w≤b∧b<((w.alloc (.cells #[m1,e0] 68)).alloc (.cells #[zE,zN,zN,zN] 195)):=fun b e=>by simp_all
 have ad:Hid (((w.alloc (.cells #[m1,e0] 68)).alloc (.cells #[zE,zN,zN,zN] 195)).heap[_]?=_):=dX w _ _;have ab:Hid (((w.alloc (.cells #[m1,e0] 68)).alloc (.cells #[zE,zN,zN,zN] 195)).heap[_]?=_):=(aO _ _ _ ah).trans (aI _ _);have ka:=sW hF m1 e0 hp (aN _) hD _ (h.wide a9 _ hP) az;have HT:=zH h;have a0:Hid (_∧_):=⟨a9,hP⟩;clear a8 a9 hP h hF hp hD;go_enter func217,ntmps217
 go_wp2_with (go_at_call 219;fail)
 generalize (w.alloc (.cells #[.string m1,.string e0] 68)).alloc (.cells #[zE,zN,zN,zN] 195)=N at*;go_at_call 219;refine ka.mono ?_;rintro e J ⟨A2,I,pr,m,rv,xv,sv,k,U,O,rfl,⟨h1,h2,h3⟩,an,hk⟩;obtain⟨ra,rc,e1⟩:=h1.len;obtain⟨xa,xc,e2⟩:=h2.len;obtain⟨sa,sc,e3⟩:=h3.len;subst e1;subst e2;subst e3;have HK:Hid (_∧_∧_):=⟨hk.went,hk.1,an⟩;have a6:Hid (_∧_∧_):=⟨h1,h2,h3⟩;have ak:=zH ((hk.went.stay HT.out (bW _) (a0.out.2 _ rfl).2).trans ad.out);have a4:=zH ((hk.went.stay HT.out (ai _) (by have:=(a0.out.2 _ rfl).2;omega)).trans ab.out);have a5:Hid (zB J (J.alloc (.cells #[pr,m.p,.slice ra m.R rc,.slice xa m.X xc,.slice sa m.S sc] 294))):=(af _ _).alloc (ai _) _;have a1:Hid ((J.alloc (.cells #[pr,m.p,.slice ra m.R rc,.slice xa m.X xc,.slice sa m.S sc] 294)).heap[_]?=_):=aI _ _;have a2:Hid ((J.alloc (.cells #[pr,m.p,.slice ra m.R rc,.slice xa m.X xc,.slice sa m.S sc] 294)).heap[_+1]?=_∧(J.alloc (.cells #[pr,m.p,.slice ra m.R rc,.slice xa m.X xc,.slice sa m.S sc] 294)).heap[_]?=_):=⟨(aO _ _ _ (ag ak.out)).trans ak.out,(aO _ _ _ (ag a4.out)).trans a4.out⟩;clear hk h1 h2 h3 an ka ad ab;go_upto_region 2 with fail;generalize av:J.alloc _=W3 at*;clear av;obtain⟨⟨d0,_⟩,⟨d1,_⟩,⟨d2,_⟩,⟨d3,_⟩,⟨d4,_⟩⟩:=fd5 a1.out;obtain⟨⟨b0,_⟩,⟨b1,_⟩⟩:=fd2 a2.out.2
 have kp:=qy pr m ra xa sa m.R rc m.X xc m.S sc m1 W3
 go_wp2_with (go_at_call 220;fail)
 go_at_call 220;refine kp.mono ?_;rintro e w4 ⟨rfl,a3⟩;have aa:=zH (a5.out.trans (a3.mono a5.out.size));have a7:=zH ((a3.block _ (ag a2.out.1)).trans a2.out.1);have aq:=zH ((a3.block _ (ag a1.out)).trans a1.out);clear a3 kp d0 d1 d2 d3 d4 b0 b1 a2 a1 a5;obtain⟨⟨c0,f0⟩,⟨c1,f1⟩,⟨c2,f2⟩,⟨c3,f3⟩⟩:=fd4 a7.out;obtain⟨⟨d0,_⟩,⟨d1,_⟩,⟨d2,_⟩,⟨d3,_⟩,⟨d4,_⟩⟩:=fd5 aq.out;by_cases h0:eG (pr,m) m1=0
 ·have HE:Hid (bL m1 k.f=m):=by
   show bL m1 k.f=m;unfold bL;rw[HK.out.2.2];show(if eG (pr,m) m1≠0 then _ else m)=m;rw[au (fun hh=>hh h0)]
  rw[h0];clear h0;go_wp2;refine aL (bz results217 _ _ _ 195 _ _ _ rfl (lN a7.out _ _ _ _) underlying195 rfl aB) rfl ?_;have hT:aj _ J ((((w4.setCell _ (m.p)).setCell _ (.slice ra m.R rc)).setCell _ (.slice xa m.X xc)).setCell _ (.slice sa m.S sc)):=((((aj.of_below (p:=fun b=>b=w+1) aa.out).set (a:=⟨w+1,0,none⟩) (fun _=>rfl) _).set (a:=⟨w+1,1,none⟩) (fun _=>rfl) _).set (a:=⟨w+1,2,none⟩) (fun _=>rfl) _).set (a:=⟨w+1,3,none⟩) (fun _=>rfl) _;have hM:=hT.mono (fun b _ e=>HK.out.1.sub b (Or.inr e));refine⟨A2,I,.slice ra m.R rc,.slice xa m.X xc,.slice sa m.S sc,k,U,O,?_,?_,HK.out.2.1,HK.out.1.lift HT.out a0.out.1 a0.out.2 hT⟩
  ·rw[HE.out]
  ·rw[HE.out]
   exact⟨a6.out.1.turn hM,a6.out.2.1.turn hM,a6.out.2.2.turn hM⟩
 ·have HE:Hid (bL m1 k.f=⟨e0,[],[],[]⟩):=by
   show bL m1 k.f=_;unfold bL;rw[HK.out.2.2];show(if eG (pr,m) m1≠0 then _ else m)=_;rw[ay h0]
  have q0:((_:Int)==0)=false:=int_ne h0;clear h0;generalize eG (pr,m) m1=pq at*;go_wp2;refine aL (bz results217 _ _ _ 195 _ _ _ rfl (lN a7.out _ _ _ _) underlying195 rfl aB) rfl ?_;have hT:aj _ J ((((w4.setCell _ (zE)).setCell _ (zN)).setCell _ (zN)).setCell _ (zN)):=((((aj.of_below (p:=fun b=>b=w+1) aa.out).set (a:=⟨w+1,0,none⟩) (fun _=>rfl) _).set (a:=⟨w+1,1,none⟩) (fun _=>rfl) _).set (a:=⟨w+1,2,none⟩) (fun _=>rfl) _).set (a:=⟨w+1,3,none⟩) (fun _=>rfl) _;refine⟨A2,I,zN,zN,zN,k,U,O,?_,?_,HK.out.2.1,HK.out.1.lift HT.out a0.out.1 a0.out.2 hT⟩
  ·rw[HE.out]
  ·rw[HE.out]
   exact⟨RdA.nil _,RdA.nil _,RdA.nil _⟩
