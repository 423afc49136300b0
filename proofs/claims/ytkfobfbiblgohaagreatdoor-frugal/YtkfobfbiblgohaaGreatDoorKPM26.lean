import Derived.Test.YtkfobfbiblgohaaGreatDoorKPMJ
set_option linter.all false
open Go.Proofs.Tryz
set_option maxRecDepth 100000
set_option maxHeartbeats 40000000
namespace Go.Proofs.YtkfobfbiblgohaaGreatDoor
open Go.RowKit
namespace Pn
open Mf Ed
variable{A A1 A2 M:Nat->Prop}{S:Nat->Shf}{w w' wr wx W W1 w1 w2 G wf:zW}{Z T U mb now:Nat}{cap:Int}{cs cs' j1:List Int}{D D' D1 D2 l:List Kp}{L L':List (zV×zV)}{B V:Nat}{tv d j0 J:zV}{ts Q j2:List Tie}{q:Qn}{k kk:Kp}{F:Find}{g:Nat}{n n1 b:Nat}{o:Obj}{O:List Qn}
structure Kq(I Y n:Nat)(E o6:Obj)(W:World):Prop where
 h12:W.heap[I]?=some E
 h6:W.heap[Y]?=some o6
 le:n<=W.heap.size
 lt:I<n/\Y<n
variable{I Y:Nat}{E o6:Obj}
theorem Kq.below(h:Kq I Y n E o6 W)(hb:zB W W1):Kq I Y n E o6 W1:=
 ⟨(hb.block _ (bP h.lt.1 h.le)).trans h.h12,(hb.block _ (bP h.lt.2 h.le)).trans h.h6,aN h.le hb.size,h.lt⟩
theorem Kq.alloc(h:Kq I Y n E o6 W)(o:Obj):Kq I Y n E o6 (W.alloc o):=h.below ((ae _ _).alloc (ah _) o)
theorem Kq.drew(h:Kq I Y n E o6 W):Kq I Y n E o6 W.drew:=h.below ((ae _ _).drew)
theorem Kq.set(h:Kq I Y n E o6 W){a:Addr}(ha:n<=a.block)(u:zV):Kq I Y n E o6 (W.setCell a u):=by
 have hl:=h.lt;refine⟨?_,?_,?_,h.lt⟩
 ·rw[aL _ _ _ _ (by omega)];exact h.h12
 ·rw[aL _ _ _ _ (by omega)];exact h.h6
 ·have:=h.le;simpa[World.setCell] using this
theorem Ec{r:Nat}{s:Shf}{cm c:Cm Fi}(h:Pre (fnd s now r) s D cm D' c Q O)(hD:D.length+10000*grow r<=N15)(a0:Q.length<=9999):D'.length+grow r<=N15:=by
 have h1:=sZ (kJ s now r) h;have h2:=eA (grow r) a0;omega
structure Md(A2:Nat->Prop)(S:Nat->Shf)(B V Z T U mb now:Nat)(cap:Int)(L:List (zV×zV))(r:Nat)(W2 W G:World)(cs:List Int)(D:List Kp)(tv:zV)(ts:List Tie)(p:zA)(M:Nat->Prop)(J:zV)(kk:Kp)(l:List Kp)(O:List Qn):Prop where
 back:∀wf,ai (fun b=>W2.heap.size<=b/\b<W.heap.size) G wf->dH A2 S W2 B V Z T U mb now cap L tv wf M (counted cs O) l J (ts++[.ask ⟨1,p,e0⟩])
 fnd:fnd (S now) now r D ⟨1,p,e0⟩ kk l O
 stay:∀b,W2.heap.size<=b->b<W.heap.size->G.heap[b]?=W.heap[b]?
 size:W.heap.size<=G.heap.size
def K13(A2:Nat->Prop)(S:Nat->Shf)(B V Z T U mb now:Nat)(cap:Int)(L:List (zV×zV))(r:Nat)(W2 W G:zW)(cs:List Int)(D:List Kp)(tv:zV)(ts:List Tie)(y0 y1:zA)(xa:Option Addr)(xc:Nat)(X:List Mo)(I Y:Nat)(E o6:Obj)(M:Nat->Prop)(J:zV)(pr:Nat)(ua:Option Addr)(uc:Nat)(vs:List zA)(kk:Kp)(l:List Kp)(O:List Qn):Prop:=
 (Md A2 S B V Z T U mb now cap L r W2 W G cs D tv ts y0 M J kk l O/\kk.f=.idx pr vs)/\Kq I Y W2.heap.size E o6 G/\
  ∀W',zB G W'->zC 173 #[.agg #[tS y0,tS y1],.agg #[zI (pr:Nat),.slice ua vs.length uc],.slice xa X.length xc] W' fun e w'=>∃m p,e=.returned (.tuple #[.agg #[tS m.1,tS m.2],.agg #[zI (p.1:Nat),tS p.2.1,tS p.2.2]])/\vO (y0,y1) (pr,vs) X m p/\zB W' w'
theorem Jx{r:Nat}(hF:eG S Z T U mb now cap L r)(y0 y1:zA)(hp:y0.size<=N48)(hD:D.length+grow r<=N15)(W2:zW)(h:Tsk A2 S W2 B V Z T U mb now cap cs D L tv ts)(a3:ts.length<=9999){xa:Option Addr}{xc:Nat}{X:List Mo}(hx:RdA A2 Sm.mc W2 (.slice xa X.length xc) X)(hX:X.length<=100000)(hn:Z<n/\U<n/\V<n)(a0:Lc n tv W2 I E)(h6:Lc n tv W2 Y o6)(W:zW)(hb:zB W2 W):
  zC 174 #[zP V,tS y0] W fun e G=>∃M J pr ua uc vs kk l O,e=.returned (.agg #[zI (pr:Nat),.slice ua vs.length uc])/\K13 A2 S B V Z T U mb now cap L r W2 W G cs D tv ts y0 y1 xa xc X I Y E o6 M J pr ua uc vs kk l O:=by
 have hT:=h.wide hb (fun b=>W2.heap.size<=b/\b<W.heap.size) (fun b e=>e);refine(Jn hF y0 hp hD W hT a3).mono ?_;rintro e G ⟨M,J,pr,u,vs,k,D',O,rfl,hu,hk,ha⟩;obtain⟨ua,uc,e1⟩:=hu.len;subst e1;have a2:=kN h.eng.inv ha.1 (aJ _) (by show 1<=4;omega) ha.2.1.eng.ok;have a4:vs.length<=100000:=by have h1:=a2.2.s;rw[hk] at h1;exact h1
 have a5:RdA M Sm.mc G (.slice xa X.length xc) X:=RdA.went ((hx.more (fun b hb e=>by
  rcases e with e|e
  ·exact e
  ·omega)).below hb) hT ha.went
 have hs:=hb.size;refine⟨M,J,pr,ua,uc,vs,k,D',O,rfl,⟨⟨fun wf ht=>ha.went.lift h hb (fun b e=>e) ht,ha.1,fun b h1 h2=>ha.went.stay h h1 h2,ha.went.f.size⟩,hk⟩,⟨((a0.below hb).went hn ha.went).h,((h6.below hb).went hn ha.went).h,aN hs ha.went.f.size,a0.lt,h6.lt⟩,fun W' a1=>FD y0 y1 pr _ _ vs X W' a4 hX (hu.below a1) (a5.below a1)⟩
theorem Jy{W2 G:zW}{o:Obj}(h:∀b,W2.heap.size<=b->b<(W2.alloc o).drew.heap.size->G.heap[b]?=(W2.alloc o).drew.heap[b]?):G.heap[W2.heap.size]?=some o:=
 (h _ (ah _) (by simp)).trans (aA W2 o)
theorem Jz{W2 G:zW}{o o2:Obj}(h:∀b,W2.heap.size<=b->b<((W2.alloc o).alloc o2).drew.heap.size->G.heap[b]?=((W2.alloc o).alloc o2).drew.heap[b]?):G.heap[W2.heap.size]?=some o/\G.heap[W2.heap.size+1]?=some o2:=
 ⟨(h _ (ah _) (by simp;omega)).trans ((aH _ _ _ (by simp)).trans (aA W2 o)),(h _ (cE _) (by simp)).trans (eD W2 o o2)⟩
theorem LZ{G:zW}{b:Nat}{o:Obj}(h:G.heap[b]?=some o):(b=G.heap.size)=False/\(G.heap.size=b)=False:=by
 have hl:=af h;exact⟨by simp;omega,by simp;omega⟩
theorem Oy{G w4:zW}{o:Obj}(h:Below (G.alloc o).heap.size (G.alloc o) w4):w4.heap[G.heap.size]?=some o:=(h.block _ (by simp)).trans (aA G o)
theorem Oz{G w4:zW}{o o2:Obj}(h:Below ((G.alloc o).alloc o2).heap.size ((G.alloc o).alloc o2) w4):w4.heap[G.heap.size]?=some o/\w4.heap[G.heap.size+1]?=some o2:=
 ⟨(h.block _ (by simp;omega)).trans ((aH _ _ _ (by simp)).trans (aA G o)),(h.block _ (by simp)).trans (eD G o o2)⟩
theorem uZ{w4:zW}{b:Nat}{x y:zV}{t:TypeId}(h:w4.heap[b]?=some (.cells #[x,y] t)):
  ((w4.cell? (tD b 0)=some x/\w4.frozen? (tD b 0)=false)/\(w4.cell? (tD b 1)=some y/\w4.frozen? (tD b 1)=false))/\((∀o,(w4.alloc o).cell? (tD b 0)=some x)/\(∀o,(w4.alloc o).frozen? (tD b 0)=false))/\((∀o,(w4.alloc o).cell? (tD b 1)=some y)/\(∀o,(w4.alloc o).frozen? (tD b 1)=false))/\(b=w4.heap.size)=False/\(w4.heap.size=b)=False:=by
 have hl:=af h;have h2:∀o,(w4.alloc o).heap[b]?=some (.cells #[x,y] t):=fun o=>(aH _ _ _ hl).trans h
 exact⟨fd2 h,⟨fun o=>(fd2 (h2 o)).1.1,fun o=>(fd2 (h2 o)).1.2⟩,⟨fun o=>(fd2 (h2 o)).2.1,fun o=>(fd2 (h2 o)).2.2⟩,by simp;omega,by simp;omega⟩
theorem vd{w4:zW}{b:Nat}{x y z:zV}{t:TypeId}(h:w4.heap[b]?=some (.cells #[x,y,z] t)):
  ((w4.cell? (tD b 0)=some x/\w4.frozen? (tD b 0)=false)/\(w4.cell? (tD b 1)=some y/\w4.frozen? (tD b 1)=false)/\(w4.cell? (tD b 2)=some z/\w4.frozen? (tD b 2)=false))/\((∀o,(w4.alloc o).cell? (tD b 0)=some x)/\(∀o,(w4.alloc o).frozen? (tD b 0)=false))/\((∀o,(w4.alloc o).cell? (tD b 1)=some y)/\(∀o,(w4.alloc o).frozen? (tD b 1)=false))/\((∀o,(w4.alloc o).cell? (tD b 2)=some z)/\(∀o,(w4.alloc o).frozen? (tD b 2)=false))/\(b=w4.heap.size)=False/\(w4.heap.size=b)=False:=by
 have hl:=af h;have h2:∀o,(w4.alloc o).heap[b]?=some (.cells #[x,y,z] t):=fun o=>(aH _ _ _ hl).trans h
 exact⟨fd3 h,⟨fun o=>(fd3 (h2 o)).1.1,fun o=>(fd3 (h2 o)).1.2⟩,⟨fun o=>(fd3 (h2 o)).2.1.1,fun o=>(fd3 (h2 o)).2.1.2⟩,⟨fun o=>(fd3 (h2 o)).2.2.1,fun o=>(fd3 (h2 o)).2.2.2⟩,by simp;omega,by simp;omega⟩
theorem Fd.far{W:zW}{b o b' o':Nat}{u v:zV}(h:Ed.Fd W b o u)(a0:b≠b'):Ed.Fd (W.setCell (tD b' o') v) b o u:=h.of_block (aL _ _ _ _ a0)
theorem Fd.alloc{W:zW}{b o:Nat}{u:zV}(h:Ed.Fd W b o u)(o':Obj):Ed.Fd (W.alloc o') b o u:=h.of_block (aH _ _ _ h.lt)
theorem AF(w:zW)(o:Obj)(cs:Array zV)(t:TypeId){j:Nat}{u:zV}(h:cs[j]?=some u):Ed.Fd ((w.alloc o).alloc (.cells cs t)) (w.heap.size+1) j u:=by
 have h1:=eu (w.alloc o) cs t h;rw[show(w.alloc o).heap.size=w.heap.size+1 by simp] at h1;exact h1
def Has(W:zW)(b o:Nat):Prop:=∃u,Ed.Fd W b o u
theorem Has.far{W:zW}{b o b' o':Nat}{v:zV}(h:Has W b o)(a0:b≠b'):Has (W.setCell (tD b' o') v) b o:=⟨_,Fd.far h.choose_spec a0⟩
theorem Has.alloc{W:zW}{b o:Nat}(h:Has W b o)(o':Obj):Has (W.alloc o') b o:=⟨_,Fd.alloc h.choose_spec o'⟩
theorem Has.put{W:zW}{b o o':Nat}{v:zV}(h:Has W b o):Has (W.setCell (tD b o') v) b o:=by
 obtain⟨u,hu⟩:=h;by_cases e:o=o'
 ·subst e;exact⟨_,pC hu v⟩
 ·exact⟨_,hu.set e⟩
theorem Has.of{W:zW}{b o:Nat}{u:zV}(h1:W.cell? (tD b o)=some u)(h2:W.frozen? (tD b o)=false):Has W b o:=⟨u,h1,h2⟩
theorem OA(w:zW)(cs:Array zV)(t:TypeId){j:Nat}(h:(cs[j]?).isSome=true):Has (w.alloc (.cells cs t)) w.heap.size j:=by
 obtain⟨u,hu⟩:=Option.isSome_iff_exists.1 h;exact⟨u,eu w cs t hu⟩
theorem Q6{W:zW}{b o:Nat}(h:Has W b o)(v:zV):Ed.Fd (W.setCell (tD b o) v) b o v:=pC h.choose_spec v
def R13(A2:Nat->Prop)(S:Nat->Shf)(B V Z T U mb now:Nat)(cap:Int)(L:List (zV×zV))(r:Nat)(W2:zW)(cs:List Int)(D:List Kp)(tv:zV)(ts:List Tie)(y0 y1:zA)(X:List Mo)(wx:zW)(a1 a0:Nat):Prop:=
 ∃M J pr vs kk l O m p,dH A2 S W2 B V Z T U mb now cap L tv wx M (counted cs O) l J (ts++[.ask ⟨1,y0,e0⟩])/\(fnd (S now) now r D ⟨1,y0,e0⟩ kk l O/\kk.f=.idx pr vs/\vO (y0,y1) (pr,vs) X m p)/\(Ed.Fd wx a1 0 (tS m.1)/\Ed.Fd wx a1 1 (tS m.2))/\Ed.Fd wx a0 0 (zI (p.1:Nat))/\Ed.Fd wx a0 1 (tS p.2.1)/\Ed.Fd wx a0 2 (tS p.2.2)
theorem yH{r:Nat}(hF:eG S Z T U mb now cap L r):GR S Z T U mb now cap L (fnd (S now) now r) (grow r):=by
 intro A w cs D B V m1 m2 j3 j4 hD h;obtain⟨i2,i6,i7,i9,ih⟩:=Bm.gu 70 (.agg #[zE,zE]) 2 32 (by kernel_rfl);have HI:Hid (prog.info? 70=some i2/\i2.zero=some (.agg #[zE,zE])/\i2.size=2/\i2.bytes=32):=⟨i6,i7,i9,ih⟩;obtain⟨i3,ip,ir,is,it⟩:=Bm.gu 95 (.agg #[zI 0,zE,zE]) 3 40 (by kernel_rfl);have HJ:Hid (prog.info? 95=some i3/\i3.zero=some (.agg #[zI 0,zE,zE])/\i3.size=3/\i3.bytes=40):=⟨ip,ir,is,it⟩;clear i6 i7 i9 ih ip ir is it;have kh:D.length+grow r<=N15:=by omega
 have cd:Hid (eG S Z T U mb now cap L r):=hF;have HD:Hid (D.length+10000*grow r<=N15):=hD;have HM:Hid (m1.size<=N48/\m2.size<=N48):=⟨j3,j4⟩;have jj:Hid (Inv S now D):=h.eng.inv;obtain⟨root,pF⟩:∃root,root=rootOf (S now ay):=⟨_,rfl⟩
 have ck:Hid (root=rootOf (S now ay)/\root.size<=N48):=⟨pF,by
  rw[pF];cases e:S now ay with
  |none=>exact aJ _
  |some t=>exact h.eng.rt t e⟩
 have cm:Hid (Stp A S w B V Z T U mb now cap L cs D ((w.alloc (.cells #[tS m1,tS m2] 70)).alloc (.cells #[zN,zN] 221)) (fun b=>A b\/b=w.heap.size+1) cs D (zN) [] [(w.heap.size+1,.cells #[zN,zN] 221),(w.heap.size,.cells #[tS m1,tS m2] 70)]):=Stp.Q5 h _ _;have k0:=D7 _ cm.out.went.t (by show 0<=9999;omega);rw[<-pF] at k0;clear h hF hD j3 j4 pF;go_enter func154,ntmps154
 go_wp2_with (go_at_call 168;fail)
 generalize (w.alloc (.cells #[tS m1,tS m2] 70)).alloc (.cells #[zN,zN] 221)=W0 at*;go_at_call 168;refine k0.mono ?_;rintro e w1 ⟨A1,kx,rfl,du⟩;have gv:Hid (A1 (w.heap.size+1)):=du.sub _ (oS rfl);have bp:Hid (Stp A S w B V Z T U mb now cap L cs D (w1.alloc (.cells #[tS root,tS e0] 70)) A1 cs D kx ([]++[.rd ay (S now ay)]) [(w1.heap.size,.cells #[tS root,tS e0] 70),(w.heap.size+1,.cells #[zN,zN] 221),(w.heap.size,.cells #[tS m1,tS m2] 70)]):=(cm.out.call du).lay _;clear du k0 cm;have k1:=Jr cd.out root ck.out.2 kh _ bp.out.went.t (by show 1<=9999;omega);obtain⟨⟨c0,_⟩,⟨c1,_⟩⟩:=fd2 (bp.out.at (bE ..))
 go_wp2_with (go_at_call 169;fail)
 generalize kb:w1.alloc (.cells #[tS root,tS e0] 70)=W1 at*;clear kb;generalize w1.heap.size=b5 at*;go_at_call 169;refine k1.mono ?_;rintro e w2 ⟨A2,j0,n0,xv,sv,kA,D2,b2,rfl,⟨ad,an,ak⟩,bu,bv⟩;clear k1 c0 c1;have bx:=kN jj.out bu (aJ _) (by show 0<=4;omega) bv.t.eng.ok;obtain⟨ff,SB⟩:=LW root bx.1 bx.2.f bx.2.s;obtain⟨rl,fi⟩:∃rl,rl=cg root kA.f:=⟨_,rfl⟩;rw[<-fi] at ad an ak ff ⊢;have jv:Hid (rl=cg root kA.f.ess):=by rw[SB];exact fi
 have ch:Hid (xZ N48 rl/\rl.X.length<=100000/\rl.S.length<=100000):=ff;have h5:Hid (fnd (S now) now r D ⟨0,root,e0⟩ kA D2 b2/\D2.length<=D.length+grow r):=⟨bu,kJ _ _ r _ _ _ _ _ bu⟩;obtain⟨a0,a1,e1⟩:=ad.len;obtain⟨xa,xc,e2⟩:=an.len;obtain⟨sa,sc,e3⟩:=ak.len;subst e1;subst e2;subst e3;have gx:Hid (A2 (w.heap.size+1)):=bv.sub _ gv.out;have bq:Hid (Stp A S w B V Z T U mb now cap L cs D (w2.alloc (.cells #[tS rl.p,.slice a0 rl.R.length a1,.slice xa rl.X.length xc,.slice sa rl.S.length sc] 214)) A2 (counted cs b2) D2 j0 ([]++[.rd ay (S now ay)]++[.ask ⟨0,root,e0⟩]) [(w2.heap.size,.cells #[tS rl.p,.slice a0 rl.R.length a1,.slice xa rl.X.length xc,.slice sa rl.S.length sc] 214),(b5,.cells #[tS root,tS e0] 70),(w.heap.size+1,.cells #[zN,zN] 221),(w.heap.size,.cells #[tS m1,tS m2] 70)]):=(bp.out.call bv).lay _;have ct:Hid (RdA A2 Sm.mc (w2.alloc (.cells #[tS rl.p,.slice a0 rl.R.length a1,.slice xa rl.X.length xc,.slice sa rl.S.length sc] 214)) (.slice xa rl.X.length xc) rl.X/\RdA A2 Sw.mc (w2.alloc (.cells #[tS rl.p,.slice a0 rl.R.length a1,.slice xa rl.X.length xc,.slice sa rl.S.length sc] 214)) (.slice sa rl.S.length sc) rl.S):=⟨an.below ((ae _ _).alloc (ah _) _),ak.below ((ae _ _).alloc (ah _) _)⟩;clear bv ad an ak bu bx ff SB fi bp gv;have k2:=BZ m1 m2 _ rl.S _ ch.out.2.2 ct.out.2
 obtain⟨⟨c0,_⟩,⟨c1,_⟩,⟨c2,_⟩,⟨c3,_⟩⟩:=fd4 (bq.out.at (bE ..));obtain⟨⟨d0,_⟩,⟨d1,_⟩⟩:=fd2 (bq.out.at (b:=w.heap.size) (o:=.cells #[tS m1,tS m2] 70) (by simp))
 go_wp2_with (go_at_call 170;fail)
 generalize kd:w2.alloc (.cells #[tS rl.p,.slice a0 rl.R.length a1,.slice xa rl.X.length xc,.slice sa rl.S.length sc] 214)=W2 at*;clear kd;generalize w2.heap.size=Y at*;go_at_call 170;refine k2.mono ?_;rintro e G ⟨rfl,dp⟩;clear k2 c0 c1 c2 c3 d0 d1;have c5:=vT HM.out.1 HM.out.2 rl.S ch.out.1.S;obtain⟨s1,s2,hs⟩:∃s1 s2,(s1,s2)=replaced (m1,m2) rl.S:=⟨_,_,rfl⟩;rw[<-hs] at c5 ⊢;have b6:Hid ((s1,s2)=replaced (m1,m2) rl.S/\s1.size<=N48/\s2.size<=N48):=⟨hs,c5.1,c5.2⟩;have b0:Hid (Stp A S w B V Z T U mb now cap L cs D (G.alloc (.cells #[tS s1,tS s2] 70)) A2 (counted cs b2) D2 j0 ([]++[.rd ay (S now ay)]++[.ask ⟨0,root,e0⟩]) [(G.heap.size,.cells #[tS s1,tS s2] 70),(Y,.cells #[tS rl.p,.slice a0 rl.R.length a1,.slice xa rl.X.length xc,.slice sa rl.S.length sc] 214),(b5,.cells #[tS root,tS e0] 70),(w.heap.size+1,.cells #[zN,zN] 221),(w.heap.size,.cells #[tS m1,tS m2] 70)]):=(bq.out.below dp).lay _;have hj:Hid (RdA A2 Sm.mc (G.alloc (.cells #[tS s1,tS s2] 70)) (.slice xa rl.X.length xc) rl.X):=(ct.out.1.below dp).below ((ae _ _).alloc (ah _) _);clear dp hs c5 bq ct;have k3:=eF cd.out s1 s2 b6.out.2.1 b6.out.2.2 (by have h1:=h5.out.2;have h2:=HD.out;omega) _ b0.out.went.t (by show 2<=9999;omega);obtain⟨⟨c0,_⟩,⟨c1,_⟩⟩:=fd2 (b0.out.at (bE ..))
 go_wp2_with (go_at_call 171;fail)
 generalize kf:G.alloc (.cells #[tS s1,tS s2] 70)=W3 at*;clear kf;generalize G.heap.size=b7 at*;go_at_call 171;refine k3.mono ?_;rintro e w4 ⟨A4,fu,pr,m,rv,mz,mx,kB,D4,db,rfl,⟨ad,an,ak⟩,a8,a7⟩;clear k3 c0 c1;have fb:=kN b0.out.went.t.eng.inv a7.1 (aJ _) (by show 0<=4;omega) a7.2.1.eng.ok;have cf:Hid (xZ N48 m/\m.R.length<=2001):=⟨by have h1:=fb.2.f;rw[a8] at h1;exact h1,LV (by rw[<-fb.1];exact a8)⟩;obtain⟨ra,rc,e1⟩:=ad.len;obtain⟨ya,yc,e2⟩:=an.len;obtain⟨za,zc,e3⟩:=ak.len;subst e1;subst e2;subst e3;have h4:Hid (A4 (w.heap.size+1)):=a7.went.sub _ gx.out;have az:Hid (Pre (fnd (S now) now r) (S now) D (df ⟨2,m1,m2⟩) D4 (if dM (pr,m) m1≠0 then .ret (.wants [] [(dM (pr,m) m1,s1,s2)]) else br root rl.X m.R [] []) (([]++[.rd ay (S now ay)])++[.ask ⟨0,root,e0⟩]++[.ask ⟨0,s1,s2⟩]) (([]++b2)++db)):=Jv ck.out.1 jv.out b6.out.1 h5.out.1 a7.1 a8;have cx:Hid (RdA A4 Sm.mc (w4.alloc (.cells #[zI (pr:Nat),tS m.p,.slice ra m.R.length rc,.slice ya m.X.length yc,.slice za m.S.length zc] 216)) (.slice xa rl.X.length xc) rl.X/\RdA A4 Sm.mc (w4.alloc (.cells #[zI (pr:Nat),tS m.p,.slice ra m.R.length rc,.slice ya m.X.length yc,.slice za m.S.length zc] 216)) (.slice ra m.R.length rc) m.R):=⟨(hj.out.went b0.out.went.t a7.went).below ((ae _ _).alloc (ah _) _),ad.below ((ae _ _).alloc (ah _) _)⟩
 have bs:Hid (Stp A S w B V Z T U mb now cap L cs D (w4.alloc (.cells #[zI (pr:Nat),tS m.p,.slice ra m.R.length rc,.slice ya m.X.length yc,.slice za m.S.length zc] 216)) A4 (counted cs (([]++b2)++db)) D4 fu (([]++[.rd ay (S now ay)])++[.ask ⟨0,root,e0⟩]++[.ask ⟨0,s1,s2⟩]) [(w4.heap.size,.cells #[zI (pr:Nat),tS m.p,.slice ra m.R.length rc,.slice ya m.X.length yc,.slice za m.S.length zc] 216),(b7,.cells #[tS s1,tS s2] 70),(Y,.cells #[tS rl.p,.slice a0 rl.R.length a1,.slice xa rl.X.length xc,.slice sa rl.S.length sc] 214),(b5,.cells #[tS root,tS e0] 70),(w.heap.size+1,.cells #[zN,zN] 221),(w.heap.size,.cells #[tS m1,tS m2] 70)]):=by
  rw[jZ,<-fJ];exact(b0.out.call a7.went).lay _
 have ha:Hid (∀t∈(([]++[Tie.rd ay (S now ay)])++[.ask ⟨0,root,e0⟩]++[.ask ⟨0,s1,s2⟩]),jB t):=fun t ht=>by
  simp only[jZ,mJ,aK,aQ,or_false] at ht;rcases ht with rfl|rfl|rfl
  ·exact⟨by show 2<=4;omega,aJ _,aJ _⟩
  ·exact⟨ck.out.2,aJ _⟩
  ·exact⟨b6.out.2.1,b6.out.2.2⟩
 clear ad an ak a8 a7 fb b0 hj gx;have h7:Hid ((([]++[Tie.rd ay (S now ay)])++[Tie.ask ⟨0,root,e0⟩]++[Tie.ask ⟨0,s1,s2⟩]).length=3):=rfl;generalize (([]++[Tie.rd ay (S now ay)])++[.ask ⟨0,root,e0⟩]++[.ask ⟨0,s1,s2⟩])=c6 at*;generalize (([]++b2)++db)=Wq at*;have kp:=qE pr m ra ya za m.R.length rc m.X.length yc m.S.length zc m1 (w4.alloc (.cells #[zI (pr:Nat),tS m.p,.slice ra m.R.length rc,.slice ya m.X.length yc,.slice za m.S.length zc] 216));obtain⟨⟨c0,_⟩,⟨c1,_⟩,⟨c2,_⟩,⟨c3,_⟩,⟨c4,_⟩⟩:=fd5 (bs.out.at (bE ..));obtain⟨⟨d0,_⟩,⟨d1,_⟩⟩:=fd2 (bs.out.at (b:=w.heap.size) (o:=.cells #[tS m1,tS m2] 70) (by simp))
 go_wp2_with (go_at_call 172;fail)
 generalize kg:w4.alloc (.cells #[zI (pr:Nat),tS m.p,.slice ra m.R.length rc,.slice ya m.X.length yc,.slice za m.S.length zc] 216)=W4 at*;clear kg;generalize w4.heap.size=b8 at*;go_at_call 172;refine kp.mono ?_;rintro e w5 ⟨rfl,bt⟩;have b1:Hid (Stp A S w B V Z T U mb now cap L cs D w5 A4 (counted cs Wq) D4 fu c6 [(b8,.cells #[zI (pr:Nat),tS m.p,.slice ra m.R.length rc,.slice ya m.X.length yc,.slice za m.S.length zc] 216),(b7,.cells #[tS s1,tS s2] 70),(Y,.cells #[tS rl.p,.slice a0 rl.R.length a1,.slice xa rl.X.length xc,.slice sa rl.S.length sc] 214),(b5,.cells #[tS root,tS e0] 70),(w.heap.size+1,.cells #[zN,zN] 221),(w.heap.size,.cells #[tS m1,tS m2] 70)]):=bs.out.below bt;have da:Hid (RdA A4 Sm.mc w5 (.slice xa rl.X.length xc) rl.X/\RdA A4 Sm.mc w5 (.slice ra m.R.length rc) m.R):=⟨cx.out.1.below bt,cx.out.2.below bt⟩;clear bt kp c0 c1 c2 c3 c4 d0 d1 bs cx;by_cases b3:dM (pr,m) m1=0
 ·have h9:Hid (Pre (fnd (S now) now r) (S now) D (df ⟨2,m1,m2⟩) D4 (br root rl.X (m.R.drop 0) [] []) c6 Wq):=by
   have h:=az.out;rw[ag (fun hh=>hh b3)] at h;exact h
  rw[b3];obtain⟨⟨c0,_⟩,⟨c1,_⟩,⟨c2,_⟩,⟨c3,_⟩,⟨c4,_⟩⟩:=fd5 ((b1.out.lay (.cells #[zN,zN] 221)).at (b:=b8) (o:=.cells #[zI (pr:Nat),tS m.p,.slice ra m.R.length rc,.slice ya m.X.length yc,.slice za m.S.length zc] 216) (by simp));clear az b3;have bn:Hid ((∀x∈m.R,x.1.size<=N48/\x.2.size<=N48)/\m.R.length<=2001):=⟨cf.out.1.R,cf.out.2⟩;clear cf;generalize hR:m.R=R at*;clear hR;generalize hN:R.length=N at*;have HN:Hid (R.length=N):=hN;have mi:N<=2001:=bn.out.2;clear hN;have kr:w5.heap.size+1=w5.heap.size+1:=rfl;have hf:Hid (Wt A S w B V Z T U mb now cap L cs D (fnd (S now) now r) (df ⟨2,m1,m2⟩) (w5.heap.size+1) (w.heap.size+1) b5 Y w5.heap.size root rl (.slice a0 rl.R.length a1) (.slice xa rl.X.length xc) (.slice sa rl.S.length sc) (.slice ra N rc) R (w5.alloc (.cells #[zN,zN] 221)) (br root rl.X (R.drop 0) [] []) (fun b=>A4 b\/b=w5.heap.size) D4 fu c6 Wq [] [] (zN) (zN)):=Wt.start b1.out (by simp) (by simp) (by simp) da.out.1 da.out.2 h4.out h9.out ha.out;clear b1 da h9 kr;go_wp2;generalize w5.alloc (.cells #[zN,zN] 221)=W6 at*;generalize w5.heap.size=wb at*;clear c0 c1 c2 c3 c4
  go_loopg [45] N (fun gg s wr=>∃(i:Nat)(A2:Nat->Prop)(D':List Kp)(d:zV)(Q:List Tie)(O:List Qn)(ms:List Mo)(ps:List Pb)(mv pv:zV),i<=N/\N-i<=gg/\s=zI i/\Hid (Wt A S w B V Z T U mb now cap L cs D (fnd (S now) now r) (df ⟨2,m1,m2⟩) (wb+1) (w.heap.size+1) b5 Y wb root rl (.slice a0 rl.R.length a1) (.slice xa rl.X.length xc) (.slice sa rl.S.length sc) (.slice ra N rc) R wr (br root rl.X (R.drop i) ms ps) A2 D' d Q O ms ps mv pv)/\Hid (Q.length<=3+i/\ms.length<=i/\ps.length<=i))
  case atStart=>exact⟨0,_,_,_,_,_,_,_,_,_,by omega,by omega,rfl,hf,⟨by rw[h7.out];exact ah _,ah _,ah _⟩⟩
  case round=>
   obtain⟨i,A2,D',d,Q,O,ms,ps,mv,pv,hi,hg,rfl,HW,HC⟩:=hrel;clear hf;by_cases ds:i<N
   ·have kj:((i:Nat):Int)<(N:Int):=by omega
    obtain⟨bR,oR,cR,eg,hx⟩:=RdA.at HW.out.rr gX (by decide) (ae _ _) i (by rw[HN.out];exact ds);injection eg with k5 k6 k7;have x0:=hx 0 _ rfl;have x1:=hx 1 _ rfl;have b4:Hid (R[i]?=some R[i]/\R[i].1.size<=N48/\R[i].2.size<=N48):=⟨aZ (by rw[HN.out];exact ds),bn.out.1 _ (ez _)⟩;generalize R[i]'(by rw[HN.out];exact ds)=y at*;obtain⟨y0,y1⟩:=y;rw[Nat.add_zero] at x0;simp only at x0 x1;subst k5;clear hx k6 k7;go_upto_region 12 with fail;have b9:Hid (Wt A S w B V Z T U mb now cap L cs D (fnd (S now) now r) (df ⟨2,m1,m2⟩) (wb+1) (w.heap.size+1) b5 Y wb root rl (.slice a0 rl.R.length a1) (.slice xa rl.X.length xc) (.slice sa rl.S.length sc) (.slice (some (tD bR oR)) N rc) R (wr.alloc (.cells #[tS y0,tS y1] 70)) (br root rl.X (R.drop i) ms ps) A2 D' d Q O ms ps mv pv):=HW.out.below ((ae _ _).alloc (ah _) _);have av:Hid (Lc w.heap.size d (wr.alloc (.cells #[tS y0,tS y1] 70)) wr.heap.size (.cells #[tS y0,tS y1] 70)):=Lc.new wr _ HW.out.went.f.size HW.out.tvlt;clear x0 x1 HW;generalize wr.alloc (.cells #[tS y0,tS y1] 70)=W2 at*;generalize wr.heap.size=I at*;obtain⟨⟨x0,_⟩,⟨x1,_⟩⟩:=fd2 av.out.h;obtain⟨⟨jx,_⟩,_⟩:=fd2 b9.out.l5.h;by_cases he:y0=root
    ·have js:Hid (Wt A S w B V Z T U mb now cap L cs D (fnd (S now) now r) (df ⟨2,m1,m2⟩) (wb+1) (w.heap.size+1) b5 Y wb root rl (.slice a0 rl.R.length a1) (.slice xa rl.X.length xc) (.slice sa rl.S.length sc) (.slice (some (tD bR oR)) N rc) R W2 (br root rl.X (R.drop (i+1)) ms ps) A2 D' d Q O ms ps mv pv):=by
      have h:=b9.out;rw[Jw b4.out.1 he] at h;exact h
     have q0:(y0.toList==root.toList)=true:=by rw[he];simp
     have hC:=HC.out;clear b9 he;go_wp2;go_roundg (N-(i+1))
     case measure=>omega
     case rel=>exact⟨i+1,_,_,_,_,_,_,_,_,_,by omega,by omega,by go_num,js,⟨by omega,by omega,by omega⟩⟩
    ·have q0:=Rn.dm he
     go_upto_region 13 with fail
     have a4:Hid (Wt A S w B V Z T U mb now cap L cs D (fnd (S now) now r) (df ⟨2,m1,m2⟩) (wb+1) (w.heap.size+1) b5 Y wb root rl (.slice a0 rl.R.length a1) (.slice xa rl.X.length xc) (.slice sa rl.S.length sc) (.slice (some (tD bR oR)) N rc) R W2 (.ask ⟨1,y0,e0⟩ fun f=>yG root rl.X (R.drop (i+1)) ms ps (choose (y0,y1) (px f) rl.X)) A2 D' d Q O ms ps mv pv):=by
      have h:=b9.out;rw[LX b4.out.1 he] at h;exact h
     have mj:=bn.out.2;have ka:=HN.out;have hC:=HC.out;have ja:Hid (D'.length+grow r<=N15):=Ec a4.out.pre HD.out (by omega)
     have iv:Z<w.heap.size/\U<w.heap.size/\V<w.heap.size:=by
      have h1:=a4.out.h0.lt;have h2:=a4.out.h0.hB;have h3:=a4.out.h0.task.t0.lt;omega
     have bb:Hid (∀W,zB W2 W->zC 174 #[zP V,tS y0] W fun e G=>∃M J pr ua uc vs kk l a6,e=.returned (.agg #[zI (pr:Nat),.slice ua vs.length uc])/\K13 A2 S B V Z T U mb now cap L r W2 W G (counted cs O) D' d Q y0 y1 xa xc rl.X I Y (.cells #[tS y0,tS y1] 70) (.cells #[tS rl.p,.slice a0 rl.R.length a1,.slice xa rl.X.length xc,.slice sa rl.S.length sc] 214) M J pr ua uc vs kk l a6):=fun W hb=>Jx cd.out y0 y1 b4.out.2.1 ja.out W2 a4.out.went.t (by omega) a4.out.rx ch.out.2.1 iv av.out a4.out.l6 W hb
     have bm:Hid (Kq I Y W2.heap.size (.cells #[tS y0,tS y1] 70) (.cells #[tS rl.p,.slice a0 rl.R.length a1,.slice xa rl.X.length xc,.slice sa rl.S.length sc] 214) W2):=⟨av.out.h,a4.out.l6.h,ah _,av.out.lt,a4.out.l6.lt⟩;clear jx x0 x1 b9 he q0 iv
     go_cut [13,14] (fun ky l0 wx=>∃dj dk,ky=zP dj/\l0=zP dk/\Hid (R13 A2 S B V Z T U mb now cap L r W2 (counted cs O) D' d Q y0 y1 rl.X wx dj dk))
     case first=>
      have h8:Hid (∀W,Kq I Y W2.heap.size (.cells #[tS y0,tS y1] 70) (.cells #[tS rl.p,.slice a0 rl.R.length a1,.slice xa rl.X.length xc,.slice sa rl.S.length sc] 214) W->W.cell? (tD I 0)=some (tS y0)/\W.cell? (tD I 1)=some (tS y1)/\W.cell? (tD Y 2)=some (.slice xa rl.X.length xc)):=fun W hk=>⟨(fd2 hk.h12).1.1,(fd2 hk.h12).2.1,(fd4 hk.h6).2.2.1.1⟩
      obtain⟨p0,p1,p2⟩:=h8.out W2 bm.out
      go_region_held3 (fun w'=>w'.cell? (tD I 0)=some (tS y0)/\w'.cell? (tD I 1)=some (tS y1)/\w'.cell? (tD Y 2)=some (.slice xa rl.X.length xc))
       (first|with_reducible exact⟨p0,p1,p2⟩|(with_reducible refine h8.out _ ?_;repeat' first|with_reducible exact bm.out|with_reducible exact fa|with_reducible exact a7|with_reducible refine Kq.alloc ?_ _|with_reducible refine Kq.drew ?_|(with_reducible refine Kq.set ?_ (by first|exact ah _|exact cE _|exact SC|exact Nat.le_succ_of_le SC|exact SD|exact Nat.le_succ_of_le SD) _)))
       (first
        |(go_at_call 174;refine(bb.out _ (by first|with_reducible exact(ae _ _).drew|with_reducible exact(ax (ae _ _) _).drew|with_reducible exact(ax (ax (ae _ _) _) _).drew)).mono ?_;rintro e G ⟨M,J,pr,ua,uc,vs,kk,l,a6,rfl,bi,fa,T8⟩;have SC:=fa.le;(first|with_reducible have hz:=Jz bi.1.stay|(with_reducible have hz:=Jy bi.1.stay;obtain⟨T9,Ua⟩:=LZ hz)|skip))
        |(go_at_call 173;refine(T8 _ (by first|with_reducible exact ae _ _|with_reducible exact ax (ae _ _) _|with_reducible exact ax (ax (ae _ _) _) _)).mono ?_;rintro e w4 ⟨m,p,rfl,dq,bf⟩;have Cb:zB G w4:=(by first|with_reducible exact bf|with_reducible exact(ax (ae G.heap.size G) _).trans (bf.mono (by simp))|with_reducible exact(ax (ax (ae G.heap.size G) _) _).trans (bf.mono (by simp;omega)));have a7:=fa.below Cb;have SD:=a7.le;(first|(with_reducible have aq:=uZ ((Cb.block _ (af hz.1)).trans hz.1);with_reducible have fm:=vd ((Cb.block _ (af hz.2)).trans hz.2);obtain⟨⟨⟨fv,g0⟩,⟨g2,g3⟩⟩,⟨g4,g5⟩,⟨g6,g7⟩,c8,c9⟩:=aq;obtain⟨⟨⟨la,lb⟩,⟨lc,ld⟩,⟨n2,n3⟩⟩,⟨lk,lm⟩,⟨ln,lp⟩,⟨n4,n5⟩,j6,j7⟩:=fm)|(with_reducible have aq:=vd ((Cb.block _ (af hz.1)).trans hz.1);with_reducible have fm:=uZ ((Cb.block _ (af hz.2)).trans hz.2);obtain⟨⟨⟨fv,g0⟩,⟨g2,g3⟩,⟨l3,l7⟩⟩,⟨g4,g5⟩,⟨g6,g7⟩,⟨l8,l9⟩,c8,c9⟩:=aq;obtain⟨⟨⟨la,lb⟩,⟨lc,ld⟩⟩,⟨lk,lm⟩,⟨ln,lp⟩,j6,j7⟩:=fm)|(with_reducible have aq:=uZ ((Cb.block _ (af hz)).trans hz);obtain⟨⟨⟨fv,g0⟩,⟨g2,g3⟩⟩,⟨g4,g5⟩,⟨g6,g7⟩,c8,c9⟩:=aq)|(with_reducible have aq:=vd ((Cb.block _ (af hz)).trans hz);obtain⟨⟨⟨fv,g0⟩,⟨g2,g3⟩,⟨l3,l7⟩⟩,⟨g4,g5⟩,⟨g6,g7⟩,⟨l8,l9⟩,c8,c9⟩:=aq)|skip);(first|(with_reducible have ks:=Oz bf;obtain⟨L5,SE⟩:=ks;first|(with_reducible have au:=uZ L5;with_reducible have fs:=vd SE;obtain⟨⟨⟨g8,g9⟩,⟨ga,gb⟩⟩,⟨gd,gm⟩,⟨gn,gs⟩,ca,cb⟩:=au;obtain⟨⟨⟨m3,m4⟩,⟨m5,m6⟩,⟨n6,n7⟩⟩,⟨m7,m8⟩,⟨m9,md⟩,⟨n8,n9⟩,j8,j9⟩:=fs)|(with_reducible have au:=vd L5;with_reducible have fs:=uZ SE;obtain⟨⟨⟨g8,g9⟩,⟨ga,gb⟩,⟨lr,ls⟩⟩,⟨gd,gm⟩,⟨gn,gs⟩,⟨lv,m0⟩,ca,cb⟩:=au;obtain⟨⟨⟨m3,m4⟩,⟨m5,m6⟩⟩,⟨m7,m8⟩,⟨m9,md⟩,j8,j9⟩:=fs))|(with_reducible have L5:=Oy bf;first|(with_reducible have au:=uZ L5;obtain⟨⟨⟨g8,g9⟩,⟨ga,gb⟩⟩,⟨gd,gm⟩,⟨gn,gs⟩,ca,cb⟩:=au)|(with_reducible have au:=vd L5;obtain⟨⟨⟨g8,g9⟩,⟨ga,gb⟩,⟨lr,ls⟩⟩,⟨gd,gm⟩,⟨gn,gs⟩,⟨lv,m0⟩,ca,cb⟩:=au))|skip)))
      all_goals
       go_wp2_with fail
       go_meet
       refine⟨_,_,rfl,rfl,M,J,pr,vs,kk,l,a6,m,p,bi.1.back _ ?_,⟨bi.1.fnd,bi.2,dq⟩,⟨?_,?_⟩,?_,?_,?_⟩
       ·repeat' first|with_reducible exact ai.of_below Cb|with_reducible refine ai.alloc ?_ _|with_reducible refine ai.set ?_ ?_ _|(intro h;first|exact⟨ah _,by first|(simp;done)|(simp;omega)⟩|exact⟨cE _,by first|(simp;done)|(simp;omega)⟩|(exfalso;have U5:=Cb.size;revert h;dsimp only;omega))
       all_goals
        repeat' first|((with_reducible refine eu _ _ _ ?_);rfl)|((with_reducible refine AF _ _ _ _ ?_);rfl)|with_reducible refine Q6 ?_ _|with_reducible refine Ed.Fd.set ?_ (by decide)|with_reducible refine Fd.alloc ?_ _|with_reducible refine Fd.far ?_ ?_|((with_reducible refine OA _ _ _ ?_);rfl)|((with_reducible refine SF _ _ _ _ ?_);rfl)|with_reducible refine Has.put ?_|with_reducible refine Has.alloc ?_ _|with_reducible refine Has.far ?_ ?_|(with_reducible refine Has.of (u:=zE) ?_ ?_<;>with_reducible assumption)|(with_reducible refine Has.of (u:=zI 0) ?_ ?_<;>with_reducible assumption)|with_reducible exact Nat.succ_ne_self _|with_reducible exact(Nat.succ_ne_self _).symm|with_reducible exact jd T9|with_reducible exact jd Ua|with_reducible exact jd c8|with_reducible exact jd c9|with_reducible exact jd j6|with_reducible exact jd j7|with_reducible exact jd ca|with_reducible exact jd cb|with_reducible exact jd j8|with_reducible exact jd j9
     case rest=>
      obtain⟨dj,dk,i4,i5,cc⟩:=hcut;rw[i4,i5];clear i4 i5;obtain⟨M,J,kv,vs,kk,l,a6,mm,p,yI,⟨Q7,a8,dq⟩,⟨k0,k1⟩,k2,k3,k4⟩:=cc.out
      have aa:Hid (Wt A S w B V Z T U mb now cap L cs D (fnd (S now) now r) (df ⟨2,m1,m2⟩) (wb+1) (w.heap.size+1) b5 Y wb root rl (.slice a0 rl.R.length a1) (.slice xa rl.X.length xc) (.slice sa rl.S.length sc) (.slice (some (tD bR oR)) N rc) R wc (yG root rl.X (R.drop (i+1)) ms ps (choose (y0,y1) (kv,vs) rl.X)) M l J (Q++[.ask ⟨1,y0,e0⟩]) (O++a6) ms ps mv pv):=by
       have h:=a4.out.asked yI Q7 ⟨b4.out.2.1,aJ _⟩;rw[a8] at h;exact h
      have j5:=kN a4.out.went.t.eng.inv Q7 (aJ _) (by show 1<=4;omega) yI.t.eng.ok
      have cp:Hid (∀x∈vs,x.size<=N48):=by
       have h1:=j5.2.f;rw[a8] at h1;exact h1
      obtain⟨ma,mc,em⟩:=aC aa.out.mr.row;obtain⟨pa,pc,ep⟩:=aC aa.out.pr.row;subst em;subst ep;obtain⟨⟨c0,i0⟩,⟨hr,i1⟩⟩:=fd2 aa.out.lw.h;obtain⟨u0,u1⟩:=mm;obtain⟨pk,pp,pw⟩:=p;have d0:=k0.1;have d1:=k1.1;have d2:=k2.1;have d3:=k3.1;have d4:=k4.1;simp only at d0 d1 d2 d3 d4;clear yI Q7 a8 j5 k0 k1 k2 k3 k4 cc;rcases dq with⟨hc,hp⟩|⟨hc,hm,hp⟩
      ·have jn:Hid (u0.size<=N48/\u1.size<=N48):=by
        have h1:=yl hc;exact⟨by rw[show u0=y0 from h1.1];exact b4.out.2.1,cp.out u1 h1.2⟩
       have ab:Hid (Wt A S w B V Z T U mb now cap L cs D (fnd (S now) now r) (df ⟨2,m1,m2⟩) (wb+1) (w.heap.size+1) b5 Y wb root rl (.slice a0 rl.R.length a1) (.slice xa rl.X.length xc) (.slice sa rl.S.length sc) (.slice (some (tD bR oR)) N rc) R wc (br root rl.X (R.drop (i+1)) (ms++[(u0,u1)]) ps) M l J (Q++[.ask ⟨1,y0,e0⟩]) (O++a6) ms ps (.slice ma ms.length mc) (.slice pa ps.length pc)):=by
        have h:=aa.out;rw[hc] at h;exact h
       injection hp with kn fd;injection fd with fd kq;subst kn;subst fd;subst kq;clear aa hc cp d3 d4;have bk:∀j u,([tS u0,tS u1]:List zV)[j]?=some u->(wc.alloc (.cells #[tS u0,tS u1] 70)).cell? (((tD wc.heap.size 0):Addr).add j)=some u:=cell_two_new wc 70 _ _;have fk:(wc.alloc (.cells #[tS u0,tS u1] 70)).heap.size=wc.heap.size+1:=by simp
       have a5:Hid (Wt A S w B V Z T U mb now cap L cs D (fnd (S now) now r) (df ⟨2,m1,m2⟩) (wb+1) (w.heap.size+1) b5 Y wb root rl (.slice a0 rl.R.length a1) (.slice xa rl.X.length xc) (.slice sa rl.S.length sc) (.slice (some (tD bR oR)) N rc) R (wc.alloc (.cells #[tS u0,tS u1] 70)) (br root rl.X (R.drop (i+1)) (ms++[(u0,u1)]) ps) M l J (Q++[.ask ⟨1,y0,e0⟩]) (O++a6) ms ps (.slice ma ms.length mc) (.slice pa ps.length pc)):=ab.out.below ((ae _ _).alloc (ah _) _);have km:=ab.out.hn
       go_wp2_with (at_builtin;refine dG _ rfl _ _ 33 rfl (wb+1) 70 i2 (.agg #[zE,zE]) 2 32 underlying33 HI.out.1 HI.out.2.1 HI.out.2.2.1 HI.out.2.2.2 rfl (by decide) (.slice ma ms.length mc) ms.length (mcs ms) rfl a5.out.mr.row (tD wc.heap.size 0) 1 1 [tS u0,tS u1] rfl rfl bk ?_ ?_ ?_ ?_ ?_)
       all_goals first
        |(show ∀u∈([tS u0,tS u1]:List zV),u.oneCell'=true;intro u hu;simp at hu;rcases hu with rfl|rfl<;>rfl)
        |exact⟨rfl,rfl⟩
        |(show ms.length+1<=maxLen;unfold maxLen;omega)
        |(show(ms.length+1)*32<=140737488355328;omega)
        |(show wb+1<=(wc.alloc _).heap.size;rw[fk];omega)
        |(show wb+1<=wc.heap.size+1;omega)
        |(show wb<=wc.heap.size;omega)
        |skip
       intro kt w5 a3 a2 _ a9;obtain⟨g1,c1,rfl⟩:=dT a3 (by omega)
       have bd:∀b',(Value.slice (some (tD g1 0)) (ms.length+1) c1).ownBlock=some b'->(Value.slice ma ms.length mc).ownBlock=some b'\/(wc.alloc (.cells #[tS u0,tS u1] 70)).heap.size<=b':=fun b' e=>by
        rcases a9 with e2|e2
        ·exact oE (by rw[<-e2];exact e)
        ·right
         rw[e2] at e;have e3:(wc.alloc (.cells #[tS u0,tS u1] 70)).heap.size=b':=by simpa using e
         omega
       have HN:Hid (Wt A S w B V Z T U mb now cap L cs D (fnd (S now) now r) (df ⟨2,m1,m2⟩) (wb+1) (w.heap.size+1) b5 Y wb root rl (.slice a0 rl.R.length a1) (.slice xa rl.X.length xc) (.slice sa rl.S.length sc) (.slice (some (tD bR oR)) N rc) R (w5.setCell (tD wb 0) (.slice (some (tD g1 0)) (ms.length+1) c1)) (br root rl.X (R.drop (i+1)) (ms++[(u0,u1)]) ps) (fun b=>M b\/((Value.slice (some (tD g1 0)) (ms.length+1) c1).ownBlock=some b/\(wc.alloc (.cells #[tS u0,tS u1] 70)).heap.size<=b)) l J (Q++[.ask ⟨1,y0,e0⟩]) (O++a6) (ms++[(u0,u1)]) ps (.slice (some (tD g1 0)) (ms.length+1) c1) (.slice pa ps.length pc)):=a5.out.putM (m:=(u0,u1)) a2 (by simpa[mcs,Sm.mc] using a3) bd jn.out
       have bc:w5.heap[wb]?=some (.cells #[.slice ma ms.length mc,.slice pa ps.length pc] 221):=by
        have hT:ai (fun b=>(Value.slice ma ms.length mc).ownBlock=some b) (wc.alloc (.cells #[tS u0,tS u1] 70)) w5:=(ai.refl _ _).grown a2 (fun b _ e=>e);rw[hT.block wb a5.out.lw.lt (fun e=>by have:=(a5.out.mr.row.lt wb e).1;omega)];exact a5.out.lw.h
       obtain⟨⟨hv,k8⟩,⟨hy,k9⟩⟩:=fd2 bc;have hC:=HC.out;clear a3 a2 a9 bd bc bk a5 ab c0 hr d0 d1 i0 i1 a4 bm bb;go_wp2;go_roundg (N-(i+1))
       case measure=>omega
       case rel=>exact⟨i+1,_,_,_,_,_,_,_,_,_,by omega,by omega,by go_num,HN,⟨by rw[aU,fA];omega,by rw[aU,fA];omega,by omega⟩⟩
      ·have ab:Hid (Wt A S w B V Z T U mb now cap L cs D (fnd (S now) now r) (df ⟨2,m1,m2⟩) (wb+1) (w.heap.size+1) b5 Y wb root rl (.slice a0 rl.R.length a1) (.slice xa rl.X.length xc) (.slice sa rl.S.length sc) (.slice (some (tD bR oR)) N rc) R wc (br root rl.X (R.drop (i+1)) ms (ps++[(pk,pp,pw)])) M l J (Q++[.ask ⟨1,y0,e0⟩]) (O++a6) ms ps (.slice ma ms.length mc) (.slice pa ps.length pc)):=by
        have h:=aa.out;rw[hc] at h;exact h
       have q1:(((pk:Nat):Int)==0)=false:=int_ne (b:=0) hp;clear aa hc cp hm hp;have bk:∀j u,([zI (pk:Nat),tS pp,tS pw]:List zV)[j]?=some u->(wc.alloc (.cells #[zI (pk:Nat),tS pp,tS pw] 95)).cell? (((tD wc.heap.size 0):Addr).add j)=some u:=fF wc _ _ _ 95;have fk:(wc.alloc (.cells #[zI (pk:Nat),tS pp,tS pw] 95)).heap.size=wc.heap.size+1:=by simp
       have a5:Hid (Wt A S w B V Z T U mb now cap L cs D (fnd (S now) now r) (df ⟨2,m1,m2⟩) (wb+1) (w.heap.size+1) b5 Y wb root rl (.slice a0 rl.R.length a1) (.slice xa rl.X.length xc) (.slice sa rl.S.length sc) (.slice (some (tD bR oR)) N rc) R (wc.alloc (.cells #[zI (pk:Nat),tS pp,tS pw] 95)) (br root rl.X (R.drop (i+1)) ms (ps++[(pk,pp,pw)])) M l J (Q++[.ask ⟨1,y0,e0⟩]) (O++a6) ms ps (.slice ma ms.length mc) (.slice pa ps.length pc)):=ab.out.below ((ae _ _).alloc (ah _) _);have km:=ab.out.hn
       go_wp2_with (at_builtin;refine dG _ rfl _ _ 34 rfl (wb+1) 95 i3 (.agg #[zI 0,zE,zE]) 3 40 underlying34 HJ.out.1 HJ.out.2.1 HJ.out.2.2.1 HJ.out.2.2.2 rfl (by decide) (.slice pa ps.length pc) ps.length (ps.flatMap aW) rfl a5.out.pr.row (tD wc.heap.size 0) 1 1 [zI (pk:Nat),tS pp,tS pw] rfl rfl bk ?_ ?_ ?_ ?_ ?_)
       all_goals first
        |(show ∀u∈([zI (pk:Nat),tS pp,tS pw]:List zV),u.oneCell'=true;intro u hu;simp at hu;rcases hu with rfl|rfl|rfl<;>rfl)
        |exact⟨rfl,rfl,rfl⟩
        |(show ps.length+1<=maxLen;unfold maxLen;omega)
        |(show(ps.length+1)*40<=140737488355328;omega)
        |(show wb+1<=(wc.alloc _).heap.size;rw[fk];omega)
        |(show wb+1<=wc.heap.size+1;omega)
        |(show wb<=wc.heap.size;omega)
        |skip
       intro kt w5 a3 a2 _ a9;obtain⟨g1,c1,rfl⟩:=dT a3 (by omega)
       have bd:∀b',(Value.slice (some (tD g1 0)) (ps.length+1) c1).ownBlock=some b'->(Value.slice pa ps.length pc).ownBlock=some b'\/(wc.alloc (.cells #[zI (pk:Nat),tS pp,tS pw] 95)).heap.size<=b':=fun b' e=>by
        rcases a9 with e2|e2
        ·exact oE (by rw[<-e2];exact e)
        ·right
         rw[e2] at e;have e3:(wc.alloc (.cells #[zI (pk:Nat),tS pp,tS pw] 95)).heap.size=b':=by simpa using e
         omega
       have HN:Hid (Wt A S w B V Z T U mb now cap L cs D (fnd (S now) now r) (df ⟨2,m1,m2⟩) (wb+1) (w.heap.size+1) b5 Y wb root rl (.slice a0 rl.R.length a1) (.slice xa rl.X.length xc) (.slice sa rl.S.length sc) (.slice (some (tD bR oR)) N rc) R (w5.setCell (tD wb 1) (.slice (some (tD g1 0)) (ps.length+1) c1)) (br root rl.X (R.drop (i+1)) ms (ps++[(pk,pp,pw)])) (fun b=>M b\/((Value.slice (some (tD g1 0)) (ps.length+1) c1).ownBlock=some b/\(wc.alloc (.cells #[zI (pk:Nat),tS pp,tS pw] 95)).heap.size<=b)) l J (Q++[.ask ⟨1,y0,e0⟩]) (O++a6) ms (ps++[(pk,pp,pw)]) (.slice ma ms.length mc) (.slice (some (tD g1 0)) (ps.length+1) c1)):=a5.out.putP (p:=(pk,pp,pw)) a2 (by simpa[aW] using a3) bd
       have bc:w5.heap[wb]?=some (.cells #[.slice ma ms.length mc,.slice pa ps.length pc] 221):=by
        have hT:ai (fun b=>(Value.slice pa ps.length pc).ownBlock=some b) (wc.alloc (.cells #[zI (pk:Nat),tS pp,tS pw] 95)) w5:=(ai.refl _ _).grown a2 (fun b _ e=>e);rw[hT.block wb a5.out.lw.lt (fun e=>by have:=(a5.out.pr.row.lt wb e).1;omega)];exact a5.out.lw.h
       obtain⟨⟨hv,k8⟩,⟨hy,k9⟩⟩:=fd2 bc;have hC:=HC.out;clear a3 a2 a9 bd bc bk a5 ab c0 hr d0 d1 i0 i1 a4 bm bb;go_wp2;go_roundg (N-(i+1))
       case measure=>omega
       case rel=>exact⟨i+1,_,_,_,_,_,_,_,_,_,by omega,by omega,by go_num,HN,⟨by rw[aU,fA];omega,by omega,by rw[aU,fA];omega⟩⟩
   ·have kj:(((i:Nat):Int)<(N:Int))=False:=by simp;omega
    have ki:i=N:=by omega
    subst ki
    have HE:Hid (Wt A S w B V Z T U mb now cap L cs D (fnd (S now) now r) (df ⟨2,m1,m2⟩) (wb+1) (w.heap.size+1) b5 Y wb root rl (.slice a0 rl.R.length a1) (.slice xa rl.X.length xc) (.slice sa rl.S.length sc) (.slice ra i rc) R wr (.ret (.wants ms ps)) A2 D' d Q O ms ps mv pv):=by
     have h:=HW.out;rw[<-HN.out,LY] at h;rw[<-HN.out];exact h
    have mu:=bn.out.2;have ka:=HN.out;have hC:=HC.out;obtain⟨ma,mc,em⟩:=aC HE.out.mr.row;obtain⟨pa,pc,ep⟩:=aC HE.out.pr.row;subst em;subst ep;obtain⟨⟨c0,_⟩,⟨c1,_⟩⟩:=fd2 HE.out.lw.h;obtain⟨⟨d0,f0⟩,⟨d1,f1⟩⟩:=fd2 HE.out.l4.h;go_wp2;refine aI (bG results154 _ _ (w.heap.size+1) 221 _ (0,0) _ rfl (gM HE.out.l4.h _ _) underlying221 rfl (by kernel_rfl)) rfl ?_;exact⟨_,rfl,HE.out.done (by omega)⟩
 ·have jt:Hid (Pre (fnd (S now) now r) (S now) D (df ⟨2,m1,m2⟩) D4 (.ret (.wants [] [(dM (pr,m) m1,s1,s2)])) c6 Wq):=by
   have h:=az.out;rw[aj b3] at h;exact h
  have q0:(((dM (pr,m) m1:Nat):Int)==0)=false:=int_ne (b:=0) b3;clear az b3;generalize dM (pr,m) m1=pq at*;obtain⟨⟨c0,_⟩,⟨c1,_⟩⟩:=fd2 (b1.out.at (b:=b7) (o:=.cells #[tS s1,tS s2] 70) (by simp));have hq:Hid ((w5.alloc (.cells #[zI (pq:Nat),tS s1,tS s2] 95)).heap[w.heap.size+1]?=some (.cells #[zN,zN] 221)):=((b1.out.lay _).at (by simp));obtain⟨⟨hv,f0⟩,⟨hy,f1⟩⟩:=fd2 hq.out;go_wp2;refine aI (bG results154 _ _ (w.heap.size+1) 221 _ (0,0) _ rfl (gM hq.out _ _) underlying221 rfl (by kernel_rfl)) rfl ?_;exact⟨_,rfl,b1.out.bad (by simp) h4.out jt.out ha.out (by rw[h7.out];omega)⟩
