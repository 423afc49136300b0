import Derived.Test.YtooabooekgphpaaGreatDoorKPMJ
set_option linter.all false
open Go.Proofs.Tryz
set_option maxRecDepth 100000
set_option maxHeartbeats 20000000
namespace Go.Proofs.YtooabooekgphpaaGreatDoor
open Go.RowKit
namespace Pn
open Mf Ed
variable{A A1 A2 A3:Nat->Prop}{S:Nat->Shf}{w w' wr wx W W1 w1 w2 I wf:zW}{V E T mb G:Nat}{cap:Int}{Y j0 j3:List Int}{D D' D1 D2 D3:List Kp}{L L':List (zV×zV)}{B O:Nat}{tv j1 j2 Q:zV}{ts Z j4:List Tie}{q:Qn}{k kk:Kp}{F:Find}{g:Nat}{n n1 b:Nat}{o:Obj}{M:List Qn}
structure Kq(J U n:Nat)(d o6:Obj)(W:World):Prop where
 h12:W.heap[J]?=some d
 h6:W.heap[U]?=some o6
 le:n<=W.heap.size
 lt:J<n/\U<n
variable{J U:Nat}{d o6:Obj}
theorem Kq.below(h:Kq J U n d o6 W)(hb:zB W W1):Kq J U n d o6 W1:=
 ⟨(hb.block _ (bE h.lt.1 h.le)).trans h.h12,(hb.block _ (bE h.lt.2 h.le)).trans h.h6,aO h.le hb.size,h.lt⟩
theorem Kq.alloc(h:Kq J U n d o6 W)(o:Obj):Kq J U n d o6 (W.alloc o):=h.below ((ae _ _).alloc (af _) o)
theorem Kq.drew(h:Kq J U n d o6 W):Kq J U n d o6 W.drew:=h.below ((ae _ _).drew)
theorem Kq.set(h:Kq J U n d o6 W){a:Addr}(ha:n<=a.block)(u:zV):Kq J U n d o6 (W.setCell a u):=by
 have hl:=h.lt;refine⟨?_,?_,?_,h.lt⟩
 ·rw[aM _ _ _ _ (by omega)];exact h.h12
 ·rw[aM _ _ _ _ (by omega)];exact h.h6
 have:=h.le;simpa[World.setCell] using this
theorem Dm{r:Nat}{s:Shf}{cm c:Cm Fi}(h:Pre (fnd s G r) s D cm D' c Z M)(hD:D.length+10000*grow r<=N15)(a0:Z.length<=9999):D'.length+grow r<=N15:=by
 have h1:=sj (lI s G r) h;have h2:=eG (grow r) a0;omega
structure Md(A2:Nat->Prop)(S:Nat->Shf)(B O V E T mb G:Nat)(cap:Int)(L:List (zV×zV))(r:Nat)(W2 W I:World)(Y:List Int)(D:List Kp)(tv:zV)(ts:List Tie)(p:zA)(A3:Nat->Prop)(Q:zV)(kk:Kp)(D3:List Kp)(M:List Qn):Prop where
 back:∀wf,ai (fun b=>W2.heap.size<=b/\b<W.heap.size) I wf->dH A2 S W2 B O V E T mb G cap L tv wf A3 (counted Y M) D3 Q (ts++[.ask ⟨1,p,e0⟩])
 fnd:fnd (S G) G r D ⟨1,p,e0⟩ kk D3 M
 stay:∀b,W2.heap.size<=b->b<W.heap.size->I.heap[b]?=W.heap[b]?
 size:W.heap.size<=I.heap.size
theorem Dn{a0:zA}:∀{l l':List zA},gL a0 l=some l'->∀x∈l',x∈l
 |[],l',h=>by simp[gL] at h
 |v::r,l',h=>by
  unfold gL at h
  split at h
  ·injection h with h;rw[<-h];exact fun x hx=>hx
  exact fun x hx=>cr _ (Dn h x hx)
theorem px{X:List Mo}{p:zA}:∀{l:List zA} {m:Mo},cK X p l=some m->m.1=p/\m.2∈l
 |[],m,h=>by simp[cK] at h
 |v::r,m,h=>by
  unfold cK at h
  split at h
  ·exact⟨(px h).1,cr _ (px h).2⟩
  injection h with h;rw[<-h];exact⟨rfl,bo ..⟩
theorem Fu{rq:Mo}{x:Nat×List zA}{X:List Mo}{m:Mo}(h:choose rq x X=.inl m):m.1=rq.1/\m.2∈x.2:=by
 unfold choose at h
 split at h
 ·cases h
 cases h1:gL rq.2 x.2 with
 |none=>rw[h1] at h;cases h
 |some l=>
  rw[h1] at h;cases h2:cK X rq.1 l with
  |none=>simp only[h2] at h;cases h
  |some m'=>
   simp only[h2] at h;injection h with h;rw[<-h];exact⟨(px h2).1,Dn h1 _ (px h2).2⟩
def K13(A2:Nat->Prop)(S:Nat->Shf)(B O V E T mb G:Nat)(cap:Int)(L:List (zV×zV))(r:Nat)(W2 W I:zW)(Y:List Int)(D:List Kp)(tv:zV)(ts:List Tie)(y0 y1:zA)(xa:Option Addr)(xc:Nat)(X:List Mo)(J U:Nat)(d o6:Obj)(A3:Nat->Prop)(Q:zV)(pr:Nat)(ua:Option Addr)(uc:Nat)(vs:List zA)(kk:Kp)(D3:List Kp)(M:List Qn):Prop:=
 (Md A2 S B O V E T mb G cap L r W2 W I Y D tv ts y0 A3 Q kk D3 M/\kk.f=.idx pr vs)/\Kq J U W2.heap.size d o6 I/\
  ∀W',zB I W'->zC 162 #[.agg #[tS y0,tS y1],.agg #[zI (pr:Nat),.slice ua vs.length uc],.slice xa X.length xc] W' fun e w'=>∃m p,e=.returned (.tuple #[.agg #[tS m.1,tS m.2],.agg #[zI (p.1:Nat),tS p.2.1,tS p.2.2]])/\uV (y0,y1) (pr,vs) X m p/\zB W' w'
theorem IZ{r:Nat}(hF:eC S V E T mb G cap L r)(y0 y1:zA)(hp:y0.size<=N48)(hD:D.length+grow r<=N15)(W2:zW)(h:Tsk A2 S W2 B O V E T mb G cap Y D L tv ts)(a3:ts.length<=9999){xa:Option Addr}{xc:Nat}{X:List Mo}(hx:RdA A2 Sm.mc W2 (.slice xa X.length xc) X)(hX:X.length<=100000)(hn:V<n/\T<n/\O<n)(a0:Lc n tv W2 J d)(h6:Lc n tv W2 U o6)(W:zW)(hb:zB W2 W):
  zC 163 #[zP O,tS y0] W fun e I=>∃A3 Q pr ua uc vs kk D3 M,e=.returned (.agg #[zI (pr:Nat),.slice ua vs.length uc])/\K13 A2 S B O V E T mb G cap L r W2 W I Y D tv ts y0 y1 xa xc X J U d o6 A3 Q pr ua uc vs kk D3 M:=by
 have hT:=h.wide hb (fun b=>W2.heap.size<=b/\b<W.heap.size) (fun b e=>e);refine(IJ hF y0 hp hD W hT a3).mono ?_;rintro e I ⟨A3,Q,pr,u,vs,k,D',M,rfl,hu,hk,ha⟩;obtain⟨ua,uc,e1⟩:=hu.len;subst e1;have a2:=kK h.eng.inv ha.1 (aL _) (by show 1<=4;omega) ha.2.1.eng.ok;have a4:vs.length<=100000:=by have h1:=a2.2.s;rw[hk] at h1;exact h1
 have a5:RdA A3 Sm.mc I (.slice xa X.length xc) X:=RdA.went ((hx.more (fun b hb e=>by
  rcases e with e|e
  ·exact e
  omega)).below hb) hT ha.went
 have hs:=hb.size;refine⟨A3,Q,pr,ua,uc,vs,k,D',M,rfl,⟨⟨fun wf ht=>ha.went.lift h hb (fun b e=>e) ht,ha.1,fun b h1 h2=>ha.went.stay h h1 h2,ha.went.f.size⟩,hk⟩,⟨((a0.below hb).went hn ha.went).h,((h6.below hb).went hn ha.went).h,aO hs ha.went.f.size,a0.lt,h6.lt⟩,fun W' a1=>Fh y0 y1 pr _ _ vs X W' a4 hX (hu.below a1) (a5.below a1)⟩
theorem I4{W2 I:zW}{o:Obj}(h:∀b,W2.heap.size<=b->b<(W2.alloc o).drew.heap.size->I.heap[b]?=(W2.alloc o).drew.heap[b]?):I.heap[W2.heap.size]?=some o:=
 (h _ (af _) (by simp)).trans (ay W2 o)
theorem I5{W2 I:zW}{o o2:Obj}(h:∀b,W2.heap.size<=b->b<((W2.alloc o).alloc o2).drew.heap.size->I.heap[b]?=((W2.alloc o).alloc o2).drew.heap[b]?):I.heap[W2.heap.size]?=some o/\I.heap[W2.heap.size+1]?=some o2:=
 ⟨(h _ (af _) (by simp;omega)).trans ((aG _ _ _ (by simp)).trans (ay W2 o)),(h _ (bS _) (by simp)).trans (eA W2 o o2)⟩
theorem Ls{I:zW}{b:Nat}{o:Obj}(h:I.heap[b]?=some o):(b=I.heap.size)=False/\(I.heap.size=b)=False:=by
 have hl:=ah h;exact⟨by simp;omega,by simp;omega⟩
theorem NY{I w4:zW}{o:Obj}(h:Below (I.alloc o).heap.size (I.alloc o) w4):w4.heap[I.heap.size]?=some o:=(h.block _ (by simp)).trans (ay I o)
theorem NZ{I w4:zW}{o o2:Obj}(h:Below ((I.alloc o).alloc o2).heap.size ((I.alloc o).alloc o2) w4):w4.heap[I.heap.size]?=some o/\w4.heap[I.heap.size+1]?=some o2:=
 ⟨(h.block _ (by simp;omega)).trans ((aG _ _ _ (by simp)).trans (ay I o)),(h.block _ (by simp)).trans (eA I o o2)⟩
theorem uy{w4:zW}{b:Nat}{x y:zV}{t:TypeId}(h:w4.heap[b]?=some (.cells #[x,y] t)):
  ((w4.cell? (tD b 0)=some x/\w4.frozen? (tD b 0)=false)/\(w4.cell? (tD b 1)=some y/\w4.frozen? (tD b 1)=false))/\((∀o,(w4.alloc o).cell? (tD b 0)=some x)/\(∀o,(w4.alloc o).frozen? (tD b 0)=false))/\((∀o,(w4.alloc o).cell? (tD b 1)=some y)/\(∀o,(w4.alloc o).frozen? (tD b 1)=false))/\(b=w4.heap.size)=False/\(w4.heap.size=b)=False:=by
 have hl:=ah h;have h2:∀o,(w4.alloc o).heap[b]?=some (.cells #[x,y] t):=fun o=>(aG _ _ _ hl).trans h
 exact⟨fd2 h,⟨fun o=>(fd2 (h2 o)).1.1,fun o=>(fd2 (h2 o)).1.2⟩,⟨fun o=>(fd2 (h2 o)).2.1,fun o=>(fd2 (h2 o)).2.2⟩,by simp;omega,by simp;omega⟩
theorem uz{w4:zW}{b:Nat}{x y z:zV}{t:TypeId}(h:w4.heap[b]?=some (.cells #[x,y,z] t)):
  ((w4.cell? (tD b 0)=some x/\w4.frozen? (tD b 0)=false)/\(w4.cell? (tD b 1)=some y/\w4.frozen? (tD b 1)=false)/\(w4.cell? (tD b 2)=some z/\w4.frozen? (tD b 2)=false))/\((∀o,(w4.alloc o).cell? (tD b 0)=some x)/\(∀o,(w4.alloc o).frozen? (tD b 0)=false))/\((∀o,(w4.alloc o).cell? (tD b 1)=some y)/\(∀o,(w4.alloc o).frozen? (tD b 1)=false))/\((∀o,(w4.alloc o).cell? (tD b 2)=some z)/\(∀o,(w4.alloc o).frozen? (tD b 2)=false))/\(b=w4.heap.size)=False/\(w4.heap.size=b)=False:=by
 have hl:=ah h;have h2:∀o,(w4.alloc o).heap[b]?=some (.cells #[x,y,z] t):=fun o=>(aG _ _ _ hl).trans h
 exact⟨fd3 h,⟨fun o=>(fd3 (h2 o)).1.1,fun o=>(fd3 (h2 o)).1.2⟩,⟨fun o=>(fd3 (h2 o)).2.1.1,fun o=>(fd3 (h2 o)).2.1.2⟩,⟨fun o=>(fd3 (h2 o)).2.2.1,fun o=>(fd3 (h2 o)).2.2.2⟩,by simp;omega,by simp;omega⟩
theorem Fd.far{W:zW}{b o b' o':Nat}{u v:zV}(h:Ed.Fd W b o u)(a0:b≠b'):Ed.Fd (W.setCell (tD b' o') v) b o u:=h.of_block (aM _ _ _ _ a0)
theorem Fd.alloc{W:zW}{b o:Nat}{u:zV}(h:Ed.Fd W b o u)(o':Obj):Ed.Fd (W.alloc o') b o u:=h.of_block (aG _ _ _ h.lt)
theorem Ah(w:zW)(o:Obj)(Y:Array zV)(t:TypeId){j:Nat}{u:zV}(h:Y[j]?=some u):Ed.Fd ((w.alloc o).alloc (.cells Y t)) (w.heap.size+1) j u:=by
 have h1:=dy (w.alloc o) Y t h;rw[show(w.alloc o).heap.size=w.heap.size+1 by simp] at h1;exact h1
def Has(W:zW)(b o:Nat):Prop:=∃u,Ed.Fd W b o u
theorem Has.far{W:zW}{b o b' o':Nat}{v:zV}(h:Has W b o)(a0:b≠b'):Has (W.setCell (tD b' o') v) b o:=⟨_,Fd.far h.choose_spec a0⟩
theorem Has.alloc{W:zW}{b o:Nat}(h:Has W b o)(o':Obj):Has (W.alloc o') b o:=⟨_,Fd.alloc h.choose_spec o'⟩
theorem Has.put{W:zW}{b o o':Nat}{v:zV}(h:Has W b o):Has (W.setCell (tD b o') v) b o:=by
 obtain⟨u,hu⟩:=h;by_cases e:o=o'
 ·subst e;exact⟨_,oI hu v⟩
 exact⟨_,hu.set e⟩
theorem Has.of{W:zW}{b o:Nat}{u:zV}(h1:W.cell? (tD b o)=some u)(h2:W.frozen? (tD b o)=false):Has W b o:=⟨u,h1,h2⟩
theorem N0(w:zW)(Y:Array zV)(t:TypeId){j:Nat}(h:(Y[j]?).isSome=true):Has (w.alloc (.cells Y t)) w.heap.size j:=by
 obtain⟨u,hu⟩:=Option.isSome_iff_exists.1 h;exact⟨u,dy w Y t hu⟩
theorem Qh{W:zW}{b o:Nat}(h:Has W b o)(v:zV):Ed.Fd (W.setCell (tD b o) v) b o v:=oI h.choose_spec v
def R13(A2:Nat->Prop)(S:Nat->Shf)(B O V E T mb G:Nat)(cap:Int)(L:List (zV×zV))(r:Nat)(W2:zW)(Y:List Int)(D:List Kp)(tv:zV)(ts:List Tie)(y0 y1:zA)(X:List Mo)(wx:zW)(a1 a0:Nat):Prop:=
 ∃A3 Q pr vs kk D3 M m p,dH A2 S W2 B O V E T mb G cap L tv wx A3 (counted Y M) D3 Q (ts++[.ask ⟨1,y0,e0⟩])/\(fnd (S G) G r D ⟨1,y0,e0⟩ kk D3 M/\kk.f=.idx pr vs/\uV (y0,y1) (pr,vs) X m p)/\(Ed.Fd wx a1 0 (tS m.1)/\Ed.Fd wx a1 1 (tS m.2))/\Ed.Fd wx a0 0 (zI (p.1:Nat))/\Ed.Fd wx a0 1 (tS p.2.1)/\Ed.Fd wx a0 2 (tS p.2.2)
theorem xT{r:Nat}(hF:eC S V E T mb G cap L r):Gp S V E T mb G cap L (fnd (S G) G r) (grow r):=by
 intro A w Y D B O m1 m2 i9 ih hD h;obtain⟨i2,hq,hr,hv,i0⟩:=Bm.fB 63 (.agg #[zE,zE]) 2 32 (by kernel_rfl);have HI:Hid (prog.info? 63=some i2/\i2.zero=some (.agg #[zE,zE])/\i2.size=2/\i2.bytes=32):=⟨hq,hr,hv,i0⟩;obtain⟨i3,i1,i4,i5,i6⟩:=Bm.fB 65 (.agg #[zI 0,zE,zE]) 3 40 (by kernel_rfl);have HJ:Hid (prog.info? 65=some i3/\i3.zero=some (.agg #[zI 0,zE,zE])/\i3.size=3/\i3.bytes=40):=⟨i1,i4,i5,i6⟩;clear hq hr hv i0 i1 i4 i5 i6;have kd:D.length+grow r<=N15:=by omega
 have cb:=zH hF;have HD:Hid (D.length+10000*grow r<=N15):=hD;have HM:Hid (m1.size<=N48/\m2.size<=N48):=⟨i9,ih⟩;have j7:Hid (Inv S G D):=h.eng.inv;obtain⟨root,oL⟩:∃root,root=rootOf (S G aA):=⟨_,rfl⟩
 have cf:Hid (root=rootOf (S G aA)/\root.size<=N48):=⟨oL,by
  rw[oL];cases e:S G aA with
  |none=>exact aL _
  |some t=>exact h.eng.rt t e⟩
 have cg:Hid (Stp A S w B O V E T mb G cap L Y D ((w.alloc (.cells #[tS m1,tS m2] 63)).alloc (.cells #[zN,zN] 213)) (fun b=>A b\/b=w.heap.size+1) Y D (zN) [] [(w.heap.size+1,.cells #[zN,zN] 213),(w.heap.size,.cells #[tS m1,tS m2] 63)]):=Stp.Qg h _ _;have k0:=Dh _ cg.o.went.t (by show 0<=9999;omega);rw[<-oL] at k0;clear h hF hD i9 ih oL;go_enter func144,ntmps144
 go_wp2_with (go_at_call 157;fail)
 generalize (w.alloc (.cells #[tS m1,tS m2] 63)).alloc (.cells #[zN,zN] 213)=W0 at*;go_at_call 157;refine k0.mono ?_;rintro e w1 ⟨A1,kv,rfl,db⟩;have g8:Hid (A1 (w.heap.size+1)):=db.sub _ (oS rfl);have bp:Hid (Stp A S w B O V E T mb G cap L Y D (w1.alloc (.cells #[tS root,tS e0] 63)) A1 Y D kv ([]++[.rd aA (S G aA)]) [(w1.heap.size,.cells #[tS root,tS e0] 63),(w.heap.size+1,.cells #[zN,zN] 213),(w.heap.size,.cells #[tS m1,tS m2] 63)]):=(cg.o.call db).lay _;clear db k0 cg;have k1:=IQ cb.o root cf.o.2 kd _ bp.o.went.t (by show 1<=9999;omega);obtain⟨⟨c0,_⟩,⟨c1,_⟩⟩:=fd2 (bp.o.at (bo ..))
 go_wp2_with (go_at_call 158;fail)
 generalize k9:w1.alloc (.cells #[tS root,tS e0] 63)=W1 at*;clear k9;generalize w1.heap.size=b5 at*;go_at_call 158;refine k1.mono ?_;rintro e w2 ⟨A2,j2,md,xv,sv,kA,D2,b2,rfl,⟨ad,an,ak⟩,bt,bu⟩;clear k1 c0 c1;have bv:=kK j7.o bt (aL _) (by show 0<=4;omega) bu.t.eng.ok;obtain⟨dm,Rf⟩:=Ll root bv.1 bv.2.f bv.2.s;obtain⟨rl,dn⟩:∃rl,rl=bT root kA.f:=⟨_,rfl⟩;rw[<-dn] at ad an ak dm ⊢;have jn:Hid (rl=bT root kA.f.ess):=by rw[Rf];exact dn
 have cd:Hid (xB N48 rl/\rl.X.length<=100000/\rl.S.length<=100000):=dm;have gb:Hid (fnd (S G) G r D ⟨0,root,e0⟩ kA D2 b2/\D2.length<=D.length+grow r):=⟨bt,lI _ _ r _ _ _ _ _ bt⟩;obtain⟨a0,a1,e1⟩:=ad.len;obtain⟨xa,xc,e2⟩:=an.len;obtain⟨sa,sc,e3⟩:=ak.len;subst e1;subst e2;subst e3;have g9:Hid (A2 (w.heap.size+1)):=bu.sub _ g8.o;have bq:Hid (Stp A S w B O V E T mb G cap L Y D (w2.alloc (.cells #[tS rl.p,.slice a0 rl.R.length a1,.slice xa rl.X.length xc,.slice sa rl.S.length sc] 206)) A2 (counted Y b2) D2 j2 ([]++[.rd aA (S G aA)]++[.ask ⟨0,root,e0⟩]) [(w2.heap.size,.cells #[tS rl.p,.slice a0 rl.R.length a1,.slice xa rl.X.length xc,.slice sa rl.S.length sc] 206),(b5,.cells #[tS root,tS e0] 63),(w.heap.size+1,.cells #[zN,zN] 213),(w.heap.size,.cells #[tS m1,tS m2] 63)]):=(bp.o.call bu).lay _;have ck:Hid (RdA A2 Sm.mc (w2.alloc (.cells #[tS rl.p,.slice a0 rl.R.length a1,.slice xa rl.X.length xc,.slice sa rl.S.length sc] 206)) (.slice xa rl.X.length xc) rl.X/\RdA A2 Sw.mc (w2.alloc (.cells #[tS rl.p,.slice a0 rl.R.length a1,.slice xa rl.X.length xc,.slice sa rl.S.length sc] 206)) (.slice sa rl.S.length sc) rl.S):=⟨an.below ((ae _ _).alloc (af _) _),ak.below ((ae _ _).alloc (af _) _)⟩;clear bu ad an ak bt bv dm Rf dn bp g8;have k2:=Bt m1 m2 _ rl.S _ cd.o.2.2 ck.o.2
 obtain⟨⟨c0,_⟩,⟨c1,_⟩,⟨c2,_⟩,⟨c3,_⟩⟩:=fd4 (bq.o.at (bo ..));obtain⟨⟨d0,_⟩,⟨d1,_⟩⟩:=fd2 (bq.o.at (b:=w.heap.size) (o:=.cells #[tS m1,tS m2] 63) (by simp))
 go_wp2_with (go_at_call 159;fail)
 generalize ka:w2.alloc (.cells #[tS rl.p,.slice a0 rl.R.length a1,.slice xa rl.X.length xc,.slice sa rl.S.length sc] 206)=W2 at*;clear ka;generalize w2.heap.size=U at*;go_at_call 159;refine k2.mono ?_;rintro e I ⟨rfl,cv⟩;clear k2 c0 c1 c2 c3 d0 d1;have bx:=uZ HM.o.1 HM.o.2 rl.S cd.o.1.S;obtain⟨s1,s2,hs⟩:∃s1 s2,(s1,s2)=replaced (m1,m2) rl.S:=⟨_,_,rfl⟩;rw[<-hs] at bx ⊢;have b6:Hid ((s1,s2)=replaced (m1,m2) rl.S/\s1.size<=N48/\s2.size<=N48):=⟨hs,bx.1,bx.2⟩;have b0:Hid (Stp A S w B O V E T mb G cap L Y D (I.alloc (.cells #[tS s1,tS s2] 63)) A2 (counted Y b2) D2 j2 ([]++[.rd aA (S G aA)]++[.ask ⟨0,root,e0⟩]) [(I.heap.size,.cells #[tS s1,tS s2] 63),(U,.cells #[tS rl.p,.slice a0 rl.R.length a1,.slice xa rl.X.length xc,.slice sa rl.S.length sc] 206),(b5,.cells #[tS root,tS e0] 63),(w.heap.size+1,.cells #[zN,zN] 213),(w.heap.size,.cells #[tS m1,tS m2] 63)]):=(bq.o.below cv).lay _;have gx:Hid (RdA A2 Sm.mc (I.alloc (.cells #[tS s1,tS s2] 63)) (.slice xa rl.X.length xc) rl.X):=(ck.o.1.below cv).below ((ae _ _).alloc (af _) _);clear cv hs bx bq ck;have k3:=iE cb.o s1 s2 b6.o.2.1 b6.o.2.2 (by have h1:=gb.o.2;have h2:=HD.o;omega) _ b0.o.went.t (by show 2<=9999;omega);obtain⟨⟨c0,_⟩,⟨c1,_⟩⟩:=fd2 (b0.o.at (bo ..))
 go_wp2_with (go_at_call 160;fail)
 generalize kb:I.alloc (.cells #[tS s1,tS s2] 63)=W3 at*;clear kb;generalize I.heap.size=b7 at*;go_at_call 160;refine k3.mono ?_;rintro e w4 ⟨A4,fa,pr,m,rv,m9,m8,kB,D4,cp,rfl,⟨ad,an,ak⟩,a8,a7⟩;clear k3 c0 c1;have dj:=kK b0.o.went.t.eng.inv a7.1 (aL _) (by show 0<=4;omega) a7.2.1.eng.ok;have cc:Hid (xB N48 m/\m.R.length<=2001):=⟨by have h1:=dj.2.f;rw[a8] at h1;exact h1,Lj (by rw[<-dj.1];exact a8)⟩;obtain⟨ra,rc,e1⟩:=ad.len;obtain⟨ya,yc,e2⟩:=an.len;obtain⟨za,zc,e3⟩:=ak.len;subst e1;subst e2;subst e3;have ga:Hid (A4 (w.heap.size+1)):=a7.went.sub _ g9.o;have az:Hid (Pre (fnd (S G) G r) (S G) D (df ⟨2,m1,m2⟩) D4 (if dK (pr,m) m1≠0 then .ret (.wants [] [(dK (pr,m) m1,s1,s2)]) else bf root rl.X m.R [] []) (([]++[.rd aA (S G aA)])++[.ask ⟨0,root,e0⟩]++[.ask ⟨0,s1,s2⟩]) (([]++b2)++cp)):=IX cf.o.1 jn.o b6.o.1 gb.o.1 a7.1 a8;have cm:Hid (RdA A4 Sm.mc (w4.alloc (.cells #[zI (pr:Nat),tS m.p,.slice ra m.R.length rc,.slice ya m.X.length yc,.slice za m.S.length zc] 208)) (.slice xa rl.X.length xc) rl.X/\RdA A4 Sm.mc (w4.alloc (.cells #[zI (pr:Nat),tS m.p,.slice ra m.R.length rc,.slice ya m.X.length yc,.slice za m.S.length zc] 208)) (.slice ra m.R.length rc) m.R):=⟨(gx.o.went b0.o.went.t a7.went).below ((ae _ _).alloc (af _) _),ad.below ((ae _ _).alloc (af _) _)⟩
 have br:Hid (Stp A S w B O V E T mb G cap L Y D (w4.alloc (.cells #[zI (pr:Nat),tS m.p,.slice ra m.R.length rc,.slice ya m.X.length yc,.slice za m.S.length zc] 208)) A4 (counted Y (([]++b2)++cp)) D4 fa (([]++[.rd aA (S G aA)])++[.ask ⟨0,root,e0⟩]++[.ask ⟨0,s1,s2⟩]) [(w4.heap.size,.cells #[zI (pr:Nat),tS m.p,.slice ra m.R.length rc,.slice ya m.X.length yc,.slice za m.S.length zc] 208),(b7,.cells #[tS s1,tS s2] 63),(U,.cells #[tS rl.p,.slice a0 rl.R.length a1,.slice xa rl.X.length xc,.slice sa rl.S.length sc] 206),(b5,.cells #[tS root,tS e0] 63),(w.heap.size+1,.cells #[zN,zN] 213),(w.heap.size,.cells #[tS m1,tS m2] 63)]):=by
  rw[nQ,<-fF];exact(b0.o.call a7.went).lay _
 have gs:Hid (∀t∈(([]++[Tie.rd aA (S G aA)])++[.ask ⟨0,root,e0⟩]++[.ask ⟨0,s1,s2⟩]),jr t):=fun t ht=>by
  simp only[nQ,jA,aP,dC,or_false] at ht;rcases ht with rfl|rfl|rfl
  ·exact⟨by show 2<=4;omega,aL _,aL _⟩
  ·exact⟨cf.o.2,aL _⟩
  exact⟨b6.o.2.1,b6.o.2.2⟩
 clear ad an ak a8 a7 dj b0 gx g9;have gd:Hid ((([]++[Tie.rd aA (S G aA)])++[Tie.ask ⟨0,root,e0⟩]++[Tie.ask ⟨0,s1,s2⟩]).length=3):=rfl;generalize (([]++[Tie.rd aA (S G aA)])++[.ask ⟨0,root,e0⟩]++[.ask ⟨0,s1,s2⟩])=c5 at*;generalize (([]++b2)++cp)=Wq at*;have kp:=pU pr m ra ya za m.R.length rc m.X.length yc m.S.length zc m1 (w4.alloc (.cells #[zI (pr:Nat),tS m.p,.slice ra m.R.length rc,.slice ya m.X.length yc,.slice za m.S.length zc] 208));obtain⟨⟨c0,_⟩,⟨c1,_⟩,⟨c2,_⟩,⟨c3,_⟩,⟨c4,_⟩⟩:=fd5 (br.o.at (bo ..));obtain⟨⟨d0,_⟩,⟨d1,_⟩⟩:=fd2 (br.o.at (b:=w.heap.size) (o:=.cells #[tS m1,tS m2] 63) (by simp))
 go_wp2_with (go_at_call 161;fail)
 generalize kc:w4.alloc (.cells #[zI (pr:Nat),tS m.p,.slice ra m.R.length rc,.slice ya m.X.length yc,.slice za m.S.length zc] 208)=W4 at*;clear kc;generalize w4.heap.size=b8 at*;go_at_call 161;refine kp.mono ?_;rintro e w5 ⟨rfl,bs⟩;have b1:Hid (Stp A S w B O V E T mb G cap L Y D w5 A4 (counted Y Wq) D4 fa c5 [(b8,.cells #[zI (pr:Nat),tS m.p,.slice ra m.R.length rc,.slice ya m.X.length yc,.slice za m.S.length zc] 208),(b7,.cells #[tS s1,tS s2] 63),(U,.cells #[tS rl.p,.slice a0 rl.R.length a1,.slice xa rl.X.length xc,.slice sa rl.S.length sc] 206),(b5,.cells #[tS root,tS e0] 63),(w.heap.size+1,.cells #[zN,zN] 213),(w.heap.size,.cells #[tS m1,tS m2] 63)]):=br.o.below bs;have cn:Hid (RdA A4 Sm.mc w5 (.slice xa rl.X.length xc) rl.X/\RdA A4 Sm.mc w5 (.slice ra m.R.length rc) m.R):=⟨cm.o.1.below bs,cm.o.2.below bs⟩;clear bs kp c0 c1 c2 c3 c4 d0 d1 br cm;by_cases b3:dK (pr,m) m1=0
 ·have gn:Hid (Pre (fnd (S G) G r) (S G) D (df ⟨2,m1,m2⟩) D4 (bf root rl.X (m.R.drop 0) [] []) c5 Wq):=by
   have h:=az.o;rw[ag (fun hh=>hh b3)] at h;exact h
  rw[b3];obtain⟨⟨c0,_⟩,⟨c1,_⟩,⟨c2,_⟩,⟨c3,_⟩,⟨c4,_⟩⟩:=fd5 ((b1.o.lay (.cells #[zN,zN] 213)).at (b:=b8) (o:=.cells #[zI (pr:Nat),tS m.p,.slice ra m.R.length rc,.slice ya m.X.length yc,.slice za m.S.length zc] 208) (by simp));clear az b3;have bn:Hid ((∀x∈m.R,x.1.size<=N48/\x.2.size<=N48)/\m.R.length<=2001):=⟨cc.o.1.R,cc.o.2⟩;clear cc;generalize hR:m.R=R at*;clear hR;generalize hN:R.length=N at*;have HN:Hid (R.length=N):=hN;have m5:N<=2001:=bn.o.2;clear hN;have kn:w5.heap.size+1=w5.heap.size+1:=rfl;have gv:Hid (Wt A S w B O V E T mb G cap L Y D (fnd (S G) G r) (df ⟨2,m1,m2⟩) (w5.heap.size+1) (w.heap.size+1) b5 U w5.heap.size root rl (.slice a0 rl.R.length a1) (.slice xa rl.X.length xc) (.slice sa rl.S.length sc) (.slice ra N rc) R (w5.alloc (.cells #[zN,zN] 213)) (bf root rl.X (R.drop 0) [] []) (fun b=>A4 b\/b=w5.heap.size) D4 fa c5 Wq [] [] (zN) (zN)):=Wt.start b1.o (by simp) (by simp) (by simp) cn.o.1 cn.o.2 ga.o gn.o gs.o;clear b1 cn gn kn;go_wp2;generalize w5.alloc (.cells #[zN,zN] 213)=W6 at*;generalize w5.heap.size=wb at*;clear c0 c1 c2 c3 c4
  go_loopg [45] N (fun gg s wr=>∃(i:Nat)(A2:Nat->Prop)(D':List Kp)(j1:zV)(Z:List Tie)(M:List Qn)(ms:List Mo)(ps:List Pb)(mv pv:zV),i<=N/\N-i<=gg/\s=zI i/\Hid (Wt A S w B O V E T mb G cap L Y D (fnd (S G) G r) (df ⟨2,m1,m2⟩) (wb+1) (w.heap.size+1) b5 U wb root rl (.slice a0 rl.R.length a1) (.slice xa rl.X.length xc) (.slice sa rl.S.length sc) (.slice ra N rc) R wr (bf root rl.X (R.drop i) ms ps) A2 D' j1 Z M ms ps mv pv)/\Hid (Z.length<=3+i/\ms.length<=i/\ps.length<=i))
  case atStart=>exact⟨0,_,_,_,_,_,_,_,_,_,by omega,by omega,rfl,gv,⟨by rw[gd.o];exact af _,af _,af _⟩⟩
  case round=>
   obtain⟨i,A2,D',j1,Z,M,ms,ps,mv,pv,hi,hg,rfl,HW,HC⟩:=hrel;clear gv;by_cases da:i<N
   ·have kg:((i:Nat):Int)<(N:Int):=by omega
    obtain⟨bR,oR,cR,eg,hx⟩:=RdA.at HW.o.rr fC (by decide) (ae _ _) i (by rw[HN.o];exact da);injection eg with jt jx k5;have x0:=hx 0 _ rfl;have x1:=hx 1 _ rfl;have b4:Hid (R[i]?=some R[i]/\R[i].1.size<=N48/\R[i].2.size<=N48):=⟨aV (by rw[HN.o];exact da),bn.o.1 _ (dP _)⟩;generalize R[i]'(by rw[HN.o];exact da)=y at*;obtain⟨y0,y1⟩:=y;rw[Nat.add_zero] at x0;simp only at x0 x1;subst jt;clear hx jx k5;go_upto_region 12 with fail;have b9:Hid (Wt A S w B O V E T mb G cap L Y D (fnd (S G) G r) (df ⟨2,m1,m2⟩) (wb+1) (w.heap.size+1) b5 U wb root rl (.slice a0 rl.R.length a1) (.slice xa rl.X.length xc) (.slice sa rl.S.length sc) (.slice (some (tD bR oR)) N rc) R (wr.alloc (.cells #[tS y0,tS y1] 63)) (bf root rl.X (R.drop i) ms ps) A2 D' j1 Z M ms ps mv pv):=HW.o.below ((ae _ _).alloc (af _) _);have av:Hid (Lc w.heap.size j1 (wr.alloc (.cells #[tS y0,tS y1] 63)) wr.heap.size (.cells #[tS y0,tS y1] 63)):=Lc.new wr _ HW.o.went.f.size HW.o.tvlt;clear x0 x1 HW;generalize wr.alloc (.cells #[tS y0,tS y1] 63)=W2 at*;generalize wr.heap.size=J at*;obtain⟨⟨x0,_⟩,⟨x1,_⟩⟩:=fd2 av.o.h;obtain⟨⟨js,_⟩,_⟩:=fd2 b9.o.l5.h;by_cases he:y0=root
    ·have j9:Hid (Wt A S w B O V E T mb G cap L Y D (fnd (S G) G r) (df ⟨2,m1,m2⟩) (wb+1) (w.heap.size+1) b5 U wb root rl (.slice a0 rl.R.length a1) (.slice xa rl.X.length xc) (.slice sa rl.S.length sc) (.slice (some (tD bR oR)) N rc) R W2 (bf root rl.X (R.drop (i+1)) ms ps) A2 D' j1 Z M ms ps mv pv):=by
      have h:=b9.o;rw[IY b4.o.1 he] at h;exact h
     have q0:(y0.toList==root.toList)=true:=by rw[he];simp
     have hC:=HC.o;clear b9 he;go_wp2;go_roundg (N-(i+1))
     case measure=>omega
     case rel=>exact⟨i+1,_,_,_,_,_,_,_,_,_,by omega,by omega,by go_num,j9,⟨by omega,by omega,by omega⟩⟩
    have q0:=Rn.bM he
    go_upto_region 13 with fail
    have a4:Hid (Wt A S w B O V E T mb G cap L Y D (fnd (S G) G r) (df ⟨2,m1,m2⟩) (wb+1) (w.heap.size+1) b5 U wb root rl (.slice a0 rl.R.length a1) (.slice xa rl.X.length xc) (.slice sa rl.S.length sc) (.slice (some (tD bR oR)) N rc) R W2 (.ask ⟨1,y0,e0⟩ fun f=>xS root rl.X (R.drop (i+1)) ms ps (choose (y0,y1) (oF f) rl.X)) A2 D' j1 Z M ms ps mv pv):=by
     have h:=b9.o;rw[Lp b4.o.1 he] at h;exact h
    have m6:=bn.o.2;have k8:=HN.o;have hC:=HC.o;have j6:Hid (D'.length+grow r<=N15):=Dm a4.o.pre HD.o (by omega)
    have i7:V<w.heap.size/\T<w.heap.size/\O<w.heap.size:=by
     have h1:=a4.o.h0.lt;have h2:=a4.o.h0.hB;have h3:=a4.o.h0.task.t0.lt;omega
    have bb:Hid (∀W,zB W2 W->zC 163 #[zP O,tS y0] W fun e I=>∃A3 Q pr ua uc vs kk D3 a6,e=.returned (.agg #[zI (pr:Nat),.slice ua vs.length uc])/\K13 A2 S B O V E T mb G cap L r W2 W I (counted Y M) D' j1 Z y0 y1 xa xc rl.X J U (.cells #[tS y0,tS y1] 63) (.cells #[tS rl.p,.slice a0 rl.R.length a1,.slice xa rl.X.length xc,.slice sa rl.S.length sc] 206) A3 Q pr ua uc vs kk D3 a6):=fun W hb=>IZ cb.o y0 y1 b4.o.2.1 j6.o W2 a4.o.went.t (by omega) a4.o.rx cd.o.2.1 i7 av.o a4.o.l6 W hb
    have bm:Hid (Kq J U W2.heap.size (.cells #[tS y0,tS y1] 63) (.cells #[tS rl.p,.slice a0 rl.R.length a1,.slice xa rl.X.length xc,.slice sa rl.S.length sc] 206) W2):=⟨av.o.h,a4.o.l6.h,af _,av.o.lt,a4.o.l6.lt⟩;clear js x0 x1 b9 he q0 i7
    go_cut [13,14] (fun kx ky wx=>∃cs ct,kx=zP cs/\ky=zP ct/\Hid (R13 A2 S B O V E T mb G cap L r W2 (counted Y M) D' j1 Z y0 y1 rl.X wx cs ct))
    case first=>
     have gm:Hid (∀W,Kq J U W2.heap.size (.cells #[tS y0,tS y1] 63) (.cells #[tS rl.p,.slice a0 rl.R.length a1,.slice xa rl.X.length xc,.slice sa rl.S.length sc] 206) W->W.cell? (tD J 0)=some (tS y0)/\W.cell? (tD J 1)=some (tS y1)/\W.cell? (tD U 2)=some (.slice xa rl.X.length xc)):=fun W hk=>⟨(fd2 hk.h12).1.1,(fd2 hk.h12).2.1,(fd4 hk.h6).2.2.1.1⟩
     obtain⟨p0,p1,p2⟩:=gm.o W2 bm.o
     go_region_held3 (fun w'=>w'.cell? (tD J 0)=some (tS y0)/\w'.cell? (tD J 1)=some (tS y1)/\w'.cell? (tD U 2)=some (.slice xa rl.X.length xc))
      (first|with_reducible exact⟨p0,p1,p2⟩|(with_reducible refine gm.o _ ?_;repeat' first|with_reducible exact bm.o|with_reducible exact dc|with_reducible exact a7|with_reducible refine Kq.alloc ?_ _|with_reducible refine Kq.drew ?_|(with_reducible refine Kq.set ?_ (by first|exact af _|exact bS _|exact Rh|exact Nat.le_succ_of_le Rh|exact Ri|exact Nat.le_succ_of_le Ri) _)))
      (first
       |(go_at_call 163;refine(bb.o _ (by first|with_reducible exact(ae _ _).drew|with_reducible exact(aB (ae _ _) _).drew|with_reducible exact(aB (aB (ae _ _) _) _).drew)).mono ?_;rintro e I ⟨A3,Q,pr,ua,uc,vs,kk,D3,a6,rfl,bi,dc,Sp⟩;have Rh:=dc.le;(first|with_reducible have hz:=I5 bi.1.stay|(with_reducible have hz:=I4 bi.1.stay;obtain⟨Sq,Sr⟩:=Ls hz)|skip))
       |(go_at_call 162;refine(Sp _ (by first|with_reducible exact ae _ _|with_reducible exact aB (ae _ _) _|with_reducible exact aB (aB (ae _ _) _) _)).mono ?_;rintro e w4 ⟨m,p,rfl,cx,bh⟩;have Bz:zB I w4:=(by first|with_reducible exact bh|with_reducible exact(aB (ae I.heap.size I) _).trans (bh.mono (by simp))|with_reducible exact(aB (aB (ae I.heap.size I) _) _).trans (bh.mono (by simp;omega)));have a7:=dc.below Bz;have Ri:=a7.le;(first|(with_reducible have aq:=uy ((Bz.block _ (ah hz.1)).trans hz.1);with_reducible have dq:=uz ((Bz.block _ (ah hz.2)).trans hz.2);obtain⟨⟨⟨fb,fd⟩,⟨ff,fi⟩⟩,⟨fk,fm⟩,⟨fs,fu⟩,c6,c7⟩:=aq;obtain⟨⟨⟨l3,l7⟩,⟨l8,l9⟩,⟨mi,mj⟩⟩,⟨la,lb⟩,⟨lc,ld⟩,⟨mq,mu⟩,ip,ir⟩:=dq)|(with_reducible have aq:=uz ((Bz.block _ (ah hz.1)).trans hz.1);with_reducible have dq:=uy ((Bz.block _ (ah hz.2)).trans hz.2);obtain⟨⟨⟨fb,fd⟩,⟨ff,fi⟩,⟨kz,l0⟩⟩,⟨fk,fm⟩,⟨fs,fu⟩,⟨l1,l2⟩,c6,c7⟩:=aq;obtain⟨⟨⟨l3,l7⟩,⟨l8,l9⟩⟩,⟨la,lb⟩,⟨lc,ld⟩,ip,ir⟩:=dq)|(with_reducible have aq:=uy ((Bz.block _ (ah hz)).trans hz);obtain⟨⟨⟨fb,fd⟩,⟨ff,fi⟩⟩,⟨fk,fm⟩,⟨fs,fu⟩,c6,c7⟩:=aq)|(with_reducible have aq:=uz ((Bz.block _ (ah hz)).trans hz);obtain⟨⟨⟨fb,fd⟩,⟨ff,fi⟩,⟨kz,l0⟩⟩,⟨fk,fm⟩,⟨fs,fu⟩,⟨l1,l2⟩,c6,c7⟩:=aq)|skip);(first|(with_reducible have kr:=NZ bh;obtain⟨Lt,Rj⟩:=kr;first|(with_reducible have au:=uy Lt;with_reducible have du:=uz Rj;obtain⟨⟨⟨fv,g0⟩,⟨g2,g3⟩⟩,⟨g4,g5⟩,⟨g6,g7⟩,c8,c9⟩:=au;obtain⟨⟨⟨lq,lr⟩,⟨ls,lv⟩,⟨mx,mz⟩⟩,⟨ly,m0⟩,⟨m3,m4⟩,⟨n0,n2⟩,iv,j5⟩:=du)|(with_reducible have au:=uz Lt;with_reducible have du:=uy Rj;obtain⟨⟨⟨fv,g0⟩,⟨g2,g3⟩,⟨lk,lm⟩⟩,⟨g4,g5⟩,⟨g6,g7⟩,⟨ln,lp⟩,c8,c9⟩:=au;obtain⟨⟨⟨lq,lr⟩,⟨ls,lv⟩⟩,⟨ly,m0⟩,⟨m3,m4⟩,iv,j5⟩:=du))|(with_reducible have Lt:=NY bh;first|(with_reducible have au:=uy Lt;obtain⟨⟨⟨fv,g0⟩,⟨g2,g3⟩⟩,⟨g4,g5⟩,⟨g6,g7⟩,c8,c9⟩:=au)|(with_reducible have au:=uz Lt;obtain⟨⟨⟨fv,g0⟩,⟨g2,g3⟩,⟨lk,lm⟩⟩,⟨g4,g5⟩,⟨g6,g7⟩,⟨ln,lp⟩,c8,c9⟩:=au))|skip)))
     all_goals
      go_wp2_with fail
      go_meet
      refine⟨_,_,rfl,rfl,A3,Q,pr,vs,kk,D3,a6,m,p,bi.1.back _ ?_,⟨bi.1.fnd,bi.2,cx⟩,⟨?_,?_⟩,?_,?_,?_⟩
      ·repeat' first|with_reducible exact ai.of_below Bz|with_reducible refine ai.alloc ?_ _|with_reducible refine ai.set ?_ ?_ _|(intro h;first|exact⟨af _,by first|(simp;done)|(simp;omega)⟩|exact⟨bS _,by first|(simp;done)|(simp;omega)⟩|(exfalso;have TC:=Bz.size;revert h;dsimp only;omega))
      all_goals
       repeat' first|((with_reducible refine dy _ _ _ ?_);rfl)|((with_reducible refine Ah _ _ _ _ ?_);rfl)|with_reducible refine Qh ?_ _|with_reducible refine Ed.Fd.set ?_ (by decide)|with_reducible refine Fd.alloc ?_ _|with_reducible refine Fd.far ?_ ?_|((with_reducible refine N0 _ _ _ ?_);rfl)|((with_reducible refine Rk _ _ _ _ ?_);rfl)|with_reducible refine Has.put ?_|with_reducible refine Has.alloc ?_ _|with_reducible refine Has.far ?_ ?_|(with_reducible refine Has.of (u:=zE) ?_ ?_<;>with_reducible assumption)|(with_reducible refine Has.of (u:=zI 0) ?_ ?_<;>with_reducible assumption)|with_reducible exact Nat.succ_ne_self _|with_reducible exact(Nat.succ_ne_self _).symm|with_reducible exact iW Sq|with_reducible exact iW Sr|with_reducible exact iW c6|with_reducible exact iW c7|with_reducible exact iW ip|with_reducible exact iW ir|with_reducible exact iW c8|with_reducible exact iW c9|with_reducible exact iW iv|with_reducible exact iW j5
    case rest=>
     obtain⟨cs,ct,hf,hj,ca⟩:=hcut;rw[hf,hj];clear hf hj;obtain⟨A3,Q,kt,vs,kk,D3,a6,mm,p,xU,⟨Qi,a8,cx⟩,⟨k0,k1⟩,k2,k3,k4⟩:=ca.o
     have aa:Hid (Wt A S w B O V E T mb G cap L Y D (fnd (S G) G r) (df ⟨2,m1,m2⟩) (wb+1) (w.heap.size+1) b5 U wb root rl (.slice a0 rl.R.length a1) (.slice xa rl.X.length xc) (.slice sa rl.S.length sc) (.slice (some (tD bR oR)) N rc) R wc (xS root rl.X (R.drop (i+1)) ms ps (choose (y0,y1) (kt,vs) rl.X)) A3 D3 Q (Z++[.ask ⟨1,y0,e0⟩]) (M++a6) ms ps mv pv):=by
      have h:=a4.o.asked xU Qi ⟨b4.o.2.1,aL _⟩;rw[a8] at h;exact h
     have ij:=kK a4.o.went.t.eng.inv Qi (aL _) (by show 1<=4;omega) xU.t.eng.ok
     have ch:Hid (∀x∈vs,x.size<=N48):=by
      have h1:=ij.2.f;rw[a8] at h1;exact h1
     obtain⟨ma,mc,em⟩:=ax aa.o.mr.row;obtain⟨pa,pc,ep⟩:=ax aa.o.pr.row;subst em;subst ep;obtain⟨⟨c0,h9⟩,⟨h5,ha⟩⟩:=fd2 aa.o.lw.h;obtain⟨u0,u1⟩:=mm;obtain⟨pk,pp,pw⟩:=p;have d0:=k0.1;have d1:=k1.1;have d2:=k2.1;have d3:=k3.1;have d4:=k4.1;simp only at d0 d1 d2 d3 d4;clear xU Qi a8 ij k0 k1 k2 k3 k4 ca;rcases cx with⟨hc,hp⟩|⟨hc,hm,hp⟩
     ·have j8:Hid (u0.size<=N48/\u1.size<=N48):=by
       have h1:=Fu hc;exact⟨by rw[show u0=y0 from h1.1];exact b4.o.2.1,ch.o u1 h1.2⟩
      have ab:Hid (Wt A S w B O V E T mb G cap L Y D (fnd (S G) G r) (df ⟨2,m1,m2⟩) (wb+1) (w.heap.size+1) b5 U wb root rl (.slice a0 rl.R.length a1) (.slice xa rl.X.length xc) (.slice sa rl.S.length sc) (.slice (some (tD bR oR)) N rc) R wc (bf root rl.X (R.drop (i+1)) (ms++[(u0,u1)]) ps) A3 D3 Q (Z++[.ask ⟨1,y0,e0⟩]) (M++a6) ms ps (.slice ma ms.length mc) (.slice pa ps.length pc)):=by
       have h:=aa.o;rw[hc] at h;exact h
      injection hp with kj dk;injection dk with dk km;subst kj;subst dk;subst km;clear aa hc ch d3 d4;have bk:∀j u,([tS u0,tS u1]:List zV)[j]?=some u->(wc.alloc (.cells #[tS u0,tS u1] 63)).cell? (((tD wc.heap.size 0):Addr).add j)=some u:=cell_two_new wc 63 _ _;have dp:(wc.alloc (.cells #[tS u0,tS u1] 63)).heap.size=wc.heap.size+1:=by simp
      have a5:Hid (Wt A S w B O V E T mb G cap L Y D (fnd (S G) G r) (df ⟨2,m1,m2⟩) (wb+1) (w.heap.size+1) b5 U wb root rl (.slice a0 rl.R.length a1) (.slice xa rl.X.length xc) (.slice sa rl.S.length sc) (.slice (some (tD bR oR)) N rc) R (wc.alloc (.cells #[tS u0,tS u1] 63)) (bf root rl.X (R.drop (i+1)) (ms++[(u0,u1)]) ps) A3 D3 Q (Z++[.ask ⟨1,y0,e0⟩]) (M++a6) ms ps (.slice ma ms.length mc) (.slice pa ps.length pc)):=ab.o.below ((ae _ _).alloc (af _) _);have kh:=ab.o.hn
      go_wp2_with (at_builtin;refine dG _ rfl _ _ 30 rfl (wb+1) 63 i2 (.agg #[zE,zE]) 2 32 underlying30 HI.o.1 HI.o.2.1 HI.o.2.2.1 HI.o.2.2.2 rfl (by decide) (.slice ma ms.length mc) ms.length (mcs ms) rfl a5.o.mr.row (tD wc.heap.size 0) 1 1 [tS u0,tS u1] rfl rfl bk ?_ ?_ ?_ ?_ ?_)
      all_goals first
       |(show ∀u∈([tS u0,tS u1]:List zV),u.oneCell'=true;intro u hu;simp at hu;rcases hu with rfl|rfl<;>rfl)
       |exact⟨rfl,rfl⟩
       |(show ms.length+1<=maxLen;unfold maxLen;omega)
       |(show(ms.length+1)*32<=140737488355328;omega)
       |(show wb+1<=(wc.alloc _).heap.size;rw[dp];omega)
       |(show wb+1<=wc.heap.size+1;omega)
       |(show wb<=wc.heap.size;omega)
       |skip
      intro ks w5 a3 a2 _ a9;obtain⟨g1,c1,rfl⟩:=dQ a3 (by omega)
      have bd:∀b',(Value.slice (some (tD g1 0)) (ms.length+1) c1).ownBlock=some b'->(Value.slice ma ms.length mc).ownBlock=some b'\/(wc.alloc (.cells #[tS u0,tS u1] 63)).heap.size<=b':=fun b' e=>by
       rcases a9 with e2|e2
       ·exact oE (by rw[<-e2];exact e)
       right
       rw[e2] at e;have e3:(wc.alloc (.cells #[tS u0,tS u1] 63)).heap.size=b':=by simpa using e
       omega
      have HN:Hid (Wt A S w B O V E T mb G cap L Y D (fnd (S G) G r) (df ⟨2,m1,m2⟩) (wb+1) (w.heap.size+1) b5 U wb root rl (.slice a0 rl.R.length a1) (.slice xa rl.X.length xc) (.slice sa rl.S.length sc) (.slice (some (tD bR oR)) N rc) R (w5.setCell (tD wb 0) (.slice (some (tD g1 0)) (ms.length+1) c1)) (bf root rl.X (R.drop (i+1)) (ms++[(u0,u1)]) ps) (fun b=>A3 b\/((Value.slice (some (tD g1 0)) (ms.length+1) c1).ownBlock=some b/\(wc.alloc (.cells #[tS u0,tS u1] 63)).heap.size<=b)) D3 Q (Z++[.ask ⟨1,y0,e0⟩]) (M++a6) (ms++[(u0,u1)]) ps (.slice (some (tD g1 0)) (ms.length+1) c1) (.slice pa ps.length pc)):=a5.o.putM (m:=(u0,u1)) a2 (by simpa[mcs,Sm.mc] using a3) bd j8.o
      have bc:w5.heap[wb]?=some (.cells #[.slice ma ms.length mc,.slice pa ps.length pc] 213):=by
       have hT:ai (fun b=>(Value.slice ma ms.length mc).ownBlock=some b) (wc.alloc (.cells #[tS u0,tS u1] 63)) w5:=(ai.refl _ _).grown a2 (fun b _ e=>e);rw[hT.block wb a5.o.lw.lt (fun e=>by have:=(a5.o.mr.row.lt wb e).1;omega)];exact a5.o.lw.h
      obtain⟨⟨h7,k6⟩,⟨h8,k7⟩⟩:=fd2 bc;have hC:=HC.o;clear a3 a2 a9 bd bc bk a5 ab c0 h5 d0 d1 h9 ha a4 bm bb;go_wp2;go_roundg (N-(i+1))
      case measure=>omega
      case rel=>exact⟨i+1,_,_,_,_,_,_,_,_,_,by omega,by omega,by go_num,HN,⟨by rw[aW,fx];omega,by rw[aW,fx];omega,by omega⟩⟩
     have ab:Hid (Wt A S w B O V E T mb G cap L Y D (fnd (S G) G r) (df ⟨2,m1,m2⟩) (wb+1) (w.heap.size+1) b5 U wb root rl (.slice a0 rl.R.length a1) (.slice xa rl.X.length xc) (.slice sa rl.S.length sc) (.slice (some (tD bR oR)) N rc) R wc (bf root rl.X (R.drop (i+1)) ms (ps++[(pk,pp,pw)])) A3 D3 Q (Z++[.ask ⟨1,y0,e0⟩]) (M++a6) ms ps (.slice ma ms.length mc) (.slice pa ps.length pc)):=by
      have h:=aa.o;rw[hc] at h;exact h
     have q1:(((pk:Nat):Int)==0)=false:=int_ne (b:=0) hp;clear aa hc ch hm hp;have bk:∀j u,([zI (pk:Nat),tS pp,tS pw]:List zV)[j]?=some u->(wc.alloc (.cells #[zI (pk:Nat),tS pp,tS pw] 65)).cell? (((tD wc.heap.size 0):Addr).add j)=some u:=fz wc _ _ _ 65;have dp:(wc.alloc (.cells #[zI (pk:Nat),tS pp,tS pw] 65)).heap.size=wc.heap.size+1:=by simp
     have a5:Hid (Wt A S w B O V E T mb G cap L Y D (fnd (S G) G r) (df ⟨2,m1,m2⟩) (wb+1) (w.heap.size+1) b5 U wb root rl (.slice a0 rl.R.length a1) (.slice xa rl.X.length xc) (.slice sa rl.S.length sc) (.slice (some (tD bR oR)) N rc) R (wc.alloc (.cells #[zI (pk:Nat),tS pp,tS pw] 65)) (bf root rl.X (R.drop (i+1)) ms (ps++[(pk,pp,pw)])) A3 D3 Q (Z++[.ask ⟨1,y0,e0⟩]) (M++a6) ms ps (.slice ma ms.length mc) (.slice pa ps.length pc)):=ab.o.below ((ae _ _).alloc (af _) _);have kh:=ab.o.hn
     go_wp2_with (at_builtin;refine dG _ rfl _ _ 31 rfl (wb+1) 65 i3 (.agg #[zI 0,zE,zE]) 3 40 underlying31 HJ.o.1 HJ.o.2.1 HJ.o.2.2.1 HJ.o.2.2.2 rfl (by decide) (.slice pa ps.length pc) ps.length (ps.flatMap aJ) rfl a5.o.pr.row (tD wc.heap.size 0) 1 1 [zI (pk:Nat),tS pp,tS pw] rfl rfl bk ?_ ?_ ?_ ?_ ?_)
     all_goals first
      |(show ∀u∈([zI (pk:Nat),tS pp,tS pw]:List zV),u.oneCell'=true;intro u hu;simp at hu;rcases hu with rfl|rfl|rfl<;>rfl)
      |exact⟨rfl,rfl,rfl⟩
      |(show ps.length+1<=maxLen;unfold maxLen;omega)
      |(show(ps.length+1)*40<=140737488355328;omega)
      |(show wb+1<=(wc.alloc _).heap.size;rw[dp];omega)
      |(show wb+1<=wc.heap.size+1;omega)
      |(show wb<=wc.heap.size;omega)
      |skip
     intro ks w5 a3 a2 _ a9;obtain⟨g1,c1,rfl⟩:=dQ a3 (by omega)
     have bd:∀b',(Value.slice (some (tD g1 0)) (ps.length+1) c1).ownBlock=some b'->(Value.slice pa ps.length pc).ownBlock=some b'\/(wc.alloc (.cells #[zI (pk:Nat),tS pp,tS pw] 65)).heap.size<=b':=fun b' e=>by
      rcases a9 with e2|e2
      ·exact oE (by rw[<-e2];exact e)
      right
      rw[e2] at e;have e3:(wc.alloc (.cells #[zI (pk:Nat),tS pp,tS pw] 65)).heap.size=b':=by simpa using e
      omega
     have HN:Hid (Wt A S w B O V E T mb G cap L Y D (fnd (S G) G r) (df ⟨2,m1,m2⟩) (wb+1) (w.heap.size+1) b5 U wb root rl (.slice a0 rl.R.length a1) (.slice xa rl.X.length xc) (.slice sa rl.S.length sc) (.slice (some (tD bR oR)) N rc) R (w5.setCell (tD wb 1) (.slice (some (tD g1 0)) (ps.length+1) c1)) (bf root rl.X (R.drop (i+1)) ms (ps++[(pk,pp,pw)])) (fun b=>A3 b\/((Value.slice (some (tD g1 0)) (ps.length+1) c1).ownBlock=some b/\(wc.alloc (.cells #[zI (pk:Nat),tS pp,tS pw] 65)).heap.size<=b)) D3 Q (Z++[.ask ⟨1,y0,e0⟩]) (M++a6) ms (ps++[(pk,pp,pw)]) (.slice ma ms.length mc) (.slice (some (tD g1 0)) (ps.length+1) c1)):=a5.o.putP (p:=(pk,pp,pw)) a2 (by simpa[aJ] using a3) bd
     have bc:w5.heap[wb]?=some (.cells #[.slice ma ms.length mc,.slice pa ps.length pc] 213):=by
      have hT:ai (fun b=>(Value.slice pa ps.length pc).ownBlock=some b) (wc.alloc (.cells #[zI (pk:Nat),tS pp,tS pw] 65)) w5:=(ai.refl _ _).grown a2 (fun b _ e=>e);rw[hT.block wb a5.o.lw.lt (fun e=>by have:=(a5.o.pr.row.lt wb e).1;omega)];exact a5.o.lw.h
     obtain⟨⟨h7,k6⟩,⟨h8,k7⟩⟩:=fd2 bc;have hC:=HC.o;clear a3 a2 a9 bd bc bk a5 ab c0 h5 d0 d1 h9 ha a4 bm bb;go_wp2;go_roundg (N-(i+1))
     case measure=>omega
     case rel=>exact⟨i+1,_,_,_,_,_,_,_,_,_,by omega,by omega,by go_num,HN,⟨by rw[aW,fx];omega,by omega,by rw[aW,fx];omega⟩⟩
   have kg:(((i:Nat):Int)<(N:Int))=False:=by simp;omega
   have kf:i=N:=by omega
   subst kf
   have HE:Hid (Wt A S w B O V E T mb G cap L Y D (fnd (S G) G r) (df ⟨2,m1,m2⟩) (wb+1) (w.heap.size+1) b5 U wb root rl (.slice a0 rl.R.length a1) (.slice xa rl.X.length xc) (.slice sa rl.S.length sc) (.slice ra i rc) R wr (.ret (.wants ms ps)) A2 D' j1 Z M ms ps mv pv):=by
    have h:=HW.o;rw[<-HN.o,Lq] at h;rw[<-HN.o];exact h
   have m7:=bn.o.2;have k8:=HN.o;have hC:=HC.o;obtain⟨ma,mc,em⟩:=ax HE.o.mr.row;obtain⟨pa,pc,ep⟩:=ax HE.o.pr.row;subst em;subst ep;obtain⟨⟨c0,_⟩,⟨c1,_⟩⟩:=fd2 HE.o.lw.h;obtain⟨⟨d0,f0⟩,⟨d1,f1⟩⟩:=fd2 HE.o.l4.h;go_wp2;refine aI (bG results144 _ _ (w.heap.size+1) 213 _ (0,0) _ rfl (gA HE.o.l4.h _ _) underlying213 rfl (by kernel_rfl)) rfl ?_;exact⟨_,rfl,HE.o.done (by omega)⟩
 have jj:Hid (Pre (fnd (S G) G r) (S G) D (df ⟨2,m1,m2⟩) D4 (.ret (.wants [] [(dK (pr,m) m1,s1,s2)])) c5 Wq):=by
  have h:=az.o;rw[aj b3] at h;exact h
 have q0:(((dK (pr,m) m1:Nat):Int)==0)=false:=int_ne (b:=0) b3;clear az b3;generalize dK (pr,m) m1=pq at*;obtain⟨⟨c0,_⟩,⟨c1,_⟩⟩:=fd2 (b1.o.at (b:=b7) (o:=.cells #[tS s1,tS s2] 63) (by simp));have h4:Hid ((w5.alloc (.cells #[zI (pq:Nat),tS s1,tS s2] 65)).heap[w.heap.size+1]?=some (.cells #[zN,zN] 213)):=((b1.o.lay _).at (by simp));obtain⟨⟨h7,f0⟩,⟨h8,f1⟩⟩:=fd2 h4.o;go_wp2;refine aI (bG results144 _ _ (w.heap.size+1) 213 _ (0,0) _ rfl (gA h4.o _ _) underlying213 rfl (by kernel_rfl)) rfl ?_;exact⟨_,rfl,b1.o.bad (by simp) ga.o jj.o gs.o (by rw[gd.o];omega)⟩
