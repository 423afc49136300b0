import Derived.Test.YtelmkfkgpnadnaaGreatDoorJPMJ
import Derived.Test.YtelmkfkgpnadnaaGreatDoorJPM11
set_option linter.all false
open Go.Proofs.Tryz
set_option maxRecDepth 100000
set_option maxHeartbeats 100000000
namespace Go.Proofs.YtelmkfkgpnadnaaGreatDoor
open Go.RowKit
namespace Pn
open Mf Ed
variable{A A1 A2 A3:Nat→Prop}{S:Nat→Shf}{w w' wr wx W W1 w1 w2 w3 wf:zW}{db sb fb mb now:Nat}{cap:Int}{cs cs' cs2:List Int}{D D' D1 D2 D3:List Kp}{L L':List (zV×zV)}{B tb:Nat}{tv tv' tv2 tv3:zV}{ts ts' ts2:List Tie}{q:Qn}{k kk:Kp}{F:Find}{g:Nat}{n n1 b:Nat}{o:Obj}{Wk:List Qn}
structure Kq(b12 b6 n:Nat)(o12 o6:Obj)(W:World):Prop where
 h12:W.heap[b12]?=some o12
 h6:W.heap[b6]?=some o6
 le:n≤W.heap.size
 lt:b12<n∧b6<n
variable{b12 b6:Nat}{o12 o6:Obj}
theorem Kq.below(h:Kq b12 b6 n o12 o6 W)(hb:Below W.heap.size W W1):Kq b12 b6 n o12 o6 W1:=
 ⟨(hb.block _ (bI h.lt.1 h.le)).trans h.h12,(hb.block _ (bI h.lt.2 h.le)).trans h.h6,aP h.le hb.size,h.lt⟩
theorem Kq.alloc(h:Kq b12 b6 n o12 o6 W)(o:Obj):Kq b12 b6 n o12 o6 (W.alloc o):=h.below ((ae _ _).alloc (ag _) o)
theorem Kq.drew(h:Kq b12 b6 n o12 o6 W):Kq b12 b6 n o12 o6 W.drew:=h.below ((ae _ _).drew)
theorem Kq.set(h:Kq b12 b6 n o12 o6 W){a:Addr}(ha:n≤a.block)(u:zV):Kq b12 b6 n o12 o6 (W.setCell a u):=by
 have hl:=h.lt;refine⟨?_,?_,?_,h.lt⟩
 ·rw[aL _ _ _ _ (by omega)];exact h.h12
 ·rw[aL _ _ _ _ (by omega)];exact h.h6
 ·have:=h.le;simpa[World.setCell] using this
theorem DC{r:Nat}{s:Shf}{cm c:Cm Fi}(h:Pre (fnd s now r) s D cm D' c ts' Wk)(hD:D.length+10000*grow r≤N15)(hts:ts'.length≤9999):D'.length+grow r≤N15:=by
 have h1:=sK (mh s now r) h;have h2:=eF (grow r) hts;omega
structure Md(A2:Nat→Prop)(S:Nat→Shf)(B tb db sb fb mb now:Nat)(cap:Int)(L:List (zV×zV))(r:Nat)(W2 W w3:World)(cs:List Int)(D:List Kp)(tv:zV)(ts:List Tie)(p:zA)(A3:Nat→Prop)(tv3:zV)(kk:Kp)(D3:List Kp)(Wk:List Qn):Prop where
 back:∀wf,aj (fun b=>W2.heap.size≤b∧b<W.heap.size) w3 wf→dE A2 S W2 B tb db sb fb mb now cap L tv wf A3 (counted cs Wk) D3 tv3 (ts++[.ask ⟨1,p,e0⟩])
 fnd:fnd (S now) now r D ⟨1,p,e0⟩ kk D3 Wk
 stay:∀b,W2.heap.size≤b→b<W.heap.size→w3.heap[b]?=W.heap[b]?
 size:W.heap.size≤w3.heap.size
theorem DF{ver:zA}:∀{l l':List zA},gL ver l=some l'→∀x∈l',x∈l
 |[],l',h=>by simp[gL] at h
 |v::r,l',h=>by
  unfold gL at h
  split at h
  ·injection h with h;rw[←h];exact fun x hx=>hx
  ·exact fun x hx=>cK _ (DF h x hx)
theorem pY{X:List Mo}{p:zA}:∀{l:List zA} {m:Mo},cV X p l=some m→m.1=p∧m.2∈l
 |[],m,h=>by simp[cV] at h
 |v::r,m,h=>by
  unfold cV at h
  split at h
  ·exact⟨(pY h).1,cK _ (pY h).2⟩
  ·injection h with h;rw[←h];exact⟨rfl,bz ..⟩
theorem Fh{rq:Mo}{x:Nat×List zA}{X:List Mo}{m:Mo}(h:choose rq x X=.inl m):m.1=rq.1∧m.2∈x.2:=by
 unfold choose at h
 split at h
 ·cases h
 ·cases h1:gL rq.2 x.2 with
  |none=>rw[h1] at h;cases h
  |some l=>
   rw[h1] at h;cases h2:cV X rq.1 l with
   |none=>simp only[h2] at h;cases h
   |some m'=>
    simp only[h2] at h;injection h with h;rw[←h];exact⟨(pY h2).1,DF h1 _ (pY h2).2⟩
def K13(A2:Nat→Prop)(S:Nat→Shf)(B tb db sb fb mb now:Nat)(cap:Int)(L:List (zV×zV))(r:Nat)(W2 W w3:zW)(cs:List Int)(D:List Kp)(tv:zV)(ts:List Tie)(y0 y1:zA)(xa:Option Addr)(xc:Nat)(X:List Mo)(b12 b6:Nat)(o12 o6:Obj)(A3:Nat→Prop)(tv3:zV)(pr:Nat)(ua:Option Addr)(uc:Nat)(vs:List zA)(kk:Kp)(D3:List Kp)(Wk:List Qn):Prop:=
 (Md A2 S B tb db sb fb mb now cap L r W2 W w3 cs D tv ts y0 A3 tv3 kk D3 Wk∧kk.f=.idx pr vs)∧Kq b12 b6 W2.heap.size o12 o6 w3∧
  ∀W',Below w3.heap.size w3 W'→zC 327 #[.agg #[.string y0,.string y1],.agg #[zI (pr:Nat),.slice ua vs.length uc],.slice xa X.length xc] W' fun e w'=>∃m p,e=.returned (.tuple #[.agg #[.string m.1,.string m.2],.agg #[zI (p.1:Nat),.string p.2.1,.string p.2.2]])∧vB (y0,y1) (pr,vs) X m p∧Below W'.heap.size W' w'
theorem IJ{r:Nat}(hF:eA S db sb fb mb now cap L r)(y0 y1:zA)(hp:y0.size≤N48)(hD:D.length+grow r≤N15)(W2:zW)(h:Tsk A2 S W2 B tb db sb fb mb now cap cs D L tv ts)(hts:ts.length≤9999){xa:Option Addr}{xc:Nat}{X:List Mo}(hx:RdA A2 Sm.mc W2 (.slice xa X.length xc) X)(hX:X.length≤100000)(hn:db<n∧fb<n∧tb<n)(h12:Lc n tv W2 b12 o12)(h6:Lc n tv W2 b6 o6)(W:zW)(hb:Below W2.heap.size W2 W):
  zC 328 #[zP tb,.string y0] W fun e w3=>∃A3 tv3 pr ua uc vs kk D3 Wk,e=.returned (.agg #[zI (pr:Nat),.slice ua vs.length uc])∧K13 A2 S B tb db sb fb mb now cap L r W2 W w3 cs D tv ts y0 y1 xa xc X b12 b6 o12 o6 A3 tv3 pr ua uc vs kk D3 Wk:=by
 have hT:=h.wide hb (fun b=>W2.heap.size≤b∧b<W.heap.size) (fun b e=>e);refine(Iw hF y0 hp hD W hT hts).mono ?_;rintro e w3 ⟨A3,tv3,pr,u,vs,k,D',Wk,rfl,hu,hk,ha⟩;obtain⟨ua,uc,e1⟩:=hu.len;subst e1;have hok:=kE h.eng.inv ha.1 (aK _) (by show 1≤4;omega) ha.2.1.eng.ok;have hvs:vs.length≤100000:=by have h1:=hok.2.s;rw[hk] at h1;exact h1
 have hx3:RdA A3 Sm.mc w3 (.slice xa X.length xc) X:=RdA.went ((hx.more (fun b hb e=>by
  rcases e with e|e
  ·exact e
  ·omega)).below hb) hT ha.went
 have hs:=hb.size;refine⟨A3,tv3,pr,ua,uc,vs,k,D',Wk,rfl,⟨⟨fun wf ht=>ha.went.lift h hb (fun b e=>e) ht,ha.1,fun b h1 h2=>ha.went.stay h h1 h2,ha.went.f.size⟩,hk⟩,⟨((h12.below hb).went hn ha.went).h,((h6.below hb).went hn ha.went).h,aP hs ha.went.f.size,h12.lt,h6.lt⟩,fun W' hb'=>Ff y0 y1 pr _ _ vs X W' hvs hX (hu.below hb') (hx3.below hb')⟩
theorem IK{W2 w3:zW}{o:Obj}(h:∀b,W2.heap.size≤b→b<(W2.alloc o).drew.heap.size→w3.heap[b]?=(W2.alloc o).drew.heap[b]?):w3.heap[W2.heap.size]?=some o:=
 (h _ (ag _) (by simp)).trans (aD W2 o)
theorem IL{W2 w3:zW}{o o2:Obj}(h:∀b,W2.heap.size≤b→b<((W2.alloc o).alloc o2).drew.heap.size→w3.heap[b]?=((W2.alloc o).alloc o2).drew.heap[b]?):w3.heap[W2.heap.size]?=some o∧w3.heap[W2.heap.size+1]?=some o2:=
 ⟨(h _ (ag _) (by simp;omega)).trans ((aG _ _ _ (by simp)).trans (aD W2 o)),(h _ (cr _) (by simp)).trans (ez W2 o o2)⟩
theorem Li{w3:zW}{b:Nat}{o:Obj}(h:w3.heap[b]?=some o):(b=w3.heap.size)=False∧(w3.heap.size=b)=False:=by
 have hl:=ai h;exact⟨by simp;omega,by simp;omega⟩
theorem NZ{w3 w4:zW}{o:Obj}(h:Below (w3.alloc o).heap.size (w3.alloc o) w4):w4.heap[w3.heap.size]?=some o:=(h.block _ (by simp)).trans (aD w3 o)
theorem N0{w3 w4:zW}{o o2:Obj}(h:Below ((w3.alloc o).alloc o2).heap.size ((w3.alloc o).alloc o2) w4):w4.heap[w3.heap.size]?=some o∧w4.heap[w3.heap.size+1]?=some o2:=
 ⟨(h.block _ (by simp;omega)).trans ((aG _ _ _ (by simp)).trans (aD w3 o)),(h.block _ (by simp)).trans (ez w3 o o2)⟩
theorem uI{w4:zW}{b:Nat}{x y:zV}{t:TypeId}(h:w4.heap[b]?=some (.cells #[x,y] t)):
  ((w4.cell? ⟨b,0,none⟩=some x∧w4.frozen? ⟨b,0,none⟩=false)∧(w4.cell? ⟨b,1,none⟩=some y∧w4.frozen? ⟨b,1,none⟩=false))∧((∀o,(w4.alloc o).cell? ⟨b,0,none⟩=some x)∧(∀o,(w4.alloc o).frozen? ⟨b,0,none⟩=false))∧((∀o,(w4.alloc o).cell? ⟨b,1,none⟩=some y)∧(∀o,(w4.alloc o).frozen? ⟨b,1,none⟩=false))∧(b=w4.heap.size)=False∧(w4.heap.size=b)=False:=by
 have hl:=ai h;have h2:∀o,(w4.alloc o).heap[b]?=some (.cells #[x,y] t):=fun o=>(aG _ _ _ hl).trans h
 exact⟨fd2 h,⟨fun o=>(fd2 (h2 o)).1.1,fun o=>(fd2 (h2 o)).1.2⟩,⟨fun o=>(fd2 (h2 o)).2.1,fun o=>(fd2 (h2 o)).2.2⟩,by simp;omega,by simp;omega⟩
theorem uJ{w4:zW}{b:Nat}{x y z:zV}{t:TypeId}(h:w4.heap[b]?=some (.cells #[x,y,z] t)):
  ((w4.cell? ⟨b,0,none⟩=some x∧w4.frozen? ⟨b,0,none⟩=false)∧(w4.cell? ⟨b,1,none⟩=some y∧w4.frozen? ⟨b,1,none⟩=false)∧(w4.cell? ⟨b,2,none⟩=some z∧w4.frozen? ⟨b,2,none⟩=false))∧((∀o,(w4.alloc o).cell? ⟨b,0,none⟩=some x)∧(∀o,(w4.alloc o).frozen? ⟨b,0,none⟩=false))∧((∀o,(w4.alloc o).cell? ⟨b,1,none⟩=some y)∧(∀o,(w4.alloc o).frozen? ⟨b,1,none⟩=false))∧((∀o,(w4.alloc o).cell? ⟨b,2,none⟩=some z)∧(∀o,(w4.alloc o).frozen? ⟨b,2,none⟩=false))∧(b=w4.heap.size)=False∧(w4.heap.size=b)=False:=by
 have hl:=ai h;have h2:∀o,(w4.alloc o).heap[b]?=some (.cells #[x,y,z] t):=fun o=>(aG _ _ _ hl).trans h
 exact⟨fd3 h,⟨fun o=>(fd3 (h2 o)).1.1,fun o=>(fd3 (h2 o)).1.2⟩,⟨fun o=>(fd3 (h2 o)).2.1.1,fun o=>(fd3 (h2 o)).2.1.2⟩,⟨fun o=>(fd3 (h2 o)).2.2.1,fun o=>(fd3 (h2 o)).2.2.2⟩,by simp;omega,by simp;omega⟩
theorem Fd.far{W:zW}{b o b' o':Nat}{u v:zV}(h:Ed.Fd W b o u)(hne:b≠b'):Ed.Fd (W.setCell ⟨b',o',none⟩ v) b o u:=h.of_block (aL _ _ _ _ hne)
theorem Fd.alloc{W:zW}{b o:Nat}{u:zV}(h:Ed.Fd W b o u)(o':Obj):Ed.Fd (W.alloc o') b o u:=h.of_block (aG _ _ _ h.lt)
theorem Al(w:zW)(o:Obj)(cs:Array zV)(t:TypeId){j:Nat}{u:zV}(h:cs[j]?=some u):Ed.Fd ((w.alloc o).alloc (.cells cs t)) (w.heap.size+1) j u:=by
 have h1:=fO (w.alloc o) cs t h;rw[show(w.alloc o).heap.size=w.heap.size+1 by simp] at h1;exact h1
def Has(W:zW)(b o:Nat):Prop:=∃u,Ed.Fd W b o u
theorem Has.far{W:zW}{b o b' o':Nat}{v:zV}(h:Has W b o)(hne:b≠b'):Has (W.setCell ⟨b',o',none⟩ v) b o:=⟨_,Fd.far h.choose_spec hne⟩
theorem Has.alloc{W:zW}{b o:Nat}(h:Has W b o)(o':Obj):Has (W.alloc o') b o:=⟨_,Fd.alloc h.choose_spec o'⟩
theorem Has.put{W:zW}{b o o':Nat}{v:zV}(h:Has W b o):Has (W.setCell ⟨b,o',none⟩ v) b o:=by
 obtain⟨u,hu⟩:=h;by_cases e:o=o'
 ·subst e;exact⟨_,pB hu v⟩
 ·exact⟨_,hu.set e⟩
theorem Has.of{W:zW}{b o:Nat}{u:zV}(h1:W.cell? ⟨b,o,none⟩=some u)(h2:W.frozen? ⟨b,o,none⟩=false):Has W b o:=⟨u,h1,h2⟩
theorem N2(w:zW)(cs:Array zV)(t:TypeId){j:Nat}(h:(cs[j]?).isSome=true):Has (w.alloc (.cells cs t)) w.heap.size j:=by
 obtain⟨u,hu⟩:=Option.isSome_iff_exists.1 h;exact⟨u,fO w cs t hu⟩
theorem Qb{W:zW}{b o:Nat}(h:Has W b o)(v:zV):Ed.Fd (W.setCell ⟨b,o,none⟩ v) b o v:=pB h.choose_spec v
def R13(A2:Nat→Prop)(S:Nat→Shf)(B tb db sb fb mb now:Nat)(cap:Int)(L:List (zV×zV))(r:Nat)(W2:zW)(cs:List Int)(D:List Kp)(tv:zV)(ts:List Tie)(y0 y1:zA)(X:List Mo)(wx:zW)(b13 b14:Nat):Prop:=
 ∃A3 tv3 pr vs kk D3 Wk m p,dE A2 S W2 B tb db sb fb mb now cap L tv wx A3 (counted cs Wk) D3 tv3 (ts++[.ask ⟨1,y0,e0⟩])∧(fnd (S now) now r D ⟨1,y0,e0⟩ kk D3 Wk∧kk.f=.idx pr vs∧vB (y0,y1) (pr,vs) X m p)∧(Ed.Fd wx b13 0 (.string m.1)∧Ed.Fd wx b13 1 (.string m.2))∧Ed.Fd wx b14 0 (zI (p.1:Nat))∧Ed.Fd wx b14 1 (.string p.2.1)∧Ed.Fd wx b14 2 (.string p.2.2)
theorem yh{r:Nat}(hF:eA S db sb fb mb now cap L r):Gm S db sb fb mb now cap L (fnd (S now) now r) (grow r):=by
 intro A w cs D B tb m1 m2 hm1 hm2 hD h;obtain⟨i2,hi1,hi2,hi3,hi4⟩:=Bm.gM 29 (.agg #[zE,zE]) 2 32 (by kernel_rfl);have HI:Hid (prog.info? 29=some i2∧i2.zero=some (.agg #[zE,zE])∧i2.size=2∧i2.bytes=32):=⟨hi1,hi2,hi3,hi4⟩;obtain⟨i3,hj1,hj2,hj3,hj4⟩:=Bm.gM 76 (.agg #[zI 0,zE,zE]) 3 40 (by kernel_rfl);have HJ:Hid (prog.info? 76=some i3∧i3.zero=some (.agg #[zI 0,zE,zE])∧i3.size=3∧i3.bytes=40):=⟨hj1,hj2,hj3,hj4⟩;clear hi1 hi2 hi3 hi4 hj1 hj2 hj3 hj4;have hg1:D.length+grow r≤N15:=by omega
 have HFd:Hid (eA S db sb fb mb now cap L r):=hF;have HD:Hid (D.length+10000*grow r≤N15):=hD;have HM:Hid (m1.size≤N48∧m2.size≤N48):=⟨hm1,hm2⟩;have HIv:Hid (Inv S now D):=h.eng.inv;obtain⟨root,pE⟩:∃root,root=rootOf (S now ax):=⟨_,rfl⟩
 have HRt:Hid (root=rootOf (S now ax)∧root.size≤N48):=⟨pE,by
  rw[pE];cases e:S now ax with
  |none=>exact aK _
  |some t=>exact h.eng.rt t e⟩
 have HS0:Hid (Stp A S w B tb db sb fb mb now cap L cs D ((w.alloc (.cells #[.string m1,.string m2] 29)).alloc (.cells #[zN,zN] 391)) (fun b=>A b∨b=w.heap.size+1) cs D (zN) [] [(w.heap.size+1,.cells #[zN,zN] 391),(w.heap.size,.cells #[.string m1,.string m2] 29)]):=Stp.Qa h _ _;have k0:=Dv _ HS0.out.went.t (by show 0≤9999;omega);rw[←pE] at k0;clear h hF hD hm1 hm2 pE;go_enter func310,ntmps310
 go_wp2_with (go_at_call 322;fail)
 generalize (w.alloc (.cells #[.string m1,.string m2] 29)).alloc (.cells #[zN,zN] 391)=W0 at*;go_at_call 322;refine k0.mono ?_;rintro e w1 ⟨A1,tv1,rfl,hk1⟩;have HA1:Hid (A1 (w.heap.size+1)):=hk1.sub _ (Or.inr rfl);have HS1:Hid (Stp A S w B tb db sb fb mb now cap L cs D (w1.alloc (.cells #[.string root,.string e0] 29)) A1 cs D tv1 ([]++[.rd ax (S now ax)]) [(w1.heap.size,.cells #[.string root,.string e0] 29),(w.heap.size+1,.cells #[zN,zN] 391),(w.heap.size,.cells #[.string m1,.string m2] 29)]):=(HS0.out.call hk1).lay _;clear hk1 k0 HS0;have k1:=IA HFd.out root HRt.out.2 hg1 _ HS1.out.went.t (by show 1≤9999;omega);obtain⟨⟨c0,_⟩,⟨c1,_⟩⟩:=fd2 (HS1.out.at (bz ..))
 go_wp2_with (go_at_call 323;fail)
 generalize hW1:w1.alloc (.cells #[.string root,.string e0] 29)=W1 at*;clear hW1;generalize w1.heap.size=b5 at*;go_at_call 323;refine k1.mono ?_;rintro e w2 ⟨A2,tv2,r1v,xv,sv,kA,D2,Wk2,rfl,⟨hr1,hrx,hrs⟩,hf2,hk2⟩;clear k1 c0 c1;have hkA:=kE HIv.out hf2 (aK _) (by show 0≤4;omega) hk2.t.eng.ok;obtain⟨hrk,Q0⟩:=Lf root hkA.1 hkA.2.f hkA.2.s;obtain⟨rl,hrl⟩:∃rl,rl=bO root kA.f:=⟨_,rfl⟩;rw[←hrl] at hr1 hrx hrs hrk ⊢;have HRl:Hid (rl=bO root kA.f.ess):=by rw[Q0];exact hrl
 have HRk:Hid (xE N48 rl∧rl.X.length≤100000∧rl.S.length≤100000):=hrk;have HFa:Hid (fnd (S now) now r D ⟨0,root,e0⟩ kA D2 Wk2∧D2.length≤D.length+grow r):=⟨hf2,mh _ _ r _ _ _ _ _ hf2⟩;obtain⟨r1a,r1c,e1⟩:=hr1.len;obtain⟨xa,xc,e2⟩:=hrx.len;obtain⟨sa,sc,e3⟩:=hrs.len;subst e1;subst e2;subst e3;have HA2:Hid (A2 (w.heap.size+1)):=hk2.sub _ HA1.out;have HS2:Hid (Stp A S w B tb db sb fb mb now cap L cs D (w2.alloc (.cells #[.string rl.p,.slice r1a rl.R.length r1c,.slice xa rl.X.length xc,.slice sa rl.S.length sc] 26)) A2 (counted cs Wk2) D2 tv2 ([]++[.rd ax (S now ax)]++[.ask ⟨0,root,e0⟩]) [(w2.heap.size,.cells #[.string rl.p,.slice r1a rl.R.length r1c,.slice xa rl.X.length xc,.slice sa rl.S.length sc] 26),(b5,.cells #[.string root,.string e0] 29),(w.heap.size+1,.cells #[zN,zN] 391),(w.heap.size,.cells #[.string m1,.string m2] 29)]):=(HS1.out.call hk2).lay _;have HX2:Hid (RdA A2 Sm.mc (w2.alloc (.cells #[.string rl.p,.slice r1a rl.R.length r1c,.slice xa rl.X.length xc,.slice sa rl.S.length sc] 26)) (.slice xa rl.X.length xc) rl.X∧RdA A2 Sw.mc (w2.alloc (.cells #[.string rl.p,.slice r1a rl.R.length r1c,.slice xa rl.X.length xc,.slice sa rl.S.length sc] 26)) (.slice sa rl.S.length sc) rl.S):=⟨hrx.below ((ae _ _).alloc (ag _) _),hrs.below ((ae _ _).alloc (ag _) _)⟩;clear hk2 hr1 hrx hrs hf2 hkA hrk Q0 hrl HS1 HA1;have k2:=BI m1 m2 _ rl.S _ HRk.out.2.2 HX2.out.2
 obtain⟨⟨c0,_⟩,⟨c1,_⟩,⟨c2,_⟩,⟨c3,_⟩⟩:=fd4 (HS2.out.at (bz ..));obtain⟨⟨d0,_⟩,⟨d1,_⟩⟩:=fd2 (HS2.out.at (b:=w.heap.size) (o:=.cells #[.string m1,.string m2] 29) (by simp))
 go_wp2_with (go_at_call 324;fail)
 generalize hW2:w2.alloc (.cells #[.string rl.p,.slice r1a rl.R.length r1c,.slice xa rl.X.length xc,.slice sa rl.S.length sc] 26)=W2 at*;clear hW2;generalize w2.heap.size=b6 at*;go_at_call 324;refine k2.mono ?_;rintro e w3 ⟨rfl,hb3⟩;clear k2 c0 c1 c2 c3 d0 d1;have hsr:=vC HM.out.1 HM.out.2 rl.S HRk.out.1.S;obtain⟨s1,s2,hs⟩:∃s1 s2,(s1,s2)=replaced (m1,m2) rl.S:=⟨_,_,rfl⟩;rw[←hs] at hsr ⊢;have HSr:Hid ((s1,s2)=replaced (m1,m2) rl.S∧s1.size≤N48∧s2.size≤N48):=⟨hs,hsr.1,hsr.2⟩;have HS3:Hid (Stp A S w B tb db sb fb mb now cap L cs D (w3.alloc (.cells #[.string s1,.string s2] 29)) A2 (counted cs Wk2) D2 tv2 ([]++[.rd ax (S now ax)]++[.ask ⟨0,root,e0⟩]) [(w3.heap.size,.cells #[.string s1,.string s2] 29),(b6,.cells #[.string rl.p,.slice r1a rl.R.length r1c,.slice xa rl.X.length xc,.slice sa rl.S.length sc] 26),(b5,.cells #[.string root,.string e0] 29),(w.heap.size+1,.cells #[zN,zN] 391),(w.heap.size,.cells #[.string m1,.string m2] 29)]):=(HS2.out.below hb3).lay _;have HX3:Hid (RdA A2 Sm.mc (w3.alloc (.cells #[.string s1,.string s2] 29)) (.slice xa rl.X.length xc) rl.X):=(HX2.out.1.below hb3).below ((ae _ _).alloc (ag _) _);clear hb3 hs hsr HS2 HX2;have k3:=iA HFd.out s1 s2 HSr.out.2.1 HSr.out.2.2 (by have h1:=HFa.out.2;have h2:=HD.out;omega) _ HS3.out.went.t (by show 2≤9999;omega);obtain⟨⟨c0,_⟩,⟨c1,_⟩⟩:=fd2 (HS3.out.at (bz ..))
 go_wp2_with (go_at_call 325;fail)
 generalize hW3:w3.alloc (.cells #[.string s1,.string s2] 29)=W3 at*;clear hW3;generalize w3.heap.size=b7 at*;go_at_call 325;refine k3.mono ?_;rintro e w4 ⟨A4,tv4,pr,m,rv,mxv,msv,kB,D4,Wk4,rfl,⟨hr1,hrx,hrs⟩,hkf,hk4⟩;clear k3 c0 c1;have hkB:=kE HS3.out.went.t.eng.inv hk4.1 (aK _) (by show 0≤4;omega) hk4.2.1.eng.ok;have HMk:Hid (xE N48 m∧m.R.length≤2001):=⟨by have h1:=hkB.2.f;rw[hkf] at h1;exact h1,Le (by rw[←hkB.1];exact hkf)⟩;obtain⟨ra,rc,e1⟩:=hr1.len;obtain⟨ya,yc,e2⟩:=hrx.len;obtain⟨za,zc,e3⟩:=hrs.len;subst e1;subst e2;subst e3;have HA4:Hid (A4 (w.heap.size+1)):=hk4.went.sub _ HA2.out;have HPre:Hid (Pre (fnd (S now) now r) (S now) D (dh ⟨2,m1,m2⟩) D4 (if dn (pr,m) m1≠0 then .ret (.wants [] [(dn (pr,m) m1,s1,s2)]) else bj root rl.X m.R [] []) (([]++[.rd ax (S now ax)])++[.ask ⟨0,root,e0⟩]++[.ask ⟨0,s1,s2⟩]) (([]++Wk2)++Wk4)):=IG HRt.out.1 HRl.out HSr.out.1 HFa.out.1 hk4.1 hkf;have HX4:Hid (RdA A4 Sm.mc (w4.alloc (.cells #[zI (pr:Nat),.string m.p,.slice ra m.R.length rc,.slice ya m.X.length yc,.slice za m.S.length zc] 386)) (.slice xa rl.X.length xc) rl.X∧RdA A4 Sm.mc (w4.alloc (.cells #[zI (pr:Nat),.string m.p,.slice ra m.R.length rc,.slice ya m.X.length yc,.slice za m.S.length zc] 386)) (.slice ra m.R.length rc) m.R):=⟨(HX3.out.went HS3.out.went.t hk4.went).below ((ae _ _).alloc (ag _) _),hr1.below ((ae _ _).alloc (ag _) _)⟩
 have HS4:Hid (Stp A S w B tb db sb fb mb now cap L cs D (w4.alloc (.cells #[zI (pr:Nat),.string m.p,.slice ra m.R.length rc,.slice ya m.X.length yc,.slice za m.S.length zc] 386)) A4 (counted cs (([]++Wk2)++Wk4)) D4 tv4 (([]++[.rd ax (S now ax)])++[.ask ⟨0,root,e0⟩]++[.ask ⟨0,s1,s2⟩]) [(w4.heap.size,.cells #[zI (pr:Nat),.string m.p,.slice ra m.R.length rc,.slice ya m.X.length yc,.slice za m.S.length zc] 386),(b7,.cells #[.string s1,.string s2] 29),(b6,.cells #[.string rl.p,.slice r1a rl.R.length r1c,.slice xa rl.X.length xc,.slice sa rl.S.length sc] 26),(b5,.cells #[.string root,.string e0] 29),(w.heap.size+1,.cells #[zN,zN] 391),(w.heap.size,.cells #[.string m1,.string m2] 29)]):=by
  rw[jS,←fz];exact(HS3.out.call hk4.went).lay _
 have HTk:Hid (∀t∈(([]++[Tie.rd ax (S now ax)])++[.ask ⟨0,root,e0⟩]++[.ask ⟨0,s1,s2⟩]),jg t):=fun t ht=>by
  simp only[jS,jQ,aV,di,or_false] at ht;rcases ht with rfl|rfl|rfl
  ·exact⟨by show 2≤4;omega,aK _,aK _⟩
  ·exact⟨HRt.out.2,aK _⟩
  ·exact⟨HSr.out.2.1,HSr.out.2.2⟩
 clear hr1 hrx hrs hkf hk4 hkB HS3 HX3 HA2;have HLn:Hid ((([]++[Tie.rd ax (S now ax)])++[Tie.ask ⟨0,root,e0⟩]++[Tie.ask ⟨0,s1,s2⟩]).length=3):=rfl;generalize (([]++[Tie.rd ax (S now ax)])++[.ask ⟨0,root,e0⟩]++[.ask ⟨0,s1,s2⟩])=ts4 at*;generalize (([]++Wk2)++Wk4)=Wq at*;have kp:=qG pr m ra ya za m.R.length rc m.X.length yc m.S.length zc m1 (w4.alloc (.cells #[zI (pr:Nat),.string m.p,.slice ra m.R.length rc,.slice ya m.X.length yc,.slice za m.S.length zc] 386));obtain⟨⟨c0,_⟩,⟨c1,_⟩,⟨c2,_⟩,⟨c3,_⟩,⟨c4,_⟩⟩:=fd5 (HS4.out.at (bz ..));obtain⟨⟨d0,_⟩,⟨d1,_⟩⟩:=fd2 (HS4.out.at (b:=w.heap.size) (o:=.cells #[.string m1,.string m2] 29) (by simp))
 go_wp2_with (go_at_call 326;fail)
 generalize hW4:w4.alloc (.cells #[zI (pr:Nat),.string m.p,.slice ra m.R.length rc,.slice ya m.X.length yc,.slice za m.S.length zc] 386)=W4 at*;clear hW4;generalize w4.heap.size=b8 at*;go_at_call 326;refine kp.mono ?_;rintro e w5 ⟨rfl,hb5⟩;have HS5:Hid (Stp A S w B tb db sb fb mb now cap L cs D w5 A4 (counted cs Wq) D4 tv4 ts4 [(b8,.cells #[zI (pr:Nat),.string m.p,.slice ra m.R.length rc,.slice ya m.X.length yc,.slice za m.S.length zc] 386),(b7,.cells #[.string s1,.string s2] 29),(b6,.cells #[.string rl.p,.slice r1a rl.R.length r1c,.slice xa rl.X.length xc,.slice sa rl.S.length sc] 26),(b5,.cells #[.string root,.string e0] 29),(w.heap.size+1,.cells #[zN,zN] 391),(w.heap.size,.cells #[.string m1,.string m2] 29)]):=HS4.out.below hb5;have HX5:Hid (RdA A4 Sm.mc w5 (.slice xa rl.X.length xc) rl.X∧RdA A4 Sm.mc w5 (.slice ra m.R.length rc) m.R):=⟨HX4.out.1.below hb5,HX4.out.2.below hb5⟩;clear hb5 kp c0 c1 c2 c3 c4 d0 d1 HS4 HX4;by_cases hp0:dn (pr,m) m1=0
 ·have HPl:Hid (Pre (fnd (S now) now r) (S now) D (dh ⟨2,m1,m2⟩) D4 (bj root rl.X (m.R.drop 0) [] []) ts4 Wq):=by
   have h:=HPre.out;rw[af (fun hh=>hh hp0)] at h;exact h
  rw[hp0];obtain⟨⟨c0,_⟩,⟨c1,_⟩,⟨c2,_⟩,⟨c3,_⟩,⟨c4,_⟩⟩:=fd5 ((HS5.out.lay (.cells #[zN,zN] 391)).at (b:=b8) (o:=.cells #[zI (pr:Nat),.string m.p,.slice ra m.R.length rc,.slice ya m.X.length yc,.slice za m.S.length zc] 386) (by simp));clear HPre hp0;have HMR:Hid ((∀x∈m.R,x.1.size≤N48∧x.2.size≤N48)∧m.R.length≤2001):=⟨HMk.out.1.R,HMk.out.2⟩;clear HMk;generalize hR:m.R=R at*;clear hR;generalize hN:R.length=N at*;have HN:Hid (R.length=N):=hN;have hN2:N≤2001:=HMR.out.2;clear hN;have hwb:w5.heap.size+1=w5.heap.size+1:=rfl;have HW0:Hid (Wt A S w B tb db sb fb mb now cap L cs D (fnd (S now) now r) (dh ⟨2,m1,m2⟩) (w5.heap.size+1) (w.heap.size+1) b5 b6 w5.heap.size root rl (.slice r1a rl.R.length r1c) (.slice xa rl.X.length xc) (.slice sa rl.S.length sc) (.slice ra N rc) R (w5.alloc (.cells #[zN,zN] 391)) (bj root rl.X (R.drop 0) [] []) (fun b=>A4 b∨b=w5.heap.size) D4 tv4 ts4 Wq [] [] (zN) (zN)):=Wt.start HS5.out (by simp) (by simp) (by simp) HX5.out.1 HX5.out.2 HA4.out HPl.out HTk.out;clear HS5 HX5 HPl hwb;go_wp2;generalize w5.alloc (.cells #[zN,zN] 391)=W6 at*;generalize w5.heap.size=wb at*;clear c0 c1 c2 c3 c4
  go_loopg [45] N (fun gg s wr=>∃(i:Nat)(A2:Nat→Prop)(D':List Kp)(tv':zV)(ts':List Tie)(Wk:List Qn)(ms:List Mo)(ps:List Pb)(mv pv:zV),i≤N∧N-i≤gg∧s=zI i∧Hid (Wt A S w B tb db sb fb mb now cap L cs D (fnd (S now) now r) (dh ⟨2,m1,m2⟩) (wb+1) (w.heap.size+1) b5 b6 wb root rl (.slice r1a rl.R.length r1c) (.slice xa rl.X.length xc) (.slice sa rl.S.length sc) (.slice ra N rc) R wr (bj root rl.X (R.drop i) ms ps) A2 D' tv' ts' Wk ms ps mv pv)∧Hid (ts'.length≤3+i∧ms.length≤i∧ps.length≤i))
  case atStart=>exact⟨0,_,_,_,_,_,_,_,_,_,by omega,by omega,rfl,HW0,⟨by rw[HLn.out];exact ag _,ag _,ag _⟩⟩
  case round=>
   obtain⟨i,A2,D',tv',ts',Wk,ms,ps,mv,pv,hi,hg,rfl,HW,HC⟩:=hrel;clear HW0;by_cases hin:i<N
   ·have hil:((i:Nat):Int)<(N:Int):=by omega
    obtain⟨bR,oR,cR,eg,hx⟩:=RdA.at HW.out.rr kz (by decide) (ae _ _) i (by rw[HN.out];exact hin);injection eg with eg1 eg2 eg3;have x0:=hx 0 _ rfl;have x1:=hx 1 _ rfl;have HRi:Hid (R[i]?=some R[i]∧R[i].1.size≤N48∧R[i].2.size≤N48):=⟨aO (by rw[HN.out];exact hin),HMR.out.1 _ (bL _)⟩;generalize R[i]'(by rw[HN.out];exact hin)=y at*;obtain⟨y0,y1⟩:=y;rw[Nat.add_zero] at x0;simp only at x0 x1;subst eg1;clear hx eg2 eg3;go_upto_region 12 with fail;have HW2:Hid (Wt A S w B tb db sb fb mb now cap L cs D (fnd (S now) now r) (dh ⟨2,m1,m2⟩) (wb+1) (w.heap.size+1) b5 b6 wb root rl (.slice r1a rl.R.length r1c) (.slice xa rl.X.length xc) (.slice sa rl.S.length sc) (.slice (some ⟨bR,oR,none⟩) N rc) R (wr.alloc (.cells #[.string y0,.string y1] 29)) (bj root rl.X (R.drop i) ms ps) A2 D' tv' ts' Wk ms ps mv pv):=HW.out.below ((ae _ _).alloc (ag _) _);have HL12:Hid (Lc w.heap.size tv' (wr.alloc (.cells #[.string y0,.string y1] 29)) wr.heap.size (.cells #[.string y0,.string y1] 29)):=Lc.new wr _ HW.out.went.f.size HW.out.tvlt;clear x0 x1 HW;generalize wr.alloc (.cells #[.string y0,.string y1] 29)=W2 at*;generalize wr.heap.size=b12 at*;obtain⟨⟨x0,_⟩,⟨x1,_⟩⟩:=fd2 HL12.out.h;obtain⟨⟨c50,_⟩,_⟩:=fd2 HW2.out.l5.h;by_cases he:y0=root
    ·have HN2:Hid (Wt A S w B tb db sb fb mb now cap L cs D (fnd (S now) now r) (dh ⟨2,m1,m2⟩) (wb+1) (w.heap.size+1) b5 b6 wb root rl (.slice r1a rl.R.length r1c) (.slice xa rl.X.length xc) (.slice sa rl.S.length sc) (.slice (some ⟨bR,oR,none⟩) N rc) R W2 (bj root rl.X (R.drop (i+1)) ms ps) A2 D' tv' ts' Wk ms ps mv pv):=by
      have h:=HW2.out;rw[II HRi.out.1 he] at h;exact h
     have q0:(y0.toList==root.toList)=true:=by rw[he];simp
     have hC:=HC.out;clear HW2 he;go_wp2;go_roundg (N-(i+1))
     case measure=>omega
     case rel=>exact⟨i+1,_,_,_,_,_,_,_,_,_,by omega,by omega,by go_num,HN2,⟨by omega,by omega,by omega⟩⟩
    ·have q0:=Rn.dr he
     go_upto_region 13 with fail
     have HWa:Hid (Wt A S w B tb db sb fb mb now cap L cs D (fnd (S now) now r) (dh ⟨2,m1,m2⟩) (wb+1) (w.heap.size+1) b5 b6 wb root rl (.slice r1a rl.R.length r1c) (.slice xa rl.X.length xc) (.slice sa rl.S.length sc) (.slice (some ⟨bR,oR,none⟩) N rc) R W2 (.ask ⟨1,y0,e0⟩ fun f=>yg root rl.X (R.drop (i+1)) ms ps (choose (y0,y1) (pd f) rl.X)) A2 D' tv' ts' Wk ms ps mv pv):=by
      have h:=HW2.out;rw[Lg HRi.out.1 he] at h;exact h
     have hRl:=HMR.out.2;have hNl:=HN.out;have hC:=HC.out;have HDr:Hid (D'.length+grow r≤N15):=DC HWa.out.pre HD.out (by omega)
     have hlt:db<w.heap.size∧fb<w.heap.size∧tb<w.heap.size:=by
      have h1:=HWa.out.h0.lt;have h2:=HWa.out.h0.hB;have h3:=HWa.out.h0.task.t0.lt;omega
     have K328:Hid (∀W,Below W2.heap.size W2 W→zC 328 #[zP tb,.string y0] W fun e w3=>∃A3 tv3 pr ua uc vs kk D3 Wk3,e=.returned (.agg #[zI (pr:Nat),.slice ua vs.length uc])∧K13 A2 S B tb db sb fb mb now cap L r W2 W w3 (counted cs Wk) D' tv' ts' y0 y1 xa xc rl.X b12 b6 (.cells #[.string y0,.string y1] 29) (.cells #[.string rl.p,.slice r1a rl.R.length r1c,.slice xa rl.X.length xc,.slice sa rl.S.length sc] 26) A3 tv3 pr ua uc vs kk D3 Wk3):=fun W hb=>IJ HFd.out y0 y1 HRi.out.2.1 HDr.out W2 HWa.out.went.t (by omega) HWa.out.rx HRk.out.2.1 hlt HL12.out HWa.out.l6 W hb
     have HK2:Hid (Kq b12 b6 W2.heap.size (.cells #[.string y0,.string y1] 29) (.cells #[.string rl.p,.slice r1a rl.R.length r1c,.slice xa rl.X.length xc,.slice sa rl.S.length sc] 26) W2):=⟨HL12.out.h,HWa.out.l6.h,ag _,HL12.out.lt,HWa.out.l6.lt⟩;clear c50 x0 x1 HW2 he q0 hlt
     go_cut [13,14] (fun x13 x14 wx=>∃b13 b14,x13=zP b13∧x14=zP b14∧Hid (R13 A2 S B tb db sb fb mb now cap L r W2 (counted cs Wk) D' tv' ts' y0 y1 rl.X wx b13 b14))
     case first=>
      have HPd:Hid (∀W,Kq b12 b6 W2.heap.size (.cells #[.string y0,.string y1] 29) (.cells #[.string rl.p,.slice r1a rl.R.length r1c,.slice xa rl.X.length xc,.slice sa rl.S.length sc] 26) W→W.cell? ⟨b12,0,none⟩=some (.string y0)∧W.cell? ⟨b12,1,none⟩=some (.string y1)∧W.cell? ⟨b6,2,none⟩=some (.slice xa rl.X.length xc)):=fun W hk=>⟨(fd2 hk.h12).1.1,(fd2 hk.h12).2.1,(fd4 hk.h6).2.2.1.1⟩
      obtain⟨p0,p1,p2⟩:=HPd.out W2 HK2.out
      go_region_held3 (fun w'=>w'.cell? ⟨b12,0,none⟩=some (.string y0)∧w'.cell? ⟨b12,1,none⟩=some (.string y1)∧w'.cell? ⟨b6,2,none⟩=some (.slice xa rl.X.length xc))
       (first|with_reducible exact⟨p0,p1,p2⟩|(with_reducible refine HPd.out _ ?_;repeat' first|with_reducible exact HK2.out|with_reducible exact hk3|with_reducible exact hk4|with_reducible refine Kq.alloc ?_ _|with_reducible refine Kq.drew ?_|(with_reducible refine Kq.set ?_ (by first|exact ag _|exact cr _|exact Q5|exact Nat.le_succ_of_le Q5|exact Q6|exact Nat.le_succ_of_le Q6) _)))
       (first
        |(go_at_call 328;refine(K328.out _ (by first|with_reducible exact(ae _ _).drew|with_reducible exact(aB (ae _ _) _).drew|with_reducible exact(aB (aB (ae _ _) _) _).drew)).mono ?_;rintro e w3 ⟨A3,tv3,pr,ua,uc,vs,kk,D3,Wk3,rfl,hmd,hk3,Sk⟩;have Q5:=hk3.le;(first|with_reducible have hz:=IL hmd.1.stay|(with_reducible have hz:=IK hmd.1.stay;obtain⟨Sl,Sn⟩:=Li hz)|skip))
        |(go_at_call 327;refine(Sk _ (by first|with_reducible exact ae _ _|with_reducible exact aB (ae _ _) _|with_reducible exact aB (aB (ae _ _) _) _)).mono ?_;rintro e w4 ⟨m,p,rfl,hch,hb4⟩;have BM:Below w3.heap.size w3 w4:=(by first|with_reducible exact hb4|with_reducible exact(aB (ae w3.heap.size w3) _).trans (hb4.mono (by simp))|with_reducible exact(aB (aB (ae w3.heap.size w3) _) _).trans (hb4.mono (by simp;omega)));have hk4:=hk3.below BM;have Q6:=hk4.le;(first|(with_reducible have hy1:=uI ((BM.block _ (ai hz.1)).trans hz.1);with_reducible have hy2:=uJ ((BM.block _ (ai hz.2)).trans hz.2);obtain⟨⟨⟨za0,za1⟩,⟨za2,za3⟩⟩,⟨za4,za5⟩,⟨za6,za7⟩,za8,za9⟩:=hy1;obtain⟨⟨⟨zb0,zb1⟩,⟨zb2,zb3⟩,⟨zba,zbb⟩⟩,⟨zb4,zb5⟩,⟨zb6,zb7⟩,⟨zbc,zbd⟩,zb8,zb9⟩:=hy2)|(with_reducible have hy1:=uJ ((BM.block _ (ai hz.1)).trans hz.1);with_reducible have hy2:=uI ((BM.block _ (ai hz.2)).trans hz.2);obtain⟨⟨⟨za0,za1⟩,⟨za2,za3⟩,⟨zaa,zab⟩⟩,⟨za4,za5⟩,⟨za6,za7⟩,⟨zac,zad⟩,za8,za9⟩:=hy1;obtain⟨⟨⟨zb0,zb1⟩,⟨zb2,zb3⟩⟩,⟨zb4,zb5⟩,⟨zb6,zb7⟩,zb8,zb9⟩:=hy2)|(with_reducible have hy1:=uI ((BM.block _ (ai hz)).trans hz);obtain⟨⟨⟨za0,za1⟩,⟨za2,za3⟩⟩,⟨za4,za5⟩,⟨za6,za7⟩,za8,za9⟩:=hy1)|(with_reducible have hy1:=uJ ((BM.block _ (ai hz)).trans hz);obtain⟨⟨⟨za0,za1⟩,⟨za2,za3⟩,⟨zaa,zab⟩⟩,⟨za4,za5⟩,⟨za6,za7⟩,⟨zac,zad⟩,za8,za9⟩:=hy1)|skip);(first|(with_reducible have hzm:=N0 hb4;obtain⟨Lj,Q7⟩:=hzm;first|(with_reducible have hy3:=uI Lj;with_reducible have hy4:=uJ Q7;obtain⟨⟨⟨zc0,zc1⟩,⟨zc2,zc3⟩⟩,⟨zc4,zc5⟩,⟨zc6,zc7⟩,zc8,zc9⟩:=hy3;obtain⟨⟨⟨zd0,zd1⟩,⟨zd2,zd3⟩,⟨zda,zdb⟩⟩,⟨zd4,zd5⟩,⟨zd6,zd7⟩,⟨zdc,zdd⟩,zd8,zd9⟩:=hy4)|(with_reducible have hy3:=uJ Lj;with_reducible have hy4:=uI Q7;obtain⟨⟨⟨zc0,zc1⟩,⟨zc2,zc3⟩,⟨zca,zcb⟩⟩,⟨zc4,zc5⟩,⟨zc6,zc7⟩,⟨zcc,zcd⟩,zc8,zc9⟩:=hy3;obtain⟨⟨⟨zd0,zd1⟩,⟨zd2,zd3⟩⟩,⟨zd4,zd5⟩,⟨zd6,zd7⟩,zd8,zd9⟩:=hy4))|(with_reducible have Lj:=NZ hb4;first|(with_reducible have hy3:=uI Lj;obtain⟨⟨⟨zc0,zc1⟩,⟨zc2,zc3⟩⟩,⟨zc4,zc5⟩,⟨zc6,zc7⟩,zc8,zc9⟩:=hy3)|(with_reducible have hy3:=uJ Lj;obtain⟨⟨⟨zc0,zc1⟩,⟨zc2,zc3⟩,⟨zca,zcb⟩⟩,⟨zc4,zc5⟩,⟨zc6,zc7⟩,⟨zcc,zcd⟩,zc8,zc9⟩:=hy3))|skip)))
      all_goals
       go_wp2_with fail
       go_meet
       refine⟨_,_,rfl,rfl,A3,tv3,pr,vs,kk,D3,Wk3,m,p,hmd.1.back _ ?_,⟨hmd.1.fnd,hmd.2,hch⟩,⟨?_,?_⟩,?_,?_,?_⟩
       ·repeat' first|with_reducible exact aj.of_below BM|with_reducible refine aj.alloc ?_ _|with_reducible refine aj.set ?_ ?_ _|(intro h;first|exact⟨ag _,by first|(simp;done)|(simp;omega)⟩|exact⟨cr _,by first|(simp;done)|(simp;omega)⟩|(exfalso;have Ty:=BM.size;revert h;dsimp only;omega))
       all_goals
        repeat' first|((with_reducible refine fO _ _ _ ?_);rfl)|((with_reducible refine Al _ _ _ _ ?_);rfl)|with_reducible refine Qb ?_ _|with_reducible refine Ed.Fd.set ?_ (by decide)|with_reducible refine Fd.alloc ?_ _|with_reducible refine Fd.far ?_ ?_|((with_reducible refine N2 _ _ _ ?_);rfl)|((with_reducible refine Q8 _ _ _ _ ?_);rfl)|with_reducible refine Has.put ?_|with_reducible refine Has.alloc ?_ _|with_reducible refine Has.far ?_ ?_|(with_reducible refine Has.of (u:=zE) ?_ ?_<;>with_reducible assumption)|(with_reducible refine Has.of (u:=zI 0) ?_ ?_<;>with_reducible assumption)|with_reducible exact Nat.succ_ne_self _|with_reducible exact(Nat.succ_ne_self _).symm|with_reducible exact iO Sl|with_reducible exact iO Sn|with_reducible exact iO za8|with_reducible exact iO za9|with_reducible exact iO zb8|with_reducible exact iO zb9|with_reducible exact iO zc8|with_reducible exact iO zc9|with_reducible exact iO zd8|with_reducible exact iO zd9
     case rest=>
      obtain⟨b13,b14,h13,h14,HC13⟩:=hcut;rw[h13,h14];clear h13 h14;obtain⟨A3,tv3,pr',vs,kk,D3,Wk3,mm,p,yi,⟨Qc,hkf,hch⟩,⟨k0,k1⟩,k2,k3,k4⟩:=HC13.out
      have HWb:Hid (Wt A S w B tb db sb fb mb now cap L cs D (fnd (S now) now r) (dh ⟨2,m1,m2⟩) (wb+1) (w.heap.size+1) b5 b6 wb root rl (.slice r1a rl.R.length r1c) (.slice xa rl.X.length xc) (.slice sa rl.S.length sc) (.slice (some ⟨bR,oR,none⟩) N rc) R wc (yg root rl.X (R.drop (i+1)) ms ps (choose (y0,y1) (pr',vs) rl.X)) A3 D3 tv3 (ts'++[.ask ⟨1,y0,e0⟩]) (Wk++Wk3) ms ps mv pv):=by
       have h:=HWa.out.asked yi Qc ⟨HRi.out.2.1,aK _⟩;rw[hkf] at h;exact h
      have hok:=kE HWa.out.went.t.eng.inv Qc (aK _) (by show 1≤4;omega) yi.t.eng.ok
      have HVs:Hid (∀x∈vs,x.size≤N48):=by
       have h1:=hok.2.f;rw[hkf] at h1;exact h1
      obtain⟨ma,mc,em⟩:=ay HWb.out.mr.row;obtain⟨pa,pc,ep⟩:=ay HWb.out.pr.row;subst em;subst ep;obtain⟨⟨c0,fr0⟩,⟨c1',fr1⟩⟩:=fd2 HWb.out.lw.h;obtain⟨u0,u1⟩:=mm;obtain⟨pk,pp,pw⟩:=p;have d0:=k0.1;have d1:=k1.1;have d2:=k2.1;have d3:=k3.1;have d4:=k4.1;simp only at d0 d1 d2 d3 d4;clear yi Qc hkf hok k0 k1 k2 k3 k4 HC13;rcases hch with⟨hc,hp⟩|⟨hc,hm,hp⟩
      ·have HMm:Hid (u0.size≤N48∧u1.size≤N48):=by
        have h1:=Fh hc;exact⟨by rw[show u0=y0 from h1.1];exact HRi.out.2.1,HVs.out u1 h1.2⟩
       have HWc:Hid (Wt A S w B tb db sb fb mb now cap L cs D (fnd (S now) now r) (dh ⟨2,m1,m2⟩) (wb+1) (w.heap.size+1) b5 b6 wb root rl (.slice r1a rl.R.length r1c) (.slice xa rl.X.length xc) (.slice sa rl.S.length sc) (.slice (some ⟨bR,oR,none⟩) N rc) R wc (bj root rl.X (R.drop (i+1)) (ms++[(u0,u1)]) ps) A3 D3 tv3 (ts'++[.ask ⟨1,y0,e0⟩]) (Wk++Wk3) ms ps (.slice ma ms.length mc) (.slice pa ps.length pc)):=by
        have h:=HWb.out;rw[hc] at h;exact h
       injection hp with hp1 hp2;injection hp2 with hp2 hp3;subst hp1;subst hp2;subst hp3;clear HWb hc HVs d3 d4;have hnw:∀j u,([.string u0,.string u1]:List zV)[j]?=some u→(wc.alloc (.cells #[.string u0,.string u1] 29)).cell? ((⟨wc.heap.size,0,none⟩:Addr).add j)=some u:=cell_two_new wc 29 _ _;have hsz:(wc.alloc (.cells #[.string u0,.string u1] 29)).heap.size=wc.heap.size+1:=by simp
       have HWd:Hid (Wt A S w B tb db sb fb mb now cap L cs D (fnd (S now) now r) (dh ⟨2,m1,m2⟩) (wb+1) (w.heap.size+1) b5 b6 wb root rl (.slice r1a rl.R.length r1c) (.slice xa rl.X.length xc) (.slice sa rl.S.length sc) (.slice (some ⟨bR,oR,none⟩) N rc) R (wc.alloc (.cells #[.string u0,.string u1] 29)) (bj root rl.X (R.drop (i+1)) (ms++[(u0,u1)]) ps) A3 D3 tv3 (ts'++[.ask ⟨1,y0,e0⟩]) (Wk++Wk3) ms ps (.slice ma ms.length mc) (.slice pa ps.length pc)):=HWc.out.below ((ae _ _).alloc (ag _) _);have hn1:=HWc.out.hn
       go_wp2_with (at_builtin;refine dU _ rfl _ _ 23 rfl (wb+1) 29 i2 (.agg #[zE,zE]) 2 32 underlying23 HI.out.1 HI.out.2.1 HI.out.2.2.1 HI.out.2.2.2 rfl (by decide) (.slice ma ms.length mc) ms.length (mcs ms) rfl HWd.out.mr.row ⟨wc.heap.size,0,none⟩ 1 1 [.string u0,.string u1] rfl rfl hnw ?_ ?_ ?_ ?_ ?_)
       all_goals first
        |(show ∀u∈([.string u0,.string u1]:List zV),u.oneCell'=true;intro u hu;simp at hu;rcases hu with rfl|rfl<;>rfl)
        |exact⟨rfl,rfl⟩
        |(show ms.length+1≤maxLen;unfold maxLen;omega)
        |(show(ms.length+1)*32≤140737488355328;omega)
        |(show wb+1≤(wc.alloc _).heap.size;rw[hsz];omega)
        |(show wb+1≤wc.heap.size+1;omega)
        |(show wb≤wc.heap.size;omega)
        |skip
       intro lv' w5 hown' hgrow _ hloc;obtain⟨g1,c1,rfl⟩:=dL hown' (by omega)
       have hat:∀b',(Value.slice (some ⟨g1,0,none⟩) (ms.length+1) c1).ownBlock=some b'→(Value.slice ma ms.length mc).ownBlock=some b'∨(wc.alloc (.cells #[.string u0,.string u1] 29)).heap.size≤b':=fun b' e=>by
        rcases hloc with e2|e2
        ·exact Or.inl (by rw[←e2];exact e)
        ·right
         rw[e2] at e;have e3:(wc.alloc (.cells #[.string u0,.string u1] 29)).heap.size=b':=by simpa using e
         omega
       have HN:Hid (Wt A S w B tb db sb fb mb now cap L cs D (fnd (S now) now r) (dh ⟨2,m1,m2⟩) (wb+1) (w.heap.size+1) b5 b6 wb root rl (.slice r1a rl.R.length r1c) (.slice xa rl.X.length xc) (.slice sa rl.S.length sc) (.slice (some ⟨bR,oR,none⟩) N rc) R (w5.setCell ⟨wb,0,none⟩ (.slice (some ⟨g1,0,none⟩) (ms.length+1) c1)) (bj root rl.X (R.drop (i+1)) (ms++[(u0,u1)]) ps) (fun b=>A3 b∨((Value.slice (some ⟨g1,0,none⟩) (ms.length+1) c1).ownBlock=some b∧(wc.alloc (.cells #[.string u0,.string u1] 29)).heap.size≤b)) D3 tv3 (ts'++[.ask ⟨1,y0,e0⟩]) (Wk++Wk3) (ms++[(u0,u1)]) ps (.slice (some ⟨g1,0,none⟩) (ms.length+1) c1) (.slice pa ps.length pc)):=HWd.out.putM (m:=(u0,u1)) hgrow (by simpa[mcs,Sm.mc] using hown') hat HMm.out
       have hX5:w5.heap[wb]?=some (.cells #[.slice ma ms.length mc,.slice pa ps.length pc] 391):=by
        have hT:aj (fun b=>(Value.slice ma ms.length mc).ownBlock=some b) (wc.alloc (.cells #[.string u0,.string u1] 29)) w5:=(aj.refl _ _).grown hgrow (fun b _ e=>e);rw[hT.block wb HWd.out.lw.lt (fun e=>by have:=(HWd.out.mr.row.lt wb e).1;omega)];exact HWd.out.lw.h
       obtain⟨⟨e0',f0'⟩,⟨e1',f1'⟩⟩:=fd2 hX5;have hC:=HC.out;clear hown' hgrow hloc hat hX5 hnw HWd HWc c0 c1' d0 d1 fr0 fr1 HWa HK2 K328;go_wp2;go_roundg (N-(i+1))
       case measure=>omega
       case rel=>exact⟨i+1,_,_,_,_,_,_,_,_,_,by omega,by omega,by go_num,HN,⟨by rw[bg,fc];omega,by rw[bg,fc];omega,by omega⟩⟩
      ·have HWc:Hid (Wt A S w B tb db sb fb mb now cap L cs D (fnd (S now) now r) (dh ⟨2,m1,m2⟩) (wb+1) (w.heap.size+1) b5 b6 wb root rl (.slice r1a rl.R.length r1c) (.slice xa rl.X.length xc) (.slice sa rl.S.length sc) (.slice (some ⟨bR,oR,none⟩) N rc) R wc (bj root rl.X (R.drop (i+1)) ms (ps++[(pk,pp,pw)])) A3 D3 tv3 (ts'++[.ask ⟨1,y0,e0⟩]) (Wk++Wk3) ms ps (.slice ma ms.length mc) (.slice pa ps.length pc)):=by
        have h:=HWb.out;rw[hc] at h;exact h
       have q1:(((pk:Nat):Int)==0)=false:=int_ne (b:=0) hp;clear HWb hc HVs hm hp;have hnw:∀j u,([zI (pk:Nat),.string pp,.string pw]:List zV)[j]?=some u→(wc.alloc (.cells #[zI (pk:Nat),.string pp,.string pw] 76)).cell? ((⟨wc.heap.size,0,none⟩:Addr).add j)=some u:=fg wc _ _ _ 76;have hsz:(wc.alloc (.cells #[zI (pk:Nat),.string pp,.string pw] 76)).heap.size=wc.heap.size+1:=by simp
       have HWd:Hid (Wt A S w B tb db sb fb mb now cap L cs D (fnd (S now) now r) (dh ⟨2,m1,m2⟩) (wb+1) (w.heap.size+1) b5 b6 wb root rl (.slice r1a rl.R.length r1c) (.slice xa rl.X.length xc) (.slice sa rl.S.length sc) (.slice (some ⟨bR,oR,none⟩) N rc) R (wc.alloc (.cells #[zI (pk:Nat),.string pp,.string pw] 76)) (bj root rl.X (R.drop (i+1)) ms (ps++[(pk,pp,pw)])) A3 D3 tv3 (ts'++[.ask ⟨1,y0,e0⟩]) (Wk++Wk3) ms ps (.slice ma ms.length mc) (.slice pa ps.length pc)):=HWc.out.below ((ae _ _).alloc (ag _) _);have hn1:=HWc.out.hn
       go_wp2_with (at_builtin;refine dU _ rfl _ _ 56 rfl (wb+1) 76 i3 (.agg #[zI 0,zE,zE]) 3 40 underlying56 HJ.out.1 HJ.out.2.1 HJ.out.2.2.1 HJ.out.2.2.2 rfl (by decide) (.slice pa ps.length pc) ps.length (ps.flatMap aT) rfl HWd.out.pr.row ⟨wc.heap.size,0,none⟩ 1 1 [zI (pk:Nat),.string pp,.string pw] rfl rfl hnw ?_ ?_ ?_ ?_ ?_)
       all_goals first
        |(show ∀u∈([zI (pk:Nat),.string pp,.string pw]:List zV),u.oneCell'=true;intro u hu;simp at hu;rcases hu with rfl|rfl|rfl<;>rfl)
        |exact⟨rfl,rfl,rfl⟩
        |(show ps.length+1≤maxLen;unfold maxLen;omega)
        |(show(ps.length+1)*40≤140737488355328;omega)
        |(show wb+1≤(wc.alloc _).heap.size;rw[hsz];omega)
        |(show wb+1≤wc.heap.size+1;omega)
        |(show wb≤wc.heap.size;omega)
        |skip
       intro lv' w5 hown' hgrow _ hloc;obtain⟨g1,c1,rfl⟩:=dL hown' (by omega)
       have hat:∀b',(Value.slice (some ⟨g1,0,none⟩) (ps.length+1) c1).ownBlock=some b'→(Value.slice pa ps.length pc).ownBlock=some b'∨(wc.alloc (.cells #[zI (pk:Nat),.string pp,.string pw] 76)).heap.size≤b':=fun b' e=>by
        rcases hloc with e2|e2
        ·exact Or.inl (by rw[←e2];exact e)
        ·right
         rw[e2] at e;have e3:(wc.alloc (.cells #[zI (pk:Nat),.string pp,.string pw] 76)).heap.size=b':=by simpa using e
         omega
       have HN:Hid (Wt A S w B tb db sb fb mb now cap L cs D (fnd (S now) now r) (dh ⟨2,m1,m2⟩) (wb+1) (w.heap.size+1) b5 b6 wb root rl (.slice r1a rl.R.length r1c) (.slice xa rl.X.length xc) (.slice sa rl.S.length sc) (.slice (some ⟨bR,oR,none⟩) N rc) R (w5.setCell ⟨wb,1,none⟩ (.slice (some ⟨g1,0,none⟩) (ps.length+1) c1)) (bj root rl.X (R.drop (i+1)) ms (ps++[(pk,pp,pw)])) (fun b=>A3 b∨((Value.slice (some ⟨g1,0,none⟩) (ps.length+1) c1).ownBlock=some b∧(wc.alloc (.cells #[zI (pk:Nat),.string pp,.string pw] 76)).heap.size≤b)) D3 tv3 (ts'++[.ask ⟨1,y0,e0⟩]) (Wk++Wk3) ms (ps++[(pk,pp,pw)]) (.slice ma ms.length mc) (.slice (some ⟨g1,0,none⟩) (ps.length+1) c1)):=HWd.out.putP (p:=(pk,pp,pw)) hgrow (by simpa[aT] using hown') hat
       have hX5:w5.heap[wb]?=some (.cells #[.slice ma ms.length mc,.slice pa ps.length pc] 391):=by
        have hT:aj (fun b=>(Value.slice pa ps.length pc).ownBlock=some b) (wc.alloc (.cells #[zI (pk:Nat),.string pp,.string pw] 76)) w5:=(aj.refl _ _).grown hgrow (fun b _ e=>e);rw[hT.block wb HWd.out.lw.lt (fun e=>by have:=(HWd.out.pr.row.lt wb e).1;omega)];exact HWd.out.lw.h
       obtain⟨⟨e0',f0'⟩,⟨e1',f1'⟩⟩:=fd2 hX5;have hC:=HC.out;clear hown' hgrow hloc hat hX5 hnw HWd HWc c0 c1' d0 d1 fr0 fr1 HWa HK2 K328;go_wp2;go_roundg (N-(i+1))
       case measure=>omega
       case rel=>exact⟨i+1,_,_,_,_,_,_,_,_,_,by omega,by omega,by go_num,HN,⟨by rw[bg,fc];omega,by omega,by rw[bg,fc];omega⟩⟩
   ·have hil:(((i:Nat):Int)<(N:Int))=False:=by simp;omega
    have hie:i=N:=by omega
    subst hie
    have HE:Hid (Wt A S w B tb db sb fb mb now cap L cs D (fnd (S now) now r) (dh ⟨2,m1,m2⟩) (wb+1) (w.heap.size+1) b5 b6 wb root rl (.slice r1a rl.R.length r1c) (.slice xa rl.X.length xc) (.slice sa rl.S.length sc) (.slice ra i rc) R wr (.ret (.wants ms ps)) A2 D' tv' ts' Wk ms ps mv pv):=by
     have h:=HW.out;rw[←HN.out,Lh] at h;rw[←HN.out];exact h
    have hmr:=HMR.out.2;have hNl:=HN.out;have hC:=HC.out;obtain⟨ma,mc,em⟩:=ay HE.out.mr.row;obtain⟨pa,pc,ep⟩:=ay HE.out.pr.row;subst em;subst ep;obtain⟨⟨c0,_⟩,⟨c1,_⟩⟩:=fd2 HE.out.lw.h;obtain⟨⟨d0,f0⟩,⟨d1,f1⟩⟩:=fd2 HE.out.l4.h;go_wp2;refine aI (bM results310 _ _ (w.heap.size+1) 391 _ (0,0) _ rfl (gA HE.out.l4.h _ _) underlying391 rfl (by kernel_rfl)) rfl ?_;exact⟨_,rfl,HE.out.done (by omega)⟩
 ·have HPb:Hid (Pre (fnd (S now) now r) (S now) D (dh ⟨2,m1,m2⟩) D4 (.ret (.wants [] [(dn (pr,m) m1,s1,s2)])) ts4 Wq):=by
   have h:=HPre.out;rw[ah hp0] at h;exact h
  have q0:(((dn (pr,m) m1:Nat):Int)==0)=false:=int_ne (b:=0) hp0;clear HPre hp0;generalize dn (pr,m) m1=pq at*;obtain⟨⟨c0,_⟩,⟨c1,_⟩⟩:=fd2 (HS5.out.at (b:=b7) (o:=.cells #[.string s1,.string s2] 29) (by simp));have HX6:Hid ((w5.alloc (.cells #[zI (pq:Nat),.string s1,.string s2] 76)).heap[w.heap.size+1]?=some (.cells #[zN,zN] 391)):=((HS5.out.lay _).at (by simp));obtain⟨⟨e0',f0⟩,⟨e1',f1⟩⟩:=fd2 HX6.out;go_wp2;refine aI (bM results310 _ _ (w.heap.size+1) 391 _ (0,0) _ rfl (gA HX6.out _ _) underlying391 rfl (by kernel_rfl)) rfl ?_;exact⟨_,rfl,HS5.out.bad (by simp) HA4.out HPb.out HTk.out (by rw[HLn.out];omega)⟩
