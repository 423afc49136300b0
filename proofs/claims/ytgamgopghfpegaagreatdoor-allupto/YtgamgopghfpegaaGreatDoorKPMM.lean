import Derived.Test.YtgamgopghfpegaaGreatDoorKPML
set_option linter.all false
open Go.Proofs.Tryz
set_option maxRecDepth 100000
set_option maxHeartbeats 8000000
namespace Go.Proofs.YtgamgopghfpegaaGreatDoor
open Go.RowKit
namespace Pn
open Mf
variable{A:Nat→Prop}
theorem Kj:∀args w,(callFunc 241 args).run prog w=.ok (.enter 241 args) w:=fun _ _=>aB
theorem Cx(M a2 y1:zA)(b9:Nat)z(hz:z=true↔M=y1)w(h:w.cell? (b9,0)=some (.string y1)):
  zC 241 #[.agg #[M,a2],.pointer (some (b9,0))] w fun e w'=>e=.returned (z)∧Below w w w':=by
 have a0:zB w (w.alloc (.cells #[M,a2] 68)):=(af _ _).alloc (ai _) _;have HB:=zH a0;have c0:(w.alloc (.cells #[M,a2] 68)).cell? (b9,0)=y1:=by rw[a0.cell (cr _ _ h)];exact h
 obtain⟨⟨d0,_⟩,_⟩:=fd2 (aI w (.cells #[M,a2] 68))
 have hq:(M.toList==y1.toList)=z:=by
  by_cases e:M=y1
  ·grind
  ·rw[Rn.iN e]
   grind
 clear hz a0 h;go_enter func241,ntmps241;go_upto_region 1 with fail;generalize w.alloc _=W1 at*;go_wp2;go_ret;exact⟨rfl,HB.out⟩
theorem EA v L p y1(hp:∀o,p o=true↔o.1=y1)(b9:Nat)w(hL:L.length≤100000)(h:RdA A Sm.mc w v L)(a0:w.cell? (b9,0)=some (.string y1)):
  zC 240 #[v,.func (.func 241) #[] #[.pointer (some (b9,0))]] w fun e w'=>∃r,e=.returned (.int .i64 r)∧((r=-1∧L.findIdx? p=none)∨∃i:Nat,r=i∧L.findIdx? p=i∧i<L)∧Below w w w':=by
 obtain⟨a1,c1,e1⟩:=h.len;subst e1;have D1:=zH h;clear h
 have FG:Hid (∀wr,zB w wr→∀i,i<L.length→∃(y:Mo)(b o:Nat),L[i]?=y∧a1=some ⟨b,o,none⟩∧wr.cell? (b,o+i*2)=y.1∧wr.cell? (b,o+i*2+1)=y.2):=fun wr hb i hi=>by
  obtain⟨b,o,c,eg,hx⟩:=RdA.at D1.out jB aA hb i hi;injection eg with a7 _ _;refine⟨L[i],b,o,dE hi,a7,?_,?_⟩
  ·have:=hx 0 _ rfl;omega
  ·have:=hx 1 _ rfl;omega
 clear D1;have KC:Hid (∀(y:Mo) W,zB w W→_):=fun y W hb=>Cx y.1 y.2 y1 b9 _ (hp y) W (by rw[hb.cell (cr _ _ a0)];exact a0)
 clear hp a0;generalize hn:L.length=n at*;have a3:=zH hn;clear hn;have a9:=Kj;go_enter func240,ntmps240;go_wp2;go_loopg [8] n (fun gg s wr=>∃i:Nat,i≤n∧n-i≤gg∧s=.int .i64 i∧Hid (zB w wr)∧Hid (∀j,j<i→∀y,L[j]?=some y→p y=false))
 case atStart=>exact⟨0,ae,ae,rfl,af _ _,fun j h=>absurd h (fB _)⟩
 case round=>
  obtain⟨i,hi,hg,rfl,HB,HJ⟩:=hrel;by_cases a8:i<n
  ·obtain⟨y,b,o,hy,rfl,y0,a5⟩:=FG.out wr HB.out i a8
   have M:i<(n:Int):=ae;have kc:=KC.out y wr HB.out
   have HY:Hid (p y=true→L.findIdx? p=i∧i<L):=fun h=>by
    have M:i<L:=by have:=a3.out;omega
    refine⟨qG.2 ⟨M,?_,fun j hj=>?_⟩,M⟩
    ·grind
    ·have:=HJ.out j hj L[j] (dE ae)
     simp[this]
   have HN:Hid (p y=false→∀j,j<i+1→∀y,L[j]?=some y→p y=false):=fun h j hj z hz=>by
    by_cases e:j=i
    ·grind
    ·exact HJ.out j ae z hz
   clear hy;generalize p y=z at*;obtain⟨k0,k1⟩:=y;simp only at y0 a5 kc
   go_wp2_with (go_at_call 241;fail)
   go_at_call 241;refine kc.mono ?_;rintro e w2 ⟨rfl,a4⟩;have a2:=zH (HB.out.trans (a4.mono HB.out.size));clear a4 kc y0 a5;cases z with
   |true=>
    have HR:=HY.out rfl;go_wp2;go_ret;exact⟨_,rfl,Or.inr ⟨i,rfl,HR.1,ae⟩,a2.out⟩
   |false=>
    have a6:=zH (HN.out rfl);clear HY HN;go_wp2;go_roundg (n-(i+1))
    case measure=>omega
    case rel=>exact⟨_,ae,ae,by go_num,a2,a6⟩
  ·have M:(i<(n:Int))=False:=aJ
   have HR:Hid (L.findIdx? p=none):=by
    show L.findIdx? p=none;rw[List.findIdx?_eq_none_iff];intro x hx;obtain⟨j,hj,e⟩:=oq hx;exact HJ.out j (by have:=a3.out;omega) x ax
   go_wp2;go_ret;exact⟨_,rfl,Or.inl ⟨rfl,HR.out⟩,HB.out⟩
end Pn
namespace Pn
open Mf Ed
variable{A A1 A2 A3:Nat→Prop}{S:Nat→Shf}{w w' wr wx W W1 w1 w2 w3 wf:zW}{V R fb mb G:Nat}{cap:Int}{N j0 j4:List Int}{D X D1 D2 D3:List Kp}{L L':List (zV×zV)}{B T:Nat}{U J j3 d:zV}{O j2 j1:List Tie}{q:Qn}{k kk:Kp}{F:Find}{g:Nat}{n l b:Nat}{o:Obj}{E u:List Qn}
structure kO(l:Nat)(A:Nat→Prop)(U:zV)(W:World)(nb:Nat)(Y:Nat→Nat)(n h:Nat)(f:Nat→Nat→Bool):Prop where
 top:∀i,i<n→Ed.Fd W nb i (if i<h then .slice (some ⟨Y i,0,none⟩) n n else zN)
 row:∀i j,i<h→j<n→Ed.Fd W (Y i) j (.bool (f i j))
 own:(A nb∧U.ownBlock≠some nb∧l≤nb∧nb<W.heap.size)∧∀i,i<h→A (Y i)∧U.ownBlock≠some (Y i)∧l≤Y i∧Y i<W.heap.size
 ne:(∀i,i<h→Y i≠nb)∧∀i j,i<h→j<h→i≠j→Y i≠Y j
variable{nb h:Nat}{Y:Nat→Nat}{f f':Nat→Nat→Bool}
theorem kO.congr(hm:kO l A U W nb Y n h f)(e:∀i j,i<h→j<n→f i j=f' i j):kO l A U W nb Y n h f':=
 ⟨hm.top,fun i j M hj=>by rw[←e i j M hj];exact hm.row i j M hj,hm.own,hm.ne⟩
theorem kO.turn{p}(hm:kO l A U W nb Y n h f)(ht:aj p W W1)(hp:¬p nb∧∀i,i<h→¬p (Y i))(hA:∀b,A b→A2 b)(hv:J.ownBlock=U.ownBlock∨∀b,J.ownBlock=some b→U.ownBlock=b∨W≤b):kO l A2 J W1 nb Y n h f:=by
 have hs:=ht.size
 have a0:∀b,U.ownBlock≠some b→b<W→J.ownBlock≠b:=fun b h1 h2 e=>by
  grind
 refine⟨fun i M=>(hm.top i M).of_block (ht.block nb hm.own.1.2.2.2 hp.1),fun i j M hj=>(hm.row i j M hj).of_block (ht.block _ (hm.own.2 i M).2.2.2 (hp.2 i M)),⟨⟨hA _ hm.own.1.1,a0 _ hm.own.1.2.1 hm.own.1.2.2.2,hm.own.1.2.2.1,by have:=hm.own.1.2.2.2;omega⟩,fun i M=>⟨hA _ (hm.own.2 i M).1,a0 _ (hm.own.2 i M).2.1 (hm.own.2 i M).2.2.2,(hm.own.2 i M).2.2.1,by have:=(hm.own.2 i M).2.2.2;omega⟩⟩,hm.ne⟩
theorem kO.below(hm:kO l A U W nb Y n h f)(M:Below W W W1):kO l A U W1 nb Y n h f:=
 hm.turn (aj.of_below (p:=fun _=>False) M) ⟨fun e=>e,fun _ _ e=>e⟩ (fun _ e=>e) (Or.inl rfl)
theorem kO.went(hn:V<l∧fb<l∧T<l)(hm:kO l A1 U W nb Y n h f)(M:dT A1 S W B T V R fb mb G cap L U w2 A2 j0 X J j2):kO l A2 J w2 nb Y n h f:=by
 have h1:∀b,l≤b→U.ownBlock≠b→¬Fr4 V fb T U b:=fun b hb h2 e=>by
  grind
 exact hm.turn M.f ⟨h1 _ hm.own.1.2.2.1 hm.own.1.2.1,fun i hi=>h1 _ (hm.own.2 i hi).2.2.1 (hm.own.2 i hi).2.1⟩ M.sub (Or.inr M.own)
theorem kO.put(hm:kO l A U W nb Y n h f){i j}(hi:i<h)(v:Bool):kO l A U (W.setCell (Y i,j) (v)) nb Y n h (fun a b=>if a=i∧b=j then v else f a b):=by
 have hz:(W.setCell (Y i,j) (v))=W.heap.size:=by simp[World.setCell]
 refine⟨fun a M=>(hm.top a M).of_block (aM _ _ _ _ (fun e=>hm.ne.1 i hi e.symm)),fun a c M hc=>?_,⟨⟨hm.own.1.1,hm.own.1.2.1,hm.own.1.2.2.1,by rw[hz];exact hm.own.1.2.2.2⟩,fun a M=>⟨(hm.own.2 a M).1,(hm.own.2 a M).2.1,(hm.own.2 a M).2.2.1,by rw[hz];exact(hm.own.2 a M).2.2.2⟩⟩,hm.ne⟩;by_cases e1:a=i
 ·subst e1
  by_cases e2:c=j
  ·subst e2
   rw[ay ⟨rfl,rfl⟩];exact iq (hm.row a c M hc) _
  ·rw[au (fun e=>e2 e.2)]
   exact(hm.row a c M hc).set e2
 ·rw[au (fun e=>e1 e.1)]
  exact(hm.row a c M hc).of_block (aM _ _ _ _ (hm.ne.2 a i M hi e1))
theorem kO.lay(hm:kO l A U W nb Y n h f)(hh:h<n){Z}(hZ:∀j,j<n→Z[j]?=some (.bool false))(hn:l≤W)(a3:∀b,U.ownBlock=some b→b<W):
  kO l (fun b=>A b∨b=W) U ((W.alloc (.cells Z 4)).setCell (nb,h) (.slice (some (W,0)) n n)) nb (fun i=>if i=h then W else Y i) n (h+1) (fun i j=>if i=h then false else f i j):=by
 have hz:((W.alloc (.cells Z 4)).setCell (nb,h) (.slice (some (W.heap.size,0)) n n))=W.heap.size+1:=by simp[World.setCell]
 have a2:=hm.own.1.2.2.2;have a0:∀b,_→(W.alloc (.cells Z 4)).heap[b]?=_:=fun b hb=>aO _ _ _ hb
 refine⟨fun i hi=>?_,fun i j hi hj=>?_,⟨⟨Or.inl hm.own.1.1,hm.own.1.2.1,hm.own.1.2.2.1,by rw[hz];omega⟩,fun i hi=>?_⟩,fun i hi=>?_,fun i j hi hj a1=>?_⟩
 ·have h0:=(hm.top i hi).of_block (a0 nb a2)
  by_cases e:i=h
  ·subst e
   rw[ay (gH _),ay rfl];exact iq h0 _
  ·have M:=h0.set (v:=.slice (some (W,0)) n n) e
   grind
 ·by_cases e:i=h
  ·rw[ay e,ay e]
   exact(dL W Z 4 (hZ j hj)).of_block (aM _ _ _ _ ax)
  ·rw[au e,au e]
   have M:i<h:=ae;have h2:=(hm.own.2 i M).2.2.2;exact((hm.row i j M hj).of_block (a0 _ h2)).of_block (aM _ _ _ _ (hm.ne.1 i M))
 ·by_cases e:i=h
  ·grind
  ·simp only[au e]
   have M:=hm.own.2 i ae
   grind
 ·by_cases e:i=h
  ·grind
  ·simp only[au e];exact hm.ne.1 i ae
 ·by_cases e:i=h
  ·by_cases e2:j=h
   ·omega
   ·simp only[ay e,au e2]
    have:=(hm.own.2 j ae).2.2.2;omega
  ·by_cases e2:j=h
   ·simp only[au e,ay e2]
    have:=(hm.own.2 i ae).2.2.2;omega
   ·simp only[au e,au e2]
    exact hm.ne.2 i j ae ae a1
theorem kO.at(hm:kO l A U W nb Y n n f):sS W nb Y n f:=
 ⟨fun i M=>by have h:=(hm.top i M).1;grind,fun i j M hj=>(hm.row i j M hj).1⟩
theorem iY m k i j:bC m (k+1) i j=(bC m k i j||(bC m k i k&&bC m k k j)):=rfl
theorem Kk m k j:bC m (k+1) k j=bC m k k j:=by
 rw[iY];simp
theorem NG m k i j(h:bC m k i k=false):bC m (k+1) i j=bC m k i j:=by
 rw[iY,h];simp
theorem Kl m k i j(h:bC m k i k=true):bC m (k+1) i j=(bC m k i j||bC m k k j):=by
 rw[iY,h];simp
def fA(m:Nat→Nat→Bool)(k i j a b:Nat):Bool:=if a<i∨(a=i∧b<j) then bC m (k+1) a b else bC m k a b
theorem EB m k i j b:fA m k i j k b=bC m k k b:=by
 unfold fA
 split
 ·exact Kk m k b
 ·rfl
theorem A8 m k i j:fA m k i j i j=bC m k i j:=by
 unfold fA;simp
theorem A9 m k i j a b v(M:v=bC m (k+1) i j):(if a=i∧b=j then v else fA m k i j a b)=fA m k i (j+1) a b:=by
 unfold fA
 grind
theorem Ba m k i n a b(M:b<n):fA m k i n a b=fA m k (i+1) 0 a b:=by
 unfold fA
 grind
theorem Km m k i a b(h:bC m k i k=false):fA m k i 0 a b=fA m k (i+1) 0 a b:=by
 unfold fA;by_cases e:a<i
 ·grind
 ·by_cases M:a=i
  ·rw[au ae,ay ae,M,NG m k i b h]
  grind
theorem yu m k a b:fA m k 0 0 a b=bC m k a b:=by
 unfold fA;simp
theorem ED m k n a b(M:a<n):fA m k n 0 a b=bC m (k+1) a b:=by
 unfold fA
 grind
open Classical in
theorem NI(I wl:List Mo)j b(x:Mo)(h:wl[j]?=x)p(hp:∀o,p o=true↔o.1=x.1):rowOf I (wl.take (j+1)) b=(rowOf I (wl.take j) b||decide (I.findIdx? p=b)):=by
 obtain⟨hj,e⟩:=dh.1 h;unfold rowOf;rw[lC hj,e,List.any_append]
 congr 1
 rw[List.any_cons,List.any_nil,Bool.or_false]
 have M:(fun o:Mo=>decide (o.1=x.1))=p:=by
  funext o
  cases hq:p o with
  |true=>exact bu ((hp o).1 hq)
  |false=>exact br (fun e2=>ax)
 rw[←M]
end Pn
namespace Pn
open Mf Ed
variable{A A1 A2 A3:Nat→Prop}{S:Nat→Shf}{w w' wr wx W W1 w1 w2 w3 wf:zW}{V R fb mb G:Nat}{cap:Int}{N j0 j4:List Int}{D X D1 D2 D3:List Kp}{L L':List (zV×zV)}{B T:Nat}{U J j3 d:zV}{O j2 j1:List Tie}{q:Qn}{k kk:Kp}{F:Find}{g:Nat}{n l b:Nat}{o:Obj}{E u:List Qn}{nb h:Nat}{Y:Nat→Nat}{f f':Nat→Nat→Bool}{I rest:List Mo}{ws:List (List Mo)}{mv:zV}{tk:List Tie}
def iP(m:Mo):Tie:=.ask ⟨2,m.1,m.2⟩
structure Wn(A:Nat→Prop)(S:Nat→Shf)(w:World)(B T V R fb mb G:Nat)(cap:Int)(L:List (zV×zV))(N:List Int)(D:List Kp)(U:zV)(O:List Tie)(F:Find)(I:List Mo)(mv:zV)(nb:Nat)(wr:World)(A2:Nat→Prop)(X:List Kp)(J:zV)(tk:List Tie)(E:List Qn)(rest:List Mo)(ws:List (List Mo))(Y:Nat→Nat)(h:Nat)(f:Nat→Nat→Bool):Prop where
 h0:Tsk A S w B T V R fb mb G cap N D L U O
 went:dT A S w B T V R fb mb G cap L U wr A2 (counted N E) X J (O++tk)
 pre:∀(fin:List (List Mo)→Fi) D0 cm W0,Pre F (S G) D0 cm D (fh fin I []) O W0→Pre F (S G) D0 cm X (fh fin rest ws) (O++tk) (W0++E)
 rd:RdA A2 Sm.mc wr mv I
 mat:kO w.heap.size A2 J wr nb Y I.length h f
theorem Wn.below(M:Wn A S w B T V R fb mb G cap L N D U O F I mv nb wr A2 X J tk E rest ws Y h f)(hb:Below wr wr W):Wn A S w B T V R fb mb G cap L N D U O F I mv nb W A2 X J tk E rest ws Y h f:=
 ⟨M.h0,M.went.over hb,M.pre,M.rd.below hb,M.mat.below hb⟩
theorem Wn.congr(M:Wn A S w B T V R fb mb G cap L N D U O F I mv nb wr A2 X J tk E rest ws Y h f)(e:∀i j,i<h→j<I.length→f i j=f' i j):Wn A S w B T V R fb mb G cap L N D U O F I mv nb wr A2 X J tk E rest ws Y h f':=
 ⟨M.h0,M.went,M.pre,M.rd,M.mat.congr e⟩
theorem Wn.lt(M:Wn A S w B T V R fb mb G cap L N D U O F I mv nb wr A2 X J tk E rest ws Y h f):V<w∧fb<w∧T<w:=by
 have h1:=M.h0.lt;have h2:=M.h0.hB;have h3:=M.h0.task.t0.lt;omega
theorem Wn.tvlt(M:Wn A S w B T V R fb mb G cap L N D U O F I mv nb wr A2 X J tk E rest ws Y h f):∀b,J.ownBlock=some b→b<wr:=fun b e=>(M.went.t.task.row.lt b e).2
theorem Wn.start{Z}(h0:Tsk A S w B T V R fb mb G cap N D L U O)(hr:RdA A Sm.mc w mv I)(hZ:∀j,j<I.length→Z[j]?=some (zN)):
  Wn A S w B T V R fb mb G cap L N D U O F I mv w (w.alloc (.cells Z 163)) (fun b=>A b∨b=w) D U [] [] I [] (fun _=>0) 0 (fun _ _=>false):=by
 have hb:zB w (w.alloc (.cells Z 163)):=(af _ _).alloc (ai _) _;have hz:(w.alloc (.cells Z 163))=w.heap.size+1:=ah;have a0:=fun b e=>(h0.task.row.lt b e).2
 refine⟨h0,?_,fun fin D0 cm W0 hp=>?_,(hr.more (fun b hb e=>?_)).below hb,⟨fun i M=>?_,fun i j M hj=>absurd M (fB _),⟨⟨Or.inr rfl,fun e=>ax,ai _,by rw[hz];omega⟩,fun i M=>absurd M (fB _)⟩,fun i M=>absurd M (fB _),fun i j M _ _=>absurd M (fB _)⟩⟩
 ·rw[eP]
  exact dT.put (p:=fun _=>False) h0 (dT.refl h0) (aj.of_below hb) (fun _ _ e=>e.elim) (fun b e=>ae)
 ·grind
 ·grind
 ·rw[au (fB _)]
  exact dL w Z 163 (hZ i M)
theorem Wn.lay{Z}(M:Wn A S w B T V R fb mb G cap L N D U O F I mv nb W A2 X J tk E rest ws Y h f)(hh:h<I)(hZ:∀j,j<I.length→Z[j]?=some (.bool false)):
  Wn A S w B T V R fb mb G cap L N D U O F I mv nb ((W.alloc (.cells Z 4)).setCell (nb,h) (.slice (some (W,0)) I I)) (fun b=>A2 b∨b=W) X J tk E rest ws (fun i=>if i=h then W else Y i) (h+1) (fun i j=>if i=h then false else f i j):=by
 have ht:aj _ W ((W.alloc (.cells Z 4)).setCell _ (.slice (some (W,0)) I I)):=((aj.refl (fun b=>b=nb) W).alloc _).set (a:=(nb,h)) (fun _=>rfl) _;have hz:((W.alloc (.cells Z 4)).setCell (nb,h) (.slice (some (W.heap.size,0)) I.length I.length))=W.heap.size+1:=by simp[World.setCell]
 have hn:=M.mat.own.1;refine⟨M.h0,M.went.put M.h0 ht (fun b _ e=>ax) (fun b e=>ae),M.pre,?_,M.mat.lay hh hZ M.went.f.size M.tvlt⟩
 exact(M.rd.more (fun b hb e=>by
  grind)).turn (ht.mono (fun b hb e=>ax))
theorem Wn.asked{m}{wl}{ps}(M:Wn A S w B T V R fb mb G cap L N D U O F I mv nb W A2 X J tk E (m::rest) ws Y h f)(hk:dT A2 S W B T V R fb mb G cap L J wx A3 (counted (counted N E) u) D3 d (O++tk++[.ask ⟨2,m.1,m.2⟩]))(hf:F X ⟨2,m.1,m.2⟩ kk D3 u)(a0:kk.f=.wants wl ps):
  Wn A S w B T V R fb mb G cap L N D U O F I mv nb wx A3 D3 d (tk++[iP m]) (E++u) rest (ws++[wl]) Y h f:=by
 have a1:=M.lt;refine⟨M.h0,?_,fun fin D0 cm W0 hp=>?_,M.rd.went M.went.t hk,M.mat.went a1 hk⟩
 ·rw[←fy,←gX];exact M.went.trans hk
 ·have h1:=Pre.ask (M.pre fin D0 cm W0 hp) hf
  rw[a0] at h1;rw[←gX,←gX];exact h1
theorem Wn.put(M:Wn A S w B T V R fb mb G cap L N D U O F I mv nb W A2 X J tk E rest ws Y h f){i j}(hi:i<h)(v:Bool):
  Wn A S w B T V R fb mb G cap L N D U O F I mv nb (W.setCell (Y i,j) (v)) A2 X J tk E rest ws Y h (fun a b=>if a=i∧b=j then v else f a b):=by
 have ht:aj _ W (W.setCell _ (v)):=(aj.refl (fun b=>b=Y i) W).set (a:=(Y i,j)) (fun _=>rfl) _;have hn:=M.mat.own.2 i hi;have h1:=M.went.put (Q:=fun _=>False) M.h0 ht (fun b _ e=>ax) (fun b e=>e.elim);refine⟨M.h0,?_,M.pre,M.rd.turn (ht.mono (fun b _ e=>ax)),M.mat.put hi v⟩
 grind
theorem Wn.top(hw:Wn A S w B T V R fb mb G cap L N D U O F I mv nb W A2 X J tk E rest ws Y h f){i}(hi:i<h)(M:i<I):Ed.Fd W nb i (.slice (some (Y i,0)) I I):=by
 have h1:=hw.mat.top i M
 grind
end Pn
namespace Pn
open Mf Ed
variable{A A1 A2 A3:Nat→Prop}{S:Nat→Shf}{w w' wr wx W W1 w1 w2 w3 wf:zW}{V R fb mb G:Nat}{cap:Int}{N j0 j4:List Int}{D X D1 D2 D3:List Kp}{L L':List (zV×zV)}{B T:Nat}{U J j3 d:zV}{O j2 j1:List Tie}{q:Qn}{k kk:Kp}{F:Find}{g:Nat}{n l b:Nat}{o:Obj}{E u:List Qn}{nb h:Nat}{Y:Nat→Nat}{f f':Nat→Nat→Bool}{I rest:List Mo}{ws:List (List Mo)}{mv:zV}{tk:List Tie}
theorem mA t e(z:zV)b(ht:prog.underlying t=some (.slice e))(hi:(prog.info? e).map (fun i=>(i.zero,i.size,i.bytes))=(some z,1,b))(hz:z.cells=#[z])n(hn:n≤1000)(hb:b≤1000):
  ∃Z,(∀j,j<n→Z[j]?=z)∧∀W,(Instr.makeSlice t ((n:Nat)) ((n:Nat))).run prog W=.ok (.slice (some (W,0)) n n) (W.alloc (.cells Z e)):=by
 obtain⟨i,M,h2,h3,h4⟩:=Bm.eD e z 1 b hi;refine⟨madeCells z.cells (n*i.size),fun j hj=>?_,fun W=>?_⟩
 ·rw[hz,h3,Nat.mul_one,←tT,toList_madeCells_one,List.getElem?_replicate,ay hj]
 ·have hm:b*(n:Int)≤1000*1000:=Int.mul_le_mul ae ae ae ae
  have h:=run_make W t e i z ht M h2 .i64 .i64 _ n ae (Int.le_refl _) (by rw[h4];omega) ae;simpa using h
theorem NJ a b W:(Instr.field 299 (.agg #[a,b]) 0).run prog W=.ok a W:=aB
theorem NK{I}{ws:List (List Mo)}{x}{i j:Nat}(M:i<ws):ed I (ws++[x]) i j=ed I ws i j:=by
 unfold ed
 grind
theorem NL{I}{ws}{x:List Mo}{j}:ed I (ws++[x]) ws j=rowOf I x j:=by
 unfold ed;simp
theorem zR{r:Nat}(hr:1≤r)(hF:fG S V R fb mb G cap L r)(I:List Mo)(ma:Option Addr)(mc:Nat)(hl:I.length≤1000)(c9:∀x∈I,x.1.size≤N48∧x.2.size≤N48)(hD:D.length+9000*grow r≤N15)(w:zW)(hm:RdA A Sm.mc w (.slice ma I.length mc) I)(h:Tsk A S w B T V R fb mb G cap N D L U O)(dq:O.length≤8000):
  zC 225 #[.pointer (some ⟨T,0,none⟩),.slice ma I.length mc] w fun e w'=>∃A2 J X E ws nb Y,e=.returned (.slice (some ⟨nb,0,none⟩) I.length I.length)∧sS w' nb Y I.length (bC (ed I ws) I.length)∧dT A S w B T V R fb mb G cap L U w' A2 (counted N E) X J (O++I.map iP)∧(∀(fin:List (List Mo)→Fi) D0 cm W0,Pre (fnd (S G) G r) (S G) D0 cm D (fh fin I []) O W0→Pre (fnd (S G) G r) (S G) D0 cm X (.ret (fin ws)) (O++I.map iP) (W0++E))∧RdA A2 Sm.mc w' (.slice ma I.length mc) I:=by
 obtain⟨ZT,bt,dc⟩:=mA 161 163 (zN) 24 underlying161 aB rfl I.length hl ae;obtain⟨ZR,bs,dp⟩:=mA 163 4 (.bool false) 1 underlying163 aB rfl I.length hl ae;have cf:=zH hF;have HD:=zH hD;have cn:=zH c9;have cq:=zH bs;have bq:Hid (Wn A S w B T V R fb mb G cap L N D U O (fnd (S G) G r) I (.slice ma I.length mc) w.heap.size (w.alloc (.cells ZT 163)) (fun b=>A b∨b=w.heap.size) D U [] [] I [] (fun _=>0) 0 (fun _ _=>false)):=Wn.start h hm bt;clear h hm hF hD c9 bt bs;generalize hn:I.length=n at*;have HN:=zH hn
 have cj:Hid (I.map iP=(I.take n).map iP):=by
  show I.map iP=(I.take n).map iP;rw[←hn,Bz]
 clear hn;rw[cj.out];have ct:=NJ;go_enter func225,ntmps225;go_wp2;generalize w.alloc _=W0 at*;clear dc;go_loopg [19] n (fun gg s wr=>∃(i:Nat)(A2:Nat→Prop)(X:List Kp)(J:zV)(E:List Qn)(ws:List (List Mo))(Y:Nat→Nat)(f:Nat→Nat→Bool),i≤n∧n-i≤gg∧s=.int .i64 i∧Hid (Wn A S w B T V R fb mb G cap L N D U O (fnd (S G) G r) I (.slice ma n mc) w.heap.size wr A2 X J ((I.take i).map iP) E (I.drop i) ws Y i f∧ws.length=i∧(∀a b,a<i→b<n→f a b=ed I ws a b)∧X.length≤D.length+i*grow r))
 case atStart=>exact⟨0,_,_,_,_,_,_,_,ae,ae,rfl,bq.out,rfl,fun a b ha=>absurd ha (fB _),ae⟩
 case round=>
  obtain⟨i,A2,X,J,E,ws,Y,f,hi,hg,rfl,HW⟩:=hrel;clear bq;by_cases a4:i<n
  ·have an:((i:Nat):Int)<(n:Int):=ae
   have a3:i<I.length:=by rw[HN.out];exact a4
   obtain⟨bR,oR,cR,eg,hx⟩:=RdA.at HW.out.1.rd jB aA (af _ _) i a3;injection eg with b1 b2 b3;have x0:=hx 0 _ rfl;have x1:=hx 1 _ rfl;have ak:Hid (I[i]?=some I[i]∧I[i].1.size≤N48∧I[i].2.size≤N48):=⟨dE a3,cn.out _ (dH _)⟩;generalize I[i]=y at*;obtain⟨y0,y1⟩:=y;rw[Nat.add_zero] at x0;simp only at x0 x1;subst b1;clear hx b2 b3;go_upto_region 5 with fail
   have az:Hid (Wn A S w B T V R fb mb G cap L N D U O (fnd (S G) G r) I (.slice (some ⟨bR,oR,none⟩) n mc) w.heap.size (wr.alloc (.cells #[.string y0,.string y1] 68)) A2 X J ((I.take i).map iP) E ((y0,y1)::I.drop (i+1)) ws Y i f):=by
    have h:=HW.out.1.below ((af _ _).alloc (ai _) (.cells #[.string y0,.string y1] 68));rw[drop_one ak.out.1] at h;exact h
   have a6:=zH HW.out.2;have a9:Hid ((wr.alloc (.cells #[.string y0,.string y1] 68)).heap[wr.heap.size]?=some (.cells #[.string y0,.string y1] 68)∧wr.heap.size≠w.heap.size):=⟨aI _ _,by have:=HW.out.1.mat.own.1.2.2.2;omega⟩;clear x0 x1 HW;generalize wr.alloc _=W1 at*;generalize wr.heap.size=b7 at*
   have ht:Ed.Fd W1 w.heap.size i (zN):=by
    have h:=az.out.mat.top i a3;rw[au (Nat.lt_irrefl _)] at h;exact h
   have tA:=fun o=>(Fd.alloc ht o).1
   have tB:=fun o=>(Fd.alloc ht o).2
   clear ht
   have ad:Hid (Wn A S w B T V R fb mb G cap L N D U O (fnd (S G) G r) I (.slice (some ⟨bR,oR,none⟩) n mc) w.heap.size ((W1.alloc (.cells ZR 4)).setCell ⟨w.heap.size,i,none⟩ (.slice (some ⟨W1.heap.size,0,none⟩) n n)) (fun b=>A2 b∨b=W1.heap.size) X J ((I.take i).map iP) E ((y0,y1)::I.drop (i+1)) ws (fun a=>if a=i then W1.heap.size else Y a) (i+1) (fun a b=>if a=i then false else f a b)):=by
    have h:=az.out.lay (Z:=ZR) a3 (by rw[HN.out];exact cq.out);rw[HN.out] at h;exact h
   have bm:Hid (((W1.alloc (.cells ZR 4)).setCell ⟨w.heap.size,i,none⟩ (.slice (some ⟨W1.heap.size,0,none⟩) n n)).heap[b7]?=some (.cells #[.string y0,.string y1] 68)):=(aM _ _ _ _ a9.out.2).trans ((aO _ _ _ (ag a9.out.1)).trans a9.out.1);go_upto_region 6 with fail;clear tA tB az a9;generalize (W1.alloc (.cells ZR 4)).setCell ⟨w.heap.size,i,none⟩ (.slice (some ⟨W1.heap.size,0,none⟩) n n)=W2 at*;generalize (fun a=>if a=i then W1.heap.size else Y a)=a2 at*;generalize c0:(fun a b=>if a=i then false else f a b)=f2 at*
   have bk:Hid (∀a b,a<i+1→b<n→f2 a b=if a=i then rowOf I (([]:List Mo).take 0) b else ed I ws a b):=fun a b ha hb=>by
    rw[←c0];by_cases e:a=i
    ·simp only[ay e];rfl
    ·simp only[au e];exact a6.out.2.1 a b ae hb
   clear c0;have ca:((I.take i).map iP).length=i:=aJ
   have kw:=AW cf.out y0 y1 ak.out.2.1 ak.out.2.2 hr (by
    have h1:=a6.out.2.2;have h2:=HD.out;have h3:i*grow r≤1000*grow r:=dD _ ae;omega) W2 ad.out.went.t (by rw[bj,ca];omega)
   obtain⟨⟨x0,_⟩,⟨x1,_⟩⟩:=fd2 bm.out;clear ca
   go_wp2_with (go_at_call 223;fail)
   go_at_call 223;refine kw.mono ?_;rintro e w3 ⟨A3,d,wl,qs,av,bv,kk,D3,u,rfl,⟨bi,c8⟩,b8,hk⟩;have c7:=kJ ad.out.went.t.eng.inv hk.1 iQ ah hk.2.1.eng.ok;have ds:=(uT (by rw[←c7.1];exact b8)).1;have b0:=zH (ad.out.asked hk.went hk.1 b8)
   have cd:Hid (D3.length≤D.length+(i+1)*grow r):=by
    have h1:=mf _ _ r _ _ _ _ _ hk.1;have h2:=a6.out.2.2;show D3.length≤D.length+(i+1)*grow r;rw[dR,eE];omega
   obtain⟨aa,ac,ea⟩:=bi.len;obtain⟨ba,bc,eb⟩:=c8.len;subst ea;subst eb;have bn:=zH bi
   have cp:Hid ((I.take i).map iP++[iP (y0,y1)]=(I.take (i+1)).map iP):=by
    show(I.take i).map iP++[iP (y0,y1)]=(I.take (i+1)).map iP;have e1:I[i]=(y0,y1):=by have h:=ak.out.1;rw[dE a3] at h;exact jr h
    rw[lC a3,eY,e1]
    rfl
   rw[cp.out] at b0;clear bi c8 b8 hk c7 kw x0 x1 ad bm;go_wp2;clear ct;generalize hM:wl.length=M at*;have HM:=zH hM;clear hM;go_loopg [35] M (fun g2 s cc=>∃(j:Nat)(f3:Nat→Nat→Bool),j≤M∧M-j≤g2∧s=.int .i64 j∧Hid (Wn A S w B T V R fb mb G cap L N D U O (fnd (S G) G r) I (.slice (some ⟨bR,oR,none⟩) n mc) w.heap.size cc A3 D3 d ((I.take (i+1)).map iP) (E++u) (I.drop (i+1)) (ws++[wl]) a2 (i+1) f3∧RdA A3 Sm.mc cc (.slice aa M ac) wl∧∀a b,a<i+1→b<n→f3 a b=if a=i then rowOf I (wl.take j) b else ed I ws a b))
   case atStart=>exact⟨0,f2,ae,ae,rfl,b0.out,bn.out,bk.out⟩
   case round=>
    obtain⟨j,f3,hj,cv,rfl,HV⟩:=hrel;clear b0 bn bk;by_cases aq:j<M
    ·have b6:((j:Nat):Int)<(M:Int):=ae
     obtain⟨bA,oA,cA,eg,hx⟩:=RdA.at HV.out.2.1 jB aA (af _ _) j (by rw[HM.out];exact aq);injection eg with b1 b2 b3;have x0:=hx 0 _ rfl;have x1:=hx 1 _ rfl;have cs:=zH (dE (by rw[HM.out];exact aq));generalize wl[j]'(ae)=z at*;obtain⟨z0,z1⟩:=z;rw[Nat.add_zero] at x0;simp only at x0 x1;subst b1;clear hx b2 b3;go_upto_region 9 with fail;have a5:Hid ((Wn A S w B T V R fb mb G cap L N D U O (fnd (S G) G r) I (.slice (some ⟨bR,oR,none⟩) n mc) w.heap.size (wr.alloc (.cells #[.string z0,.string z1] 68)) A3 D3 d ((I.take (i+1)).map iP) (E++u) (I.drop (i+1)) (ws++[wl]) a2 (i+1) f3∧RdA A3 Sm.mc (wr.alloc (.cells #[.string z0,.string z1] 68)) (.slice (some ⟨bA,oA,none⟩) M ac) wl∧∀a b,a<i+1→b<n→f3 a b=if a=i then rowOf I (wl.take j) b else ed I ws a b)∧(wr.alloc (.cells #[.string z0,.string z1] 68)).heap[wr.heap.size]?=some (.cells #[.string z0,.string z1] 68)):=⟨⟨HV.out.1.below ((af _ _).alloc (ai _) _),HV.out.2.1.below ((af _ _).alloc (ai _) _),HV.out.2.2⟩,aI _ _⟩;clear x0 x1 HV;generalize wr.alloc _=W5 at*;generalize wr.heap.size=b9 at*;obtain⟨p,hp⟩:∃p:Mo→Bool,∀o,p o=true↔o.1=z0:=⟨fun o=>@decide (o.1=z0) (Classical.propDecidable _),fun o=>ah⟩;have kb:=EA (A:=A3) (.slice (some ⟨bR,oR,none⟩) n mc) I p z0 hp b9 W5 (by rw[HN.out];omega) a5.out.1.1.rd (fd2 a5.out.2).1.1;have ab:=zH (fun b=>NI I wl j b (z0,z1) cs.out p hp);clear hp
     go_wp2_with (go_at_call 240;fail)
     go_at_call 240;refine kb.mono ?_;rintro e w6 ⟨rr,rfl,dj,b4⟩;have a1:Hid (Wn A S w B T V R fb mb G cap L N D U O (fnd (S G) G r) I (.slice (some ⟨bR,oR,none⟩) n mc) w.heap.size w6 A3 D3 d ((I.take (i+1)).map iP) (E++u) (I.drop (i+1)) (ws++[wl]) a2 (i+1) f3∧RdA A3 Sm.mc w6 (.slice (some ⟨bA,oA,none⟩) M ac) wl∧∀a b,a<i+1→b<n→f3 a b=if a=i then rowOf I (wl.take j) b else ed I ws a b):=⟨a5.out.1.1.below b4,a5.out.1.2.1.below b4,a5.out.1.2.2⟩;clear b4 kb a5;rcases dj with⟨bh,a7⟩|⟨x,bh,a8,cb⟩
     ·subst bh
      have a0:Hid (Wn A S w B T V R fb mb G cap L N D U O (fnd (S G) G r) I (.slice (some ⟨bR,oR,none⟩) n mc) w.heap.size w6 A3 D3 d ((I.take (i+1)).map iP) (E++u) (I.drop (i+1)) (ws++[wl]) a2 (i+1) f3∧RdA A3 Sm.mc w6 (.slice (some ⟨bA,oA,none⟩) M ac) wl∧∀a b,a<i+1→b<n→f3 a b=if a=i then rowOf I (wl.take (j+1)) b else ed I ws a b):=⟨a1.out.1,a1.out.2.1,fun a b ha hb=>by
       rw[a1.out.2.2 a b ha hb,ab.out b,a7];simp⟩
      clear a1 a7 ab;go_wp2;go_roundg (M-(j+1))
      case measure=>omega
      case rel=>exact⟨j+1,f3,ae,ae,by go_num,a0⟩
     ·subst bh
      rw[HN.out] at cb;have du:((x:Nat):Int)≥0:=ae;have dv:((x:Nat):Int)<(n:Int):=ae;have c1:=(a1.out.1.top (gH i) a3).1;rw[HN.out] at c1;obtain⟨c2,c3⟩:=a1.out.1.mat.row i x (gH i) (by rw[HN.out];exact cb)
      have a0:Hid (Wn A S w B T V R fb mb G cap L N D U O (fnd (S G) G r) I (.slice (some ⟨bR,oR,none⟩) n mc) w.heap.size (w6.setCell ⟨a2 i,x,none⟩ (.bool true)) A3 D3 d ((I.take (i+1)).map iP) (E++u) (I.drop (i+1)) (ws++[wl]) a2 (i+1) (fun a b=>if a=i∧b=x then true else f3 a b)∧RdA A3 Sm.mc (w6.setCell ⟨a2 i,x,none⟩ (.bool true)) (.slice (some ⟨bA,oA,none⟩) M ac) wl∧∀a b,a<i+1→b<n→(if a=i∧b=x then true else f3 a b)=if a=i then rowOf I (wl.take (j+1)) b else ed I ws a b):=by
       refine⟨a1.out.1.put (gH i) true,a1.out.2.1.turn (((aj.refl (fun b=>b=a2 i) w6).set (a:=⟨a2 i,x,none⟩) (fun _=>rfl) _).mono (fun b _ e=>by rw[e];exact(a1.out.1.mat.own.2 i (gH i)).1)),fun a b ha hb=>?_⟩;rw[ab.out b,a8,a1.out.2.2 a b ha hb];by_cases e1:a=i
       ·by_cases e2:b=x
        ·rw[ay ⟨e1,e2⟩,ay e1,e2];simp
        ·rw[au (fun e=>e2 e.2),ay e1,ay e1]
         have e3:¬(some x=some b):=fun e=>e2 (jr e).symm
         simp[e3]
       ·rw[au (fun e=>e1 e.1),au e1,au e1]
      clear a1 a8 ab;generalize a2 i=ri at*;go_wp2;go_roundg (M-(j+1))
      case measure=>omega
      case rel=>exact⟨j+1,_,ae,ae,by go_num,a0⟩
    ·have b6:(((j:Nat):Int)<(M:Int))=False:=aJ
     have a0:Hid (Wn A S w B T V R fb mb G cap L N D U O (fnd (S G) G r) I (.slice (some ⟨bR,oR,none⟩) n mc) w.heap.size wr A3 D3 d ((I.take (i+1)).map iP) (E++u) (I.drop (i+1)) (ws++[wl]) a2 (i+1) f3∧(ws++[wl]).length=i+1∧(∀a b,a<i+1→b<n→f3 a b=ed I (ws++[wl]) a b)∧D3.length≤D.length+(i+1)*grow r):=⟨HV.out.1,by rw[bj,a6.out.1];rfl,fun a b ha hb=>by
      rw[HV.out.2.2 a b ha hb,cV (by have:=HM.out;omega)];by_cases e:a=i
      ·rw[ay e,e,←a6.out.1,NL]
      ·rw[au e,NK (by have:=a6.out.1;omega)],cd.out⟩
     go_wp2;go_roundg (n-(i+1))
     case measure=>omega
     case rel=>exact⟨i+1,_,_,_,_,_,_,_,ae,ae,by go_num,a0⟩
  ·have an:(((i:Nat):Int)<(n:Int))=False:=aJ
   have b5:n=i:=ae;subst b5;obtain⟨m0,bd⟩:∃m0,m0=ed I ws:=⟨_,rfl⟩
   have HE:Hid (Wn A S w B T V R fb mb G cap L N D U O (fnd (S G) G r) I (.slice ma n mc) w.heap.size wr A2 X J ((I.take n).map iP) E [] ws Y n (bC m0 0)):=by
    have h:=HW.out.1;rw[rG (by rw[HN.out];omega)] at h;refine h.congr (fun a b ha hb=>?_);rw[HW.out.2.2.1 a b ha (by rw[←HN.out];exact hb),bd]
    rfl
   have ch:=zH bd;clear bd HW a4 hg an;go_wp2;go_loopg [54] n (fun gg s wr=>∃k:Nat,k≤n∧n-k≤gg∧s=.int .i64 k∧Hid (Wn A S w B T V R fb mb G cap L N D U O (fnd (S G) G r) I (.slice ma n mc) w.heap.size wr A2 X J ((I.take n).map iP) E [] ws Y n (bC m0 k)))
   case atStart=>exact⟨0,ae,ae,rfl,HE⟩
   case round=>
    obtain⟨k,hk,hg,rfl,HW⟩:=hrel;clear HE;by_cases bb:k<n
    ·have db:((k:Nat):Int)<(n:Int):=ae
     have c6:k<I.length:=by rw[HN.out];exact bb
     go_wp2;go_loopg [59] n (fun g2 s wr=>∃i:Nat,i≤n∧n-i≤g2∧s=.int .i64 i∧Hid (Wn A S w B T V R fb mb G cap L N D U O (fnd (S G) G r) I (.slice ma n mc) w.heap.size wr A2 X J ((I.take n).map iP) E [] ws Y n (fA m0 k i 0)))
     case atStart=>exact⟨0,ae,ae,rfl,HW.out.congr (fun a b _ _=>(yu m0 k a b).symm)⟩
     case round=>
      obtain⟨i,hi,cv,rfl,HV⟩:=hrel;clear HW;by_cases a4:i<n
      ·have an:((i:Nat):Int)<(n:Int):=ae
       have a3:i<I.length:=by rw[HN.out];exact a4
       have c1:=(HV.out.top a4 a3).1;rw[HN.out] at c1;have c2:=(HV.out.mat.row i k a4 c6).1
       have e2:fA m0 k i 0 i k=bC m0 k i k:=by
        unfold fA;rw[au ae]
       rw[e2] at c2;clear e2;cases hx:bC m0 k i k with
       |false=>
        rw[hx] at c2;have a0:=zH (HV.out.congr (fun a b _ _=>Km m0 k i a b hx));clear HV hx;go_wp2;go_roundg (n-(i+1))
        case measure=>omega
        case rel=>exact⟨i+1,ae,ae,by go_num,a0⟩
       |true=>
        rw[hx] at c2;have HX:=zH hx;clear hx;go_wp2;clear c1 c2;go_loopg [72] n (fun g3 s wr=>∃j:Nat,j≤n∧n-j≤g3∧s=.int .i64 j∧Hid (Wn A S w B T V R fb mb G cap L N D U O (fnd (S G) G r) I (.slice ma n mc) w.heap.size wr A2 X J ((I.take n).map iP) E [] ws Y n (fA m0 k i j)))
        case atStart=>exact⟨0,ae,ae,rfl,HV⟩
        case round=>
         obtain⟨j,hj,dn,rfl,HU⟩:=hrel;clear HV;by_cases aq:j<n
         ·have b6:((j:Nat):Int)<(n:Int):=ae
          have c5:j<I.length:=by rw[HN.out];exact aq
          have c1:=(HU.out.top a4 a3).1;have c3:=(HU.out.top bb c6).1;rw[HN.out] at c1 c3;obtain⟨c2,dk⟩:=HU.out.mat.row i j a4 c5;have c4:=(HU.out.mat.row k j bb c5).1;rw[A8] at c2;rw[EB] at c4;have HP:=zH (fun v hv=>(HU.out.put a4 v).congr (fun a b _ _=>A9 m0 k i j a b v hv));have HV:=zH (Kl m0 k i j HX.out);generalize bC m0 k i j=x at*;generalize bC m0 k k j=y at*;generalize Y i=ri at*;generalize Y k=rk at*;go_upto_region 24 with fail;clear HU;cases x with
          |true=>
           have a0:=zH ((HP.out true (by rw[HV.out];rfl)).below ((af _ _).drew));clear HP HV
           go_region
           go_wp2;go_roundg (n-(j+1))
           case measure=>omega
           case rel=>exact⟨j+1,ae,ae,by go_num,a0⟩
          |false=>
           have a0:=zH ((HP.out y (by rw[HV.out];rfl)).below ((af _ _).drew));clear HP HV
           go_region
           go_wp2;go_roundg (n-(j+1))
           case measure=>omega
           case rel=>exact⟨j+1,ae,ae,by go_num,a0⟩
         ·have b6:(((j:Nat):Int)<(n:Int))=False:=aJ
          have cx:n=j:=ae;subst cx;have a0:=zH (HU.out.congr (fun a b _ hb=>Ba m0 k i n a b (by rw[←HN.out];exact hb)));clear HU;go_wp2;go_roundg (n-(i+1))
          case measure=>omega
          case rel=>exact⟨i+1,ae,ae,by go_num,a0⟩
      ·have an:(((i:Nat):Int)<(n:Int))=False:=aJ
       have b5:n=i:=ae;subst b5;have a0:=zH (HV.out.congr (fun a b ha _=>ED m0 k n a b ha));clear HV;go_wp2;go_roundg (n-(k+1))
       case measure=>omega
       case rel=>exact⟨k+1,ae,ae,by go_num,a0⟩
    ·have db:(((k:Nat):Int)<(n:Int))=False:=aJ
     have da:n=k:=ae;subst da
     have ck:Hid (sS wr w.heap.size Y n (bC m0 n)):=by
      have h:=HW.out.mat;rw[HN.out] at h;exact h.at
     go_wp2;go_ret;exact⟨A2,J,X,E,ws,w.heap.size,Y,rfl,by rw[←ch.out];exact ck.out,HW.out.went,fun fin D0 cm W0 hp=>HW.out.pre fin D0 cm W0 hp,HW.out.rd⟩
