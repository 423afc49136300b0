import Derived.Test.YtooabooekgphpaaGreatDoorKPML
set_option linter.all false
open Go.Proofs.Tryz
set_option maxRecDepth 100000
set_option maxHeartbeats 20000000
namespace Go.Proofs.YtooabooekgphpaaGreatDoor
open Go.RowKit
namespace Pn
open Mf
variable{A:Nat->Prop}
theorem I9:∀args w,(callFunc 186 args).run prog w=.ok (.enter 186 args) w:=fun _ _=>by kernel_rfl
theorem BA(M a2 y1:zA)(b9:Nat)(z:Bool)(hz:z=true↔M=y1)(w:zW)(h:w.cell? (tD b9 0)=some (tS y1)):
  zC 186 #[.agg #[tS M,tS a2],zP b9] w fun e w'=>e=.returned (.bool z)/\zB w w':=by
 have a0:zB w (w.alloc (.cells #[tS M,tS a2] 63)):=(ae _ _).alloc (af _) _;have HB:Hid (zB w (w.alloc (.cells #[tS M,tS a2] 63))):=a0;have c0:(w.alloc (.cells #[tS M,tS a2] 63)).cell? (tD b9 0)=some (tS y1):=by rw[a0.cell (p:=(tD b9 0)) (aY _ _ h)];exact h
 obtain⟨⟨d0,_⟩,_⟩:=fd2 (ay w (.cells #[tS M,tS a2] 63))
 have hq:(M.toList==y1.toList)=z:=by
  by_cases e:M=y1
  ·rw[hz.2 e,e];simp
  rw[Rn.bM e]
  cases z with
  |false=>rfl
  |true=>exact absurd (hz.1 rfl) e
 clear hz a0 h;go_enter func186,ntmps186;go_upto_region 1 with fail;generalize w.alloc (.cells #[tS M,tS a2] 63)=W1 at*;go_wp2;go_ret;exact⟨rfl,HB.o⟩
theorem Du(v:zV)(L:List Mo)(p:Mo->Bool)(y1:zA)(hp:∀o:Mo,p o=true↔o.1=y1)(b9:Nat)(w:zW)(hL:L.length<=100000)(h:RdA A Sm.mc w v L)(a2:w.cell? (tD b9 0)=some (tS y1)):
  zC 185 #[v,.func (.func 186) #[] #[zP b9]] w fun e w'=>∃r,e=.returned (zI r)/\((r=-1/\L.findIdx? p=none)\/∃i:Nat,r=i/\L.findIdx? p=some i/\i<L.length)/\zB w w':=by
 obtain⟨a1,c1,e1⟩:=h.len;subst e1;have D1:Hid (RdA A Sm.mc w (.slice a1 L.length c1) L):=h;clear h
 have FG:Hid (∀wr,zB w wr->∀i,i<L.length->∃(y:Mo)(b o:Nat),L[i]?=some y/\a1=some (tD b o)/\wr.cell? (tD b (o+i*2))=some (tS y.1)/\wr.cell? (tD b (o+i*2+1))=some (tS y.2)):=fun wr hb i hi=>by
  obtain⟨b,o,c,eg,hx⟩:=RdA.at (A:=A) (L:=L) D1.o fC (by decide) hb i hi;injection eg with a7 _ _;refine⟨L[i],b,o,aV hi,a7,?_,?_⟩
  ·have:=hx 0 _ rfl;simpa using this
  have:=hx 1 _ rfl;simpa using this
 clear D1;have KC:Hid (∀(y:Mo) W,zB w W->zC 186 #[.agg #[tS y.1,tS y.2],zP b9] W fun e w'=>e=.returned (.bool (p y))/\zB W w'):=fun y W hb=>BA y.1 y.2 y1 b9 (p y) (hp y) W (by rw[hb.cell (p:=(tD b9 0)) (aY _ _ a2)];exact a2)
 clear hp a2;generalize hn:L.length=n at*;have a0:Hid (L.length=n):=hn;clear hn;have a9:=I9;go_enter func185,ntmps185;go_wp2;go_loopg [8] n (fun gg s wr=>∃i:Nat,i<=n/\n-i<=gg/\s=zI i/\Hid (zB w wr)/\Hid (∀j,j<i->∀y,L[j]?=some y->p y=false))
 case atStart=>exact⟨0,by omega,by omega,rfl,ae _ _,fun j h=>absurd h (dY _)⟩
 case round=>
  obtain⟨i,hi,hg,rfl,HB,HJ⟩:=hrel;by_cases a8:i<n
  ·obtain⟨y,b,o,hy,rfl,y0,a5⟩:=FG.o wr HB.o i a8
   have M:((i:Nat):Int)<(n:Int):=by omega
   have kc:=KC.o y wr HB.o
   have HY:Hid (p y=true->L.findIdx? p=some i/\i<L.length):=fun h=>by
    have M:i<L.length:=by have:=a0.o;omega
    refine⟨qj.2 ⟨M,?_,fun j hj=>?_⟩,M⟩
    ·have e:L[i]=y:=by rw[aV M] at hy;exact bK hy
     rw[e];exact h
    have:=HJ.o j hj L[j] (aV (by omega))
    simp[this]
   have HN:Hid (p y=false->∀j,j<i+1->∀y,L[j]?=some y->p y=false):=fun h j hj z hz=>by
    by_cases e:j=i
    ·rw[e,hy] at hz;rw[<-bK hz];exact h
    exact HJ.o j (by omega) z hz
   clear hy;generalize p y=z at*;obtain⟨k0,k1⟩:=y;simp only at y0 a5 kc
   go_wp2_with (go_at_call 186;fail)
   go_at_call 186;refine kc.mono ?_;rintro e w2 ⟨rfl,a4⟩;have a3:Hid (zB w w2):=HB.o.trans (a4.mono HB.o.size);clear a4 kc y0 a5;cases z with
   |true=>
    have HR:=HY.o rfl;go_wp2;go_ret;exact⟨_,rfl,oS ⟨i,rfl,HR.1,by have:=a0.o;omega⟩,a3.o⟩
   |false=>
    have a6:Hid (∀j,j<i+1->∀y,L[j]?=some y->p y=false):=HN.o rfl;clear HY HN;go_wp2;go_roundg (n-(i+1))
    case measure=>omega
    case rel=>exact⟨i+1,by omega,by omega,by go_num,a3,a6⟩
  have M:(((i:Nat):Int)<(n:Int))=False:=by simp;omega
  have HR:Hid (L.findIdx? p=none):=by
   show L.findIdx? p=none;rw[qo];intro x hx;obtain⟨j,hj,e⟩:=lY hx;exact HJ.o j (by have:=a0.o;omega) x (by rw[aV hj,e])
  go_wp2;go_ret;exact⟨_,rfl,oE ⟨rfl,HR.o⟩,HB.o⟩
end Pn
namespace Pn
open Mf Ed
variable{A A1 A2 A3:Nat->Prop}{S:Nat->Shf}{w w' wr wx W W1 w1 w2 w3 wf:zW}{V E T mb G:Nat}{cap:Int}{X j0 j3:List Int}{D u D1 D2 D3:List Kp}{L L':List (zV×zV)}{B O:Nat}{Y I j1 d:zV}{R j2 j4:List Tie}{q:Qn}{k kk:Kp}{F:Find}{g:Nat}{n n1 b:Nat}{o:Obj}{N l:List Qn}
structure lB(n1:Nat)(A:Nat->Prop)(Y:zV)(W:World)(nb:Nat)(J:Nat->Nat)(n h:Nat)(f:Nat->Nat->Bool):Prop where
 top:∀i,i<n->Ed.Fd W nb i (if i<h then .slice (some ⟨J i,0,none⟩) n n else zN)
 row:∀i j,i<h->j<n->Ed.Fd W (J i) j (.bool (f i j))
 own:(A nb/\Y.ownBlock≠some nb/\n1<=nb/\nb<W.heap.size)/\∀i,i<h->A (J i)/\Y.ownBlock≠some (J i)/\n1<=J i/\J i<W.heap.size
 ne:(∀i,i<h->J i≠nb)/\∀i j,i<h->j<h->i≠j->J i≠J j
variable{nb h:Nat}{J:Nat->Nat}{f f':Nat->Nat->Bool}
theorem lB.congr(hm:lB n1 A Y W nb J n h f)(e:∀i j,i<h->j<n->f i j=f' i j):lB n1 A Y W nb J n h f':=
 ⟨hm.top,fun i j M hj=>by rw[<-e i j M hj];exact hm.row i j M hj,hm.own,hm.ne⟩
theorem lB.turn{p:Nat->Prop}(hm:lB n1 A Y W nb J n h f)(ht:ai p W W1)(hp:¬p nb/\∀i,i<h->¬p (J i))(hA:∀b,A b->A2 b)(hv:I.ownBlock=Y.ownBlock\/∀b,I.ownBlock=some b->Y.ownBlock=some b\/W.heap.size<=b):lB n1 A2 I W1 nb J n h f:=by
 have hs:=ht.size
 have a0:∀b,Y.ownBlock≠some b->b<W.heap.size->I.ownBlock≠some b:=fun b h1 h2 e=>by
  rcases hv with hv|hv
  ·rw[hv] at e;exact h1 e
  rcases hv b e with e|e
  ·exact h1 e
  omega
 refine⟨fun i M=>(hm.top i M).of_block (ht.block nb hm.own.1.2.2.2 hp.1),fun i j M hj=>(hm.row i j M hj).of_block (ht.block (J i) (hm.own.2 i M).2.2.2 (hp.2 i M)),⟨⟨hA _ hm.own.1.1,a0 _ hm.own.1.2.1 hm.own.1.2.2.2,hm.own.1.2.2.1,by have:=hm.own.1.2.2.2;omega⟩,fun i M=>⟨hA _ (hm.own.2 i M).1,a0 _ (hm.own.2 i M).2.1 (hm.own.2 i M).2.2.2,(hm.own.2 i M).2.2.1,by have:=(hm.own.2 i M).2.2.2;omega⟩⟩,hm.ne⟩
theorem lB.below(hm:lB n1 A Y W nb J n h f)(M:zB W W1):lB n1 A Y W1 nb J n h f:=
 hm.turn (ai.of_below (p:=fun _=>False) M) ⟨fun e=>e,fun _ _ e=>e⟩ (fun _ e=>e) (oE rfl)
theorem lB.went(hn:V<n1/\T<n1/\O<n1)(hm:lB n1 A1 Y W nb J n h f)(M:dH A1 S W B O V E T mb G cap L Y w2 A2 j0 u I j2):lB n1 A2 I w2 nb J n h f:=by
 have h1:∀b,n1<=b->Y.ownBlock≠some b->¬Fr4 V T O Y b:=fun b hb h2 e=>by
  rcases e with e|e|e|e
  ·omega
  ·omega
  ·omega
  exact h2 e
 exact hm.turn M.f ⟨h1 _ hm.own.1.2.2.1 hm.own.1.2.1,fun i hi=>h1 _ (hm.own.2 i hi).2.2.1 (hm.own.2 i hi).2.1⟩ M.sub (oS M.own)
theorem lB.put(hm:lB n1 A Y W nb J n h f){i j:Nat}(hi:i<h)(v:Bool):lB n1 A Y (W.setCell ⟨J i,j,none⟩ (.bool v)) nb J n h (fun a b=>if a=i/\b=j then v else f a b):=by
 have hz:(W.setCell ⟨J i,j,none⟩ (.bool v)).heap.size=W.heap.size:=by simp[World.setCell]
 refine⟨fun a M=>(hm.top a M).of_block (aM _ _ _ _ (fun e=>hm.ne.1 i hi e.symm)),fun a c M hc=>?_,⟨⟨hm.own.1.1,hm.own.1.2.1,hm.own.1.2.2.1,by rw[hz];exact hm.own.1.2.2.2⟩,fun a M=>⟨(hm.own.2 a M).1,(hm.own.2 a M).2.1,(hm.own.2 a M).2.2.1,by rw[hz];exact(hm.own.2 a M).2.2.2⟩⟩,hm.ne⟩;by_cases e1:a=i
 ·subst e1
  by_cases e2:c=j
  ·subst e2
   rw[aj ⟨rfl,rfl⟩];exact oI (hm.row a c M hc) _
  rw[ag (fun e=>e2 e.2)]
  exact(hm.row a c M hc).set e2
 rw[ag (fun e=>e1 e.1)]
 exact(hm.row a c M hc).of_block (aM _ _ _ _ (hm.ne.2 a i M hi e1))
theorem lB.lay(hm:lB n1 A Y W nb J n h f)(hh:h<n){Z:Array zV}(hZ:∀j,j<n->Z[j]?=some (.bool false))(hn:n1<=W.heap.size)(a3:∀b,Y.ownBlock=some b->b<W.heap.size):
  lB n1 (fun b=>A b\/b=W.heap.size) Y ((W.alloc (.cells Z 4)).setCell (tD nb h) (.slice (some (tD W.heap.size 0)) n n)) nb (fun i=>if i=h then W.heap.size else J i) n (h+1) (fun i j=>if i=h then false else f i j):=by
 have hz:((W.alloc (.cells Z 4)).setCell (tD nb h) (.slice (some (tD W.heap.size 0)) n n)).heap.size=W.heap.size+1:=by simp[World.setCell]
 have a2:=hm.own.1.2.2.2;have a0:∀b,b<W.heap.size->(W.alloc (.cells Z 4)).heap[b]?=W.heap[b]?:=fun b hb=>aG _ _ _ hb
 refine⟨fun i hi=>?_,fun i j hi hj=>?_,⟨⟨oE hm.own.1.1,hm.own.1.2.1,hm.own.1.2.2.1,by rw[hz];omega⟩,fun i hi=>?_⟩,fun i hi=>?_,fun i j hi hj a1=>?_⟩
 ·have h0:Ed.Fd (W.alloc (.cells Z 4)) nb i (if i<h then .slice (some ⟨J i,0,none⟩) n n else zN):=(hm.top i hi).of_block (a0 nb a2)
  by_cases e:i=h
  ·subst e
   rw[aj (jy _),aj rfl];exact oI h0 _
  have M:=h0.set (o':=h) (v:=.slice (some (tD W.heap.size 0)) n n) e
  by_cases e2:i<h
  ·rw[aj (by omega),ag e];rw[aj e2] at M;exact M
  rw[ag (by omega)];rw[ag e2] at M;exact M
 ·by_cases e:i=h
  ·rw[aj e,aj e]
   exact(dy W Z 4 (hZ j hj)).of_block (aM _ _ _ _ (by show W.heap.size≠nb;omega))
  rw[ag e,ag e]
  have M:i<h:=by omega
  have h2:=(hm.own.2 i M).2.2.2;exact((hm.row i j M hj).of_block (a0 _ h2)).of_block (aM _ _ _ _ (hm.ne.1 i M))
 ·by_cases e:i=h
  ·simp only[aj e]
   exact⟨oS trivial,fun e2=>by have:=a3 _ e2;omega,hn,by rw[hz];omega⟩
  simp only[ag e]
  have M:=hm.own.2 i (by omega);exact⟨oE M.1,M.2.1,M.2.2.1,by rw[hz];omega⟩
 ·by_cases e:i=h
  ·simp only[aj e];omega
  simp only[ag e];exact hm.ne.1 i (by omega)
 by_cases e:i=h
 ·by_cases e2:j=h
  ·omega
  simp only[aj e,ag e2]
  have:=(hm.own.2 j (by omega)).2.2.2;omega
 by_cases e2:j=h
 ·simp only[ag e,aj e2]
  have:=(hm.own.2 i (by omega)).2.2.2;omega
 simp only[ag e,ag e2]
 exact hm.ne.2 i j (by omega) (by omega) a1
theorem lB.at(hm:lB n1 A Y W nb J n n f):lN W nb J n f:=
 ⟨fun i M=>by have h:=(hm.top i M).1;rw[aj M] at h;exact h,fun i j M hj=>(hm.row i j M hj).1⟩
theorem qV(m:Nat->Nat->Bool)(k i j:Nat):cM m (k+1) i j=(cM m k i j||(cM m k i k&&cM m k k j)):=rfl
theorem Ja(m:Nat->Nat->Bool)(k j:Nat):cM m (k+1) k j=cM m k k j:=by
 rw[qV];cases cM m k k j<;>cases cM m k k k<;>rfl
theorem LC(m:Nat->Nat->Bool)(k i j:Nat)(h:cM m k i k=false):cM m (k+1) i j=cM m k i j:=by
 rw[qV,h];simp
theorem Jb(m:Nat->Nat->Bool)(k i j:Nat)(h:cM m k i k=true):cM m (k+1) i j=(cM m k i j||cM m k k j):=by
 rw[qV,h];simp
def fG(m:Nat->Nat->Bool)(k i j a b:Nat):Bool:=if a<i\/(a=i/\b<j) then cM m (k+1) a b else cM m k a b
theorem LD(m:Nat->Nat->Bool)(k i j b:Nat):fG m k i j k b=cM m k k b:=by
 unfold fG
 split
 ·exact Ja m k b
 rfl
theorem Jc(m:Nat->Nat->Bool)(k i j:Nat):fG m k i j i j=cM m k i j:=by
 unfold fG;rw[ag (by omega)]
theorem Jd(m:Nat->Nat->Bool)(k i j a b:Nat)(v:Bool)(hv:v=cM m (k+1) i j):(if a=i/\b=j then v else fG m k i j a b)=fG m k i (j+1) a b:=by
 unfold fG;by_cases e:a=i/\b=j
 ·rw[aj e,aj (by omega),hv,e.1,e.2]
 rw[ag e]
 by_cases M:a<i\/(a=i/\b<j)
 ·rw[aj M,aj (by omega)]
 rw[ag M,ag (by omega)]
theorem Je(m:Nat->Nat->Bool)(k i n a b:Nat)(M:b<n):fG m k i n a b=fG m k (i+1) 0 a b:=by
 unfold fG;by_cases e:a<i+1
 ·rw[aj (by omega),aj (by omega)]
 rw[ag (by omega),ag (by omega)]
theorem Jf(m:Nat->Nat->Bool)(k i a b:Nat)(h:cM m k i k=false):fG m k i 0 a b=fG m k (i+1) 0 a b:=by
 unfold fG;by_cases e:a<i
 ·rw[aj (by omega),aj (by omega)]
 by_cases M:a=i
 ·rw[ag (by omega),aj (by omega),M,LC m k i b h]
 rw[ag (by omega),ag (by omega)]
theorem Fz(m:Nat->Nat->Bool)(k a b:Nat):fG m k 0 0 a b=cM m k a b:=by
 unfold fG;rw[ag (by omega)]
theorem LF(m:Nat->Nat->Bool)(k n a b:Nat)(M:a<n):fG m k n 0 a b=cM m (k+1) a b:=by
 unfold fG;rw[aj (by omega)]
open Classical in
theorem LG(ms wl:List Mo)(j b:Nat)(x:Mo)(h:wl[j]?=some x)(p:Mo->Bool)(hp:∀o,p o=true↔o.1=x.1):rowOf ms (wl.take (j+1)) b=(rowOf ms (wl.take j) b||decide (ms.findIdx? p=some b)):=by
 obtain⟨hj,e⟩:=dv.1 h;unfold rowOf;rw[nE hj,e,List.any_append]
 congr 1
 rw[List.any_cons,List.any_nil,Bool.or_false]
 have M:(fun o:Mo=>decide (o.1=x.1))=p:=by
  funext o
  cases hq:p o with
  |true=>exact bj ((hp o).1 hq)
  |false=>exact aQ (fun e2=>by rw[(hp o).2 e2] at hq;cases hq)
 rw[<-M]
end Pn
namespace Pn
open Mf Ed
variable{A A1 A2 A3:Nat->Prop}{S:Nat->Shf}{w w' wr wx W W1 w1 w2 w3 wf:zW}{V E T mb G:Nat}{cap:Int}{X j0 j3:List Int}{D u D1 D2 D3:List Kp}{L L':List (zV×zV)}{B O:Nat}{Y I j1 d:zV}{R j2 j4:List Tie}{q:Qn}{k kk:Kp}{F:Find}{g:Nat}{n n1 b:Nat}{o:Obj}{N l:List Qn}{nb h:Nat}{J:Nat->Nat}{f f':Nat->Nat->Bool}{ms rest:List Mo}{U:List (List Mo)}{mv:zV}{tk:List Tie}
def fE(m:Mo):Tie:=.ask ⟨2,m.1,m.2⟩
structure Wn(A:Nat->Prop)(S:Nat->Shf)(w:World)(B O V E T mb G:Nat)(cap:Int)(L:List (zV×zV))(X:List Int)(D:List Kp)(Y:zV)(R:List Tie)(F:Find)(ms:List Mo)(mv:zV)(nb:Nat)(wr:World)(A2:Nat->Prop)(u:List Kp)(I:zV)(tk:List Tie)(N:List Qn)(rest:List Mo)(U:List (List Mo))(J:Nat->Nat)(h:Nat)(f:Nat->Nat->Bool):Prop where
 h0:Tsk A S w B O V E T mb G cap X D L Y R
 went:dH A S w B O V E T mb G cap L Y wr A2 (counted X N) u I (R++tk)
 pre:∀(fin:List (List Mo)->Fi) D0 cm W0,Pre F (S G) D0 cm D (eY fin ms []) R W0->Pre F (S G) D0 cm u (eY fin rest U) (R++tk) (W0++N)
 rd:RdA A2 Sm.mc wr mv ms
 mat:lB w.heap.size A2 I wr nb J ms.length h f
theorem Wn.below(M:Wn A S w B O V E T mb G cap L X D Y R F ms mv nb wr A2 u I tk N rest U J h f)(hb:zB wr W):Wn A S w B O V E T mb G cap L X D Y R F ms mv nb W A2 u I tk N rest U J h f:=
 ⟨M.h0,M.went.over hb,M.pre,M.rd.below hb,M.mat.below hb⟩
theorem Wn.congr(M:Wn A S w B O V E T mb G cap L X D Y R F ms mv nb wr A2 u I tk N rest U J h f)(e:∀i j,i<h->j<ms.length->f i j=f' i j):Wn A S w B O V E T mb G cap L X D Y R F ms mv nb wr A2 u I tk N rest U J h f':=
 ⟨M.h0,M.went,M.pre,M.rd,M.mat.congr e⟩
theorem Wn.lt(M:Wn A S w B O V E T mb G cap L X D Y R F ms mv nb wr A2 u I tk N rest U J h f):V<w.heap.size/\T<w.heap.size/\O<w.heap.size:=by
 have h1:=M.h0.lt;have h2:=M.h0.hB;have h3:=M.h0.task.t0.lt;omega
theorem Wn.tvlt(M:Wn A S w B O V E T mb G cap L X D Y R F ms mv nb wr A2 u I tk N rest U J h f):∀b,I.ownBlock=some b->b<wr.heap.size:=fun b e=>(M.went.t.task.row.lt b e).2
theorem Wn.start{Z:Array zV}(h0:Tsk A S w B O V E T mb G cap X D L Y R)(hr:RdA A Sm.mc w mv ms)(hZ:∀j,j<ms.length->Z[j]?=some (zN)):
  Wn A S w B O V E T mb G cap L X D Y R F ms mv w.heap.size (w.alloc (.cells Z 232)) (fun b=>A b\/b=w.heap.size) D Y [] [] ms [] (fun _=>0) 0 (fun _ _=>false):=by
 have hb:zB w (w.alloc (.cells Z 232)):=(ae _ _).alloc (af _) _;have hz:(w.alloc (.cells Z 232)).heap.size=w.heap.size+1:=by simp
 have a0:∀b,Y.ownBlock=some b->b<w.heap.size:=fun b e=>(h0.task.row.lt b e).2
 refine⟨h0,?_,fun fin D0 cm W0 hp=>?_,(hr.more (fun b hb e=>?_)).below hb,⟨fun i M=>?_,fun i j M hj=>absurd M (dY _),⟨⟨oS rfl,fun e=>by have:=a0 _ e;omega,af _,by rw[hz];omega⟩,fun i M=>absurd M (dY _)⟩,fun i M=>absurd M (dY _),fun i j M _ _=>absurd M (dY _)⟩⟩
 ·rw[im]
  exact dH.put (p:=fun _=>False) (Q:=fun b=>b=w.heap.size) h0 (dH.refl h0) (ai.of_below hb) (fun _ _ e=>e.elim) (fun b e=>by rw[e,hz];exact⟨af _,jy _⟩)
 ·rw[im,im];exact hp
 ·rcases e with e|e
  ·exact e
  omega
 rw[ag (dY _)]
 exact dy w Z 232 (hZ i M)
theorem Wn.lay{Z:Array zV}(M:Wn A S w B O V E T mb G cap L X D Y R F ms mv nb W A2 u I tk N rest U J h f)(hh:h<ms.length)(hZ:∀j,j<ms.length->Z[j]?=some (.bool false)):
  Wn A S w B O V E T mb G cap L X D Y R F ms mv nb ((W.alloc (.cells Z 4)).setCell (tD nb h) (.slice (some (tD W.heap.size 0)) ms.length ms.length)) (fun b=>A2 b\/b=W.heap.size) u I tk N rest U (fun i=>if i=h then W.heap.size else J i) (h+1) (fun i j=>if i=h then false else f i j):=by
 have ht:ai (fun b=>b=nb) W ((W.alloc (.cells Z 4)).setCell (tD nb h) (.slice (some (tD W.heap.size 0)) ms.length ms.length)):=((ai.refl (fun b=>b=nb) W).alloc _).set (a:=(tD nb h)) (fun _=>rfl) _;have hz:((W.alloc (.cells Z 4)).setCell (tD nb h) (.slice (some (tD W.heap.size 0)) ms.length ms.length)).heap.size=W.heap.size+1:=by simp[World.setCell]
 have hn:=M.mat.own.1;refine⟨M.h0,M.went.put M.h0 ht (fun b _ e=>by rw[e];exact⟨hn.1,hn.2.2.1,hn.2.1⟩) (fun b e=>by rw[e,hz];exact⟨af _,jy _⟩),M.pre,?_,M.mat.lay hh hZ M.went.f.size M.tvlt⟩
 exact(M.rd.more (fun b hb e=>by
  rcases e with e|e
  ·exact e
  omega)).turn (ht.mono (fun b hb e=>by rw[e];exact oE hn.1))
theorem Wn.asked{m:Mo}{wl:List Mo}{ps:List Pb}(M:Wn A S w B O V E T mb G cap L X D Y R F ms mv nb W A2 u I tk N (m::rest) U J h f)(hk:dH A2 S W B O V E T mb G cap L I wx A3 (counted (counted X N) l) D3 d (R++tk++[.ask ⟨2,m.1,m.2⟩]))(hf:F u ⟨2,m.1,m.2⟩ kk D3 l)(a0:kk.f=.wants wl ps):
  Wn A S w B O V E T mb G cap L X D Y R F ms mv nb wx A3 D3 d (tk++[fE m]) (N++l) rest (U++[wl]) J h f:=by
 have a1:=M.lt;refine⟨M.h0,?_,fun fin D0 cm W0 hp=>?_,M.rd.went M.went.t hk,M.mat.went a1 hk⟩
 ·rw[<-fF,<-dZ];exact M.went.trans hk
 have h1:=Pre.ask (q:=⟨2,m.1,m.2⟩) (k:=fun f=>eY fin rest (U++[(cC f).1])) (M.pre fin D0 cm W0 hp) hf
 rw[a0] at h1;rw[<-dZ,<-dZ];exact h1
theorem Wn.put(M:Wn A S w B O V E T mb G cap L X D Y R F ms mv nb W A2 u I tk N rest U J h f){i j:Nat}(hi:i<h)(v:Bool):
  Wn A S w B O V E T mb G cap L X D Y R F ms mv nb (W.setCell ⟨J i,j,none⟩ (.bool v)) A2 u I tk N rest U J h (fun a b=>if a=i/\b=j then v else f a b):=by
 have ht:ai (fun b=>b=J i) W (W.setCell ⟨J i,j,none⟩ (.bool v)):=(ai.refl (fun b=>b=J i) W).set (a:=⟨J i,j,none⟩) (fun _=>rfl) _;have hn:=M.mat.own.2 i hi;have h1:=M.went.put (Q:=fun _=>False) M.h0 ht (fun b _ e=>by rw[e];exact⟨hn.1,hn.2.2.1,hn.2.1⟩) (fun b e=>e.elim);refine⟨M.h0,?_,M.pre,M.rd.turn (ht.mono (fun b _ e=>by rw[e];exact hn.1)),M.mat.put hi v⟩;exact h1.less (fun b e=>oE e) M.went.sub (fun b e=>M.went.t.pr b e) ⟨M.h0.eng.desk.hd,M.h0.eng.desk.hf,M.h0.eng.ns.1,M.h0.eng.ns.2⟩
theorem Wn.top(hw:Wn A S w B O V E T mb G cap L X D Y R F ms mv nb W A2 u I tk N rest U J h f){i:Nat}(hi:i<h)(hn:i<ms.length):Ed.Fd W nb i (.slice (some ⟨J i,0,none⟩) ms.length ms.length):=by
 have M:=hw.mat.top i hn;rw[aj hi] at M;exact M
end Pn
namespace Pn
open Mf Ed
variable{A A1 A2 A3:Nat->Prop}{S:Nat->Shf}{w w' wr wx W W1 w1 w2 w3 wf:zW}{V E T mb G:Nat}{cap:Int}{X j0 j3:List Int}{D u D1 D2 D3:List Kp}{L L':List (zV×zV)}{B O:Nat}{Y I j1 d:zV}{R j2 j4:List Tie}{q:Qn}{k kk:Kp}{F:Find}{g:Nat}{n n1 b:Nat}{o:Obj}{N l:List Qn}{nb h:Nat}{J:Nat->Nat}{f f':Nat->Nat->Bool}{ms rest:List Mo}{U:List (List Mo)}{mv:zV}{tk:List Tie}
theorem xX(t e:TypeId)(z:zV)(b:Nat)(ht:prog.underlying t=some (.slice e))(hi:(prog.info? e).map (fun i=>(i.zero,i.size,i.bytes))=some (some z,1,b))(hz:z.cells=#[z])(n:Nat)(hn:n<=1000)(hb:b<=1000):
  ∃Z:Array zV,(∀j,j<n->Z[j]?=some z)/\∀W:zW,(Instr.makeSlice t (zI (n:Nat)) (zI (n:Nat))).run prog W=.ok (.slice (some (tD W.heap.size 0)) n n) (W.alloc (.cells Z e)):=by
 obtain⟨i,M,h2,h3,h4⟩:=Bm.fB e z 1 b hi;refine⟨madeCells z.cells (n*i.size),fun j hj=>?_,fun W=>?_⟩
 ·rw[hz,h3,Nat.mul_one,<-qu,toList_madeCells_one,List.getElem?_replicate,aj hj]
 have hm:(b:Int)*(n:Int)<=1000*1000:=Int.mul_le_mul (by omega) (by omega) (by omega) (by omega)
 have h:=run_make (P:=prog) W t e i z ht M h2 .i64 .i64 (n:Nat) (n:Nat) (by omega) (Int.le_refl _) (by rw[h4];omega) (by omega);simpa using h
theorem LH(a b:zV)(W:zW):(Instr.field 213 (.agg #[a,b]) 0).run prog W=.ok a W:=by kernel_rfl
theorem LI{ms:List Mo}{U:List (List Mo)}{x:List Mo}{i j:Nat}(M:i<U.length):eP ms (U++[x]) i j=eP ms U i j:=by
 unfold eP;rw[vS M]
theorem LJ{ms:List Mo}{U:List (List Mo)}{x:List Mo}{j:Nat}:eP ms (U++[x]) U.length j=rowOf ms x j:=by
 unfold eP;rw[List.getElem?_append_right (af _),Nat.sub_self]
 rfl
theorem yX{r:Nat}(hr:1<=r)(hF:eC S V E T mb G cap L r)(ms:List Mo)(ma:Option Addr)(mc:Nat)(hl:ms.length<=1000)(c0:∀x∈ms,x.1.size<=N48/\x.2.size<=N48)(hD:D.length+9000*grow r<=N15)(w:zW)(hm:RdA A Sm.mc w (.slice ma ms.length mc) ms)(h:Tsk A S w B O V E T mb G cap X D L Y R)(dj:R.length<=8000):
  zC 166 #[zP O,.slice ma ms.length mc] w fun e w'=>∃A2 I u N U nb J,e=.returned (.slice (some (tD nb 0)) ms.length ms.length)/\lN w' nb J ms.length (cM (eP ms U) ms.length)/\dH A S w B O V E T mb G cap L Y w' A2 (counted X N) u I (R++ms.map fE)/\(∀(fin:List (List Mo)->Fi) D0 cm W0,Pre (fnd (S G) G r) (S G) D0 cm D (eY fin ms []) R W0->Pre (fnd (S G) G r) (S G) D0 cm u (.ret (fin U)) (R++ms.map fE) (W0++N))/\RdA A2 Sm.mc w' (.slice ma ms.length mc) ms:=by
 obtain⟨ZT,bq,cv⟩:=xX 230 232 (zN) 24 underlying230 (by kernel_rfl) rfl ms.length hl (by omega);obtain⟨ZR,bp,dc⟩:=xX 232 4 (.bool false) 1 underlying232 (by kernel_rfl) rfl ms.length hl (by omega);have c9:=zH hF;have HD:=zH hD;have cd:=zH c0;have cg:Hid (∀j,j<ms.length->ZR[j]?=some (.bool false)):=bp;have bn:Hid (Wn A S w B O V E T mb G cap L X D Y R (fnd (S G) G r) ms (.slice ma ms.length mc) w.heap.size (w.alloc (.cells ZT 232)) (fun b=>A b\/b=w.heap.size) D Y [] [] ms [] (fun _=>0) 0 (fun _ _=>false)):=Wn.start h hm bq;clear h hm hF hD c0 bq bp;generalize hn:ms.length=n at*;have HN:Hid (ms.length=n):=hn
 have cb:Hid (ms.map fE=(ms.take n).map fE):=by
  show ms.map fE=(ms.take n).map fE;rw[<-hn,vT]
 clear hn;rw[cb.o];have ck:=LH;go_enter func166,ntmps166;go_wp2;generalize w.alloc (.cells ZT 232)=W0 at*;clear cv;go_loopg [19] n (fun gg s wr=>∃(i:Nat)(A2:Nat->Prop)(u:List Kp)(I:zV)(N:List Qn)(U:List (List Mo))(J:Nat->Nat)(f:Nat->Nat->Bool),i<=n/\n-i<=gg/\s=zI i/\Hid (Wn A S w B O V E T mb G cap L X D Y R (fnd (S G) G r) ms (.slice ma n mc) w.heap.size wr A2 u I ((ms.take i).map fE) N (ms.drop i) U J i f/\U.length=i/\(∀a b,a<i->b<n->f a b=eP ms U a b)/\u.length<=D.length+i*grow r))
 case atStart=>exact⟨0,_,_,_,_,_,_,_,by omega,by omega,rfl,bn.o,rfl,fun a b ha=>absurd ha (dY _),by omega⟩
 case round=>
  obtain⟨i,A2,u,I,N,U,J,f,hi,hg,rfl,HW⟩:=hrel;clear bn;by_cases a4:i<n
  ·have aq:((i:Nat):Int)<(n:Int):=by omega
   have a3:i<ms.length:=by rw[HN.o];exact a4
   obtain⟨bR,oR,cR,eg,hx⟩:=RdA.at HW.o.1.rd fC (by decide) (ae _ _) i a3;injection eg with b0 b1 b2;have x0:=hx 0 _ rfl;have x1:=hx 1 _ rfl;have an:Hid (ms[i]?=some ms[i]/\ms[i].1.size<=N48/\ms[i].2.size<=N48):=⟨aV a3,cd.o _ (dP _)⟩;generalize ms[i]=y at*;obtain⟨y0,y1⟩:=y;rw[Nat.add_zero] at x0;simp only at x0 x1;subst b0;clear hx b1 b2;go_upto_region 5 with fail
   have au:Hid (Wn A S w B O V E T mb G cap L X D Y R (fnd (S G) G r) ms (.slice (some (tD bR oR)) n mc) w.heap.size (wr.alloc (.cells #[tS y0,tS y1] 63)) A2 u I ((ms.take i).map fE) N ((y0,y1)::ms.drop (i+1)) U J i f):=by
    have h:=HW.o.1.below ((ae _ _).alloc (af _) (.cells #[tS y0,tS y1] 63));rw[drop_one an.o.1] at h;exact h
   have a6:Hid (U.length=i/\(∀a b,a<i->b<n->f a b=eP ms U a b)/\u.length<=D.length+i*grow r):=HW.o.2;have ab:Hid ((wr.alloc (.cells #[tS y0,tS y1] 63)).heap[wr.heap.size]?=some (.cells #[tS y0,tS y1] 63)/\wr.heap.size≠w.heap.size):=⟨ay _ _,by have:=HW.o.1.mat.own.1.2.2.2;omega⟩;clear x0 x1 HW;generalize wr.alloc (.cells #[tS y0,tS y1] 63)=W1 at*;generalize wr.heap.size=b7 at*
   have ht:Ed.Fd W1 w.heap.size i (zN):=by
    have h:=au.o.mat.top i a3;rw[ag (Nat.lt_irrefl _)] at h;exact h
   have tA:∀o,(W1.alloc o).cell? (tD w.heap.size i)=some (zN):=fun o=>(Fd.alloc ht o).1
   have tB:∀o,(W1.alloc o).frozen? (tD w.heap.size i)=false:=fun o=>(Fd.alloc ht o).2
   clear ht
   have ak:Hid (Wn A S w B O V E T mb G cap L X D Y R (fnd (S G) G r) ms (.slice (some (tD bR oR)) n mc) w.heap.size ((W1.alloc (.cells ZR 4)).setCell (tD w.heap.size i) (.slice (some (tD W1.heap.size 0)) n n)) (fun b=>A2 b\/b=W1.heap.size) u I ((ms.take i).map fE) N ((y0,y1)::ms.drop (i+1)) U (fun a=>if a=i then W1.heap.size else J a) (i+1) (fun a b=>if a=i then false else f a b)):=by
    have h:=au.o.lay (Z:=ZR) a3 (by rw[HN.o];exact cg.o);rw[HN.o] at h;exact h
   have bk:Hid (((W1.alloc (.cells ZR 4)).setCell (tD w.heap.size i) (.slice (some (tD W1.heap.size 0)) n n)).heap[b7]?=some (.cells #[tS y0,tS y1] 63)):=(aM _ _ _ _ ab.o.2).trans ((aG _ _ _ (ah ab.o.1)).trans ab.o.1);go_upto_region 6 with fail;clear tA tB au ab;generalize (W1.alloc (.cells ZR 4)).setCell (tD w.heap.size i) (.slice (some (tD W1.heap.size 0)) n n)=W2 at*;generalize (fun a=>if a=i then W1.heap.size else J a)=a1 at*;generalize br:(fun a b=>if a=i then false else f a b)=f2 at*
   have bi:Hid (∀a b,a<i+1->b<n->f2 a b=if a=i then rowOf ms (([]:List Mo).take 0) b else eP ms U a b):=fun a b ha hb=>by
    rw[<-br];by_cases e:a=i
    ·simp only[aj e];rfl
    simp only[ag e];exact a6.o.2.1 a b (by omega) hb
   clear br;have c5:((ms.take i).map fE).length=i:=by simp;omega
   have kw:=Ac c9.o y0 y1 an.o.2.1 an.o.2.2 hr (by
    have h1:=a6.o.2.2;have h2:=HD.o;have h3:i*grow r<=1000*grow r:=eG _ (by omega);omega) W2 ak.o.went.t (by rw[aW,c5];omega)
   obtain⟨⟨x0,_⟩,⟨x1,_⟩⟩:=fd2 bk.o;clear c5
   go_wp2_with (go_at_call 164;fail)
   go_at_call 164;refine kw.mono ?_;rintro e w3 ⟨A3,d,wl,qs,av,bv,kk,D3,l,rfl,⟨bh,bx⟩,b6,hk⟩;have bu:=kK ak.o.went.t.eng.inv hk.1 (by show 1<=r;exact hr) (by show 2<=4;omega) hk.2.1.eng.ok;have dk:wl.length<=2001:=(Ai (by rw[<-bu.1];exact b6)).1;have az:Hid (Wn A S w B O V E T mb G cap L X D Y R (fnd (S G) G r) ms (.slice (some (tD bR oR)) n mc) w.heap.size w3 A3 D3 d ((ms.take i).map fE++[fE (y0,y1)]) (N++l) (ms.drop (i+1)) (U++[wl]) a1 (i+1) f2):=ak.o.asked hk.went hk.1 b6
   have c8:Hid (D3.length<=D.length+(i+1)*grow r):=by
    have h1:=lI _ _ r _ _ _ _ _ hk.1;have h2:=a6.o.2.2;show D3.length<=D.length+(i+1)*grow r;rw[eJ,eV];omega
   obtain⟨aa,ac,ea⟩:=bh.len;obtain⟨ba,bc,eb⟩:=bx.len;subst ea;subst eb;have bm:Hid (RdA A3 Sm.mc w3 (.slice aa wl.length ac) wl):=bh
   have cf:Hid ((ms.take i).map fE++[fE (y0,y1)]=(ms.take (i+1)).map fE):=by
    show(ms.take i).map fE++[fE (y0,y1)]=(ms.take (i+1)).map fE;have e1:ms[i]=(y0,y1):=by have h:=an.o.1;rw[aV a3] at h;exact bK h
    rw[nE a3,eZ,e1]
    rfl
   rw[cf.o] at az;clear bh bx b6 hk bu kw x0 x1 ak bk;go_wp2;clear ck;generalize hM:wl.length=M at*;have HM:Hid (wl.length=M):=hM;clear hM;go_loopg [35] M (fun g2 s c7=>∃(j:Nat)(f3:Nat->Nat->Bool),j<=M/\M-j<=g2/\s=zI j/\Hid (Wn A S w B O V E T mb G cap L X D Y R (fnd (S G) G r) ms (.slice (some (tD bR oR)) n mc) w.heap.size c7 A3 D3 d ((ms.take (i+1)).map fE) (N++l) (ms.drop (i+1)) (U++[wl]) a1 (i+1) f3/\RdA A3 Sm.mc c7 (.slice aa M ac) wl/\∀a b,a<i+1->b<n->f3 a b=if a=i then rowOf ms (wl.take j) b else eP ms U a b))
   case atStart=>exact⟨0,f2,by omega,by omega,rfl,az.o,bm.o,bi.o⟩
   case round=>
    obtain⟨j,f3,hj,cn,rfl,HV⟩:=hrel;clear az bm bi;by_cases a7:j<M
    ·have b5:((j:Nat):Int)<(M:Int):=by omega
     obtain⟨bA,oA,cA,eg,hx⟩:=RdA.at HV.o.2.1 fC (by decide) (ae _ _) j (by rw[HM.o];exact a7);injection eg with b0 b1 b2;have x0:=hx 0 _ rfl;have x1:=hx 1 _ rfl;have ch:Hid (wl[j]?=some wl[j]):=aV (by rw[HM.o];exact a7);generalize wl[j]'(by rw[HM.o];exact a7)=z at*;obtain⟨z0,z1⟩:=z;rw[Nat.add_zero] at x0;simp only at x0 x1;subst b0;clear hx b1 b2;go_upto_region 9 with fail;have a5:Hid ((Wn A S w B O V E T mb G cap L X D Y R (fnd (S G) G r) ms (.slice (some (tD bR oR)) n mc) w.heap.size (wr.alloc (.cells #[tS z0,tS z1] 63)) A3 D3 d ((ms.take (i+1)).map fE) (N++l) (ms.drop (i+1)) (U++[wl]) a1 (i+1) f3/\RdA A3 Sm.mc (wr.alloc (.cells #[tS z0,tS z1] 63)) (.slice (some (tD bA oA)) M ac) wl/\∀a b,a<i+1->b<n->f3 a b=if a=i then rowOf ms (wl.take j) b else eP ms U a b)/\(wr.alloc (.cells #[tS z0,tS z1] 63)).heap[wr.heap.size]?=some (.cells #[tS z0,tS z1] 63)):=⟨⟨HV.o.1.below ((ae _ _).alloc (af _) _),HV.o.2.1.below ((ae _ _).alloc (af _) _),HV.o.2.2⟩,ay _ _⟩;clear x0 x1 HV;generalize wr.alloc (.cells #[tS z0,tS z1] 63)=W5 at*;generalize wr.heap.size=b9 at*;obtain⟨p,hp⟩:∃p:Mo->Bool,∀o,p o=true↔o.1=z0:=⟨fun o=>@decide (o.1=z0) (Classical.propDecidable _),fun o=>by simp⟩;have kb:=Du (A:=A3) (.slice (some (tD bR oR)) n mc) ms p z0 hp b9 W5 (by rw[HN.o];omega) a5.o.1.1.rd (fd2 a5.o.2).1.1
     have ad:Hid (∀b,rowOf ms (wl.take (j+1)) b=(rowOf ms (wl.take j) b||decide (ms.findIdx? p=some b))):=fun b=>LG ms wl j b (z0,z1) ch.o p hp
     clear hp
     go_wp2_with (go_at_call 185;fail)
     go_at_call 185;refine kb.mono ?_;rintro e w6 ⟨rr,rfl,cx,b3⟩;have a2:Hid (Wn A S w B O V E T mb G cap L X D Y R (fnd (S G) G r) ms (.slice (some (tD bR oR)) n mc) w.heap.size w6 A3 D3 d ((ms.take (i+1)).map fE) (N++l) (ms.drop (i+1)) (U++[wl]) a1 (i+1) f3/\RdA A3 Sm.mc w6 (.slice (some (tD bA oA)) M ac) wl/\∀a b,a<i+1->b<n->f3 a b=if a=i then rowOf ms (wl.take j) b else eP ms U a b):=⟨a5.o.1.1.below b3,a5.o.1.2.1.below b3,a5.o.1.2.2⟩;clear b3 kb a5;rcases cx with⟨bd,a8⟩|⟨x,bd,a9,c6⟩
     ·subst bd
      have a0:Hid (Wn A S w B O V E T mb G cap L X D Y R (fnd (S G) G r) ms (.slice (some (tD bR oR)) n mc) w.heap.size w6 A3 D3 d ((ms.take (i+1)).map fE) (N++l) (ms.drop (i+1)) (U++[wl]) a1 (i+1) f3/\RdA A3 Sm.mc w6 (.slice (some (tD bA oA)) M ac) wl/\∀a b,a<i+1->b<n->f3 a b=if a=i then rowOf ms (wl.take (j+1)) b else eP ms U a b):=⟨a2.o.1,a2.o.2.1,fun a b ha hb=>by
       rw[a2.o.2.2 a b ha hb,ad.o b,a8];simp⟩
      clear a2 a8 ad;go_wp2;go_roundg (M-(j+1))
      case measure=>omega
      case rel=>exact⟨j+1,f3,by omega,by omega,by go_num,a0⟩
     subst bd
     rw[HN.o] at c6;have dm:((x:Nat):Int)>=0:=by omega
     have dn:((x:Nat):Int)<(n:Int):=by omega
     have c1:=(a2.o.1.top (jy i) a3).1;rw[HN.o] at c1;obtain⟨c2,c3⟩:=a2.o.1.mat.row i x (jy i) (by rw[HN.o];exact c6)
     have a0:Hid (Wn A S w B O V E T mb G cap L X D Y R (fnd (S G) G r) ms (.slice (some (tD bR oR)) n mc) w.heap.size (w6.setCell ⟨a1 i,x,none⟩ (.bool true)) A3 D3 d ((ms.take (i+1)).map fE) (N++l) (ms.drop (i+1)) (U++[wl]) a1 (i+1) (fun a b=>if a=i/\b=x then true else f3 a b)/\RdA A3 Sm.mc (w6.setCell ⟨a1 i,x,none⟩ (.bool true)) (.slice (some (tD bA oA)) M ac) wl/\∀a b,a<i+1->b<n->(if a=i/\b=x then true else f3 a b)=if a=i then rowOf ms (wl.take (j+1)) b else eP ms U a b):=by
      refine⟨a2.o.1.put (jy i) true,a2.o.2.1.turn (((ai.refl (fun b=>b=a1 i) w6).set (a:=⟨a1 i,x,none⟩) (fun _=>rfl) _).mono (fun b _ e=>by rw[e];exact(a2.o.1.mat.own.2 i (jy i)).1)),fun a b ha hb=>?_⟩;rw[ad.o b,a9,a2.o.2.2 a b ha hb];by_cases e1:a=i
      ·by_cases e2:b=x
       ·rw[aj ⟨e1,e2⟩,aj e1,e2];simp
       rw[ag (fun e=>e2 e.2),aj e1,aj e1]
       have e3:¬(some x=some b):=fun e=>e2 (bK e).symm
       simp[e3]
      rw[ag (fun e=>e1 e.1),ag e1,ag e1]
     clear a2 a9 ad;generalize a1 i=ri at*;go_wp2;go_roundg (M-(j+1))
     case measure=>omega
     case rel=>exact⟨j+1,_,by omega,by omega,by go_num,a0⟩
    have b5:(((j:Nat):Int)<(M:Int))=False:=by simp;omega
    have a0:Hid (Wn A S w B O V E T mb G cap L X D Y R (fnd (S G) G r) ms (.slice (some (tD bR oR)) n mc) w.heap.size wr A3 D3 d ((ms.take (i+1)).map fE) (N++l) (ms.drop (i+1)) (U++[wl]) a1 (i+1) f3/\(U++[wl]).length=i+1/\(∀a b,a<i+1->b<n->f3 a b=eP ms (U++[wl]) a b)/\D3.length<=D.length+(i+1)*grow r):=⟨HV.o.1,by rw[aW,a6.o.1];rfl,fun a b ha hb=>by
     rw[HV.o.2.2 a b ha hb,fy (by have:=HM.o;omega)];by_cases e:a=i
     ·rw[aj e,e,<-a6.o.1,LJ]
     rw[ag e,LI (by have:=a6.o.1;omega)],c8.o⟩
    go_wp2;go_roundg (n-(i+1))
    case measure=>omega
    case rel=>exact⟨i+1,_,_,_,_,_,_,_,by omega,by omega,by go_num,a0⟩
  have aq:(((i:Nat):Int)<(n:Int))=False:=by simp;omega
  have b4:n=i:=by omega
  subst b4;obtain⟨m0,bb⟩:∃m0,m0=eP ms U:=⟨_,rfl⟩
  have HE:Hid (Wn A S w B O V E T mb G cap L X D Y R (fnd (S G) G r) ms (.slice ma n mc) w.heap.size wr A2 u I ((ms.take n).map fE) N [] U J n (cM m0 0)):=by
   have h:=HW.o.1;rw[rh (by rw[HN.o];exact af _)] at h;refine h.congr (fun a b ha hb=>?_);rw[HW.o.2.2.1 a b ha (by rw[<-HN.o];exact hb),bb]
   rfl
  have ca:Hid (m0=eP ms U):=bb;clear bb HW a4 hg aq;go_wp2;go_loopg [54] n (fun gg s wr=>∃k:Nat,k<=n/\n-k<=gg/\s=zI k/\Hid (Wn A S w B O V E T mb G cap L X D Y R (fnd (S G) G r) ms (.slice ma n mc) w.heap.size wr A2 u I ((ms.take n).map fE) N [] U J n (cM m0 k)))
  case atStart=>exact⟨0,by omega,by omega,rfl,HE⟩
  case round=>
   obtain⟨k,hk,hg,rfl,HW⟩:=hrel;clear HE;by_cases b8:k<n
   ·have ct:((k:Nat):Int)<(n:Int):=by omega
    have bt:k<ms.length:=by rw[HN.o];exact b8
    go_wp2;go_loopg [59] n (fun g2 s wr=>∃i:Nat,i<=n/\n-i<=g2/\s=zI i/\Hid (Wn A S w B O V E T mb G cap L X D Y R (fnd (S G) G r) ms (.slice ma n mc) w.heap.size wr A2 u I ((ms.take n).map fE) N [] U J n (fG m0 k i 0)))
    case atStart=>exact⟨0,by omega,by omega,rfl,HW.o.congr (fun a b _ _=>(Fz m0 k a b).symm)⟩
    case round=>
     obtain⟨i,hi,cn,rfl,HV⟩:=hrel;clear HW;by_cases a4:i<n
     ·have aq:((i:Nat):Int)<(n:Int):=by omega
      have a3:i<ms.length:=by rw[HN.o];exact a4
      have c1:=(HV.o.top a4 a3).1;rw[HN.o] at c1;have c2:=(HV.o.mat.row i k a4 bt).1
      have e2:fG m0 k i 0 i k=cM m0 k i k:=by
       unfold fG;rw[ag (by omega)]
      rw[e2] at c2;clear e2;cases hx:cM m0 k i k with
      |false=>
       rw[hx] at c2;have a0:Hid (Wn A S w B O V E T mb G cap L X D Y R (fnd (S G) G r) ms (.slice ma n mc) w.heap.size wr A2 u I ((ms.take n).map fE) N [] U J n (fG m0 k (i+1) 0)):=HV.o.congr (fun a b _ _=>Jf m0 k i a b hx);clear HV hx;go_wp2;go_roundg (n-(i+1))
       case measure=>omega
       case rel=>exact⟨i+1,by omega,by omega,by go_num,a0⟩
      |true=>
       rw[hx] at c2;have HX:Hid (cM m0 k i k=true):=hx;clear hx;go_wp2;clear c1 c2;go_loopg [72] n (fun g3 s wr=>∃j:Nat,j<=n/\n-j<=g3/\s=zI j/\Hid (Wn A S w B O V E T mb G cap L X D Y R (fnd (S G) G r) ms (.slice ma n mc) w.heap.size wr A2 u I ((ms.take n).map fE) N [] U J n (fG m0 k i j)))
       case atStart=>exact⟨0,by omega,by omega,rfl,HV⟩
       case round=>
        obtain⟨j,hj,db,rfl,HU⟩:=hrel;clear HV;by_cases a7:j<n
        ·have b5:((j:Nat):Int)<(n:Int):=by omega
         have bs:j<ms.length:=by rw[HN.o];exact a7
         have c1:=(HU.o.top a4 a3).1;have c3:=(HU.o.top b8 bt).1;rw[HN.o] at c1 c3;obtain⟨c2,da⟩:=HU.o.mat.row i j a4 bs;have c4:=(HU.o.mat.row k j b8 bs).1;rw[Jc] at c2;rw[LD] at c4;have HP:Hid (∀v,v=cM m0 (k+1) i j->Wn A S w B O V E T mb G cap L X D Y R (fnd (S G) G r) ms (.slice ma n mc) w.heap.size (wr.setCell ⟨J i,j,none⟩ (.bool v)) A2 u I ((ms.take n).map fE) N [] U J n (fG m0 k i (j+1))):=fun v hv=>(HU.o.put a4 v).congr (fun a b _ _=>Jd m0 k i j a b v hv)
         have HV:Hid (cM m0 (k+1) i j=(cM m0 k i j||cM m0 k k j)):=Jb m0 k i j HX.o;generalize cM m0 k i j=x at*;generalize cM m0 k k j=y at*;generalize J i=ri at*;generalize J k=rk at*;go_upto_region 24 with fail;clear HU;cases x with
         |true=>
          have a0:Hid (Wn A S w B O V E T mb G cap L X D Y R (fnd (S G) G r) ms (.slice ma n mc) w.heap.size (wr.setCell (tD ri j) (.bool true)).drew A2 u I ((ms.take n).map fE) N [] U J n (fG m0 k i (j+1))):=(HP.o true (by rw[HV.o];rfl)).below ((ae _ _).drew);clear HP HV
          go_region
          go_wp2;go_roundg (n-(j+1))
          case measure=>omega
          case rel=>exact⟨j+1,by omega,by omega,by go_num,a0⟩
         |false=>
          have a0:Hid (Wn A S w B O V E T mb G cap L X D Y R (fnd (S G) G r) ms (.slice ma n mc) w.heap.size (wr.setCell (tD ri j) (.bool y)).drew A2 u I ((ms.take n).map fE) N [] U J n (fG m0 k i (j+1))):=(HP.o y (by rw[HV.o];rfl)).below ((ae _ _).drew);clear HP HV
          go_region
          go_wp2;go_roundg (n-(j+1))
          case measure=>omega
          case rel=>exact⟨j+1,by omega,by omega,by go_num,a0⟩
        have b5:(((j:Nat):Int)<(n:Int))=False:=by simp;omega
        have cp:n=j:=by omega
        subst cp;have a0:Hid (Wn A S w B O V E T mb G cap L X D Y R (fnd (S G) G r) ms (.slice ma n mc) w.heap.size wr A2 u I ((ms.take n).map fE) N [] U J n (fG m0 k (i+1) 0)):=HU.o.congr (fun a b _ hb=>Je m0 k i n a b (by rw[<-HN.o];exact hb));clear HU;go_wp2;go_roundg (n-(i+1))
        case measure=>omega
        case rel=>exact⟨i+1,by omega,by omega,by go_num,a0⟩
     have aq:(((i:Nat):Int)<(n:Int))=False:=by simp;omega
     have b4:n=i:=by omega
     subst b4;have a0:Hid (Wn A S w B O V E T mb G cap L X D Y R (fnd (S G) G r) ms (.slice ma n mc) w.heap.size wr A2 u I ((ms.take n).map fE) N [] U J n (cM m0 (k+1))):=HV.o.congr (fun a b ha _=>LF m0 k n a b ha);clear HV;go_wp2;go_roundg (n-(k+1))
     case measure=>omega
     case rel=>exact⟨k+1,by omega,by omega,by go_num,a0⟩
   have ct:(((k:Nat):Int)<(n:Int))=False:=by simp;omega
   have cs:n=k:=by omega
   subst cs
   have cc:Hid (lN wr w.heap.size J n (cM m0 n)):=by
    have h:=HW.o.mat;rw[HN.o] at h;exact h.at
   go_wp2;go_ret;exact⟨A2,I,u,N,U,w.heap.size,J,rfl,by rw[<-ca.o];exact cc.o,HW.o.went,fun fin D0 cm W0 hp=>HW.o.pre fin D0 cm W0 hp,HW.o.rd⟩
