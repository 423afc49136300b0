import Derived.Test.YtelmkfkgpnadnaaGreatDoorJPME
import Derived.Test.YtelmkfkgpnadnaaGreatDoorJPML
import Derived.Laws.MakeOwn
import Derived.BigRegion
set_option linter.all false
open Go.Proofs.Tryz
set_option maxRecDepth 100000
set_option maxHeartbeats 8000000
namespace Go.Proofs.YtelmkfkgpnadnaaGreatDoor
open Go.RowKit
namespace Pn
open Mf
variable{A:Nat→Prop}
theorem IV:∀args w,(callFunc 341 args).run prog w=.ok (.enter 341 args) w:=fun _ _=>by kernel_rfl
theorem BN(a1 a2 y1:zA)(b9:Nat)(z:Bool)(hz:z=true↔a1=y1)(w:zW)(h:w.cell? ⟨b9,0,none⟩=some (.string y1)):
  zC 341 #[.agg #[.string a1,.string a2],zP b9] w fun e w'=>e=.returned (.bool z)∧Below w.heap.size w w':=by
 have hb1:Below w.heap.size w (w.alloc (.cells #[.string a1,.string a2] 29)):=(ae _ _).alloc (ag _) _;have HB:Hid (Below w.heap.size w (w.alloc (.cells #[.string a1,.string a2] 29))):=hb1;have c0:(w.alloc (.cells #[.string a1,.string a2] 29)).cell? ⟨b9,0,none⟩=some (.string y1):=by rw[hb1.cell (p:=⟨b9,0,none⟩) (aU _ _ h)];exact h
 obtain⟨⟨d0,_⟩,_⟩:=fd2 (aD w (.cells #[.string a1,.string a2] 29))
 have hq:(a1.toList==y1.toList)=z:=by
  by_cases e:a1=y1
  ·rw[hz.2 e,e];simp
  ·rw[Rn.dr e]
   cases z with
   |false=>rfl
   |true=>exact absurd (hz.1 rfl) e
 clear hz hb1 h;go_enter func341,ntmps341;go_upto_region 1 with fail;generalize w.alloc (.cells #[.string a1,.string a2] 29)=W1 at*;go_wp2;go_ret;exact⟨rfl,HB.out⟩
theorem DK(v:zV)(L:List Mo)(p:Mo→Bool)(y1:zA)(hp:∀o:Mo,p o=true↔o.1=y1)(b9:Nat)(w:zW)(hL:L.length≤100000)(h:RdA A Sm.mc w v L)(hb9:w.cell? ⟨b9,0,none⟩=some (.string y1)):
  zC 340 #[v,.func (.func 341) #[] #[zP b9]] w fun e w'=>∃r,e=.returned (zI r)∧((r=-1∧L.findIdx? p=none)∨∃i:Nat,r=i∧L.findIdx? p=some i∧i<L.length)∧Below w.heap.size w w':=by
 obtain⟨a1,c1,e1⟩:=h.len;subst e1;have D1:Hid (RdA A Sm.mc w (.slice a1 L.length c1) L):=h;clear h
 have FG:Hid (∀wr,Below w.heap.size w wr→∀i,i<L.length→∃(y:Mo)(b o:Nat),L[i]?=some y∧a1=some ⟨b,o,none⟩∧wr.cell? ⟨b,o+i*2,none⟩=some (.string y.1)∧wr.cell? ⟨b,o+i*2+1,none⟩=some (.string y.2)):=fun wr hb i hi=>by
  obtain⟨b,o,c,eg,hx⟩:=RdA.at (A:=A) (L:=L) D1.out kz (by decide) hb i hi;injection eg with eg1 _ _;refine⟨L[i],b,o,aO hi,eg1,?_,?_⟩
  ·have:=hx 0 _ rfl;simpa using this
  ·have:=hx 1 _ rfl;simpa using this
 clear D1;have KC:Hid (∀(y:Mo) W,Below w.heap.size w W→zC 341 #[.agg #[.string y.1,.string y.2],zP b9] W fun e w'=>e=.returned (.bool (p y))∧Below W.heap.size W w'):=fun y W hb=>BN y.1 y.2 y1 b9 (p y) (hp y) W (by rw[hb.cell (p:=⟨b9,0,none⟩) (aU _ _ hb9)];exact hb9)
 clear hp hb9;generalize hn:L.length=n at*;have HLn:Hid (L.length=n):=hn;clear hn;have hen:=IV;go_enter func340,ntmps340;go_wp2;go_loopg [8] n (fun gg s wr=>∃i:Nat,i≤n∧n-i≤gg∧s=zI i∧Hid (Below w.heap.size w wr)∧Hid (∀j,j<i→∀y,L[j]?=some y→p y=false))
 case atStart=>exact⟨0,by omega,by omega,rfl,ae _ _,fun j h=>absurd h (dz _)⟩
 case round=>
  obtain⟨i,hi,hg,rfl,HB,HJ⟩:=hrel;by_cases hin:i<n
  ·obtain⟨y,b,o,hy,rfl,y0,y1'⟩:=FG.out wr HB.out i hin
   have hil:((i:Nat):Int)<(n:Int):=by omega
   have kc:=KC.out y wr HB.out
   have HY:Hid (p y=true→L.findIdx? p=some i∧i<L.length):=fun h=>by
    have hil:i<L.length:=by have:=HLn.out;omega
    refine⟨mM.2 ⟨hil,?_,fun j hj=>?_⟩,hil⟩
    ·have e:L[i]=y:=by rw[aO hil] at hy;exact cY hy
     rw[e];exact h
    ·have:=HJ.out j hj L[j] (aO (by omega))
     simp[this]
   have HN:Hid (p y=false→∀j,j<i+1→∀y,L[j]?=some y→p y=false):=fun h j hj z hz=>by
    by_cases e:j=i
    ·rw[e,hy] at hz;rw[←cY hz];exact h
    ·exact HJ.out j (by omega) z hz
   clear hy;generalize p y=z at*;obtain⟨k0,k1⟩:=y;simp only at y0 y1' kc
   go_wp2_with (go_at_call 341;fail)
   go_at_call 341;refine kc.mono ?_;rintro e w2 ⟨rfl,hb2⟩;have HB2:Hid (Below w.heap.size w w2):=HB.out.trans (hb2.mono HB.out.size);clear hb2 kc y0 y1';cases z with
   |true=>
    have HR:=HY.out rfl;go_wp2;go_ret;exact⟨_,rfl,Or.inr ⟨i,rfl,HR.1,by have:=HLn.out;omega⟩,HB2.out⟩
   |false=>
    have HNx:Hid (∀j,j<i+1→∀y,L[j]?=some y→p y=false):=HN.out rfl;clear HY HN;go_wp2;go_roundg (n-(i+1))
    case measure=>omega
    case rel=>exact⟨i+1,by omega,by omega,by go_num,HB2,HNx⟩
  ·have hil:(((i:Nat):Int)<(n:Int))=False:=by simp;omega
   have HR:Hid (L.findIdx? p=none):=by
    show L.findIdx? p=none;rw[qP];intro x hx;obtain⟨j,hj,e⟩:=oz hx;exact HJ.out j (by have:=HLn.out;omega) x (by rw[aO hj,e])
   go_wp2;go_ret;exact⟨_,rfl,Or.inl ⟨rfl,HR.out⟩,HB.out⟩
end Pn
namespace Pn
open Mf Ed
variable{A A1 A2 A3:Nat→Prop}{S:Nat→Shf}{w w' wr wx W W1 w1 w2 w3 wf:zW}{db sb fb mb now:Nat}{cap:Int}{cs cs' cs2:List Int}{D D' D1 D2 D3:List Kp}{L L':List (zV×zV)}{B tb:Nat}{tv tv' tv2 tv3:zV}{ts ts' ts2:List Tie}{q:Qn}{k kk:Kp}{F:Find}{g:Nat}{n n1 b:Nat}{o:Obj}{Wk Wk3:List Qn}
structure lT(n1:Nat)(A:Nat→Prop)(tv:zV)(W:World)(nb:Nat)(rb:Nat→Nat)(n h:Nat)(f:Nat→Nat→Bool):Prop where
 top:∀i,i<n→Ed.Fd W nb i (if i<h then .slice (some ⟨rb i,0,none⟩) n n else zN)
 row:∀i j,i<h→j<n→Ed.Fd W (rb i) j (.bool (f i j))
 own:(A nb∧tv.ownBlock≠some nb∧n1≤nb∧nb<W.heap.size)∧∀i,i<h→A (rb i)∧tv.ownBlock≠some (rb i)∧n1≤rb i∧rb i<W.heap.size
 ne:(∀i,i<h→rb i≠nb)∧∀i j,i<h→j<h→i≠j→rb i≠rb j
variable{nb h:Nat}{rb:Nat→Nat}{f f':Nat→Nat→Bool}
theorem lT.congr(hm:lT n1 A tv W nb rb n h f)(e:∀i j,i<h→j<n→f i j=f' i j):lT n1 A tv W nb rb n h f':=
 ⟨hm.top,fun i j hi hj=>by rw[←e i j hi hj];exact hm.row i j hi hj,hm.own,hm.ne⟩
theorem lT.turn{p:Nat→Prop}(hm:lT n1 A tv W nb rb n h f)(ht:aj p W W1)(hp:¬p nb∧∀i,i<h→¬p (rb i))(hA:∀b,A b→A2 b)(hv:tv'.ownBlock=tv.ownBlock∨∀b,tv'.ownBlock=some b→tv.ownBlock=some b∨W.heap.size≤b):lT n1 A2 tv' W1 nb rb n h f:=by
 have hs:=ht.size
 have hne:∀b,tv.ownBlock≠some b→b<W.heap.size→tv'.ownBlock≠some b:=fun b h1 h2 e=>by
  rcases hv with hv|hv
  ·rw[hv] at e;exact h1 e
  ·rcases hv b e with e|e
   ·exact h1 e
   ·omega
 refine⟨fun i hi=>(hm.top i hi).of_block (ht.block nb hm.own.1.2.2.2 hp.1),fun i j hi hj=>(hm.row i j hi hj).of_block (ht.block (rb i) (hm.own.2 i hi).2.2.2 (hp.2 i hi)),⟨⟨hA _ hm.own.1.1,hne _ hm.own.1.2.1 hm.own.1.2.2.2,hm.own.1.2.2.1,by have:=hm.own.1.2.2.2;omega⟩,fun i hi=>⟨hA _ (hm.own.2 i hi).1,hne _ (hm.own.2 i hi).2.1 (hm.own.2 i hi).2.2.2,(hm.own.2 i hi).2.2.1,by have:=(hm.own.2 i hi).2.2.2;omega⟩⟩,hm.ne⟩
theorem lT.below(hm:lT n1 A tv W nb rb n h f)(hb:Below W.heap.size W W1):lT n1 A tv W1 nb rb n h f:=
 hm.turn (aj.of_below (p:=fun _=>False) hb) ⟨fun e=>e,fun _ _ e=>e⟩ (fun _ e=>e) (Or.inl rfl)
theorem lT.went(hn:db<n1∧fb<n1∧tb<n1)(hm:lT n1 A1 tv W nb rb n h f)(hk:dE A1 S W B tb db sb fb mb now cap L tv w2 A2 cs' D' tv' ts'):lT n1 A2 tv' w2 nb rb n h f:=by
 have h1:∀b,n1≤b→tv.ownBlock≠some b→¬Fr4 db fb tb tv b:=fun b hb h2 e=>by
  rcases e with e|e|e|e
  ·omega
  ·omega
  ·omega
  ·exact h2 e
 exact hm.turn hk.f ⟨h1 _ hm.own.1.2.2.1 hm.own.1.2.1,fun i hi=>h1 _ (hm.own.2 i hi).2.2.1 (hm.own.2 i hi).2.1⟩ hk.sub (Or.inr hk.own)
theorem lT.put(hm:lT n1 A tv W nb rb n h f){i j:Nat}(hi:i<h)(v:Bool):lT n1 A tv (W.setCell ⟨rb i,j,none⟩ (.bool v)) nb rb n h (fun a b=>if a=i∧b=j then v else f a b):=by
 have hz:(W.setCell ⟨rb i,j,none⟩ (.bool v)).heap.size=W.heap.size:=by simp[World.setCell]
 refine⟨fun a ha=>(hm.top a ha).of_block (aL _ _ _ _ (fun e=>hm.ne.1 i hi e.symm)),fun a c ha hc=>?_,⟨⟨hm.own.1.1,hm.own.1.2.1,hm.own.1.2.2.1,by rw[hz];exact hm.own.1.2.2.2⟩,fun a ha=>⟨(hm.own.2 a ha).1,(hm.own.2 a ha).2.1,(hm.own.2 a ha).2.2.1,by rw[hz];exact(hm.own.2 a ha).2.2.2⟩⟩,hm.ne⟩;by_cases e1:a=i
 ·subst e1
  by_cases e2:c=j
  ·subst e2
   rw[ah ⟨rfl,rfl⟩];exact pB (hm.row a c ha hc) _
  ·rw[af (fun e=>e2 e.2)]
   exact(hm.row a c ha hc).set e2
 ·rw[af (fun e=>e1 e.1)]
  exact(hm.row a c ha hc).of_block (aL _ _ _ _ (hm.ne.2 a i ha hi e1))
theorem lT.lay(hm:lT n1 A tv W nb rb n h f)(hh:h<n){Z:Array zV}(hZ:∀j,j<n→Z[j]?=some (.bool false))(hn:n1≤W.heap.size)(htv:∀b,tv.ownBlock=some b→b<W.heap.size):
  lT n1 (fun b=>A b∨b=W.heap.size) tv ((W.alloc (.cells Z 4)).setCell ⟨nb,h,none⟩ (.slice (some ⟨W.heap.size,0,none⟩) n n)) nb (fun i=>if i=h then W.heap.size else rb i) n (h+1) (fun i j=>if i=h then false else f i j):=by
 have hz:((W.alloc (.cells Z 4)).setCell ⟨nb,h,none⟩ (.slice (some ⟨W.heap.size,0,none⟩) n n)).heap.size=W.heap.size+1:=by simp[World.setCell]
 have hnb:=hm.own.1.2.2.2;have hal:∀b,b<W.heap.size→(W.alloc (.cells Z 4)).heap[b]?=W.heap[b]?:=fun b hb=>aG _ _ _ hb
 refine⟨fun i hi=>?_,fun i j hi hj=>?_,⟨⟨Or.inl hm.own.1.1,hm.own.1.2.1,hm.own.1.2.2.1,by rw[hz];omega⟩,fun i hi=>?_⟩,fun i hi=>?_,fun i j hi hj hij=>?_⟩
 ·have h0:Ed.Fd (W.alloc (.cells Z 4)) nb i (if i<h then .slice (some ⟨rb i,0,none⟩) n n else zN):=(hm.top i hi).of_block (hal nb hnb)
  by_cases e:i=h
  ·subst e
   rw[ah (jo _),ah rfl];exact pB h0 _
  ·have h1:=h0.set (o':=h) (v:=.slice (some ⟨W.heap.size,0,none⟩) n n) e
   by_cases e2:i<h
   ·rw[ah (by omega),af e];rw[ah e2] at h1;exact h1
   ·rw[af (by omega)];rw[af e2] at h1;exact h1
 ·by_cases e:i=h
  ·rw[ah e,ah e]
   exact(fO W Z 4 (hZ j hj)).of_block (aL _ _ _ _ (by show W.heap.size≠nb;omega))
  ·rw[af e,af e]
   have h1:i<h:=by omega
   have h2:=(hm.own.2 i h1).2.2.2;exact((hm.row i j h1 hj).of_block (hal _ h2)).of_block (aL _ _ _ _ (hm.ne.1 i h1))
 ·by_cases e:i=h
  ·simp only[ah e]
   exact⟨Or.inr trivial,fun e2=>by have:=htv _ e2;omega,hn,by rw[hz];omega⟩
  ·simp only[af e]
   have h1:=hm.own.2 i (by omega);exact⟨Or.inl h1.1,h1.2.1,h1.2.2.1,by rw[hz];omega⟩
 ·by_cases e:i=h
  ·simp only[ah e];omega
  ·simp only[af e];exact hm.ne.1 i (by omega)
 ·by_cases e:i=h
  ·by_cases e2:j=h
   ·omega
   ·simp only[ah e,af e2]
    have:=(hm.own.2 j (by omega)).2.2.2;omega
  ·by_cases e2:j=h
   ·simp only[af e,ah e2]
    have:=(hm.own.2 i (by omega)).2.2.2;omega
   ·simp only[af e,af e2]
    exact hm.ne.2 i j (by omega) (by omega) hij
theorem lT.at(hm:lT n1 A tv W nb rb n n f):mD W nb rb n f:=
 ⟨fun i hi=>by have h:=(hm.top i hi).1;rw[ah hi] at h;exact h,fun i j hi hj=>(hm.row i j hi hj).1⟩
theorem rK(m:Nat→Nat→Bool)(k i j:Nat):aM m (k+1) i j=(aM m k i j||(aM m k i k&&aM m k k j)):=rfl
theorem IW(m:Nat→Nat→Bool)(k j:Nat):aM m (k+1) k j=aM m k k j:=by
 rw[rK];cases aM m k k j<;>cases aM m k k k<;>rfl
theorem Lv(m:Nat→Nat→Bool)(k i j:Nat)(h:aM m k i k=false):aM m (k+1) i j=aM m k i j:=by
 rw[rK,h];simp
theorem IX(m:Nat→Nat→Bool)(k i j:Nat)(h:aM m k i k=true):aM m (k+1) i j=(aM m k i j||aM m k k j):=by
 rw[rK,h];simp
def dQ(m:Nat→Nat→Bool)(k i j a b:Nat):Bool:=if a<i∨(a=i∧b<j) then aM m (k+1) a b else aM m k a b
theorem DL(m:Nat→Nat→Bool)(k i j b:Nat):dQ m k i j k b=aM m k k b:=by
 unfold dQ
 split
 ·exact IW m k b
 ·rfl
theorem Ap(m:Nat→Nat→Bool)(k i j:Nat):dQ m k i j i j=aM m k i j:=by
 unfold dQ;rw[af (by omega)]
theorem Aq(m:Nat→Nat→Bool)(k i j a b:Nat)(v:Bool)(hv:v=aM m (k+1) i j):(if a=i∧b=j then v else dQ m k i j a b)=dQ m k i (j+1) a b:=by
 unfold dQ;by_cases e:a=i∧b=j
 ·rw[ah e,ah (by omega),hv,e.1,e.2]
 ·rw[af e]
  by_cases e2:a<i∨(a=i∧b<j)
  ·rw[ah e2,ah (by omega)]
  ·rw[af e2,af (by omega)]
theorem Ar(m:Nat→Nat→Bool)(k i n a b:Nat)(hb:b<n):dQ m k i n a b=dQ m k (i+1) 0 a b:=by
 unfold dQ;by_cases e:a<i+1
 ·rw[ah (by omega),ah (by omega)]
 ·rw[af (by omega),af (by omega)]
theorem IY(m:Nat→Nat→Bool)(k i a b:Nat)(h:aM m k i k=false):dQ m k i 0 a b=dQ m k (i+1) 0 a b:=by
 unfold dQ;by_cases e:a<i
 ·rw[ah (by omega),ah (by omega)]
 ·by_cases e2:a=i
  ·rw[af (by omega),ah (by omega),e2,Lv m k i b h]
  ·rw[af (by omega),af (by omega)]
theorem yq(m:Nat→Nat→Bool)(k a b:Nat):dQ m k 0 0 a b=aM m k a b:=by
 unfold dQ;rw[af (by omega)]
theorem DN(m:Nat→Nat→Bool)(k n a b:Nat)(ha:a<n):dQ m k n 0 a b=aM m (k+1) a b:=by
 unfold dQ;rw[ah (by omega)]
open Classical in
theorem LA(ms wl:List Mo)(j b:Nat)(x:Mo)(h:wl[j]?=some x)(p:Mo→Bool)(hp:∀o,p o=true↔o.1=x.1):rowOf ms (wl.take (j+1)) b=(rowOf ms (wl.take j) b||decide (ms.findIdx? p=some b)):=by
 obtain⟨hj,e⟩:=cq.1 h;unfold rowOf;rw[oo hj,e,List.any_append]
 congr 1
 rw[List.any_cons,List.any_nil,Bool.or_false]
 have hpe:(fun o:Mo=>decide (o.1=x.1))=p:=by
  funext o
  cases hq:p o with
  |true=>exact cT ((hp o).1 hq)
  |false=>exact bK (fun e2=>by rw[(hp o).2 e2] at hq;cases hq)
 rw[←hpe]
end Pn
namespace Pn
open Mf Ed
variable{A A1 A2 A3:Nat→Prop}{S:Nat→Shf}{w w' wr wx W W1 w1 w2 w3 wf:zW}{db sb fb mb now:Nat}{cap:Int}{cs cs' cs2:List Int}{D D' D1 D2 D3:List Kp}{L L':List (zV×zV)}{B tb:Nat}{tv tv' tv2 tv3:zV}{ts ts' ts2:List Tie}{q:Qn}{k kk:Kp}{F:Find}{g:Nat}{n n1 b:Nat}{o:Obj}{Wk Wk3:List Qn}{nb h:Nat}{rb:Nat→Nat}{f f':Nat→Nat→Bool}{ms rest:List Mo}{ws:List (List Mo)}{mv:zV}{tk:List Tie}
def ft(m:Mo):Tie:=.ask ⟨2,m.1,m.2⟩
structure Wn(A:Nat→Prop)(S:Nat→Shf)(w:World)(B tb db sb fb mb now:Nat)(cap:Int)(L:List (zV×zV))(cs:List Int)(D:List Kp)(tv:zV)(ts:List Tie)(F:Find)(ms:List Mo)(mv:zV)(nb:Nat)(wr:World)(A2:Nat→Prop)(D':List Kp)(tv':zV)(tk:List Tie)(Wk:List Qn)(rest:List Mo)(ws:List (List Mo))(rb:Nat→Nat)(h:Nat)(f:Nat→Nat→Bool):Prop where
 h0:Tsk A S w B tb db sb fb mb now cap cs D L tv ts
 went:dE A S w B tb db sb fb mb now cap L tv wr A2 (counted cs Wk) D' tv' (ts++tk)
 pre:∀(fin:List (List Mo)→Fi) D0 cm W0,Pre F (S now) D0 cm D (eN fin ms []) ts W0→Pre F (S now) D0 cm D' (eN fin rest ws) (ts++tk) (W0++Wk)
 rd:RdA A2 Sm.mc wr mv ms
 mat:lT w.heap.size A2 tv' wr nb rb ms.length h f
theorem Wn.below(hw:Wn A S w B tb db sb fb mb now cap L cs D tv ts F ms mv nb wr A2 D' tv' tk Wk rest ws rb h f)(hb:Below wr.heap.size wr W):Wn A S w B tb db sb fb mb now cap L cs D tv ts F ms mv nb W A2 D' tv' tk Wk rest ws rb h f:=
 ⟨hw.h0,hw.went.over hb,hw.pre,hw.rd.below hb,hw.mat.below hb⟩
theorem Wn.congr(hw:Wn A S w B tb db sb fb mb now cap L cs D tv ts F ms mv nb wr A2 D' tv' tk Wk rest ws rb h f)(e:∀i j,i<h→j<ms.length→f i j=f' i j):Wn A S w B tb db sb fb mb now cap L cs D tv ts F ms mv nb wr A2 D' tv' tk Wk rest ws rb h f':=
 ⟨hw.h0,hw.went,hw.pre,hw.rd,hw.mat.congr e⟩
theorem Wn.lt(hw:Wn A S w B tb db sb fb mb now cap L cs D tv ts F ms mv nb wr A2 D' tv' tk Wk rest ws rb h f):db<w.heap.size∧fb<w.heap.size∧tb<w.heap.size:=by
 have h1:=hw.h0.lt;have h2:=hw.h0.hB;have h3:=hw.h0.task.t0.lt;omega
theorem Wn.tvlt(hw:Wn A S w B tb db sb fb mb now cap L cs D tv ts F ms mv nb wr A2 D' tv' tk Wk rest ws rb h f):∀b,tv'.ownBlock=some b→b<wr.heap.size:=fun b e=>(hw.went.t.task.row.lt b e).2
theorem Wn.start{Z:Array zV}(h0:Tsk A S w B tb db sb fb mb now cap cs D L tv ts)(hr:RdA A Sm.mc w mv ms)(hZ:∀j,j<ms.length→Z[j]?=some (zN)):
  Wn A S w B tb db sb fb mb now cap L cs D tv ts F ms mv w.heap.size (w.alloc (.cells Z 320)) (fun b=>A b∨b=w.heap.size) D tv [] [] ms [] (fun _=>0) 0 (fun _ _=>false):=by
 have hb:Below w.heap.size w (w.alloc (.cells Z 320)):=(ae _ _).alloc (ag _) _;have hz:(w.alloc (.cells Z 320)).heap.size=w.heap.size+1:=by simp
 have htv:∀b,tv.ownBlock=some b→b<w.heap.size:=fun b e=>(h0.task.row.lt b e).2
 refine⟨h0,?_,fun fin D0 cm W0 hp=>?_,(hr.more (fun b hb e=>?_)).below hb,⟨fun i hi=>?_,fun i j hi hj=>absurd hi (dz _),⟨⟨Or.inr rfl,fun e=>by have:=htv _ e;omega,ag _,by rw[hz];omega⟩,fun i hi=>absurd hi (dz _)⟩,fun i hi=>absurd hi (dz _),fun i j hi _ _=>absurd hi (dz _)⟩⟩
 ·rw[gV]
  exact dE.put (p:=fun _=>False) (Q:=fun b=>b=w.heap.size) h0 (dE.refl h0) (aj.of_below hb) (fun _ _ e=>e.elim) (fun b e=>by rw[e,hz];exact⟨ag _,jo _⟩)
 ·rw[gV,gV];exact hp
 ·rcases e with e|e
  ·exact e
  ·omega
 ·rw[af (dz _)]
  exact fO w Z 320 (hZ i hi)
theorem Wn.lay{Z:Array zV}(hw:Wn A S w B tb db sb fb mb now cap L cs D tv ts F ms mv nb W A2 D' tv' tk Wk rest ws rb h f)(hh:h<ms.length)(hZ:∀j,j<ms.length→Z[j]?=some (.bool false)):
  Wn A S w B tb db sb fb mb now cap L cs D tv ts F ms mv nb ((W.alloc (.cells Z 4)).setCell ⟨nb,h,none⟩ (.slice (some ⟨W.heap.size,0,none⟩) ms.length ms.length)) (fun b=>A2 b∨b=W.heap.size) D' tv' tk Wk rest ws (fun i=>if i=h then W.heap.size else rb i) (h+1) (fun i j=>if i=h then false else f i j):=by
 have ht:aj (fun b=>b=nb) W ((W.alloc (.cells Z 4)).setCell ⟨nb,h,none⟩ (.slice (some ⟨W.heap.size,0,none⟩) ms.length ms.length)):=((aj.refl (fun b=>b=nb) W).alloc _).set (a:=⟨nb,h,none⟩) (fun _=>rfl) _;have hz:((W.alloc (.cells Z 4)).setCell ⟨nb,h,none⟩ (.slice (some ⟨W.heap.size,0,none⟩) ms.length ms.length)).heap.size=W.heap.size+1:=by simp[World.setCell]
 have hn:=hw.mat.own.1;refine⟨hw.h0,hw.went.put hw.h0 ht (fun b _ e=>by rw[e];exact⟨hn.1,hn.2.2.1,hn.2.1⟩) (fun b e=>by rw[e,hz];exact⟨ag _,jo _⟩),hw.pre,?_,hw.mat.lay hh hZ hw.went.f.size hw.tvlt⟩
 exact(hw.rd.more (fun b hb e=>by
  rcases e with e|e
  ·exact e
  ·omega)).turn (ht.mono (fun b hb e=>by rw[e];exact Or.inl hn.1))
theorem Wn.asked{m:Mo}{wl:List Mo}{ps:List Pb}(hw:Wn A S w B tb db sb fb mb now cap L cs D tv ts F ms mv nb W A2 D' tv' tk Wk (m::rest) ws rb h f)(hk:dE A2 S W B tb db sb fb mb now cap L tv' wx A3 (counted (counted cs Wk) Wk3) D3 tv3 (ts++tk++[.ask ⟨2,m.1,m.2⟩]))(hf:F D' ⟨2,m.1,m.2⟩ kk D3 Wk3)(hkf:kk.f=.wants wl ps):
  Wn A S w B tb db sb fb mb now cap L cs D tv ts F ms mv nb wx A3 D3 tv3 (tk++[ft m]) (Wk++Wk3) rest (ws++[wl]) rb h f:=by
 have hlt:=hw.lt;refine⟨hw.h0,?_,fun fin D0 cm W0 hp=>?_,hw.rd.went hw.went.t hk,hw.mat.went hlt hk⟩
 ·rw[←fz,←eP];exact hw.went.trans hk
 ·have h1:=Pre.ask (q:=⟨2,m.1,m.2⟩) (k:=fun f=>eN fin rest (ws++[(cF f).1])) (hw.pre fin D0 cm W0 hp) hf
  rw[hkf] at h1;rw[←eP,←eP];exact h1
theorem Wn.put(hw:Wn A S w B tb db sb fb mb now cap L cs D tv ts F ms mv nb W A2 D' tv' tk Wk rest ws rb h f){i j:Nat}(hi:i<h)(v:Bool):
  Wn A S w B tb db sb fb mb now cap L cs D tv ts F ms mv nb (W.setCell ⟨rb i,j,none⟩ (.bool v)) A2 D' tv' tk Wk rest ws rb h (fun a b=>if a=i∧b=j then v else f a b):=by
 have ht:aj (fun b=>b=rb i) W (W.setCell ⟨rb i,j,none⟩ (.bool v)):=(aj.refl (fun b=>b=rb i) W).set (a:=⟨rb i,j,none⟩) (fun _=>rfl) _;have hn:=hw.mat.own.2 i hi;have h1:=hw.went.put (Q:=fun _=>False) hw.h0 ht (fun b _ e=>by rw[e];exact⟨hn.1,hn.2.2.1,hn.2.1⟩) (fun b e=>e.elim);refine⟨hw.h0,?_,hw.pre,hw.rd.turn (ht.mono (fun b _ e=>by rw[e];exact hn.1)),hw.mat.put hi v⟩;exact h1.less (fun b e=>Or.inl e) hw.went.sub (fun b e=>hw.went.t.pr b e) ⟨hw.h0.eng.desk.hd,hw.h0.eng.desk.hf,hw.h0.eng.ns.1,hw.h0.eng.ns.2⟩
theorem Wn.top(hw:Wn A S w B tb db sb fb mb now cap L cs D tv ts F ms mv nb W A2 D' tv' tk Wk rest ws rb h f){i:Nat}(hi:i<h)(hn:i<ms.length):Ed.Fd W nb i (.slice (some ⟨rb i,0,none⟩) ms.length ms.length):=by
 have h1:=hw.mat.top i hn;rw[ah hi] at h1;exact h1
end Pn
namespace Pn
open Mf Ed
variable{A A1 A2 A3:Nat→Prop}{S:Nat→Shf}{w w' wr wx W W1 w1 w2 w3 wf:zW}{db sb fb mb now:Nat}{cap:Int}{cs cs' cs2:List Int}{D D' D1 D2 D3:List Kp}{L L':List (zV×zV)}{B tb:Nat}{tv tv' tv2 tv3:zV}{ts ts' ts2:List Tie}{q:Qn}{k kk:Kp}{F:Find}{g:Nat}{n n1 b:Nat}{o:Obj}{Wk Wk3:List Qn}{nb h:Nat}{rb:Nat→Nat}{f f':Nat→Nat→Bool}{ms rest:List Mo}{ws:List (List Mo)}{mv:zV}{tk:List Tie}
theorem yr(t e:TypeId)(z:zV)(b:Nat)(ht:prog.underlying t=some (.slice e))(hi:(prog.info? e).map (fun i=>(i.zero,i.size,i.bytes))=some (some z,1,b))(hz:z.cells=#[z])(n:Nat)(hn:n≤1000)(hb:b≤1000):
  ∃Z:Array zV,(∀j,j<n→Z[j]?=some z)∧∀W:zW,(Instr.makeSlice t (zI (n:Nat)) (zI (n:Nat))).run prog W=.ok (.slice (some ⟨W.heap.size,0,none⟩) n n) (W.alloc (.cells Z e)):=by
 obtain⟨i,h1,h2,h3,h4⟩:=Bm.gM e z 1 b hi;refine⟨madeCells z.cells (n*i.size),fun j hj=>?_,fun W=>?_⟩
 ·rw[hz,h3,Nat.mul_one,←qQ,toList_madeCells_one,List.getElem?_replicate,ah hj]
 ·have hm:(b:Int)*(n:Int)≤1000*1000:=Int.mul_le_mul (by omega) (by omega) (by omega) (by omega)
  have h:=run_make (P:=prog) W t e i z ht h1 h2 .i64 .i64 (n:Nat) (n:Nat) (by omega) (Int.le_refl _) (by rw[h4];omega) (by omega);simpa using h
theorem LB(a b:zV)(W:zW):(Instr.field 391 (.agg #[a,b]) 0).run prog W=.ok a W:=by kernel_rfl
theorem LC{ms:List Mo}{ws:List (List Mo)}{x:List Mo}{i j:Nat}(hi:i<ws.length):dO ms (ws++[x]) i j=dO ms ws i j:=by
 unfold dO;rw[qO hi]
theorem LD{ms:List Mo}{ws:List (List Mo)}{x:List Mo}{j:Nat}:dO ms (ws++[x]) ws.length j=rowOf ms x j:=by
 unfold dO;rw[List.getElem?_append_right (ag _),Nat.sub_self]
 rfl
theorem zh{r:Nat}(hr:1≤r)(hF:eA S db sb fb mb now cap L r)(ms:List Mo)(ma:Option Addr)(mc:Nat)(hl:ms.length≤1000)(hsz:∀x∈ms,x.1.size≤N48∧x.2.size≤N48)(hD:D.length+9000*grow r≤N15)(w:zW)(hm:RdA A Sm.mc w (.slice ma ms.length mc) ms)(h:Tsk A S w B tb db sb fb mb now cap cs D L tv ts)(hts:ts.length≤8000):
  zC 331 #[zP tb,.slice ma ms.length mc] w fun e w'=>∃A2 tv' D' Wk ws nb rb,e=.returned (.slice (some ⟨nb,0,none⟩) ms.length ms.length)∧mD w' nb rb ms.length (aM (dO ms ws) ms.length)∧dE A S w B tb db sb fb mb now cap L tv w' A2 (counted cs Wk) D' tv' (ts++ms.map ft)∧(∀(fin:List (List Mo)→Fi) D0 cm W0,Pre (fnd (S now) now r) (S now) D0 cm D (eN fin ms []) ts W0→Pre (fnd (S now) now r) (S now) D0 cm D' (.ret (fin ws)) (ts++ms.map ft) (W0++Wk))∧RdA A2 Sm.mc w' (.slice ma ms.length mc) ms:=by
 obtain⟨ZT,hZT,hmT⟩:=yr 318 320 (zN) 24 underlying318 (by kernel_rfl) rfl ms.length hl (by omega);obtain⟨ZR,hZR,hmR⟩:=yr 320 4 (.bool false) 1 underlying320 (by kernel_rfl) rfl ms.length hl (by omega);have HFd:Hid (eA S db sb fb mb now cap L r):=hF;have HD:Hid (D.length+9000*grow r≤N15):=hD;have HSz:Hid (∀x∈ms,x.1.size≤N48∧x.2.size≤N48):=hsz;have HZR:Hid (∀j,j<ms.length→ZR[j]?=some (.bool false)):=hZR;have HW0:Hid (Wn A S w B tb db sb fb mb now cap L cs D tv ts (fnd (S now) now r) ms (.slice ma ms.length mc) w.heap.size (w.alloc (.cells ZT 320)) (fun b=>A b∨b=w.heap.size) D tv [] [] ms [] (fun _=>0) 0 (fun _ _=>false)):=Wn.start h hm hZT;clear h hm hF hD hsz hZT hZR;generalize hn:ms.length=n at*;have HN:Hid (ms.length=n):=hn
 have HMp:Hid (ms.map ft=(ms.take n).map ft):=by
  show ms.map ft=(ms.take n).map ft;rw[←hn,lJ]
 clear hn;rw[HMp.out];have hfd:=LB;go_enter func331,ntmps331;go_wp2;generalize w.alloc (.cells ZT 320)=W0 at*;clear hmT;go_loopg [19] n (fun gg s wr=>∃(i:Nat)(A2:Nat→Prop)(D':List Kp)(tv':zV)(Wk:List Qn)(ws:List (List Mo))(rb:Nat→Nat)(f:Nat→Nat→Bool),i≤n∧n-i≤gg∧s=zI i∧Hid (Wn A S w B tb db sb fb mb now cap L cs D tv ts (fnd (S now) now r) ms (.slice ma n mc) w.heap.size wr A2 D' tv' ((ms.take i).map ft) Wk (ms.drop i) ws rb i f∧ws.length=i∧(∀a b,a<i→b<n→f a b=dO ms ws a b)∧D'.length≤D.length+i*grow r))
 case atStart=>exact⟨0,_,_,_,_,_,_,_,by omega,by omega,rfl,HW0.out,rfl,fun a b ha=>absurd ha (dz _),by omega⟩
 case round=>
  obtain⟨i,A2,D',tv',Wk,ws,rb,f,hi,hg,rfl,HW⟩:=hrel;clear HW0;by_cases hin:i<n
  ·have hil:((i:Nat):Int)<(n:Int):=by omega
   have hiL:i<ms.length:=by rw[HN.out];exact hin
   obtain⟨bR,oR,cR,eg,hx⟩:=RdA.at HW.out.1.rd kz (by decide) (ae _ _) i hiL;injection eg with eg1 eg2 eg3;have x0:=hx 0 _ rfl;have x1:=hx 1 _ rfl;have HXi:Hid (ms[i]?=some ms[i]∧ms[i].1.size≤N48∧ms[i].2.size≤N48):=⟨aO hiL,HSz.out _ (bL _)⟩;generalize ms[i]=y at*;obtain⟨y0,y1⟩:=y;rw[Nat.add_zero] at x0;simp only at x0 x1;subst eg1;clear hx eg2 eg3;go_upto_region 5 with fail
   have HW1:Hid (Wn A S w B tb db sb fb mb now cap L cs D tv ts (fnd (S now) now r) ms (.slice (some ⟨bR,oR,none⟩) n mc) w.heap.size (wr.alloc (.cells #[.string y0,.string y1] 29)) A2 D' tv' ((ms.take i).map ft) Wk ((y0,y1)::ms.drop (i+1)) ws rb i f):=by
    have h:=HW.out.1.below ((ae _ _).alloc (ag _) (.cells #[.string y0,.string y1] 29));rw[drop_one HXi.out.1] at h;exact h
   have HW':Hid (ws.length=i∧(∀a b,a<i→b<n→f a b=dO ms ws a b)∧D'.length≤D.length+i*grow r):=HW.out.2;have HL7:Hid ((wr.alloc (.cells #[.string y0,.string y1] 29)).heap[wr.heap.size]?=some (.cells #[.string y0,.string y1] 29)∧wr.heap.size≠w.heap.size):=⟨aD _ _,by have:=HW.out.1.mat.own.1.2.2.2;omega⟩;clear x0 x1 HW;generalize wr.alloc (.cells #[.string y0,.string y1] 29)=W1 at*;generalize wr.heap.size=b7 at*
   have ht:Ed.Fd W1 w.heap.size i (zN):=by
    have h:=HW1.out.mat.top i hiL;rw[af (Nat.lt_irrefl _)] at h;exact h
   have tA:∀o,(W1.alloc o).cell? ⟨w.heap.size,i,none⟩=some (zN):=fun o=>(Fd.alloc ht o).1
   have tB:∀o,(W1.alloc o).frozen? ⟨w.heap.size,i,none⟩=false:=fun o=>(Fd.alloc ht o).2
   clear ht
   have HW2:Hid (Wn A S w B tb db sb fb mb now cap L cs D tv ts (fnd (S now) now r) ms (.slice (some ⟨bR,oR,none⟩) n mc) w.heap.size ((W1.alloc (.cells ZR 4)).setCell ⟨w.heap.size,i,none⟩ (.slice (some ⟨W1.heap.size,0,none⟩) n n)) (fun b=>A2 b∨b=W1.heap.size) D' tv' ((ms.take i).map ft) Wk ((y0,y1)::ms.drop (i+1)) ws (fun a=>if a=i then W1.heap.size else rb a) (i+1) (fun a b=>if a=i then false else f a b)):=by
    have h:=HW1.out.lay (Z:=ZR) hiL (by rw[HN.out];exact HZR.out);rw[HN.out] at h;exact h
   have HL8:Hid (((W1.alloc (.cells ZR 4)).setCell ⟨w.heap.size,i,none⟩ (.slice (some ⟨W1.heap.size,0,none⟩) n n)).heap[b7]?=some (.cells #[.string y0,.string y1] 29)):=(aL _ _ _ _ HL7.out.2).trans ((aG _ _ _ (ai HL7.out.1)).trans HL7.out.1);go_upto_region 6 with fail;clear tA tB HW1 HL7;generalize (W1.alloc (.cells ZR 4)).setCell ⟨w.heap.size,i,none⟩ (.slice (some ⟨W1.heap.size,0,none⟩) n n)=W2 at*;generalize (fun a=>if a=i then W1.heap.size else rb a)=rb2 at*;generalize hf2:(fun a b=>if a=i then false else f a b)=f2 at*
   have HF2:Hid (∀a b,a<i+1→b<n→f2 a b=if a=i then rowOf ms (([]:List Mo).take 0) b else dO ms ws a b):=fun a b ha hb=>by
    rw[←hf2];by_cases e:a=i
    ·simp only[ah e];rfl
    ·simp only[af e];exact HW'.out.2.1 a b (by omega) hb
   clear hf2;have hti:((ms.take i).map ft).length=i:=by simp;omega
   have kw:=mE HFd.out y0 y1 HXi.out.2.1 HXi.out.2.2 hr (by
    have h1:=HW'.out.2.2;have h2:=HD.out;have h3:i*grow r≤1000*grow r:=eF _ (by omega);omega) W2 HW2.out.went.t (by rw[bg,hti];omega)
   obtain⟨⟨x0,_⟩,⟨x1,_⟩⟩:=fd2 HL8.out;clear hti
   go_wp2_with (go_at_call 329;fail)
   go_at_call 329;refine kw.mono ?_;rintro e w3 ⟨A3,tv3,wl,qs,av,bv,kk,D3,Wk3,rfl,⟨hra,hrb⟩,hkf,hk⟩;have hok:=kE HW2.out.went.t.eng.inv hk.1 (by show 1≤r;exact hr) (by show 2≤4;omega) hk.2.1.eng.ok;have hwl:wl.length≤2001:=(Am (by rw[←hok.1];exact hkf)).1;have HW3:Hid (Wn A S w B tb db sb fb mb now cap L cs D tv ts (fnd (S now) now r) ms (.slice (some ⟨bR,oR,none⟩) n mc) w.heap.size w3 A3 D3 tv3 ((ms.take i).map ft++[ft (y0,y1)]) (Wk++Wk3) (ms.drop (i+1)) (ws++[wl]) rb2 (i+1) f2):=HW2.out.asked hk.went hk.1 hkf
   have HD3:Hid (D3.length≤D.length+(i+1)*grow r):=by
    have h1:=mh _ _ r _ _ _ _ _ hk.1;have h2:=HW'.out.2.2;show D3.length≤D.length+(i+1)*grow r;rw[fR,iP];omega
   obtain⟨aa,ac,ea⟩:=hra.len;obtain⟨ba,bc,eb⟩:=hrb.len;subst ea;subst eb;have HRa:Hid (RdA A3 Sm.mc w3 (.slice aa wl.length ac) wl):=hra
   have HTk:Hid ((ms.take i).map ft++[ft (y0,y1)]=(ms.take (i+1)).map ft):=by
    show(ms.take i).map ft++[ft (y0,y1)]=(ms.take (i+1)).map ft;have e1:ms[i]=(y0,y1):=by have h:=HXi.out.1;rw[aO hiL] at h;exact cY h
    rw[oo hiL,eQ,e1]
    rfl
   rw[HTk.out] at HW3;clear hra hrb hkf hk hok kw x0 x1 HW2 HL8;go_wp2;clear hfd;generalize hM:wl.length=M at*;have HM:Hid (wl.length=M):=hM;clear hM;go_loopg [35] M (fun g2 s wr2=>∃(j:Nat)(f3:Nat→Nat→Bool),j≤M∧M-j≤g2∧s=zI j∧Hid (Wn A S w B tb db sb fb mb now cap L cs D tv ts (fnd (S now) now r) ms (.slice (some ⟨bR,oR,none⟩) n mc) w.heap.size wr2 A3 D3 tv3 ((ms.take (i+1)).map ft) (Wk++Wk3) (ms.drop (i+1)) (ws++[wl]) rb2 (i+1) f3∧RdA A3 Sm.mc wr2 (.slice aa M ac) wl∧∀a b,a<i+1→b<n→f3 a b=if a=i then rowOf ms (wl.take j) b else dO ms ws a b))
   case atStart=>exact⟨0,f2,by omega,by omega,rfl,HW3.out,HRa.out,HF2.out⟩
   case round=>
    obtain⟨j,f3,hj,hg2,rfl,HV⟩:=hrel;clear HW3 HRa HF2;by_cases hjn:j<M
    ·have hjl:((j:Nat):Int)<(M:Int):=by omega
     obtain⟨bA,oA,cA,eg,hx⟩:=RdA.at HV.out.2.1 kz (by decide) (ae _ _) j (by rw[HM.out];exact hjn);injection eg with eg1 eg2 eg3;have x0:=hx 0 _ rfl;have x1:=hx 1 _ rfl;have HZi:Hid (wl[j]?=some wl[j]):=aO (by rw[HM.out];exact hjn);generalize wl[j]'(by rw[HM.out];exact hjn)=z at*;obtain⟨z0,z1⟩:=z;rw[Nat.add_zero] at x0;simp only at x0 x1;subst eg1;clear hx eg2 eg3;go_upto_region 9 with fail;have HV2:Hid ((Wn A S w B tb db sb fb mb now cap L cs D tv ts (fnd (S now) now r) ms (.slice (some ⟨bR,oR,none⟩) n mc) w.heap.size (wr.alloc (.cells #[.string z0,.string z1] 29)) A3 D3 tv3 ((ms.take (i+1)).map ft) (Wk++Wk3) (ms.drop (i+1)) (ws++[wl]) rb2 (i+1) f3∧RdA A3 Sm.mc (wr.alloc (.cells #[.string z0,.string z1] 29)) (.slice (some ⟨bA,oA,none⟩) M ac) wl∧∀a b,a<i+1→b<n→f3 a b=if a=i then rowOf ms (wl.take j) b else dO ms ws a b)∧(wr.alloc (.cells #[.string z0,.string z1] 29)).heap[wr.heap.size]?=some (.cells #[.string z0,.string z1] 29)):=⟨⟨HV.out.1.below ((ae _ _).alloc (ag _) _),HV.out.2.1.below ((ae _ _).alloc (ag _) _),HV.out.2.2⟩,aD _ _⟩;clear x0 x1 HV;generalize wr.alloc (.cells #[.string z0,.string z1] 29)=W5 at*;generalize wr.heap.size=b9 at*;obtain⟨p,hp⟩:∃p:Mo→Bool,∀o,p o=true↔o.1=z0:=⟨fun o=>@decide (o.1=z0) (Classical.propDecidable _),fun o=>by simp⟩;have kb:=DK (A:=A3) (.slice (some ⟨bR,oR,none⟩) n mc) ms p z0 hp b9 W5 (by rw[HN.out];omega) HV2.out.1.1.rd (fd2 HV2.out.2).1.1
     have HRo:Hid (∀b,rowOf ms (wl.take (j+1)) b=(rowOf ms (wl.take j) b||decide (ms.findIdx? p=some b))):=fun b=>LA ms wl j b (z0,z1) HZi.out p hp
     clear hp
     go_wp2_with (go_at_call 340;fail)
     go_at_call 340;refine kb.mono ?_;rintro e w6 ⟨rr,rfl,hrr,hb6⟩;have HV6:Hid (Wn A S w B tb db sb fb mb now cap L cs D tv ts (fnd (S now) now r) ms (.slice (some ⟨bR,oR,none⟩) n mc) w.heap.size w6 A3 D3 tv3 ((ms.take (i+1)).map ft) (Wk++Wk3) (ms.drop (i+1)) (ws++[wl]) rb2 (i+1) f3∧RdA A3 Sm.mc w6 (.slice (some ⟨bA,oA,none⟩) M ac) wl∧∀a b,a<i+1→b<n→f3 a b=if a=i then rowOf ms (wl.take j) b else dO ms ws a b):=⟨HV2.out.1.1.below hb6,HV2.out.1.2.1.below hb6,HV2.out.1.2.2⟩;clear hb6 kb HV2;rcases hrr with⟨hr1,hnone⟩|⟨x,hr1,hsome,hxl⟩
     ·subst hr1
      have HN2:Hid (Wn A S w B tb db sb fb mb now cap L cs D tv ts (fnd (S now) now r) ms (.slice (some ⟨bR,oR,none⟩) n mc) w.heap.size w6 A3 D3 tv3 ((ms.take (i+1)).map ft) (Wk++Wk3) (ms.drop (i+1)) (ws++[wl]) rb2 (i+1) f3∧RdA A3 Sm.mc w6 (.slice (some ⟨bA,oA,none⟩) M ac) wl∧∀a b,a<i+1→b<n→f3 a b=if a=i then rowOf ms (wl.take (j+1)) b else dO ms ws a b):=⟨HV6.out.1,HV6.out.2.1,fun a b ha hb=>by
       rw[HV6.out.2.2 a b ha hb,HRo.out b,hnone];simp⟩
      clear HV6 hnone HRo;go_wp2;go_roundg (M-(j+1))
      case measure=>omega
      case rel=>exact⟨j+1,f3,by omega,by omega,by go_num,HN2⟩
     ·subst hr1
      rw[HN.out] at hxl;have hx0:((x:Nat):Int)≥0:=by omega
      have hx1:((x:Nat):Int)<(n:Int):=by omega
      have c1:=(HV6.out.1.top (jo i) hiL).1;rw[HN.out] at c1;obtain⟨c2,c3⟩:=HV6.out.1.mat.row i x (jo i) (by rw[HN.out];exact hxl)
      have HN2:Hid (Wn A S w B tb db sb fb mb now cap L cs D tv ts (fnd (S now) now r) ms (.slice (some ⟨bR,oR,none⟩) n mc) w.heap.size (w6.setCell ⟨rb2 i,x,none⟩ (.bool true)) A3 D3 tv3 ((ms.take (i+1)).map ft) (Wk++Wk3) (ms.drop (i+1)) (ws++[wl]) rb2 (i+1) (fun a b=>if a=i∧b=x then true else f3 a b)∧RdA A3 Sm.mc (w6.setCell ⟨rb2 i,x,none⟩ (.bool true)) (.slice (some ⟨bA,oA,none⟩) M ac) wl∧∀a b,a<i+1→b<n→(if a=i∧b=x then true else f3 a b)=if a=i then rowOf ms (wl.take (j+1)) b else dO ms ws a b):=by
       refine⟨HV6.out.1.put (jo i) true,HV6.out.2.1.turn (((aj.refl (fun b=>b=rb2 i) w6).set (a:=⟨rb2 i,x,none⟩) (fun _=>rfl) _).mono (fun b _ e=>by rw[e];exact(HV6.out.1.mat.own.2 i (jo i)).1)),fun a b ha hb=>?_⟩;rw[HRo.out b,hsome,HV6.out.2.2 a b ha hb];by_cases e1:a=i
       ·by_cases e2:b=x
        ·rw[ah ⟨e1,e2⟩,ah e1,e2];simp
        ·rw[af (fun e=>e2 e.2),ah e1,ah e1]
         have e3:¬(some x=some b):=fun e=>e2 (cY e).symm
         simp[e3]
       ·rw[af (fun e=>e1 e.1),af e1,af e1]
      clear HV6 hsome HRo;generalize rb2 i=ri at*;go_wp2;go_roundg (M-(j+1))
      case measure=>omega
      case rel=>exact⟨j+1,_,by omega,by omega,by go_num,HN2⟩
    ·have hjl:(((j:Nat):Int)<(M:Int))=False:=by simp;omega
     have HN2:Hid (Wn A S w B tb db sb fb mb now cap L cs D tv ts (fnd (S now) now r) ms (.slice (some ⟨bR,oR,none⟩) n mc) w.heap.size wr A3 D3 tv3 ((ms.take (i+1)).map ft) (Wk++Wk3) (ms.drop (i+1)) (ws++[wl]) rb2 (i+1) f3∧(ws++[wl]).length=i+1∧(∀a b,a<i+1→b<n→f3 a b=dO ms (ws++[wl]) a b)∧D3.length≤D.length+(i+1)*grow r):=⟨HV.out.1,by rw[bg,HW'.out.1];rfl,fun a b ha hb=>by
      rw[HV.out.2.2 a b ha hb,oy (by have:=HM.out;omega)];by_cases e:a=i
      ·rw[ah e,e,←HW'.out.1,LD]
      ·rw[af e,LC (by have:=HW'.out.1;omega)],HD3.out⟩
     go_wp2;go_roundg (n-(i+1))
     case measure=>omega
     case rel=>exact⟨i+1,_,_,_,_,_,_,_,by omega,by omega,by go_num,HN2⟩
  ·have hil:(((i:Nat):Int)<(n:Int))=False:=by simp;omega
   have hie:n=i:=by omega
   subst hie;obtain⟨m0,hm0⟩:∃m0,m0=dO ms ws:=⟨_,rfl⟩
   have HE:Hid (Wn A S w B tb db sb fb mb now cap L cs D tv ts (fnd (S now) now r) ms (.slice ma n mc) w.heap.size wr A2 D' tv' ((ms.take n).map ft) Wk [] ws rb n (aM m0 0)):=by
    have h:=HW.out.1;rw[rO (by rw[HN.out];exact ag _)] at h;refine h.congr (fun a b ha hb=>?_);rw[HW.out.2.2.1 a b ha (by rw[←HN.out];exact hb),hm0]
    rfl
   have HM0:Hid (m0=dO ms ws):=hm0;clear hm0 HW hin hg hil;go_wp2;go_loopg [54] n (fun gg s wr=>∃k:Nat,k≤n∧n-k≤gg∧s=zI k∧Hid (Wn A S w B tb db sb fb mb now cap L cs D tv ts (fnd (S now) now r) ms (.slice ma n mc) w.heap.size wr A2 D' tv' ((ms.take n).map ft) Wk [] ws rb n (aM m0 k)))
   case atStart=>exact⟨0,by omega,by omega,rfl,HE⟩
   case round=>
    obtain⟨k,hk,hg,rfl,HW⟩:=hrel;clear HE;by_cases hkn:k<n
    ·have hkl:((k:Nat):Int)<(n:Int):=by omega
     have hkL:k<ms.length:=by rw[HN.out];exact hkn
     go_wp2;go_loopg [59] n (fun g2 s wr=>∃i:Nat,i≤n∧n-i≤g2∧s=zI i∧Hid (Wn A S w B tb db sb fb mb now cap L cs D tv ts (fnd (S now) now r) ms (.slice ma n mc) w.heap.size wr A2 D' tv' ((ms.take n).map ft) Wk [] ws rb n (dQ m0 k i 0)))
     case atStart=>exact⟨0,by omega,by omega,rfl,HW.out.congr (fun a b _ _=>(yq m0 k a b).symm)⟩
     case round=>
      obtain⟨i,hi,hg2,rfl,HV⟩:=hrel;clear HW;by_cases hin:i<n
      ·have hil:((i:Nat):Int)<(n:Int):=by omega
       have hiL:i<ms.length:=by rw[HN.out];exact hin
       have c1:=(HV.out.top hin hiL).1;rw[HN.out] at c1;have c2:=(HV.out.mat.row i k hin hkL).1
       have e2:dQ m0 k i 0 i k=aM m0 k i k:=by
        unfold dQ;rw[af (by omega)]
       rw[e2] at c2;clear e2;cases hx:aM m0 k i k with
       |false=>
        rw[hx] at c2;have HN2:Hid (Wn A S w B tb db sb fb mb now cap L cs D tv ts (fnd (S now) now r) ms (.slice ma n mc) w.heap.size wr A2 D' tv' ((ms.take n).map ft) Wk [] ws rb n (dQ m0 k (i+1) 0)):=HV.out.congr (fun a b _ _=>IY m0 k i a b hx);clear HV hx;go_wp2;go_roundg (n-(i+1))
        case measure=>omega
        case rel=>exact⟨i+1,by omega,by omega,by go_num,HN2⟩
       |true=>
        rw[hx] at c2;have HX:Hid (aM m0 k i k=true):=hx;clear hx;go_wp2;clear c1 c2;go_loopg [72] n (fun g3 s wr=>∃j:Nat,j≤n∧n-j≤g3∧s=zI j∧Hid (Wn A S w B tb db sb fb mb now cap L cs D tv ts (fnd (S now) now r) ms (.slice ma n mc) w.heap.size wr A2 D' tv' ((ms.take n).map ft) Wk [] ws rb n (dQ m0 k i j)))
        case atStart=>exact⟨0,by omega,by omega,rfl,HV⟩
        case round=>
         obtain⟨j,hj,hg3,rfl,HU⟩:=hrel;clear HV;by_cases hjn:j<n
         ·have hjl:((j:Nat):Int)<(n:Int):=by omega
          have hjL:j<ms.length:=by rw[HN.out];exact hjn
          have c1:=(HU.out.top hin hiL).1;have c3:=(HU.out.top hkn hkL).1;rw[HN.out] at c1 c3;obtain⟨c2,g2'⟩:=HU.out.mat.row i j hin hjL;have c4:=(HU.out.mat.row k j hkn hjL).1;rw[Ap] at c2;rw[DL] at c4;have HP:Hid (∀v,v=aM m0 (k+1) i j→Wn A S w B tb db sb fb mb now cap L cs D tv ts (fnd (S now) now r) ms (.slice ma n mc) w.heap.size (wr.setCell ⟨rb i,j,none⟩ (.bool v)) A2 D' tv' ((ms.take n).map ft) Wk [] ws rb n (dQ m0 k i (j+1))):=fun v hv=>(HU.out.put hin v).congr (fun a b _ _=>Aq m0 k i j a b v hv)
          have HV:Hid (aM m0 (k+1) i j=(aM m0 k i j||aM m0 k k j)):=IX m0 k i j HX.out;generalize aM m0 k i j=x at*;generalize aM m0 k k j=y at*;generalize rb i=ri at*;generalize rb k=rk at*;go_upto_region 24 with fail;clear HU;cases x with
          |true=>
           have HN2:Hid (Wn A S w B tb db sb fb mb now cap L cs D tv ts (fnd (S now) now r) ms (.slice ma n mc) w.heap.size (wr.setCell ⟨ri,j,none⟩ (.bool true)).drew A2 D' tv' ((ms.take n).map ft) Wk [] ws rb n (dQ m0 k i (j+1))):=(HP.out true (by rw[HV.out];rfl)).below ((ae _ _).drew);clear HP HV
           go_region
           go_wp2;go_roundg (n-(j+1))
           case measure=>omega
           case rel=>exact⟨j+1,by omega,by omega,by go_num,HN2⟩
          |false=>
           have HN2:Hid (Wn A S w B tb db sb fb mb now cap L cs D tv ts (fnd (S now) now r) ms (.slice ma n mc) w.heap.size (wr.setCell ⟨ri,j,none⟩ (.bool y)).drew A2 D' tv' ((ms.take n).map ft) Wk [] ws rb n (dQ m0 k i (j+1))):=(HP.out y (by rw[HV.out];rfl)).below ((ae _ _).drew);clear HP HV
           go_region
           go_wp2;go_roundg (n-(j+1))
           case measure=>omega
           case rel=>exact⟨j+1,by omega,by omega,by go_num,HN2⟩
         ·have hjl:(((j:Nat):Int)<(n:Int))=False:=by simp;omega
          have hje:n=j:=by omega
          subst hje;have HN2:Hid (Wn A S w B tb db sb fb mb now cap L cs D tv ts (fnd (S now) now r) ms (.slice ma n mc) w.heap.size wr A2 D' tv' ((ms.take n).map ft) Wk [] ws rb n (dQ m0 k (i+1) 0)):=HU.out.congr (fun a b _ hb=>Ar m0 k i n a b (by rw[←HN.out];exact hb));clear HU;go_wp2;go_roundg (n-(i+1))
          case measure=>omega
          case rel=>exact⟨i+1,by omega,by omega,by go_num,HN2⟩
      ·have hil:(((i:Nat):Int)<(n:Int))=False:=by simp;omega
       have hie:n=i:=by omega
       subst hie;have HN2:Hid (Wn A S w B tb db sb fb mb now cap L cs D tv ts (fnd (S now) now r) ms (.slice ma n mc) w.heap.size wr A2 D' tv' ((ms.take n).map ft) Wk [] ws rb n (aM m0 (k+1))):=HV.out.congr (fun a b ha _=>DN m0 k n a b ha);clear HV;go_wp2;go_roundg (n-(k+1))
       case measure=>omega
       case rel=>exact⟨k+1,by omega,by omega,by go_num,HN2⟩
    ·have hkl:(((k:Nat):Int)<(n:Int))=False:=by simp;omega
     have hke:n=k:=by omega
     subst hke
     have HMt:Hid (mD wr w.heap.size rb n (aM m0 n)):=by
      have h:=HW.out.mat;rw[HN.out] at h;exact h.at
     go_wp2;go_ret;exact⟨A2,tv',D',Wk,ws,w.heap.size,rb,rfl,by rw[←HM0.out];exact HMt.out,HW.out.went,fun fin D0 cm W0 hp=>HW.out.pre fin D0 cm W0 hp,HW.out.rd⟩
