import Derived.Test.YtelmkfkgpnadnaaGreatDoorJPNA
import Derived.Test.YtelmkfkgpnadnaaGreatDoorJPMA
import Derived.Shelf.SlicesE.Clone
import Derived.Shelf.Spec.SlicesGrow
import Derived.Test.YtelmkfkgpnadnaaGreatDoorJPMO
import Derived.Laws.AppendOwnNone
import Derived.Lib.SlicesCompact
import Derived.Lib.SliceRun
import Derived.Test.YtelmkfkgpnadnaaGreatDoorJPME
import Derived.BigQuiet
import Derived.Shelf.SlSortCmp.NoneTotal
set_option linter.all false
open Go.Proofs.Tryz
set_option maxRecDepth 100000
set_option maxHeartbeats 4000000
namespace Go.Proofs.YtelmkfkgpnadnaaGreatDoor
open Go.RowKit
namespace Pn
open Mf Ed
variable{A:Nat→Prop}{w:zW}
theorem zj(v:zV)(L:List Mo)(w:zW)(h:RdA A Sm.mc w v L)(hL:L.length≤16777216):
  zC 105 #[v] w fun e w'=>∃v',e=.returned v'∧w'.ownsRow w.heap.size 29 2 v' L.length (mcs L)∧zB w w':=by
 rcases h with⟨h1,h2⟩|⟨b,off,c,h1,_,hc⟩
 ·rw[h1,h2]
  refine(Sm.ny w).mono ?_;rintro e w' ⟨rfl,rfl⟩;exact⟨_,rfl,iW _ _ _ _,ae _ _⟩
 ·rw[h1]
  refine(Sm.nu b off c L w hL hc).mono ?_;rintro e w' ⟨g,cap,rfl,ho,hb⟩;exact⟨_,rfl,ho,hb⟩
def Qf:Go.Shelf.Ren:=⟨fun|41=>108|n=>n,fun|22=>33|23=>9|4=>4|n=>n,fun|n=>n⟩
theorem Gs:Go.Proofs.SlLaysE0.n41 prog Qf:={
 mixed:=by kernel_rfl
 f41:=⟨f108.name,by decide,func108.trans (bW some (by kernel_rfl))⟩
 t4:=underlying4
 a4:=isAgg4
 z4:=sizeOf4
 v4:=zeroValue4
 t22:=underlying33
 a22:=isAgg33
 z22:=sizeOf33
 v22:=zeroValue33}
theorem zk(v:zV)(L:List zA)(w:zW)(h:RdA A fW w v L)(hL:L.length≤16777216):
  zC 108 #[v] w fun e w'=>∃v',e=.returned v'∧w'.ownsRow w.heap.size 9 1 v' L.length (L.flatMap fW)∧zB w w':=by
 rcases h with⟨h1,h2⟩|⟨b,off,c,h1,_,hc⟩
 ·rw[h1,h2]
  refine(AnyE.slices_Clone_nil Gs 0 0 w).mono ?_;rintro e w' ⟨rfl,rfl⟩;exact⟨_,rfl,iW _ _ _ _,ae _ _⟩
 ·rw[h1]
  obtain⟨i0,e1,e2,e3,e4⟩:=Bm.gM 9 (zE) 1 16 (by kernel_rfl);refine(AnyE.slices_Clone Gs i0 _ 1 16 e1 e2 e3 e4 rfl (by decide) sizeOf9 b off L.length c (L.flatMap fW) w (Ss.fe (enc:=fW) (k:=1) (fun _=>rfl) L) (by unfold maxLen;omega) (by omega) hc (fun u hu=>?_)).mono ?_
  ·obtain⟨x,_,hx⟩:=List.mem_flatMap.1 hu
   simp[fW] at hx;rw[hx];rfl
  ·rintro e w' ⟨v',rfl,ho,_,hb⟩
   exact⟨v',rfl,ho,hb⟩
def Qg:Go.Shelf.Ren:=⟨fun|4=>152|n=>n,fun|22=>56|25=>76|20=>20|n=>n,fun|n=>n⟩
theorem Gt:Go.Proofs.Lays8.n4 prog Qg:={
 mixed:=by kernel_rfl
 f4:=⟨f152.name,by decide,func152.trans (bW some (by kernel_rfl))⟩
 t0:=underlying0
 a0:=isAgg0
 z0:=sizeOf0
 v0:=zeroValue0
 t3:=underlying3
 a3:=isAgg3
 z3:=sizeOf3
 v3:=zeroValue3
 t4:=underlying4
 a4:=isAgg4
 z4:=sizeOf4
 v4:=zeroValue4
 t9:=underlying9
 a9:=isAgg9
 z9:=sizeOf9
 v9:=zeroValue9
 t20:=underlying20
 a20:=isAgg20
 z20:=sizeOf20
 v20:=zeroValue20
 t22:=underlying56
 a22:=isAgg56
 z22:=sizeOf56
 v22:=zeroValue56}
theorem DW(n:Nat)(w:zW)(hn:n≤3000000000000):zC 152 #[zN,zI (n:Nat)] w fun e w'=>∃v,e=.returned v∧w'.ownsRow w.heap.size 76 3 v 0 []∧zB w w':=by
 by_cases h0:n=0
 ·subst h0
  refine(Any8.slices_Grow_room Gt none 0 0 0 w (ag _) (by omega) (by omega) (by omega)).mono ?_;rintro e w' ⟨rfl,rfl⟩;exact⟨_,rfl,iW _ _ _ _,ae _ _⟩
 ·obtain⟨i0,e1,e2,e3,e4⟩:=Bm.gM 76 (.agg #[zI 0,zE,zE]) 3 40 (by kernel_rfl)
  refine(Any8.slices_Grow_grow Gt i0 _ e1 e2 (by omega) none 0 0 n [] w (ag _) (by omega) (by rw[e4];omega) (by omega) (by simp) (fun _=>rfl) (fun a e=>by cases e)).mono ?_;rintro e w' ⟨rfl,rfl⟩;refine⟨_,rfl,?_,?_⟩
  ·have hge:=grownCap_ge w (0+n) 0 76
   refine World.ownsRow_made w.drew _ (grownCap w (0+n) 0 76) (ag _) (grownCap_le_maxLen w _ _ _ (by unfold maxLen;omega)) ?_;have hz:(Value.agg #[zI 0,zE,zE]).cells.size=3:=rfl;show([].toArray++Builtin.zeroCells _ (0+n-0)++Builtin.zeroCells _ (grownCap w (0+n) 0 76-(0+n))).size=_;rw[Array.size_append,Array.size_append,size_zeroCells,size_zeroCells,hz];show 0+(0+n-0)*3+_=_;omega
  ·exact((ae _ _).drew).alloc (ag _) _
end Pn
namespace Pn
open Mf Ed
variable{A:Nat→Prop}{w:zW}
theorem fy{α:Type}{enc:α→List zV}{P:Program}(w:zW){ops:Array Oper}{rest:List Oper}{o:Oper}{a:Act}{Q:Exit→Act→zW→Prop}(hgd:o.guard=none)(s x:Operand)(t:TypeId)
  (ho:o.op=.call {callee:=.builtin .append,args:=#[s,x],argTypes:=#[t,t]})
  (base:Nat) (e:TypeId) (i:TypeInfo) (z:zV) (size bytes:Nat) (ht:P.underlying t=some (.slice e)) (hi:P.info? e=some i) (hz:i.zero=some z)
  (hsize:i.size=size) (hby:i.bytes=bytes) (hzs:z.cells.size=size) (hsz:0<size)
  (v:zV) (n:Nat) (xs:List zV) (hs:a.eval s=v) (hown:w.ownsRow base e size v n xs)
  (xv:zV) (L:List α) (hx:a.eval x=xv) (hrd:RdA A enc w xv L) (hl:∀y,(enc y).length=size) (h1:∀y,∀u∈enc y,u.oneCell'=true)
  (h63:n+L.length≤maxLen) (hbytes:(n+L.length)*bytes≤140737488355328) (hbase:base≤w.heap.size)
  (h:∀v' w',w'.ownsRow base e size v' (n+L.length) (xs++L.flatMap enc)→w.grownBy w' v.ownBlock→(v'.ownBlock=v.ownBlock∨v'.ownBlock=some w.heap.size)→wpList P ops Q rest (a.put o.dst v') w'):
  wpList P ops Q (o::rest) a w:=by
 rcases hrd with⟨e1,e2⟩|⟨b,off,c,e1,_,hc⟩
 ·refine wpList_append_own_none hgd s x t ho base e i size ht hi v n xs hs hown (by rw[hx,e1]) (h v w ?_ ⟨rfl,rfl,rfl,ag _,fun _ _ _=>rfl⟩ (Or.inl rfl))
  rw[e2];simpa using hown
 ·refine dU w hgd s x t ho base e i z size bytes ht hi hz hsize hby hzs hsz v n xs hs hown ⟨b,off,none⟩ L.length c (L.flatMap enc) (by rw[hx,e1]) (Ss.fe hl L) (fun j u hj=>by rw[addr_add];exact hc j u hj) (fun u hu=>?_) h63 hbytes hbase (fun v' w' g1 g2 _ g3=>h v' w' g1 g2 g3)
  obtain⟨y,_,hy⟩:=List.mem_flatMap.1 hu;exact h1 y u hy
def jy(P1 P2:List Pb)(i:Nat):List Pb:=if i=0 then [] else if i=1 then P1 else P1++P2
theorem Fu(b:Nat)(v1 v2:zV)(P1 P2:List Pb)(w:zW)(hb:w.heap[b]?=some (.cells #[v1,v2] 56))(h1:RdA A aT w v1 P1)(h2:RdA A aT w v2 P2)(hl:P1.length≤1000000∧P2.length≤1000000):
  zC 107 #[.slice (some ⟨b,0,none⟩) 2 2] w fun e w'=>∃v,e=.returned v∧w'.ownsRow w.heap.size 76 3 v (P1++P2).length ((P1++P2).flatMap aT)∧zB w w':=by
 obtain⟨i3,hj1,hj2,hj3,hj4⟩:=Bm.gM 76 (.agg #[zI 0,zE,zE]) 3 40 (by kernel_rfl);have HJ:Hid (prog.info? 76=some i3∧i3.zero=some (.agg #[zI 0,zE,zE])∧i3.size=3∧i3.bytes=40):=⟨hj1,hj2,hj3,hj4⟩;clear hj1 hj2 hj3 hj4;obtain⟨a1,c1,e1⟩:=h1.len;obtain⟨a2,c2,e2⟩:=h2.len;subst e1;subst e2;have HR:Hid (RdA A aT w (.slice a1 P1.length c1) P1∧RdA A aT w (.slice a2 P2.length c2) P2∧w.heap[b]?=some (.cells #[.slice a1 P1.length c1,.slice a2 P2.length c2] 56)):=⟨h1,h2,hb⟩;obtain⟨⟨d0,_⟩,⟨d1,_⟩⟩:=fd2 hb;have hbl:=ai hb;clear h1 h2 hb;obtain⟨PX,hPX⟩:∃PX,PX=P1.flatMap aT:=⟨_,rfl⟩;have HPX:Hid (PX=P1.flatMap aT):=hPX;clear hPX;generalize hn1:P1.length=n1 at*;generalize hn2:P2.length=n2 at*;have HN:Hid (P1.length=n1∧P2.length=n2):=⟨hn1,hn2⟩
 have TE:Hid ((P1++P2).length=n1+n2):=by
  show(P1++P2).length=n1+n2;rw[bg,hn1,hn2]
 clear hn1 hn2;have kg:=DW (n1+n2) w (by omega);go_enter func107,ntmps107;go_wp2;go_loopg [3,11] 2 (fun gg s3 s11 wr=>∃i:Nat,i≤2∧2-i≤gg∧s3=zI ((if i=0 then 0 else if i=1 then n1 else n1+n2:Nat):Int)∧s11=zI i∧w=wr)
 case atStart=>exact⟨0,by omega,by omega,rfl,rfl,rfl⟩
 case round=>
  obtain⟨i,hi,hg,h3,rfl,rfl⟩:=hrel;rcases(by omega:i=0∨i=1∨i=2) with rfl|rfl|rfl
  ·rw[h3,ah rfl]
   clear h3;go_wp2;go_roundg 1
   case measure=>omega
   case rel=>exact⟨1,by omega,by omega,by simp,rfl,rfl⟩
  ·rw[h3,af (by decide),ah rfl]
   clear h3;go_wp2;go_roundg 0
   case measure=>omega
   case rel=>exact⟨2,by omega,by omega,by go_num,rfl,rfl⟩
  ·rw[h3,af (by decide),af (by decide)]
   clear h3
   go_wp2_with (go_at_call 152;fail)
   go_at_call 152;refine kg.mono ?_;rintro e w1 ⟨v,rfl,ho,hb1⟩;have HV0:Hid (w1.ownsRow w.heap.size 76 3 v (jy P1 P2 0).length ((jy P1 P2 0).flatMap aT)∧zB w w1):=⟨ho,hb1⟩;clear ho hb1 kg d0 d1;go_wp2;go_loopg [6,27] 2 (fun gg s6 s27 wr=>∃(i:Nat)(rv:zV),i≤2∧2-i≤gg∧rv=s6∧s27=zI i∧Hid (wr.ownsRow w.heap.size 76 3 rv (jy P1 P2 i).length ((jy P1 P2 i).flatMap aT)∧zB w wr))
   case atStart=>exact⟨0,v,by omega,by omega,rfl,rfl,HV0⟩
   case round=>
    obtain⟨i,rv,hi,hg,hrv,rfl,HV⟩:=hrel;subst hrv;clear HV0;rcases(by omega:i=0∨i=1∨i=2) with rfl|rfl|rfl
    ·have HA:Hid (wr.ownsRow w.heap.size 76 3 rv ([]:List Pb).length (([]:List Pb).flatMap aT)∧zB w wr):=HV.out
     obtain⟨ra,rc,er⟩:=ay HA.out.1;subst er;obtain⟨XX,hXX⟩:∃XX,XX=([]:List Pb).flatMap aT:=⟨_,rfl⟩;have HX:Hid (XX=([]:List Pb).flatMap aT):=hXX;have HO:Hid (wr.ownsRow w.heap.size 76 3 (.slice ra ([]:List Pb).length rc) ([]:List Pb).length XX):=by rw[hXX];exact HA.out.1
     have hkl:([]:List Pb).length≤1000000:=by exact aK _
     have HLx:Hid (P1.length=n1):=HN.out.1;generalize hkk:([]:List Pb).length=kk at*;have HKK:Hid (([]:List Pb).length=kk):=hkk;clear hkk;clear hXX HV;obtain⟨⟨d0,_⟩,⟨d1,_⟩⟩:=fd2 ((HA.out.2.block b hbl).trans HR.out.2.2);have hws:=HA.out.2.size
     go_wp2_with (at_builtin;refine fy (A:=A) (enc:=aT) _ rfl _ _ 56 rfl w.heap.size 76 i3 (.agg #[zI 0,zE,zE]) 3 40 underlying56 HJ.out.1 HJ.out.2.1 HJ.out.2.2.1 HJ.out.2.2.2 rfl (by decide) (.slice ra kk rc) kk XX rfl HO.out (.slice a1 n1 c1) P1 rfl (HR.out.1.below HA.out.2) (fun _=>rfl) yx ?_ ?_ ?_ ?_)
     all_goals first
      |(show kk+P1.length≤maxLen;rw[HLx.out];unfold maxLen;omega)
      |(show(kk+P1.length)*40≤140737488355328;rw[HLx.out];omega)
      |(show w.heap.size≤wr.heap.size;omega)
      |skip
     intro v9 w9 hown hgrow _
     have HN9:Hid (w9.ownsRow w.heap.size 76 3 v9 (jy P1 P2 1).length ((jy P1 P2 1).flatMap aT)∧zB w w9):=by
      have hT:aj (fun bb=>(Value.slice ra kk rc).ownBlock=some bb) wr w9:=(aj.refl _ _).grown hgrow (fun bb _ e=>e);refine⟨?_,bh HA.out.2 hT (fun bb e=>(HO.out.lt bb e).1)⟩;have e1:(jy P1 P2 1).length=kk+P1.length:=by rw[←HKK.out];simp[jy]
      rw[e1,show(jy P1 P2 1).flatMap aT=XX++P1.flatMap aT by rw[HX.out];simp[jy]];exact hown
     clear hown hgrow d0 d1;go_wp2;go_roundg 1
     case measure=>omega
     case rel=>exact⟨1,v9,by omega,by omega,rfl,rfl,HN9⟩
    ·have HA:Hid (wr.ownsRow w.heap.size 76 3 rv (P1:List Pb).length ((P1:List Pb).flatMap aT)∧zB w wr):=HV.out
     obtain⟨ra,rc,er⟩:=ay HA.out.1;subst er;obtain⟨XX,hXX⟩:∃XX,XX=(P1:List Pb).flatMap aT:=⟨_,rfl⟩;have HX:Hid (XX=(P1:List Pb).flatMap aT):=hXX;have HO:Hid (wr.ownsRow w.heap.size 76 3 (.slice ra (P1:List Pb).length rc) (P1:List Pb).length XX):=by rw[hXX];exact HA.out.1
     have hkl:(P1:List Pb).length≤1000000:=by rw[HN.out.1];exact hl.1
     have HLx:Hid (P2.length=n2):=HN.out.2;generalize hkk:(P1:List Pb).length=kk at*;have HKK:Hid ((P1:List Pb).length=kk):=hkk;clear hkk;clear hXX HV;obtain⟨⟨d0,_⟩,⟨d1,_⟩⟩:=fd2 ((HA.out.2.block b hbl).trans HR.out.2.2);have hws:=HA.out.2.size
     go_wp2_with (at_builtin;refine fy (A:=A) (enc:=aT) _ rfl _ _ 56 rfl w.heap.size 76 i3 (.agg #[zI 0,zE,zE]) 3 40 underlying56 HJ.out.1 HJ.out.2.1 HJ.out.2.2.1 HJ.out.2.2.2 rfl (by decide) (.slice ra kk rc) kk XX rfl HO.out (.slice a2 n2 c2) P2 rfl (HR.out.2.1.below HA.out.2) (fun _=>rfl) yx ?_ ?_ ?_ ?_)
     all_goals first
      |(show kk+P2.length≤maxLen;rw[HLx.out];unfold maxLen;omega)
      |(show(kk+P2.length)*40≤140737488355328;rw[HLx.out];omega)
      |(show w.heap.size≤wr.heap.size;omega)
      |skip
     intro v9 w9 hown hgrow _
     have HN9:Hid (w9.ownsRow w.heap.size 76 3 v9 (jy P1 P2 2).length ((jy P1 P2 2).flatMap aT)∧zB w w9):=by
      have hT:aj (fun bb=>(Value.slice ra kk rc).ownBlock=some bb) wr w9:=(aj.refl _ _).grown hgrow (fun bb _ e=>e);refine⟨?_,bh HA.out.2 hT (fun bb e=>(HO.out.lt bb e).1)⟩;have e1:(jy P1 P2 2).length=kk+P2.length:=by rw[←HKK.out];simp[jy]
      rw[e1,show(jy P1 P2 2).flatMap aT=XX++P2.flatMap aT by rw[HX.out];simp[jy]];exact hown
     clear hown hgrow d0 d1;go_wp2;go_roundg 0
     case measure=>omega
     case rel=>exact⟨2,v9,by omega,by omega,rfl,rfl,HN9⟩
    ·have HF:Hid (wr.ownsRow w.heap.size 76 3 rv (P1++P2).length ((P1++P2).flatMap aT)∧zB w wr):=HV.out
     go_wp2;go_ret;exact⟨_,rfl,HF.out.1,HF.out.2⟩
end Pn
namespace Pn
open Mf Ed
variable{w:zW}
theorem td{B g n cap:Nat}{e:TypeId}{s:Nat}:∀(vs:List zV)(o:Nat)(w:zW)(xs:List zV),w.ownsRow B e s (.slice (some ⟨g,0,none⟩) n cap) n xs→
  ∃ys,(w.setCells g o vs).ownsRow B e s (.slice (some ⟨g,0,none⟩) n cap) n ys∧ys.take o=xs.take o∧aj (fun b=>b=g) w (w.setCells g o vs)
 |[],_,w,xs,h=>⟨xs,h,rfl,aj.refl _ _⟩
 |v::vs,o,w,xs,h=>by
  obtain⟨ys,h1,h2,h3⟩:=td vs (o+1) (w.setCell ⟨g,o,none⟩ v) (xs.set o v) (h.stored o v).1;refine⟨ys,h1,?_,aj.trans ((aj.refl (fun b=>b=g) w).set (a:=⟨g,o,none⟩) (fun _=>rfl) v) h3 (fun _ _ e=>e) (fun _ _ e=>e)⟩;have h4:=bW (List.take o) h2;rw[List.take_take,List.take_take,Nat.min_eq_left (cr o)] at h4;rw[h4,List.take_set_of_le (ag o)]
theorem N7{B g n cap:Nat}{e:TypeId}{s:Nat}{xs:List zV}(h:w.ownsRow B e s (.slice (some ⟨g,0,none⟩) n cap) n xs){k:Nat}(hk:k≤n):w.ownsRow B e s (.slice (some ⟨g,0,none⟩) k cap) k (xs.take (k*s)):=by
 rcases h.2 with⟨h',_⟩|⟨g',cap',cur,h',hb,hg,hnc,hcm,hcs,Ox⟩
 ·simp at h'
 ·simp only[Value.slice.injEq,mP,Addr.mk.injEq,fS,true_and] at h'
  obtain⟨rfl,rfl⟩:=h';have hks:k*s≤n*s:=eF s hk;refine⟨by rw[jP,h.1];exact Nat.min_eq_left hks,.inr ⟨g,cap,cur,rfl,hb,hg,aP hk hnc,hcm,hcs,?_⟩⟩;rw[←Ox,List.take_take,Nat.min_eq_left hks]
theorem zl{P:Program}(w:zW)(t e ty:TypeId)(z:zV)(ht:P.underlying t=some (.slice e))(hv:∀w,(zeroValue e).run P w=.ok z w)(h1:∀v∈z.cells,v.oneCell'=true)(hz:0<z.cells.size)(b o n c:Nat)(hn:0<n)
  (hc:∀j,j<n*z.cells.size→(w.cell? ⟨b,o+j,none⟩).isSome=true) (hf:∀j,j<n*z.cells.size→w.frozen? ⟨b,o+j,none⟩=false):
  (Builtin.clear_ #[t] ty #[.slice (some ⟨b,o,none⟩) n c]).run P w=.ok (.tuple #[]) (w.setCells b o (Builtin.zeroCells z.cells n).toList):=by
 have hlen:(Builtin.zeroCells z.cells n).toList.length=n*z.cells.size:=by simp[Builtin.zeroCells]
 have hst:=run_storeCells_cells (P:=P) b o (Builtin.zeroCells z.cells n).toList 0 w (by rw[hlen];simpa using hc) (by rw[hlen];simpa using hf) (by
  intro v hv';simp only[Builtin.zeroCells,Array.toList_map,bD] at hv';obtain⟨i,_,rfl⟩:=hv';have hlt:i%z.cells.size<z.cells.size:=Nat.mod_lt _ hz;rw[bC z.cells _ hlt];exact h1 _ (Array.getElem_mem hlt))
 simp only[Nat.add_zero] at hst;obtain⟨m,rfl⟩:∃m,n=m+1:=⟨n-1,by omega⟩;simp[Builtin.clear_,run_underlying ht,hv,hst]
end Pn
namespace Pn
open Mf Ed
variable{w:zW}
instance:Inhabited Pb:=⟨(0,⟨#[]⟩,⟨#[]⟩)⟩
theorem BR{B g cap:Nat}{D:List Pb}(h:w.ownsRow B 76 3 (.slice (some ⟨g,0,none⟩) D.length cap) D.length (D.flatMap aT))(j:Nat)(hj:j<D.length):
  w.cell? ⟨g,j*3,none⟩=some (zI D[j]!.1)∧w.cell? ⟨g,j*3+1,none⟩=some (.string D[j]!.2.1)∧w.cell? ⟨g,j*3+2,none⟩=some (.string D[j]!.2.2):=by
 have hr:RdA (fun _=>False) aT w (.slice (some ⟨g,0,none⟩) D.length cap) D:=RdA.own h rfl (fun _=>rfl) (fun _ e=>e.elim);obtain⟨b,o,c,eg,hx⟩:=RdA.at (A:=fun _=>False) (L:=D) hr (s:=3) (fun _=>rfl) (by decide) (ae _ _) j hj;simp only[Value.slice.injEq,mP,Addr.mk.injEq,fS,true_and] at eg;obtain⟨⟨rfl,rfl⟩,_⟩:=eg;rw[bC D j hj];refine⟨?_,?_,?_⟩
 ·have:=hx 0 _ rfl;simpa using this
 ·have:=hx 1 _ rfl;simpa using this
 ·have:=hx 2 _ rfl;simpa using this
theorem LU{B g n cap:Nat}{e:TypeId}{s:Nat}{xs:List zV}(h:w.ownsRow B e s (.slice (some ⟨g,0,none⟩) n cap) n xs):n≤cap∧cap≤9223372036854775807:=by
 rcases h.2 with⟨h',_⟩|⟨g',cap',cur,h',hb,hg,hnc,hcm,hcs,Ox⟩
 ·simp at h'
 ·simp only[Value.slice.injEq,mP,Addr.mk.injEq,fS,true_and] at h'
  obtain⟨rfl,rfl⟩:=h';exact⟨hnc,by unfold maxLen at hcm;omega⟩
theorem Au:∀(D:List Pb)(j:Nat)(p:Pb),j<D.length→(((D.flatMap aT).set (j*3) (zI p.1)).set (j*3+1) (.string p.2.1)).set (j*3+2) (.string p.2.2)=(D.set j p).flatMap aT
 |[],j,p,h=>by simp at h
 |d::D,0,p,_=>rfl
 |d::D,j+1,p,h=>by
  have ih:=Au D j p (by simpa using h);have e:(d::D).flatMap aT=zI d.1::.string d.2.1::.string d.2.2::D.flatMap aT:=rfl;have e2:((d::D).set (j+1) p).flatMap aT=zI d.1::.string d.2.1::.string d.2.2::(D.set j p).flatMap aT:=rfl;rw[e,e2,←ih,show(j+1)*3=j*3+3 by omega,show j*3+3+1=(j*3+1)+3 by omega,show j*3+3+2=(j*3+2)+3 by omega]
  rfl
theorem yy:∀(D:List Pb)(k:Nat),(D.flatMap aT).take (k*3)=(D.take k).flatMap aT
 |[],k=>by simp
 |d::D,0=>by simp
 |d::D,k+1=>by
  have ih:=yy D k;have e:(d::D).flatMap aT=zI d.1::.string d.2.1::.string d.2.2::D.flatMap aT:=rfl;have e2:((d::D).take (k+1)).flatMap aT=zI d.1::.string d.2.1::.string d.2.2::(D.take k).flatMap aT:=rfl;rw[e,e2,show(k+1)*3=k*3+1+1+1 by omega,List.take_succ_cons,List.take_succ_cons,List.take_succ_cons,ih]
theorem DX{B g n cap:Nat}{d:Array Pb}(h:w.ownsRow B 76 3 (.slice (some ⟨g,0,none⟩) n cap) n (d.toList.flatMap aT))(hd:d.size=n)(j:Nat)(hj:j<n)(p:Pb):
  (((w.setCell ⟨g,j*3,none⟩ (zI p.1)).setCell ⟨g,j*3+1,none⟩ (.string p.2.1)).setCell ⟨g,j*3+2,none⟩ (.string p.2.2)).ownsRow B 76 3 (.slice (some ⟨g,0,none⟩) n cap) n ((d.setIfInBounds j p).toList.flatMap aT)∧aj (fun b=>b=g) w (((w.setCell ⟨g,j*3,none⟩ (zI p.1)).setCell ⟨g,j*3+1,none⟩ (.string p.2.1)).setCell ⟨g,j*3+2,none⟩ (.string p.2.2)):=by
 have h3:=(((h.stored (j*3) (zI p.1)).1.stored (j*3+1) (.string p.2.1)).1.stored (j*3+2) (.string p.2.2)).1;rw[Au _ _ _ (by simpa[hd] using hj)] at h3;refine⟨by rw[Array.toList_setIfInBounds];exact h3,(((aj.refl (fun b=>b=g) w).set (a:=⟨g,j*3,none⟩) (fun _=>rfl) _).set (a:=⟨g,j*3+1,none⟩) (fun _=>rfl) _).set (a:=⟨g,j*3+2,none⟩) (fun _=>rfl) _⟩
theorem mF{B g n cap:Nat}{d:Array Pb}(h:w.ownsRow B 76 3 (.slice (some ⟨g,0,none⟩) n cap) n (d.toList.flatMap aT))(hd:d.size=n)(j:Nat)(hj:j<n):
  w.cell? ⟨g,j*3,none⟩=some (zI d[j]!.1)∧w.cell? ⟨g,j*3+1,none⟩=some (.string d[j]!.2.1)∧w.cell? ⟨g,j*3+2,none⟩=some (.string d[j]!.2.2):=by
 have hl:d.toList.length=n:=by simpa using hd
 have:=BR (by rw[hl];exact h:w.ownsRow B 76 3 (.slice (some ⟨g,0,none⟩) d.toList.length cap) d.toList.length (d.toList.flatMap aT)) j (by omega);have e:d.toList[j]! =d[j]!:=by rw[bC d.toList j (by omega),bC d j (by omega)];simp
 rw[e] at this;exact this
theorem I7{L:List Pb}{kk:Nat}{dk:Array Pb}(h:Lib.CompInv L.toArray L.length kk dk):dk.toList.take kk=Lib.compact L:=by
 have hs:dk.size=L.length:=by simpa using h.size
 have hlt:=h.lt;apply lF;intro j;unfold Lib.compact;by_cases hj:j<kk
 ·rw[h.low j hj,List.getElem?_take_of_lt hj]
  have:j<dk.size:=by omega
  simp[this]
 ·rw[gT (by simp;omega),gT (by rw[h.len];omega)]
theorem LV{B g n cap kk:Nat}{L:List Pb}{dk:Array Pb}(hn:n=L.length)(h:Lib.CompInv L.toArray n kk dk)(ho:w.ownsRow B 76 3 (.slice (some ⟨g,0,none⟩) n cap) n (dk.toList.flatMap aT))(vs:List zV):
  kk=(Lib.compact L).length∧(w.setCells g (kk*3) vs).ownsRow B 76 3 (.slice (some ⟨g,0,none⟩) (Lib.compact L).length cap) (Lib.compact L).length ((Lib.compact L).flatMap aT)∧aj (fun b=>b=g) w (w.setCells g (kk*3) vs):=by
 subst hn;have hk:(Lib.compact L).length=kk:=h.len;obtain⟨ys,h1,h2,h3⟩:=td vs (kk*3) w _ ho;have h4:=N7 h1 (Nat.le_of_lt h.lt);rw[h2,yy,I7 h] at h4;exact⟨hk.symm,by rw[hk];exact h4,h3⟩
theorem DY(B g cap:Nat)(L:List Pb)(w:zW)(h:w.ownsRow B 76 3 (.slice (some ⟨g,0,none⟩) L.length cap) L.length (L.flatMap aT))(hl:L.length≤4000000):
  zC 151 #[.slice (some ⟨g,0,none⟩) L.length cap] w fun e w'=>e=.returned (.slice (some ⟨g,0,none⟩) (Lib.compact L).length cap)∧w'.ownsRow B 76 3 (.slice (some ⟨g,0,none⟩) (Lib.compact L).length cap) (Lib.compact L).length ((Lib.compact L).flatMap aT)∧aj (fun b=>b=g) w w':=by
 have H0:Hid (w.ownsRow B 76 3 (.slice (some ⟨g,0,none⟩) L.length cap) L.length (L.flatMap aT)):=h;obtain⟨n,hn⟩:∃n,n=L.length:=⟨_,rfl⟩;have HN:Hid (n=L.length):=hn;rw[←hn] at hl ⊢
 have HS:Hid (∀W,W.ownsRow B 76 3 (.slice (some ⟨g,0,none⟩) n cap) n (L.flatMap aT)→aj (fun b=>b=g) w W→(∀j,j<n→Lib.keeps L.toArray j=true)→(Value.slice (some ⟨g,0,none⟩) n cap=.slice (some ⟨g,0,none⟩) (Lib.compact L).length cap)∧W.ownsRow B 76 3 (.slice (some ⟨g,0,none⟩) (Lib.compact L).length cap) (Lib.compact L).length ((Lib.compact L).flatMap aT)∧aj (fun b=>b=g) w W):=fun W h1 h2 h3=>by
  rw[Lib.compact_all L (by rw[←hn];exact h3),←hn];exact⟨rfl,h1,h2⟩
 have HW0:Hid (w.ownsRow B 76 3 (.slice (some ⟨g,0,none⟩) n cap) n (L.flatMap aT)∧aj (fun b=>b=g) w w):=by rw[hn];exact⟨h,aj.refl _ _⟩
 obtain⟨hnc,hcm⟩:=LU HW0.out.1;clear h hn;by_cases h2:n<2
 ·go_enter func151,ntmps151
  go_wp2;go_ret;obtain⟨e1,e2⟩:=HS.out w HW0.out.1 HW0.out.2 (fun j hj=>Lib.keeps_lt_one _ j (by omega));exact⟨bW Ending.returned e1,e2⟩
 ·go_enter func151,ntmps151
  go_wp2;go_loopg [3] n (fun gg s3 wr=>∃k:Nat,1≤k∧k≤n∧n-k≤gg∧s3=zI k∧Hid (wr.ownsRow B 76 3 (.slice (some ⟨g,0,none⟩) n cap) n (L.flatMap aT)∧aj (fun b=>b=g) w wr)∧Hid (∀j,j<k→Lib.keeps L.toArray j=true))
  case atStart=>exact⟨1,by omega,by omega,by omega,rfl,HW0,Lib.keeps_lt_one _⟩
  case round=>
   obtain⟨k,hk1,hk,hg,rfl,HW,HK⟩:=hrel;clear HW0;by_cases hlt:k<n
   ·have gN:((k:Nat):Int)<(n:Int):=by omega
    obtain⟨x0,x1,x2⟩:=BR (by rw[←HN.out];exact HW.out.1:wr.ownsRow B 76 3 (.slice (some ⟨g,0,none⟩) L.length cap) L.length (L.flatMap aT)) k (by have:=HN.out;omega);obtain⟨y0,y1,y2⟩:=BR (by rw[←HN.out];exact HW.out.1:wr.ownsRow B 76 3 (.slice (some ⟨g,0,none⟩) L.length cap) L.length (L.flatMap aT)) (k-1) (by have:=HN.out;omega);generalize hx:L[k]! =x at x0 x1 x2;generalize hy:L[k-1]! =y at y0 y1 y2;have HXY:Hid (L[k]! =x∧L[k-1]! =y):=⟨hx,hy⟩;clear hx hy;by_cases he:x=y
    ·subst he
     generalize x.1=p0 at*;generalize x.2.1=p1 at*;generalize x.2.2=p2 at*;have q0:(p0==p0)=true:=by simp
     have q1:(p1.toList==p1.toList)=true:=by simp
     have q2:(p2.toList==p2.toList)=true:=by simp
     go_upto_region 6 with fail;go_quiet (fail);generalize hW:World.drewN _ _=W4;have HW4:Hid (W4.ownsRow B 76 3 (.slice (some ⟨g,0,none⟩) n cap) n (L.flatMap aT)∧aj (fun b=>b=g) w W4):=by rw[←hW];exact⟨ar HW.out.1 (fun _ _=>rfl),HW.out.2.more (aZ (ae _ _) _)⟩
     have HKd:Hid (Lib.keeps L.toArray k=false):=Lib.keeps_neg (by omega) (by simpa using HXY.out.1.trans HXY.out.2.symm);clear hW HW x0 x1 x2 y0 y1 y2 q0 q1 q2 HXY;go_wp2;clear gN;go_loopg [3,5] n (fun gg s3 s5 wr=>∃(kk k2:Nat)(dk:Array Pb),s3=zI kk∧s5=zI k2∧1≤k2∧k+k2≤n∧n-(k+k2)≤gg∧kk<k+k2∧Hid (wr.ownsRow B 76 3 (.slice (some ⟨g,0,none⟩) n cap) n (dk.toList.flatMap aT)∧aj (fun b=>b=g) w wr∧dk.size=n)∧Hid (Lib.CompInv L.toArray (k+k2) kk dk))
     case atStart=>exact⟨k,1,L.toArray,rfl,rfl,by omega,by omega,by omega,by omega,⟨HW4.out.1,HW4.out.2,HN.out.symm⟩,Lib.CompInv.start HK.out HKd.out⟩
     case round=>
      obtain⟨kk,k2,dk,rfl,rfl,h1,hle,hg2,hkk,HI,HC⟩:=hrel;clear HW4 HKd HK;by_cases Bg:k+k2<n
      ·have SD:((k2:Nat):Int)<((n-k:Nat):Int):=by omega
       obtain⟨x0,x1,x2⟩:=mF HI.out.1 HI.out.2.2 (k+k2) Bg;obtain⟨y0,y1,y2⟩:=mF HI.out.1 HI.out.2.2 (k+k2-1) (by omega);rw[HC.out.high (k+k2) (by omega),show(k+k2)*3=k*3+k2*3 by omega] at x0 x1 x2;rw[HC.out.high (k+k2-1) (by omega),show(k+k2-1)*3=k*3+(k2-1)*3 by omega] at y0 y1 y2;generalize hx:L.toArray[k+k2]! =x at x0 x1 x2;generalize hy:L.toArray[k+k2-1]! =y at y0 y1 y2;have HXY:Hid (L.toArray[k+k2]! =x∧L.toArray[k+k2-1]! =y):=⟨hx,hy⟩;clear hx hy;by_cases he:x=y
       ·subst he
        have HC2:Hid (Lib.CompInv L.toArray (k+(k2+1)) kk dk):=HC.out.skip (Lib.keeps_neg (by omega) (by rw[HXY.out.1,HXY.out.2]));clear HXY HC;generalize x.1=p0 at*;generalize x.2.1=p1 at*;generalize x.2.2=p2 at*;have q0:((p0:Int)==(p0:Int))=true:=by simp
        have q1:(p1.toList==p1.toList)=true:=by simp
        have q2:(p2.toList==p2.toList)=true:=by simp
        go_upto_region 11 with fail;go_quiet (fail);generalize hW:World.drewN _ _=W4;have HI4:Hid (W4.ownsRow B 76 3 (.slice (some ⟨g,0,none⟩) n cap) n (dk.toList.flatMap aT)∧aj (fun b=>b=g) w W4∧dk.size=n):=by rw[←hW];exact⟨ar HI.out.1 (fun _ _=>rfl),HI.out.2.1.more (aZ (ae _ _) _),HI.out.2.2⟩
        clear hW;go_wp2;go_roundg (n-(k+(k2+1)))
        case measure=>omega
        case rel=>exact⟨kk,k2+1,dk,rfl,by go_num,by omega,by omega,by omega,by omega,HI4,HC2⟩
       ·have HC2:Hid (Lib.CompInv L.toArray (k+(k2+1)) (kk+1) (dk.setIfInBounds kk x)):=by
         have h9:=HC.out.keep (by have:=HN.out;simp;omega) (Lib.keeps_pos (by rw[HXY.out.1,HXY.out.2];exact he));rw[HXY.out.1] at h9;exact h9
        have HNE:Hid (¬(x.1=y.1∧x.2.1=y.2.1∧x.2.2=y.2.2)):=fun e=>he (fZ e.1 (fZ e.2.1 e.2.2))
        have hkn:kk<n:=by omega
        have HPut:Hid (∀W:zW,W.ownsRow B 76 3 (.slice (some ⟨g,0,none⟩) n cap) n (dk.toList.flatMap aT)→aj (fun b=>b=g) w W→(((W.setCell ⟨g,kk*3,none⟩ (zI x.1)).setCell ⟨g,kk*3+1,none⟩ (.string x.2.1)).setCell ⟨g,kk*3+2,none⟩ (.string x.2.2)).ownsRow B 76 3 (.slice (some ⟨g,0,none⟩) n cap) n ((dk.setIfInBounds kk x).toList.flatMap aT)∧aj (fun b=>b=g) w (((W.setCell ⟨g,kk*3,none⟩ (zI x.1)).setCell ⟨g,kk*3+1,none⟩ (.string x.2.1)).setCell ⟨g,kk*3+2,none⟩ (.string x.2.2))∧(dk.setIfInBounds kk x).size=n):=fun W g1 g2=>
         ⟨(DX g1 HI.out.2.2 kk hkn x).1,g2.trans (DX g1 HI.out.2.2 kk hkn x).2 (fun _ _ e=>e) (fun _ _ e=>e),by simpa using HI.out.2.2⟩
        generalize dk.setIfInBounds kk x=dk2 at*;clear he HXY HC;generalize x.1=p0 at*;generalize x.2.1=p1 at*;generalize x.2.2=p2 at*;generalize y.1=r0 at*;generalize y.2.1=r1 at*;generalize y.2.2=r2 at*;by_cases t0:p0=r0
        ·subst t0
         have q0:((p0:Int)==(p0:Int))=true:=by simp
         by_cases t1:p1=r1
         ·subst t1
          have q1:(p1.toList==p1.toList)=true:=by simp
          have q2:=Rn.dr (fun h:p2=r2=>HNE.out ⟨rfl,rfl,h⟩);clear HNE;go_upto_region 11 with fail;go_quiet (fail);generalize hW:World.drewN _ _=W4;have HI4:Hid (W4.ownsRow B 76 3 (.slice (some ⟨g,0,none⟩) n cap) n (dk.toList.flatMap aT)∧aj (fun b=>b=g) w W4∧dk.size=n):=by rw[←hW];exact⟨ar HI.out.1 (fun _ _=>rfl),HI.out.2.1.more (aZ (ae _ _) _),HI.out.2.2⟩
          have hc4:∀a,W4.cell? a=wr.cell? a:=fun a=>by rw[←hW];rfl
          rw[←hc4] at x0 x1 x2;clear hW hc4 y0 y1 y2;obtain⟨z0,z1,z2⟩:=mF HI4.out.1 HI4.out.2.2 kk hkn;have f0:=HI4.out.1.frozenAt (kk*3);have f1:=HI4.out.1.frozenAt (kk*3+1);have f2:=HI4.out.1.frozenAt (kk*3+2);generalize dk[kk]! =old at z0 z1 z2;have hkI:((kk:Nat):Int)<(n:Int):=by omega
          go_wp2;go_roundg (n-(k+(k2+1)))
          case measure=>omega
          case rel=>exact⟨kk+1,k2+1,dk2,by go_num,by go_num,by omega,by omega,by omega,by omega,HPut.out W4 HI4.out.1 HI4.out.2.1,HC2⟩
         ·have q1:=Rn.dr t1
          clear HNE t1;go_upto_region 11 with fail;go_quiet (fail);generalize hW:World.drewN _ _=W4;have HI4:Hid (W4.ownsRow B 76 3 (.slice (some ⟨g,0,none⟩) n cap) n (dk.toList.flatMap aT)∧aj (fun b=>b=g) w W4∧dk.size=n):=by rw[←hW];exact⟨ar HI.out.1 (fun _ _=>rfl),HI.out.2.1.more (aZ (ae _ _) _),HI.out.2.2⟩
          have hc4:∀a,W4.cell? a=wr.cell? a:=fun a=>by rw[←hW];rfl
          rw[←hc4] at x0 x1 x2;clear hW hc4 y0 y1 y2;obtain⟨z0,z1,z2⟩:=mF HI4.out.1 HI4.out.2.2 kk hkn;have f0:=HI4.out.1.frozenAt (kk*3);have f1:=HI4.out.1.frozenAt (kk*3+1);have f2:=HI4.out.1.frozenAt (kk*3+2);generalize dk[kk]! =old at z0 z1 z2;have hkI:((kk:Nat):Int)<(n:Int):=by omega
          go_wp2;go_roundg (n-(k+(k2+1)))
          case measure=>omega
          case rel=>exact⟨kk+1,k2+1,dk2,by go_num,by go_num,by omega,by omega,by omega,by omega,HPut.out W4 HI4.out.1 HI4.out.2.1,HC2⟩
        ·have q0:((p0:Int)==(r0:Int))=false:=by simp;omega
         clear HNE t0;go_upto_region 11 with fail;go_quiet (fail);generalize hW:World.drewN _ _=W4;have HI4:Hid (W4.ownsRow B 76 3 (.slice (some ⟨g,0,none⟩) n cap) n (dk.toList.flatMap aT)∧aj (fun b=>b=g) w W4∧dk.size=n):=by rw[←hW];exact⟨ar HI.out.1 (fun _ _=>rfl),HI.out.2.1.more (aZ (ae _ _) _),HI.out.2.2⟩
         have hc4:∀a,W4.cell? a=wr.cell? a:=fun a=>by rw[←hW];rfl
         rw[←hc4] at x0 x1 x2;clear hW hc4 y0 y1 y2;obtain⟨z0,z1,z2⟩:=mF HI4.out.1 HI4.out.2.2 kk hkn;have f0:=HI4.out.1.frozenAt (kk*3);have f1:=HI4.out.1.frozenAt (kk*3+1);have f2:=HI4.out.1.frozenAt (kk*3+2);generalize dk[kk]! =old at z0 z1 z2;have hkI:((kk:Nat):Int)<(n:Int):=by omega
         go_wp2;go_roundg (n-(k+(k2+1)))
         case measure=>omega
         case rel=>exact⟨kk+1,k2+1,dk2,by go_num,by go_num,by omega,by omega,by omega,by omega,HPut.out W4 HI4.out.1 HI4.out.2.1,HC2⟩
      ·have SD:(((k2:Nat):Int)<((n-k:Nat):Int))=False:=by simp;omega
       have hend:k+k2=n:=by omega
       have HE:=fun vs=>LV HN.out (by rw[←hend];exact HC.out) HI.out.1 vs
       have hcl:∀ty,(Builtin.clear_ #[56] ty #[.slice (some ⟨g,kk*3,none⟩) (n-kk) (cap-kk)]).run prog wr=.ok (.tuple #[]) (wr.setCells g (kk*3) (Builtin.zeroCells (Value.agg #[zI 0,zE,zE]).cells (n-kk)).toList):=
        fun ty=>zl wr 56 76 ty (.agg #[zI 0,zE,zE]) underlying56 zeroValue76 (by decide) (by decide) g (kk*3) (n-kk) (cap-kk) (by omega)
         (fun j hj=>by
          have hj2:j<(n-kk)*3:=hj;obtain⟨c0,c1,c2⟩:=mF HI.out.1 HI.out.2.2 (kk+j/3) (by omega);rcases(by omega:kk*3+j=(kk+j/3)*3∨kk*3+j=(kk+j/3)*3+1∨kk*3+j=(kk+j/3)*3+2) with e|e|e
          ·rw[e,c0];rfl
          ·rw[e,c1];rfl
          ·rw[e,c2];rfl)
         (fun j _=>HI.out.1.frozenAt (kk*3+j))
       generalize (Builtin.zeroCells (Value.agg #[zI 0,zE,zE]).cells (n-kk)).toList=vs at hcl
       have HF:Hid (kk=(Lib.compact L).length∧(wr.setCells g (kk*3) vs).ownsRow B 76 3 (.slice (some ⟨g,0,none⟩) (Lib.compact L).length cap) (Lib.compact L).length ((Lib.compact L).flatMap aT)∧aj (fun b=>b=g) w (wr.setCells g (kk*3) vs)):=
        ⟨(HE vs).1,(HE vs).2.1,HI.out.2.1.trans (HE vs).2.2 (fun _ _ e=>e) (fun _ _ e=>e)⟩
       clear HE HI HC;have hkI:((kk:Nat):Int)≤(n:Int):=by omega
       go_wp2;go_ret;exact⟨bW (fun m=>Ending.returned (.slice (some ⟨g,0,none⟩) m cap)) HF.out.1,HF.out.2⟩
    ·have HKp:Hid (∀j,j<k+1→Lib.keeps L.toArray j=true):=fun j hj=>by
      by_cases e:j=k
      ·subst e
       exact Lib.keeps_pos (by simpa using fun e2:L[j]! =L[j-1]! => he (HXY.out.1.symm.trans (e2.trans HXY.out.2)))
      ·exact HK.out j (by omega)
     have HNE:Hid (¬(x.1=y.1∧x.2.1=y.2.1∧x.2.2=y.2.2)):=fun e=>he (fZ e.1 (fZ e.2.1 e.2.2))
     clear he HXY;generalize x.1=p0 at*;generalize x.2.1=p1 at*;generalize x.2.2=p2 at*;generalize y.1=r0 at*;generalize y.2.1=r1 at*;generalize y.2.2=r2 at*;by_cases t0:p0=r0
     ·subst t0
      have q0:((p0:Int)==(p0:Int))=true:=by simp
      by_cases t1:p1=r1
      ·subst t1
       have q1:(p1.toList==p1.toList)=true:=by simp
       have q2:=Rn.dr (fun h:p2=r2=>HNE.out ⟨rfl,rfl,h⟩);clear HNE;go_upto_region 6 with fail;go_quiet (fail);generalize hW:World.drewN _ _=W4;have HW4:Hid (W4.ownsRow B 76 3 (.slice (some ⟨g,0,none⟩) n cap) n (L.flatMap aT)∧aj (fun b=>b=g) w W4):=by rw[←hW];exact⟨ar HW.out.1 (fun _ _=>rfl),HW.out.2.more (aZ (ae _ _) _)⟩
       clear hW;go_wp2;go_roundg (n-(k+1))
       case measure=>omega
       case rel=>exact⟨k+1,by omega,by omega,by omega,by go_num,HW4,HKp⟩
      ·have q1:=Rn.dr t1
       clear HNE t1;go_upto_region 6 with fail;go_quiet (fail);generalize hW:World.drewN _ _=W4;have HW4:Hid (W4.ownsRow B 76 3 (.slice (some ⟨g,0,none⟩) n cap) n (L.flatMap aT)∧aj (fun b=>b=g) w W4):=by rw[←hW];exact⟨ar HW.out.1 (fun _ _=>rfl),HW.out.2.more (aZ (ae _ _) _)⟩
       clear hW;go_wp2;go_roundg (n-(k+1))
       case measure=>omega
       case rel=>exact⟨k+1,by omega,by omega,by omega,by go_num,HW4,HKp⟩
     ·have q0:((p0:Int)==(r0:Int))=false:=by simp;omega
      clear HNE t0;go_upto_region 6 with fail;go_quiet (fail);generalize hW:World.drewN _ _=W4;have HW4:Hid (W4.ownsRow B 76 3 (.slice (some ⟨g,0,none⟩) n cap) n (L.flatMap aT)∧aj (fun b=>b=g) w W4):=by rw[←hW];exact⟨ar HW.out.1 (fun _ _=>rfl),HW.out.2.more (aZ (ae _ _) _)⟩
      clear hW;go_wp2;go_roundg (n-(k+1))
      case measure=>omega
      case rel=>exact⟨k+1,by omega,by omega,by omega,by go_num,HW4,HKp⟩
   ·have gN:(((k:Nat):Int)<(n:Int))=False:=by simp;omega
    obtain rfl:k=n:=by omega
    go_wp2;go_ret;obtain⟨e1,e2⟩:=HS.out wr HW.out.1 HW.out.2 HK.out;exact⟨bW Ending.returned e1,e2⟩
end Pn
namespace Pn
open Mf Ed
variable{w:zW}
def once(L:List Pb):List Pb:=Lib.compact (Ss.aJ (Go.Proofs.ltOf qI) L)
theorem Fv(fv:zV)(w:zW):zC 149 #[zN,fv] w fun e w'=>e=.returned (.tuple #[])∧w'=w:=AnyF.slices_SortFunc_none Tryz.laysSort_p none 0 fv w
theorem DZ(w:zW):zC 151 #[zN] w fun e w'=>e=.returned (zN)∧w'=w:=by
 go_enter func151,ntmps151;go_wp2;go_ret;exact⟨rfl,rfl⟩
theorem BS(B:Nat)(v:zV)(L:List Pb)(w:zW)(hm:Ml w)(hB:0<B)(h:w.ownsRow B 76 3 v L.length (L.flatMap aT))(hl:L.length≤4000000):
  zC 106 #[v] w fun e w'=>∃v',e=.returned v'∧w'.ownsRow B 76 3 v' (once L).length ((once L).flatMap aT)∧aj (fun b=>v.ownBlock=some b) w w':=by
 rcases h.2 with⟨rfl,h0⟩|⟨g,cap,cur,rfl,hBg,_⟩
 ·have e0:L=[]:=List.length_eq_zero_iff.1 h0
  subst e0;have k1:=Fv (.func (.func 150) #[] #[]) w;have k2:=DZ w;have HO:Hid (w.ownsRow B 76 3 (zN) 0 []):=⟨rfl,Or.inl ⟨rfl,rfl⟩⟩;clear h h0 hl;go_enter func106,ntmps106
  go_wp2_with (go_at_call 149;fail)
  go_at_call 149;refine k1.mono ?_;rintro e w1 ⟨rfl,rfl⟩
  go_wp2_with (go_at_call 151;fail)
  go_at_call 151;refine k2.mono ?_;rintro e w2 ⟨rfl,rfl⟩;go_wp2;go_ret;exact⟨_,rfl,HO.out,aj.refl _ _⟩
 ·have k1:=LS B 76 g cap L w hm (by omega) h (by omega)
  have hlen:(Ss.aJ (Go.Proofs.ltOf qI) L).length=L.length:=Ss.df _;have k2:=fun W hW=>DY B g cap (Ss.aJ (Go.Proofs.ltOf qI) L) W hW (by omega)
  rw[hlen] at k2;clear hlen h;generalize L.length=n at*;go_enter func106,ntmps106
  go_wp2_with (go_at_call 149;fail)
  go_at_call 149;refine k1.mono ?_;rintro e w1 ⟨rfl,ho,ht⟩;have HT:Hid (aj (fun b=>b=g) w w1):=ht;have k3:=k2 w1 ho;clear k1 k2 ho ht
  go_wp2_with (go_at_call 151;fail)
  go_at_call 151;refine k3.mono ?_;rintro e w2 ⟨rfl,ho2,ht2⟩
  have HF:Hid (w2.ownsRow B 76 3 (.slice (some ⟨g,0,none⟩) (once L).length cap) (once L).length ((once L).flatMap aT)∧aj (fun b=>(Value.slice (some ⟨g,0,none⟩) n cap).ownBlock=some b) w w2):=
   ⟨ho2,HT.out.trans ht2 (fun _ _ e=>by rw[e];rfl) (fun _ _ e=>by rw[e];rfl)⟩
  clear k3 ho2 ht2;go_wp2;go_ret;exact⟨_,rfl,HF.out.1,HF.out.2⟩
