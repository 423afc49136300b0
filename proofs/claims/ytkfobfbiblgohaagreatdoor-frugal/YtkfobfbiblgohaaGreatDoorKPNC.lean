import Derived.Test.YtkfobfbiblgohaaGreatDoorKPNA
import Derived.Shelf.Spec.SlicesGrow
import Derived.Test.YtkfobfbiblgohaaGreatDoorKPMO
import Derived.Lib.SlicesCompact
set_option linter.all false
open Go.Proofs.Tryz
set_option maxRecDepth 100000
set_option maxHeartbeats 9000000
namespace Go.Proofs.YtkfobfbiblgohaaGreatDoor
open Go.RowKit
namespace Pn
open Mf Ed
variable{A:Nat->Prop}{w:zW}
theorem zJ(v:zV)(L:List Mo)(w:zW)(h:RdA A Sm.mc w v L)(I:L.length<=16777216):
  zC 51 #[v] w fun e w'=>∃F,e=.returned F/\w'.ownsRow w.heap.size 70 2 F L.length (mcs L)/\zB w w':=by
 rcases h with⟨E,G⟩|⟨b,off,c,E,_,O⟩
 ·rw[E,G]
  refine(Sm.nA w).mono ?_;rintro e w' ⟨rfl,rfl⟩;exact⟨_,rfl,ie _ _ _ _,ae _ _⟩
 ·rw[E]
  refine(Sm.nz b off c L w I O).mono ?_;rintro e w' ⟨g,cap,rfl,T,M⟩;exact⟨_,rfl,T,M⟩
def Ra:Go.Shelf.Ren:=⟨fun|41=>54|n=>n,fun|22=>35|23=>9|4=>4|n=>n,fun|n=>n⟩
theorem G1:Go.Proofs.SlLaysE0.n41 prog Ra:={
 mixed:=by kernel_rfl
 f41:=⟨f54.name,by decide,func54.trans (bz some (by kernel_rfl))⟩
 t4:=underlying4
 a4:=isAgg4
 z4:=sizeOf4
 v4:=zeroValue4
 t22:=underlying35
 a22:=isAgg35
 z22:=sizeOf35
 v22:=zeroValue35}
theorem qI(v:zV)(L:List zA)(w:zW)(h:RdA A gf w v L)(hL:L.length<=16777216):
  zC 54 #[v] w fun e w'=>∃E,e=.returned E/\w'.ownsRow w.heap.size 9 1 E L.length (L.flatMap gf)/\zB w w':=by
 rcases h with⟨F,U⟩|⟨b,off,c,F,_,Y⟩
 ·rw[F,U]
  refine(AnyE.slices_Clone_nil G1 0 0 w).mono ?_;rintro e w' ⟨rfl,rfl⟩;exact⟨_,rfl,ie _ _ _ _,ae _ _⟩
 ·rw[F]
  obtain⟨i0,I,M,O,T⟩:=Bm.gu 9 (zE) 1 16 (by kernel_rfl);refine(AnyE.slices_Clone G1 i0 _ 1 16 I M O T rfl (by decide) sizeOf9 b off L.length c (L.flatMap gf) w (Ss.fe (enc:=gf) (k:=1) (fun _=>rfl) L) (by unfold maxLen;omega) (by omega) Y (fun u hu=>?_)).mono ?_
  ·obtain⟨x,_,G⟩:=List.mem_flatMap.1 hu
   simp[gf] at G;rw[G];rfl
  ·rintro e w' ⟨E,rfl,ho,_,V⟩
   exact⟨E,rfl,ho,V⟩
def Rb:Go.Shelf.Ren:=⟨fun|4=>68|n=>n,fun|22=>34|25=>95|20=>20|n=>n,fun|n=>n⟩
theorem G2:Go.Proofs.Lays8.n4 prog Rb:={
 mixed:=by kernel_rfl
 f4:=⟨f68.name,by decide,func68.trans (bz some (by kernel_rfl))⟩
 t0:=underlying0
 a0:=isAgg0
 z0:=sizeOf0
 v0:=zeroValue0
 t3:=underlying3
 a3:=isAgg3
 z3:=sizeOf3
 v3:=zeroValue3
 t4:=underlying4
 a4:=isAgg4
 z4:=sizeOf4
 v4:=zeroValue4
 t9:=underlying9
 a9:=isAgg9
 z9:=sizeOf9
 v9:=zeroValue9
 t20:=underlying20
 a20:=isAgg20
 z20:=sizeOf20
 v20:=zeroValue20
 t22:=underlying34
 a22:=isAgg34
 z22:=sizeOf34
 v22:=zeroValue34}
theorem Eu(n:Nat)(w:zW)(V:n<=3000000000000):zC 68 #[zN,zI (n:Nat)] w fun e w'=>∃v,e=.returned v/\w'.ownsRow w.heap.size 95 3 v 0 []/\zB w w':=by
 by_cases I:n=0
 ·subst I
  refine(Any8.slices_Grow_room G2 none 0 0 0 w (ah _) (by omega) (by omega) (by omega)).mono ?_;rintro e w' ⟨rfl,rfl⟩;exact⟨_,rfl,ie _ _ _ _,ae _ _⟩
 ·obtain⟨T,E,F,U,G⟩:=Bm.gu 95 (.agg #[zI 0,zE,zE]) 3 40 (by kernel_rfl)
  refine(Any8.slices_Grow_grow G2 T _ E F (by omega) none 0 0 n [] w (ah _) (by omega) (by rw[G];omega) (by omega) (by simp) (fun _=>rfl) (fun a e=>by cases e)).mono ?_;rintro e w' ⟨rfl,rfl⟩;refine⟨_,rfl,?_,?_⟩
  ·have M:=grownCap_ge w (0+n) 0 95
   refine World.ownsRow_made w.drew _ (grownCap w (0+n) 0 95) (ah _) (grownCap_le_maxLen w _ _ _ (by unfold maxLen;omega)) ?_;have O:(Value.agg #[zI 0,zE,zE]).cells.size=3:=rfl;show([].toArray++Builtin.zeroCells _ (0+n-0)++Builtin.zeroCells _ (grownCap w (0+n) 0 95-(0+n))).size=_;rw[Array.size_append,Array.size_append,size_zeroCells,size_zeroCells,O];show 0+(0+n-0)*3+_=_;omega
  ·exact((ae _ _).drew).alloc (ah _) _
end Pn
namespace Pn
open Mf Ed
variable{A:Nat->Prop}{w:zW}
theorem dO{α:Type}{enc:α->List zV}{P:Program}(w:zW){U:Array Oper}{G:List Oper}{o:Oper}{a:Act}{Q:Exit->Act->zW->Prop}(T:o.guard=none)(s x:Operand)(t:TypeId)
  (ho:o.op=.call {callee:=.builtin .append,args:=#[s,x],argTypes:=#[t,t]})
  (base:Nat) (e:TypeId) (i:TypeInfo) (z:zV) (size bytes:Nat) (ht:P.underlying t=some (.slice e)) (hi:P.info? e=some i) (hz:i.zero=some z)
  (M:i.size=size) (a0:i.bytes=bytes) (a3:z.cells.size=size) (a2:0<size)
  (v:zV) (n:Nat) (xs:List zV) (hs:a.eval s=v) (E:w.ownsRow base e size v n xs)
  (xv:zV) (L:List α) (hx:a.eval x=xv) (a1:RdA A enc w xv L) (hl:∀y,(enc y).length=size) (h1:∀y,∀u∈enc y,u.oneCell'=true)
  (Y:n+L.length<=maxLen) (F:(n+L.length)*bytes<=140737488355328) (I:base<=w.heap.size)
  (h:∀O w',w'.ownsRow base e size O (n+L.length) (xs++L.flatMap enc)->w.grownBy w' v.ownBlock->(O.ownBlock=v.ownBlock\/O.ownBlock=some w.heap.size)->wpList P U Q G (a.put o.dst O) w'):
  wpList P U Q (o::G) a w:=by
 rcases a1 with⟨V,e2⟩|⟨b,off,c,V,_,hc⟩
 ·refine wpList_append_own_none T s x t ho base e i size ht hi v n xs hs E (by rw[hx,V]) (h v w ?_ ⟨rfl,rfl,rfl,ah _,fun _ _ _=>rfl⟩ (oE rfl))
  rw[e2];simpa using E
 ·refine dG w T s x t ho base e i z size bytes ht hi hz M a0 a3 a2 v n xs hs E (tD b off) L.length c (L.flatMap enc) (by rw[hx,V]) (Ss.fe hl L) (fun j u hj=>by rw[addr_add];exact hc j u hj) (fun u hu=>?_) Y F I (fun O w' g1 g2 _ g3=>h O w' g1 g2 g3)
  obtain⟨y,_,hy⟩:=List.mem_flatMap.1 hu;exact h1 y u hy
def jL(E F:List Pb)(i:Nat):List Pb:=if i=0 then [] else if i=1 then E else E++F
theorem FX(b:Nat)(v1 v2:zV)(E F:List Pb)(w:zW)(hb:w.heap[b]?=some (.cells #[v1,v2] 34))(h1:RdA A aW w v1 E)(h2:RdA A aW w v2 F)(hl:E.length<=1000000/\F.length<=1000000):
  zC 53 #[.slice (some (tD b 0)) 2 2] w fun e w'=>∃v,e=.returned v/\w'.ownsRow w.heap.size 95 3 v (E++F).length ((E++F).flatMap aW)/\zB w w':=by
 obtain⟨i3,aa,ab,ad,ak⟩:=Bm.gu 95 (.agg #[zI 0,zE,zE]) 3 40 (by kernel_rfl);have HJ:Hid (prog.info? 95=some i3/\i3.zero=some (.agg #[zI 0,zE,zE])/\i3.size=3/\i3.bytes=40):=⟨aa,ab,ad,ak⟩;clear aa ab ad ak;obtain⟨a1,c1,e1⟩:=h1.len;obtain⟨a2,c2,e2⟩:=h2.len;subst e1;subst e2;have HR:Hid (RdA A aW w (.slice a1 E.length c1) E/\RdA A aW w (.slice a2 F.length c2) F/\w.heap[b]?=some (.cells #[.slice a1 E.length c1,.slice a2 F.length c2] 34)):=⟨h1,h2,hb⟩;obtain⟨⟨d0,_⟩,⟨d1,_⟩⟩:=fd2 hb;have a9:=af hb;clear h1 h2 hb;obtain⟨PX,a7⟩:∃PX,PX=E.flatMap aW:=⟨_,rfl⟩;have b0:Hid (PX=E.flatMap aW):=a7;clear a7;generalize a4:E.length=n1 at*;generalize a5:F.length=n2 at*;have HN:Hid (E.length=n1/\F.length=n2):=⟨a4,a5⟩
 have Vb:Hid ((E++F).length=n1+n2):=by
  show(E++F).length=n1+n2;rw[aU,a4,a5]
 clear a4 a5;have kg:=Eu (n1+n2) w (by omega);go_enter func53,ntmps53;go_wp2;go_loopg [3,11] 2 (fun gg s3 av wr=>∃i:Nat,i<=2/\2-i<=gg/\s3=zI ((if i=0 then 0 else if i=1 then n1 else n1+n2:Nat):Int)/\av=zI i/\w=wr)
 case atStart=>exact⟨0,by omega,by omega,rfl,rfl,rfl⟩
 case round=>
  obtain⟨i,hi,hg,h3,rfl,rfl⟩:=hrel;rcases(by omega:i=0\/i=1\/i=2) with rfl|rfl|rfl
  ·rw[h3,aj rfl]
   clear h3;go_wp2;go_roundg 1
   case measure=>omega
   case rel=>exact⟨1,by omega,by omega,by simp,rfl,rfl⟩
  ·rw[h3,ag (by decide),aj rfl]
   clear h3;go_wp2;go_roundg 0
   case measure=>omega
   case rel=>exact⟨2,by omega,by omega,by go_num,rfl,rfl⟩
  ·rw[h3,ag (by decide),ag (by decide)]
   clear h3
   go_wp2_with (go_at_call 68;fail)
   go_at_call 68;refine kg.mono ?_;rintro e w1 ⟨v,rfl,ho,a8⟩;have a6:Hid (w1.ownsRow w.heap.size 95 3 v (jL E F 0).length ((jL E F 0).flatMap aW)/\zB w w1):=⟨ho,a8⟩;clear ho a8 kg d0 d1;go_wp2;go_loopg [6,27] 2 (fun gg s6 az wr=>∃(i:Nat)(rv:zV),i<=2/\2-i<=gg/\rv=s6/\az=zI i/\Hid (wr.ownsRow w.heap.size 95 3 rv (jL E F i).length ((jL E F i).flatMap aW)/\zB w wr))
   case atStart=>exact⟨0,v,by omega,by omega,rfl,rfl,a6⟩
   case round=>
    obtain⟨i,rv,hi,hg,aq,rfl,HV⟩:=hrel;subst aq;clear a6;rcases(by omega:i=0\/i=1\/i=2) with rfl|rfl|rfl
    ·have T:Hid (wr.ownsRow w.heap.size 95 3 rv ([]:List Pb).length (([]:List Pb).flatMap aW)/\zB w wr):=HV.out
     obtain⟨ra,rc,er⟩:=aC T.out.1;subst er;obtain⟨U,M⟩:∃U,U=([]:List Pb).flatMap aW:=⟨_,rfl⟩;have HX:Hid (U=([]:List Pb).flatMap aW):=M;have HO:Hid (wr.ownsRow w.heap.size 95 3 (.slice ra ([]:List Pb).length rc) ([]:List Pb).length U):=by rw[M];exact T.out.1
     have an:([]:List Pb).length<=1000000:=by exact aJ _
     have V:Hid (E.length=n1):=HN.out.1;generalize Y:([]:List Pb).length=O at*;have a0:Hid (([]:List Pb).length=O):=Y;clear Y;clear M HV;obtain⟨⟨d0,_⟩,⟨d1,_⟩⟩:=fd2 ((T.out.2.block b a9).trans HR.out.2.2);have au:=T.out.2.size
     go_wp2_with (at_builtin;refine dO (A:=A) (enc:=aW) _ rfl _ _ 34 rfl w.heap.size 95 i3 (.agg #[zI 0,zE,zE]) 3 40 underlying34 HJ.out.1 HJ.out.2.1 HJ.out.2.2.1 HJ.out.2.2.2 rfl (by decide) (.slice ra O rc) O U rfl HO.out (.slice a1 n1 c1) E rfl (HR.out.1.below T.out.2) (fun _=>rfl) yN ?_ ?_ ?_ ?_)
     all_goals first
      |(show O+E.length<=maxLen;rw[V.out];unfold maxLen;omega)
      |(show(O+E.length)*40<=140737488355328;rw[V.out];omega)
      |(show w.heap.size<=wr.heap.size;omega)
      |skip
     intro v9 w9 I G _
     have a3:Hid (w9.ownsRow w.heap.size 95 3 v9 (jL E F 1).length ((jL E F 1).flatMap aW)/\zB w w9):=by
      have hT:ai (fun bb=>(Value.slice ra O rc).ownBlock=some bb) wr w9:=(ai.refl _ _).grown G (fun bb _ e=>e);refine⟨?_,bw T.out.2 hT (fun bb e=>(HO.out.lt bb e).1)⟩;have e1:(jL E F 1).length=O+E.length:=by rw[<-a0.out];simp[jL]
      rw[e1,show(jL E F 1).flatMap aW=U++E.flatMap aW by rw[HX.out];simp[jL]];exact I
     clear I G d0 d1;go_wp2;go_roundg 1
     case measure=>omega
     case rel=>exact⟨1,v9,by omega,by omega,rfl,rfl,a3⟩
    ·have T:Hid (wr.ownsRow w.heap.size 95 3 rv (E:List Pb).length ((E:List Pb).flatMap aW)/\zB w wr):=HV.out
     obtain⟨ra,rc,er⟩:=aC T.out.1;subst er;obtain⟨U,M⟩:∃U,U=(E:List Pb).flatMap aW:=⟨_,rfl⟩;have HX:Hid (U=(E:List Pb).flatMap aW):=M;have HO:Hid (wr.ownsRow w.heap.size 95 3 (.slice ra (E:List Pb).length rc) (E:List Pb).length U):=by rw[M];exact T.out.1
     have an:(E:List Pb).length<=1000000:=by rw[HN.out.1];exact hl.1
     have V:Hid (F.length=n2):=HN.out.2;generalize Y:(E:List Pb).length=O at*;have a0:Hid ((E:List Pb).length=O):=Y;clear Y;clear M HV;obtain⟨⟨d0,_⟩,⟨d1,_⟩⟩:=fd2 ((T.out.2.block b a9).trans HR.out.2.2);have au:=T.out.2.size
     go_wp2_with (at_builtin;refine dO (A:=A) (enc:=aW) _ rfl _ _ 34 rfl w.heap.size 95 i3 (.agg #[zI 0,zE,zE]) 3 40 underlying34 HJ.out.1 HJ.out.2.1 HJ.out.2.2.1 HJ.out.2.2.2 rfl (by decide) (.slice ra O rc) O U rfl HO.out (.slice a2 n2 c2) F rfl (HR.out.2.1.below T.out.2) (fun _=>rfl) yN ?_ ?_ ?_ ?_)
     all_goals first
      |(show O+F.length<=maxLen;rw[V.out];unfold maxLen;omega)
      |(show(O+F.length)*40<=140737488355328;rw[V.out];omega)
      |(show w.heap.size<=wr.heap.size;omega)
      |skip
     intro v9 w9 I G _
     have a3:Hid (w9.ownsRow w.heap.size 95 3 v9 (jL E F 2).length ((jL E F 2).flatMap aW)/\zB w w9):=by
      have hT:ai (fun bb=>(Value.slice ra O rc).ownBlock=some bb) wr w9:=(ai.refl _ _).grown G (fun bb _ e=>e);refine⟨?_,bw T.out.2 hT (fun bb e=>(HO.out.lt bb e).1)⟩;have e1:(jL E F 2).length=O+F.length:=by rw[<-a0.out];simp[jL]
      rw[e1,show(jL E F 2).flatMap aW=U++F.flatMap aW by rw[HX.out];simp[jL]];exact I
     clear I G d0 d1;go_wp2;go_roundg 0
     case measure=>omega
     case rel=>exact⟨2,v9,by omega,by omega,rfl,rfl,a3⟩
    ·have HF:Hid (wr.ownsRow w.heap.size 95 3 rv (E++F).length ((E++F).flatMap aW)/\zB w wr):=HV.out
     go_wp2;go_ret;exact⟨_,rfl,HF.out.1,HF.out.2⟩
end Pn
namespace Pn
open Mf Ed
variable{w:zW}
theorem tO{B g n cap:Nat}{e:TypeId}{s:Nat}:∀(E:List zV)(o:Nat)(w:zW)(xs:List zV),w.ownsRow B e s (.slice (some (tD g 0)) n cap) n xs->
  ∃F,(w.setCells g o E).ownsRow B e s (.slice (some (tD g 0)) n cap) n F/\F.take o=xs.take o/\ai (fun b=>b=g) w (w.setCells g o E)
 |[],_,w,xs,h=>⟨xs,h,rfl,ai.refl _ _⟩
 |v::E,o,w,xs,h=>by
  obtain⟨F,I,M,O⟩:=tO E (o+1) (w.setCell (tD g o) v) (xs.set o v) (h.stored o v).1;refine⟨F,I,?_,ai.trans ((ai.refl (fun b=>b=g) w).set (a:=(tD g o)) (fun _=>rfl) v) O (fun _ _ e=>e) (fun _ _ e=>e)⟩;have G:=bz (List.take o) M;rw[List.take_take,List.take_take,Nat.min_eq_left (cE o)] at G;rw[G,List.take_set_of_le (ah o)]
theorem OM{B g n cap:Nat}{e:TypeId}{s:Nat}{xs:List zV}(h:w.ownsRow B e s (.slice (some (tD g 0)) n cap) n xs){k:Nat}(U:k<=n):w.ownsRow B e s (.slice (some (tD g 0)) k cap) k (xs.take (k*s)):=by
 rcases h.2 with⟨F,_⟩|⟨g',T,G,F,Y,hg,O,I,M,V⟩
 ·simp at F
 ·simp only[Value.slice.injEq,qV,Addr.mk.injEq,fE,true_and] at F
  obtain⟨rfl,rfl⟩:=F;have E:k*s<=n*s:=eA s U;refine⟨by rw[qN,h.1];exact Nat.min_eq_left E,.inr ⟨g,cap,G,rfl,Y,hg,aN U O,I,M,?_⟩⟩;rw[<-V,List.take_take,Nat.min_eq_left E]
theorem zK{P:Program}(w:zW)(t e ty:TypeId)(z:zV)(U:P.underlying t=some (.slice e))(V:∀w,(zeroValue e).run P w=.ok z w)(M:∀v∈z.cells,v.oneCell'=true)(Y:0<z.cells.size)(b o n c:Nat)(hn:0<n)
  (O:∀j,j<n*z.cells.size->(w.cell? (tD b (o+j))).isSome=true) (T:∀j,j<n*z.cells.size->w.frozen? (tD b (o+j))=false):
  (Builtin.clear_ #[t] ty #[.slice (some (tD b o)) n c]).run P w=.ok (.tuple #[]) (w.setCells b o (Builtin.zeroCells z.cells n).toList):=by
 have E:(Builtin.zeroCells z.cells n).toList.length=n*z.cells.size:=by simp[Builtin.zeroCells]
 have G:=run_storeCells_cells (P:=P) b o (Builtin.zeroCells z.cells n).toList 0 w (by rw[E];simpa using O) (by rw[E];simpa using T) (by
  intro v I;simp only[Builtin.zeroCells,Array.toList_map,aO] at I;obtain⟨i,_,rfl⟩:=I;have F:i%z.cells.size<z.cells.size:=Nat.mod_lt _ Y;rw[bS z.cells _ F];exact M _ (Array.getElem_mem F))
 simp only[Nat.add_zero] at G;obtain⟨m,rfl⟩:∃m,n=m+1:=⟨n-1,by omega⟩;simp[Builtin.clear_,run_underlying U,V,G]
end Pn
namespace Pn
open Mf Ed
variable{w:zW}
instance:Inhabited Pb:=⟨(0,⟨#[]⟩,⟨#[]⟩)⟩
theorem Ci{B g cap:Nat}{D:List Pb}(h:w.ownsRow B 95 3 (.slice (some (tD g 0)) D.length cap) D.length (D.flatMap aW))(j:Nat)(G:j<D.length):
  w.cell? (tD g (j*3))=some (zI D[j]!.1)/\w.cell? (tD g (j*3+1))=some (tS D[j]!.2.1)/\w.cell? (tD g (j*3+2))=some (tS D[j]!.2.2):=by
 have I:RdA (fun _=>False) aW w (.slice (some (tD g 0)) D.length cap) D:=RdA.own h rfl (fun _=>rfl) (fun _ e=>e.elim);obtain⟨b,o,c,F,E⟩:=RdA.at (A:=fun _=>False) (L:=D) I (s:=3) (fun _=>rfl) (by decide) (ae _ _) j G;simp only[Value.slice.injEq,qV,Addr.mk.injEq,fE,true_and] at F;obtain⟨⟨rfl,rfl⟩,_⟩:=F;rw[bS D j G];refine⟨?_,?_,?_⟩
 ·have:=E 0 _ rfl;simpa using this
 ·have:=E 1 _ rfl;simpa using this
 ·have:=E 2 _ rfl;simpa using this
theorem MJ{B g n cap:Nat}{e:TypeId}{s:Nat}{xs:List zV}(h:w.ownsRow B e s (.slice (some (tD g 0)) n cap) n xs):n<=cap/\cap<=9223372036854775807:=by
 rcases h.2 with⟨E,_⟩|⟨U,I,M,E,V,Y,G,F,O,T⟩
 ·simp at E
 ·simp only[Value.slice.injEq,qV,Addr.mk.injEq,fE,true_and] at E
  obtain⟨rfl,rfl⟩:=E;exact⟨G,by unfold maxLen at F;omega⟩
theorem AO:∀(D:List Pb)(j:Nat)(p:Pb),j<D.length->(((D.flatMap aW).set (j*3) (zI p.1)).set (j*3+1) (tS p.2.1)).set (j*3+2) (tS p.2.2)=(D.set j p).flatMap aW
 |[],j,p,h=>by simp at h
 |d::D,0,p,_=>rfl
 |d::D,j+1,p,h=>by
  have F:=AO D j p (by simpa using h);have e:(d::D).flatMap aW=zI d.1::tS d.2.1::tS d.2.2::D.flatMap aW:=rfl;have E:((d::D).set (j+1) p).flatMap aW=zI d.1::tS d.2.1::tS d.2.2::(D.set j p).flatMap aW:=rfl;rw[e,E,<-F,show(j+1)*3=j*3+3 by omega,show j*3+3+1=(j*3+1)+3 by omega,show j*3+3+2=(j*3+2)+3 by omega]
  rfl
theorem yR:∀(D:List Pb)(k:Nat),(D.flatMap aW).take (k*3)=(D.take k).flatMap aW
 |[],k=>by simp
 |d::D,0=>by simp
 |d::D,k+1=>by
  have F:=yR D k;have e:(d::D).flatMap aW=zI d.1::tS d.2.1::tS d.2.2::D.flatMap aW:=rfl;have E:((d::D).take (k+1)).flatMap aW=zI d.1::tS d.2.1::tS d.2.2::(D.take k).flatMap aW:=rfl;rw[e,E,show(k+1)*3=k*3+1+1+1 by omega,List.take_succ_cons,List.take_succ_cons,List.take_succ_cons,F]
theorem Ev{B g n cap:Nat}{d:Array Pb}(h:w.ownsRow B 95 3 (.slice (some (tD g 0)) n cap) n (d.toList.flatMap aW))(hd:d.size=n)(j:Nat)(F:j<n)(p:Pb):
  (((w.setCell (tD g (j*3)) (zI p.1)).setCell (tD g (j*3+1)) (tS p.2.1)).setCell (tD g (j*3+2)) (tS p.2.2)).ownsRow B 95 3 (.slice (some (tD g 0)) n cap) n ((d.setIfInBounds j p).toList.flatMap aW)/\ai (fun b=>b=g) w (((w.setCell (tD g (j*3)) (zI p.1)).setCell (tD g (j*3+1)) (tS p.2.1)).setCell (tD g (j*3+2)) (tS p.2.2)):=by
 have E:=(((h.stored (j*3) (zI p.1)).1.stored (j*3+1) (tS p.2.1)).1.stored (j*3+2) (tS p.2.2)).1;rw[AO _ _ _ (by simpa[hd] using F)] at E;refine⟨by rw[Array.toList_setIfInBounds];exact E,(((ai.refl (fun b=>b=g) w).set (a:=(tD g (j*3))) (fun _=>rfl) _).set (a:=(tD g (j*3+1))) (fun _=>rfl) _).set (a:=(tD g (j*3+2))) (fun _=>rfl) _⟩
theorem mE{B g n cap:Nat}{d:Array Pb}(h:w.ownsRow B 95 3 (.slice (some (tD g 0)) n cap) n (d.toList.flatMap aW))(hd:d.size=n)(j:Nat)(F:j<n):
  w.cell? (tD g (j*3))=some (zI d[j]!.1)/\w.cell? (tD g (j*3+1))=some (tS d[j]!.2.1)/\w.cell? (tD g (j*3+2))=some (tS d[j]!.2.2):=by
 have E:d.toList.length=n:=by simpa using hd
 have:=Ci (by rw[E];exact h:w.ownsRow B 95 3 (.slice (some (tD g 0)) d.toList.length cap) d.toList.length (d.toList.flatMap aW)) j (by omega);have e:d.toList[j]! =d[j]!:=by rw[bS d.toList j (by omega),bS d j (by omega)];simp
 rw[e] at this;exact this
theorem JM{L:List Pb}{F:Nat}{E:Array Pb}(h:Lib.CompInv L.toArray L.length F E):E.toList.take F=Lib.compact L:=by
 have M:E.size=L.length:=by simpa using h.size
 have I:=h.lt;apply mK;intro j;unfold Lib.compact;by_cases G:j<F
 ·rw[h.low j G,List.getElem?_take_of_lt G]
  have:j<E.size:=by omega
  simp[this]
 ·rw[iA (by simp;omega),iA (by rw[h.len];omega)]
theorem MK{B g n cap E:Nat}{L:List Pb}{G:Array Pb}(V:n=L.length)(h:Lib.CompInv L.toArray n E G)(Y:w.ownsRow B 95 3 (.slice (some (tD g 0)) n cap) n (G.toList.flatMap aW))(F:List zV):
  E=(Lib.compact L).length/\(w.setCells g (E*3) F).ownsRow B 95 3 (.slice (some (tD g 0)) (Lib.compact L).length cap) (Lib.compact L).length ((Lib.compact L).flatMap aW)/\ai (fun b=>b=g) w (w.setCells g (E*3) F):=by
 subst V;have M:(Lib.compact L).length=E:=h.len;obtain⟨ys,O,T,U⟩:=tO F (E*3) w _ Y;have I:=OM O (Nat.le_of_lt h.lt);rw[T,yR,JM h] at I;exact⟨M.symm,by rw[M];exact I,U⟩
theorem Ew(B g cap:Nat)(L:List Pb)(w:zW)(h:w.ownsRow B 95 3 (.slice (some (tD g 0)) L.length cap) L.length (L.flatMap aW))(hl:L.length<=4000000):
  zC 67 #[.slice (some (tD g 0)) L.length cap] w fun e w'=>e=.returned (.slice (some (tD g 0)) (Lib.compact L).length cap)/\w'.ownsRow B 95 3 (.slice (some (tD g 0)) (Lib.compact L).length cap) (Lib.compact L).length ((Lib.compact L).flatMap aW)/\ai (fun b=>b=g) w w':=by
 have H0:Hid (w.ownsRow B 95 3 (.slice (some (tD g 0)) L.length cap) L.length (L.flatMap aW)):=h;obtain⟨n,hn⟩:∃n,n=L.length:=⟨_,rfl⟩;have HN:Hid (n=L.length):=hn;rw[<-hn] at hl ⊢
 have HS:Hid (∀W,W.ownsRow B 95 3 (.slice (some (tD g 0)) n cap) n (L.flatMap aW)->ai (fun b=>b=g) w W->(∀j,j<n->Lib.keeps L.toArray j=true)->(Value.slice (some (tD g 0)) n cap=.slice (some (tD g 0)) (Lib.compact L).length cap)/\W.ownsRow B 95 3 (.slice (some (tD g 0)) (Lib.compact L).length cap) (Lib.compact L).length ((Lib.compact L).flatMap aW)/\ai (fun b=>b=g) w W):=fun W h1 h2 h3=>by
  rw[Lib.compact_all L (by rw[<-hn];exact h3),<-hn];exact⟨rfl,h1,h2⟩
 have a3:Hid (w.ownsRow B 95 3 (.slice (some (tD g 0)) n cap) n (L.flatMap aW)/\ai (fun b=>b=g) w w):=by rw[hn];exact⟨h,ai.refl _ _⟩
 obtain⟨az,ab⟩:=MJ a3.out.1;clear h hn;by_cases h2:n<2
 ·go_enter func67,ntmps67
  go_wp2;go_ret;obtain⟨e1,e2⟩:=HS.out w a3.out.1 a3.out.2 (fun j hj=>Lib.keeps_lt_one _ j (by omega));exact⟨bz Ending.returned e1,e2⟩
 ·go_enter func67,ntmps67
  go_wp2;go_loopg [3] n (fun gg s3 wr=>∃k:Nat,1<=k/\k<=n/\n-k<=gg/\s3=zI k/\Hid (wr.ownsRow B 95 3 (.slice (some (tD g 0)) n cap) n (L.flatMap aW)/\ai (fun b=>b=g) w wr)/\Hid (∀j,j<k->Lib.keeps L.toArray j=true))
  case atStart=>exact⟨1,by omega,by omega,by omega,rfl,a3,Lib.keeps_lt_one _⟩
  case round=>
   obtain⟨k,an,hk,hg,rfl,HW,HK⟩:=hrel;clear a3;by_cases av:k<n
   ·have gO:((k:Nat):Int)<(n:Int):=by omega
    obtain⟨x0,x1,x2⟩:=Ci (by rw[<-HN.out];exact HW.out.1:wr.ownsRow B 95 3 (.slice (some (tD g 0)) L.length cap) L.length (L.flatMap aW)) k (by have:=HN.out;omega);obtain⟨y0,y1,y2⟩:=Ci (by rw[<-HN.out];exact HW.out.1:wr.ownsRow B 95 3 (.slice (some (tD g 0)) L.length cap) L.length (L.flatMap aW)) (k-1) (by have:=HN.out;omega);generalize hx:L[k]! =x at x0 x1 x2;generalize hy:L[k-1]! =y at y0 y1 y2;have I:Hid (L[k]! =x/\L[k-1]! =y):=⟨hx,hy⟩;clear hx hy;by_cases he:x=y
    ·subst he
     generalize x.1=p0 at*;generalize x.2.1=p1 at*;generalize x.2.2=p2 at*;have q0:(p0==p0)=true:=by simp
     have q1:(p1.toList==p1.toList)=true:=by simp
     have q2:(p2.toList==p2.toList)=true:=by simp
     go_upto_region 6 with fail;go_quiet (fail);generalize O:World.drewN _ _=M;have Y:Hid (M.ownsRow B 95 3 (.slice (some (tD g 0)) n cap) n (L.flatMap aW)/\ai (fun b=>b=g) w M):=by rw[<-O];exact⟨ar HW.out.1 (fun _ _=>rfl),HW.out.2.more (aV (ae _ _) _)⟩
     have a8:Hid (Lib.keeps L.toArray k=false):=Lib.keeps_neg (by omega) (by simpa using I.out.1.trans I.out.2.symm);clear O HW x0 x1 x2 y0 y1 y2 q0 q1 q2 I;go_wp2;clear gO;go_loopg [3,5] n (fun gg s3 s5 wr=>∃(E G:Nat)(U:Array Pb),s3=zI E/\s5=zI G/\1<=G/\k+G<=n/\n-(k+G)<=gg/\E<k+G/\Hid (wr.ownsRow B 95 3 (.slice (some (tD g 0)) n cap) n (U.toList.flatMap aW)/\ai (fun b=>b=g) w wr/\U.size=n)/\Hid (Lib.CompInv L.toArray (k+G) E U))
     case atStart=>exact⟨k,1,L.toArray,rfl,rfl,by omega,by omega,by omega,by omega,⟨Y.out.1,Y.out.2,HN.out.symm⟩,Lib.CompInv.start HK.out a8.out⟩
     case round=>
      obtain⟨E,G,U,rfl,rfl,h1,au,ad,aq,T,HC⟩:=hrel;clear Y a8 HK;by_cases sH:k+G<n
      ·have Uj:((G:Nat):Int)<((n-k:Nat):Int):=by omega
       obtain⟨x0,x1,x2⟩:=mE T.out.1 T.out.2.2 (k+G) sH;obtain⟨y0,y1,y2⟩:=mE T.out.1 T.out.2.2 (k+G-1) (by omega);rw[HC.out.high (k+G) (by omega),show(k+G)*3=k*3+G*3 by omega] at x0 x1 x2;rw[HC.out.high (k+G-1) (by omega),show(k+G-1)*3=k*3+(G-1)*3 by omega] at y0 y1 y2;generalize hx:L.toArray[k+G]! =x at x0 x1 x2;generalize hy:L.toArray[k+G-1]! =y at y0 y1 y2;have I:Hid (L.toArray[k+G]! =x/\L.toArray[k+G-1]! =y):=⟨hx,hy⟩;clear hx hy;by_cases he:x=y
       ·subst he
        have a1:Hid (Lib.CompInv L.toArray (k+(G+1)) E U):=HC.out.skip (Lib.keeps_neg (by omega) (by rw[I.out.1,I.out.2]));clear I HC;generalize x.1=p0 at*;generalize x.2.1=p1 at*;generalize x.2.2=p2 at*;have q0:((p0:Int)==(p0:Int))=true:=by simp
        have q1:(p1.toList==p1.toList)=true:=by simp
        have q2:(p2.toList==p2.toList)=true:=by simp
        go_upto_region 11 with fail;go_quiet (fail);generalize O:World.drewN _ _=M;have F:Hid (M.ownsRow B 95 3 (.slice (some (tD g 0)) n cap) n (U.toList.flatMap aW)/\ai (fun b=>b=g) w M/\U.size=n):=by rw[<-O];exact⟨ar T.out.1 (fun _ _=>rfl),T.out.2.1.more (aV (ae _ _) _),T.out.2.2⟩
        clear O;go_wp2;go_roundg (n-(k+(G+1)))
        case measure=>omega
        case rel=>exact⟨E,G+1,U,rfl,by go_num,by omega,by omega,by omega,by omega,F,a1⟩
       ·have a1:Hid (Lib.CompInv L.toArray (k+(G+1)) (E+1) (U.setIfInBounds E x)):=by
         have h9:=HC.out.keep (by have:=HN.out;simp;omega) (Lib.keeps_pos (by rw[I.out.1,I.out.2];exact he));rw[I.out.1] at h9;exact h9
        have V:Hid (¬(x.1=y.1/\x.2.1=y.2.1/\x.2.2=y.2.2)):=fun e=>he (eB e.1 (eB e.2.1 e.2.2))
        have a4:E<n:=by omega
        have a2:Hid (∀W:zW,W.ownsRow B 95 3 (.slice (some (tD g 0)) n cap) n (U.toList.flatMap aW)->ai (fun b=>b=g) w W->(((W.setCell (tD g (E*3)) (zI x.1)).setCell (tD g (E*3+1)) (tS x.2.1)).setCell (tD g (E*3+2)) (tS x.2.2)).ownsRow B 95 3 (.slice (some (tD g 0)) n cap) n ((U.setIfInBounds E x).toList.flatMap aW)/\ai (fun b=>b=g) w (((W.setCell (tD g (E*3)) (zI x.1)).setCell (tD g (E*3+1)) (tS x.2.1)).setCell (tD g (E*3+2)) (tS x.2.2))/\(U.setIfInBounds E x).size=n):=fun W g1 g2=>
         ⟨(Ev g1 T.out.2.2 E a4 x).1,g2.trans (Ev g1 T.out.2.2 E a4 x).2 (fun _ _ e=>e) (fun _ _ e=>e),by simpa using T.out.2.2⟩
        generalize U.setIfInBounds E x=a6 at*;clear he I HC;generalize x.1=p0 at*;generalize x.2.1=p1 at*;generalize x.2.2=p2 at*;generalize y.1=r0 at*;generalize y.2.1=r1 at*;generalize y.2.2=r2 at*;by_cases t0:p0=r0
        ·subst t0
         have q0:((p0:Int)==(p0:Int))=true:=by simp
         by_cases t1:p1=r1
         ·subst t1
          have q1:(p1.toList==p1.toList)=true:=by simp
          have q2:=Rn.dm (fun h:p2=r2=>V.out ⟨rfl,rfl,h⟩);clear V;go_upto_region 11 with fail;go_quiet (fail);generalize O:World.drewN _ _=M;have F:Hid (M.ownsRow B 95 3 (.slice (some (tD g 0)) n cap) n (U.toList.flatMap aW)/\ai (fun b=>b=g) w M/\U.size=n):=by rw[<-O];exact⟨ar T.out.1 (fun _ _=>rfl),T.out.2.1.more (aV (ae _ _) _),T.out.2.2⟩
          have a0:∀a,M.cell? a=wr.cell? a:=fun a=>by rw[<-O];rfl
          rw[<-a0] at x0 x1 x2;clear O a0 y0 y1 y2;obtain⟨z0,z1,z2⟩:=mE F.out.1 F.out.2.2 E a4;have f0:=F.out.1.frozenAt (E*3);have f1:=F.out.1.frozenAt (E*3+1);have f2:=F.out.1.frozenAt (E*3+2);generalize U[E]! =old at z0 z1 z2;have a7:((E:Nat):Int)<(n:Int):=by omega
          go_wp2;go_roundg (n-(k+(G+1)))
          case measure=>omega
          case rel=>exact⟨E+1,G+1,a6,by go_num,by go_num,by omega,by omega,by omega,by omega,a2.out M F.out.1 F.out.2.1,a1⟩
         ·have q1:=Rn.dm t1
          clear V t1;go_upto_region 11 with fail;go_quiet (fail);generalize O:World.drewN _ _=M;have F:Hid (M.ownsRow B 95 3 (.slice (some (tD g 0)) n cap) n (U.toList.flatMap aW)/\ai (fun b=>b=g) w M/\U.size=n):=by rw[<-O];exact⟨ar T.out.1 (fun _ _=>rfl),T.out.2.1.more (aV (ae _ _) _),T.out.2.2⟩
          have a0:∀a,M.cell? a=wr.cell? a:=fun a=>by rw[<-O];rfl
          rw[<-a0] at x0 x1 x2;clear O a0 y0 y1 y2;obtain⟨z0,z1,z2⟩:=mE F.out.1 F.out.2.2 E a4;have f0:=F.out.1.frozenAt (E*3);have f1:=F.out.1.frozenAt (E*3+1);have f2:=F.out.1.frozenAt (E*3+2);generalize U[E]! =old at z0 z1 z2;have a7:((E:Nat):Int)<(n:Int):=by omega
          go_wp2;go_roundg (n-(k+(G+1)))
          case measure=>omega
          case rel=>exact⟨E+1,G+1,a6,by go_num,by go_num,by omega,by omega,by omega,by omega,a2.out M F.out.1 F.out.2.1,a1⟩
        ·have q0:((p0:Int)==(r0:Int))=false:=by simp;omega
         clear V t0;go_upto_region 11 with fail;go_quiet (fail);generalize O:World.drewN _ _=M;have F:Hid (M.ownsRow B 95 3 (.slice (some (tD g 0)) n cap) n (U.toList.flatMap aW)/\ai (fun b=>b=g) w M/\U.size=n):=by rw[<-O];exact⟨ar T.out.1 (fun _ _=>rfl),T.out.2.1.more (aV (ae _ _) _),T.out.2.2⟩
         have a0:∀a,M.cell? a=wr.cell? a:=fun a=>by rw[<-O];rfl
         rw[<-a0] at x0 x1 x2;clear O a0 y0 y1 y2;obtain⟨z0,z1,z2⟩:=mE F.out.1 F.out.2.2 E a4;have f0:=F.out.1.frozenAt (E*3);have f1:=F.out.1.frozenAt (E*3+1);have f2:=F.out.1.frozenAt (E*3+2);generalize U[E]! =old at z0 z1 z2;have a7:((E:Nat):Int)<(n:Int):=by omega
         go_wp2;go_roundg (n-(k+(G+1)))
         case measure=>omega
         case rel=>exact⟨E+1,G+1,a6,by go_num,by go_num,by omega,by omega,by omega,by omega,a2.out M F.out.1 F.out.2.1,a1⟩
      ·have Uj:(((G:Nat):Int)<((n-k:Nat):Int))=False:=by simp;omega
       have a9:k+G=n:=by omega
       have HE:=fun vs=>MK HN.out (by rw[<-a9];exact HC.out) T.out.1 vs
       have aa:∀ty,(Builtin.clear_ #[34] ty #[.slice (some (tD g (E*3))) (n-E) (cap-E)]).run prog wr=.ok (.tuple #[]) (wr.setCells g (E*3) (Builtin.zeroCells (Value.agg #[zI 0,zE,zE]).cells (n-E)).toList):=
        fun ty=>zK wr 34 95 ty (.agg #[zI 0,zE,zE]) underlying34 zeroValue95 (by decide) (by decide) g (E*3) (n-E) (cap-E) (by omega)
         (fun j hj=>by
          have ak:j<(n-E)*3:=hj;obtain⟨c0,c1,c2⟩:=mE T.out.1 T.out.2.2 (E+j/3) (by omega);rcases(by omega:E*3+j=(E+j/3)*3\/E*3+j=(E+j/3)*3+1\/E*3+j=(E+j/3)*3+2) with e|e|e
          ·rw[e,c0];rfl
          ·rw[e,c1];rfl
          ·rw[e,c2];rfl)
         (fun j _=>T.out.1.frozenAt (E*3+j))
       generalize (Builtin.zeroCells (Value.agg #[zI 0,zE,zE]).cells (n-E)).toList=vs at aa
       have HF:Hid (E=(Lib.compact L).length/\(wr.setCells g (E*3) vs).ownsRow B 95 3 (.slice (some (tD g 0)) (Lib.compact L).length cap) (Lib.compact L).length ((Lib.compact L).flatMap aW)/\ai (fun b=>b=g) w (wr.setCells g (E*3) vs)):=
        ⟨(HE vs).1,(HE vs).2.1,T.out.2.1.trans (HE vs).2.2 (fun _ _ e=>e) (fun _ _ e=>e)⟩
       clear HE T HC;have a7:((E:Nat):Int)<=(n:Int):=by omega
       go_wp2;go_ret;exact⟨bz (fun m=>Ending.returned (.slice (some (tD g 0)) m cap)) HF.out.1,HF.out.2⟩
    ·have a5:Hid (∀j,j<k+1->Lib.keeps L.toArray j=true):=fun j hj=>by
      by_cases e:j=k
      ·subst e
       exact Lib.keeps_pos (by simpa using fun e2:L[j]! =L[j-1]! => he (I.out.1.symm.trans (e2.trans I.out.2)))
      ·exact HK.out j (by omega)
     have V:Hid (¬(x.1=y.1/\x.2.1=y.2.1/\x.2.2=y.2.2)):=fun e=>he (eB e.1 (eB e.2.1 e.2.2))
     clear he I;generalize x.1=p0 at*;generalize x.2.1=p1 at*;generalize x.2.2=p2 at*;generalize y.1=r0 at*;generalize y.2.1=r1 at*;generalize y.2.2=r2 at*;by_cases t0:p0=r0
     ·subst t0
      have q0:((p0:Int)==(p0:Int))=true:=by simp
      by_cases t1:p1=r1
      ·subst t1
       have q1:(p1.toList==p1.toList)=true:=by simp
       have q2:=Rn.dm (fun h:p2=r2=>V.out ⟨rfl,rfl,h⟩);clear V;go_upto_region 6 with fail;go_quiet (fail);generalize O:World.drewN _ _=M;have Y:Hid (M.ownsRow B 95 3 (.slice (some (tD g 0)) n cap) n (L.flatMap aW)/\ai (fun b=>b=g) w M):=by rw[<-O];exact⟨ar HW.out.1 (fun _ _=>rfl),HW.out.2.more (aV (ae _ _) _)⟩
       clear O;go_wp2;go_roundg (n-(k+1))
       case measure=>omega
       case rel=>exact⟨k+1,by omega,by omega,by omega,by go_num,Y,a5⟩
      ·have q1:=Rn.dm t1
       clear V t1;go_upto_region 6 with fail;go_quiet (fail);generalize O:World.drewN _ _=M;have Y:Hid (M.ownsRow B 95 3 (.slice (some (tD g 0)) n cap) n (L.flatMap aW)/\ai (fun b=>b=g) w M):=by rw[<-O];exact⟨ar HW.out.1 (fun _ _=>rfl),HW.out.2.more (aV (ae _ _) _)⟩
       clear O;go_wp2;go_roundg (n-(k+1))
       case measure=>omega
       case rel=>exact⟨k+1,by omega,by omega,by omega,by go_num,Y,a5⟩
     ·have q0:((p0:Int)==(r0:Int))=false:=by simp;omega
      clear V t0;go_upto_region 6 with fail;go_quiet (fail);generalize O:World.drewN _ _=M;have Y:Hid (M.ownsRow B 95 3 (.slice (some (tD g 0)) n cap) n (L.flatMap aW)/\ai (fun b=>b=g) w M):=by rw[<-O];exact⟨ar HW.out.1 (fun _ _=>rfl),HW.out.2.more (aV (ae _ _) _)⟩
      clear O;go_wp2;go_roundg (n-(k+1))
      case measure=>omega
      case rel=>exact⟨k+1,by omega,by omega,by omega,by go_num,Y,a5⟩
   ·have gO:(((k:Nat):Int)<(n:Int))=False:=by simp;omega
    obtain rfl:k=n:=by omega
    go_wp2;go_ret;obtain⟨e1,e2⟩:=HS.out wr HW.out.1 HW.out.2 HK.out;exact⟨bz Ending.returned e1,e2⟩
end Pn
namespace Pn
open Mf Ed
variable{w:zW}
def once(L:List Pb):List Pb:=Lib.compact (Ss.aP (Go.Proofs.ltOf tN) L)
theorem FY(E:zV)(w:zW):zC 65 #[zN,E] w fun e w'=>e=.returned (.tuple #[])/\w'=w:=AnyF.slices_SortFunc_none Tryz.laysSort_p none 0 E w
theorem Ex(w:zW):zC 67 #[zN] w fun e w'=>e=.returned (zN)/\w'=w:=by
 go_enter func67,ntmps67;go_wp2;go_ret;exact⟨rfl,rfl⟩
theorem Cj(B:Nat)(v:zV)(L:List Pb)(w:zW)(hm:Ml w)(hB:0<B)(h:w.ownsRow B 95 3 v L.length (L.flatMap aW))(hl:L.length<=4000000):
  zC 52 #[v] w fun e w'=>∃v',e=.returned v'/\w'.ownsRow B 95 3 v' (once L).length ((once L).flatMap aW)/\ai (fun b=>v.ownBlock=some b) w w':=by
 rcases h.2 with⟨rfl,V⟩|⟨g,cap,a0,rfl,a1,_⟩
 ·have e0:L=[]:=List.length_eq_zero_iff.1 V
  subst e0;have M:=FY (.func (.func 66) #[] #[]) w;have I:=Ex w;have HO:Hid (w.ownsRow B 95 3 (zN) 0 []):=⟨rfl,oE ⟨rfl,rfl⟩⟩;clear h V hl;go_enter func52,ntmps52
  go_wp2_with (go_at_call 65;fail)
  go_at_call 65;refine M.mono ?_;rintro e O ⟨rfl,rfl⟩
  go_wp2_with (go_at_call 67;fail)
  go_at_call 67;refine I.mono ?_;rintro e T ⟨rfl,rfl⟩;go_wp2;go_ret;exact⟨_,rfl,HO.out,ai.refl _ _⟩
 ·have M:=MD B 95 g cap L w hm (by omega) h (by omega)
  have E:(Ss.aP (Go.Proofs.ltOf tN) L).length=L.length:=Ss.cG _;have I:=fun W hW=>Ew B g cap (Ss.aP (Go.Proofs.ltOf tN) L) W hW (by omega)
  rw[E] at I;clear E h;generalize L.length=n at*;go_enter func52,ntmps52
  go_wp2_with (go_at_call 65;fail)
  go_at_call 65;refine M.mono ?_;rintro e O ⟨rfl,Y,ht⟩;have HT:Hid (ai (fun b=>b=g) w O):=ht;have k3:=I O Y;clear M I Y ht
  go_wp2_with (go_at_call 67;fail)
  go_at_call 67;refine k3.mono ?_;rintro e T ⟨rfl,F,G⟩
  have U:Hid (T.ownsRow B 95 3 (.slice (some (tD g 0)) (once L).length cap) (once L).length ((once L).flatMap aW)/\ai (fun b=>(Value.slice (some (tD g 0)) n cap).ownBlock=some b) w T):=
   ⟨F,HT.out.trans G (fun _ _ e=>by rw[e];rfl) (fun _ _ e=>by rw[e];rfl)⟩
  clear k3 F G;go_wp2;go_ret;exact⟨_,rfl,U.out.1,U.out.2⟩
