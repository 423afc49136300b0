import Derived.Test.YtooabooekgphpaaGreatDoorKPNA
import Derived.Shelf.Spec.SlicesGrow
import Derived.Test.YtooabooekgphpaaGreatDoorKPMO
import Derived.Lib.SlicesCompact
set_option linter.all false
open Go.Proofs.Tryz
set_option maxRecDepth 100000
set_option maxHeartbeats 20000000
namespace Go.Proofs.YtooabooekgphpaaGreatDoor
open Go.RowKit
namespace Pn
open Mf Ed
variable{A:Nat->Prop}{w:zW}
theorem yY(v:zV)(L:List Mo)(w:zW)(h:RdA A Sm.mc w v L)(G:L.length<=16777216):
  zC 42 #[v] w fun e w'=>∃E,e=.returned E/\w'.ownsRow w.heap.size 63 2 E L.length (mcs L)/\zB w w':=by
 rcases h with⟨D,F⟩|⟨b,off,c,D,_,M⟩
 ·rw[D,F]
  refine(Sm.mU w).mono ?_;rintro e w' ⟨rfl,rfl⟩;exact⟨_,rfl,gi _ _ _ _,ae _ _⟩
 rw[D]
 refine(Sm.mQ b off c L w G M).mono ?_;rintro e w' ⟨g,cap,rfl,O,I⟩;exact⟨_,rfl,O,I⟩
def Qk:Go.Shelf.Ren:=⟨fun|41=>45|n=>n,fun|22=>32|23=>9|4=>4|n=>n,fun|n=>n⟩
theorem Gt:Go.Proofs.SlLaysE0.n41 prog Qk:={
 mixed:=by kernel_rfl
 f41:=⟨f45.name,by decide,func45.trans (cV some (by kernel_rfl))⟩
 t4:=underlying4
 a4:=isAgg4
 z4:=sizeOf4
 v4:=zeroValue4
 t22:=underlying32
 a22:=isAgg32
 z22:=sizeOf32
 v22:=zeroValue32}
theorem pX(v:zV)(L:List zA)(w:zW)(h:RdA A dB w v L)(hL:L.length<=16777216):
  zC 45 #[v] w fun e w'=>∃D,e=.returned D/\w'.ownsRow w.heap.size 9 1 D L.length (L.flatMap dB)/\zB w w':=by
 rcases h with⟨E,S⟩|⟨b,off,c,E,_,U⟩
 ·rw[E,S]
  refine(AnyE.slices_Clone_nil Gt 0 0 w).mono ?_;rintro e w' ⟨rfl,rfl⟩;exact⟨_,rfl,gi _ _ _ _,ae _ _⟩
 rw[E]
 obtain⟨Y,G,I,M,O⟩:=Bm.fB 9 (zE) 1 16 (by kernel_rfl);refine(AnyE.slices_Clone Gt Y _ 1 16 G I M O rfl (by decide) sizeOf9 b off L.length c (L.flatMap dB) w (Ss.fA (enc:=dB) (k:=1) (fun _=>rfl) L) (by unfold maxLen;omega) (by omega) U (fun u W=>?_)).mono ?_
 ·obtain⟨x,_,F⟩:=List.mem_flatMap.1 W
  simp[dB] at F;rw[F];rfl
 rintro e w' ⟨D,rfl,V,_,T⟩
 exact⟨D,rfl,V,T⟩
def Ql:Go.Shelf.Ren:=⟨fun|4=>59|n=>n,fun|22=>31|25=>65|20=>20|n=>n,fun|n=>n⟩
theorem Gu:Go.Proofs.Lays8.n4 prog Ql:={
 mixed:=by kernel_rfl
 f4:=⟨f59.name,by decide,func59.trans (cV some (by kernel_rfl))⟩
 t0:=underlying0
 a0:=isAgg0
 z0:=sizeOf0
 v0:=zeroValue0
 t3:=underlying3
 a3:=isAgg3
 z3:=sizeOf3
 v3:=zeroValue3
 t4:=underlying4
 a4:=isAgg4
 z4:=sizeOf4
 v4:=zeroValue4
 t9:=underlying9
 a9:=isAgg9
 z9:=sizeOf9
 v9:=zeroValue9
 t20:=underlying20
 a20:=isAgg20
 z20:=sizeOf20
 v20:=zeroValue20
 t22:=underlying31
 a22:=isAgg31
 z22:=sizeOf31
 v22:=zeroValue31}
theorem DF(n:Nat)(w:zW)(T:n<=3000000000000):zC 59 #[zN,zI (n:Nat)] w fun e w'=>∃v,e=.returned v/\w'.ownsRow w.heap.size 65 3 v 0 []/\zB w w':=by
 by_cases G:n=0
 ·subst G
  refine(Any8.slices_Grow_room Gu none 0 0 0 w (af _) (by omega) (by omega) (by omega)).mono ?_;rintro e w' ⟨rfl,rfl⟩;exact⟨_,rfl,gi _ _ _ _,ae _ _⟩
 obtain⟨O,D,E,S,F⟩:=Bm.fB 65 (.agg #[zI 0,zE,zE]) 3 40 (by kernel_rfl)
 refine(Any8.slices_Grow_grow Gu O _ D E (by omega) none 0 0 n [] w (af _) (by omega) (by rw[F];omega) (by omega) (by simp) (fun _=>rfl) (fun a e=>by cases e)).mono ?_;rintro e w' ⟨rfl,rfl⟩;refine⟨_,rfl,?_,?_⟩
 ·have I:=grownCap_ge w (0+n) 0 65
  refine World.ownsRow_made w.drew _ (grownCap w (0+n) 0 65) (af _) (grownCap_le_maxLen w _ _ _ (by unfold maxLen;omega)) ?_;have M:(Value.agg #[zI 0,zE,zE]).cells.size=3:=rfl;show([].toArray++Builtin.zeroCells _ (0+n-0)++Builtin.zeroCells _ (grownCap w (0+n) 0 65-(0+n))).size=_;rw[Array.size_append,Array.size_append,size_zeroCells,size_zeroCells,M];show 0+(0+n-0)*3+_=_;omega
 exact((ae _ _).drew).alloc (af _) _
end Pn
namespace Pn
open Mf Ed
variable{A:Nat->Prop}{w:zW}
theorem lQ{α:Type}{enc:α->List zV}{P:Program}(w:zW){O:Array Oper}{rest:List Oper}{o:Oper}{a:Act}{Q:Exit->Act->zW->Prop}(M:o.guard=none)(s x:Operand)(t:TypeId)
  (ho:o.op=.call {callee:=.builtin .append,args:=#[s,x],argTypes:=#[t,t]})
  (base:Nat) (e:TypeId) (i:TypeInfo) (z:zV) (size bytes:Nat) (ht:P.underlying t=some (.slice e)) (hi:P.info? e=some i) (hz:i.zero=some z)
  (G:i.size=size) (U:i.bytes=bytes) (Y:z.cells.size=size) (W:0<size)
  (v:zV) (n:Nat) (xs:List zV) (hs:a.eval s=v) (D:w.ownsRow base e size v n xs)
  (xv:zV) (L:List α) (hx:a.eval x=xv) (V:RdA A enc w xv L) (hl:∀y,(enc y).length=size) (h1:∀y,∀u∈enc y,u.oneCell'=true)
  (T:n+L.length<=maxLen) (E:(n+L.length)*bytes<=140737488355328) (F:base<=w.heap.size)
  (h:∀I w',w'.ownsRow base e size I (n+L.length) (xs++L.flatMap enc)->w.grownBy w' v.ownBlock->(I.ownBlock=v.ownBlock\/I.ownBlock=some w.heap.size)->wpList P O Q rest (a.put o.dst I) w'):
  wpList P O Q (o::rest) a w:=by
 rcases V with⟨S,e2⟩|⟨b,off,c,S,_,hc⟩
 ·refine wpList_append_own_none M s x t ho base e i size ht hi v n xs hs D (by rw[hx,S]) (h v w ?_ ⟨rfl,rfl,rfl,af _,fun _ _ _=>rfl⟩ (oE rfl))
  rw[e2];simpa using D
 refine dG w M s x t ho base e i z size bytes ht hi hz G U Y W v n xs hs D (tD b off) L.length c (L.flatMap enc) (by rw[hx,S]) (Ss.fA hl L) (fun j u hj=>by rw[addr_add];exact hc j u hj) (fun u hu=>?_) T E F (fun I w' g1 g2 _ g3=>h I w' g1 g2 g3)
 obtain⟨y,_,hy⟩:=List.mem_flatMap.1 hu;exact h1 y u hy
def jG(D E:List Pb)(i:Nat):List Pb:=if i=0 then [] else if i=1 then D else D++E
theorem FF(b:Nat)(v1 v2:zV)(D E:List Pb)(w:zW)(hb:w.heap[b]?=some (.cells #[v1,v2] 31))(h1:RdA A aJ w v1 D)(h2:RdA A aJ w v2 E)(hl:D.length<=1000000/\E.length<=1000000):
  zC 44 #[.slice (some (tD b 0)) 2 2] w fun e w'=>∃v,e=.returned v/\w'.ownsRow w.heap.size 65 3 v (D++E).length ((D++E).flatMap aJ)/\zB w w':=by
 obtain⟨i3,a9,aa,ab,ad⟩:=Bm.fB 65 (.agg #[zI 0,zE,zE]) 3 40 (by kernel_rfl);have W:Hid (prog.info? 65=some i3/\i3.zero=some (.agg #[zI 0,zE,zE])/\i3.size=3/\i3.bytes=40):=⟨a9,aa,ab,ad⟩;clear a9 aa ab ad;obtain⟨a1,c1,e1⟩:=h1.len;obtain⟨a2,c2,e2⟩:=h2.len;subst e1;subst e2;have HR:Hid (RdA A aJ w (.slice a1 D.length c1) D/\RdA A aJ w (.slice a2 E.length c2) E/\w.heap[b]?=some (.cells #[.slice a1 D.length c1,.slice a2 E.length c2] 31)):=⟨h1,h2,hb⟩;obtain⟨⟨d0,_⟩,⟨d1,_⟩⟩:=fd2 hb;have a8:=ah hb;clear h1 h2 hb;obtain⟨PX,a6⟩:∃PX,PX=D.flatMap aJ:=⟨_,rfl⟩;have az:Hid (PX=D.flatMap aJ):=a6;clear a6;generalize a3:D.length=n1 at*;generalize a4:E.length=n2 at*;have HN:Hid (D.length=n1/\E.length=n2):=⟨a3,a4⟩
 have TI:Hid ((D++E).length=n1+n2):=by
  show(D++E).length=n1+n2;rw[aW,a3,a4]
 clear a3 a4;have kg:=DF (n1+n2) w (by omega);go_enter func44,ntmps44;go_wp2;go_loopg [3,11] 2 (fun gg s3 au wr=>∃i:Nat,i<=2/\2-i<=gg/\s3=zI ((if i=0 then 0 else if i=1 then n1 else n1+n2:Nat):Int)/\au=zI i/\w=wr)
 case atStart=>exact⟨0,by omega,by omega,rfl,rfl,rfl⟩
 case round=>
  obtain⟨i,hi,hg,h3,rfl,rfl⟩:=hrel;rcases(by omega:i=0\/i=1\/i=2) with rfl|rfl|rfl
  ·rw[h3,aj rfl]
   clear h3;go_wp2;go_roundg 1
   case measure=>omega
   case rel=>exact⟨1,by omega,by omega,by simp,rfl,rfl⟩
  ·rw[h3,ag (by decide),aj rfl]
   clear h3;go_wp2;go_roundg 0
   case measure=>omega
   case rel=>exact⟨2,by omega,by omega,by go_num,rfl,rfl⟩
  rw[h3,ag (by decide),ag (by decide)]
  clear h3
  go_wp2_with (go_at_call 59;fail)
  go_at_call 59;refine kg.mono ?_;rintro e w1 ⟨v,rfl,ho,a7⟩;have a5:Hid (w1.ownsRow w.heap.size 65 3 v (jG D E 0).length ((jG D E 0).flatMap aJ)/\zB w w1):=⟨ho,a7⟩;clear ho a7 kg d0 d1;go_wp2;go_loopg [6,27] 2 (fun gg s6 av wr=>∃(i:Nat)(rv:zV),i<=2/\2-i<=gg/\rv=s6/\av=zI i/\Hid (wr.ownsRow w.heap.size 65 3 rv (jG D E i).length ((jG D E i).flatMap aJ)/\zB w wr))
  case atStart=>exact⟨0,v,by omega,by omega,rfl,rfl,a5⟩
  case round=>
   obtain⟨i,rv,hi,hg,an,rfl,HV⟩:=hrel;subst an;clear a5;rcases(by omega:i=0\/i=1\/i=2) with rfl|rfl|rfl
   ·have O:Hid (wr.ownsRow w.heap.size 65 3 rv ([]:List Pb).length (([]:List Pb).flatMap aJ)/\zB w wr):=HV.o
    obtain⟨ra,rc,er⟩:=ax O.o.1;subst er;obtain⟨S,I⟩:∃S,S=([]:List Pb).flatMap aJ:=⟨_,rfl⟩;have HX:Hid (S=([]:List Pb).flatMap aJ):=I;have HO:Hid (wr.ownsRow w.heap.size 65 3 (.slice ra ([]:List Pb).length rc) ([]:List Pb).length S):=by rw[I];exact O.o.1
    have ak:([]:List Pb).length<=1000000:=by exact aL _
    have T:Hid (D.length=n1):=HN.o.1;generalize U:([]:List Pb).length=M at*;have Y:Hid (([]:List Pb).length=M):=U;clear U;clear I HV;obtain⟨⟨d0,_⟩,⟨d1,_⟩⟩:=fd2 ((O.o.2.block b a8).trans HR.o.2.2);have aq:=O.o.2.size
    go_wp2_with (at_builtin;refine lQ (A:=A) (enc:=aJ) _ rfl _ _ 31 rfl w.heap.size 65 i3 (.agg #[zI 0,zE,zE]) 3 40 underlying31 W.o.1 W.o.2.1 W.o.2.2.1 W.o.2.2.2 rfl (by decide) (.slice ra M rc) M S rfl HO.o (.slice a1 n1 c1) D rfl (HR.o.1.below O.o.2) (fun _=>rfl) yh ?_ ?_ ?_ ?_)
    all_goals first
     |(show M+D.length<=maxLen;rw[T.o];unfold maxLen;omega)
     |(show(M+D.length)*40<=140737488355328;rw[T.o];omega)
     |(show w.heap.size<=wr.heap.size;omega)
     |skip
    intro v9 w9 G F _
    have a0:Hid (w9.ownsRow w.heap.size 65 3 v9 (jG D E 1).length ((jG D E 1).flatMap aJ)/\zB w w9):=by
     have hT:ai (fun V=>(Value.slice ra M rc).ownBlock=some V) wr w9:=(ai.refl _ _).grown F (fun V _ e=>e);refine⟨?_,bl O.o.2 hT (fun V e=>(HO.o.lt V e).1)⟩;have e1:(jG D E 1).length=M+D.length:=by rw[<-Y.o];simp[jG]
     rw[e1,show(jG D E 1).flatMap aJ=S++D.flatMap aJ by rw[HX.o];simp[jG]];exact G
    clear G F d0 d1;go_wp2;go_roundg 1
    case measure=>omega
    case rel=>exact⟨1,v9,by omega,by omega,rfl,rfl,a0⟩
   ·have O:Hid (wr.ownsRow w.heap.size 65 3 rv (D:List Pb).length ((D:List Pb).flatMap aJ)/\zB w wr):=HV.o
    obtain⟨ra,rc,er⟩:=ax O.o.1;subst er;obtain⟨S,I⟩:∃S,S=(D:List Pb).flatMap aJ:=⟨_,rfl⟩;have HX:Hid (S=(D:List Pb).flatMap aJ):=I;have HO:Hid (wr.ownsRow w.heap.size 65 3 (.slice ra (D:List Pb).length rc) (D:List Pb).length S):=by rw[I];exact O.o.1
    have ak:(D:List Pb).length<=1000000:=by rw[HN.o.1];exact hl.1
    have T:Hid (E.length=n2):=HN.o.2;generalize U:(D:List Pb).length=M at*;have Y:Hid ((D:List Pb).length=M):=U;clear U;clear I HV;obtain⟨⟨d0,_⟩,⟨d1,_⟩⟩:=fd2 ((O.o.2.block b a8).trans HR.o.2.2);have aq:=O.o.2.size
    go_wp2_with (at_builtin;refine lQ (A:=A) (enc:=aJ) _ rfl _ _ 31 rfl w.heap.size 65 i3 (.agg #[zI 0,zE,zE]) 3 40 underlying31 W.o.1 W.o.2.1 W.o.2.2.1 W.o.2.2.2 rfl (by decide) (.slice ra M rc) M S rfl HO.o (.slice a2 n2 c2) E rfl (HR.o.2.1.below O.o.2) (fun _=>rfl) yh ?_ ?_ ?_ ?_)
    all_goals first
     |(show M+E.length<=maxLen;rw[T.o];unfold maxLen;omega)
     |(show(M+E.length)*40<=140737488355328;rw[T.o];omega)
     |(show w.heap.size<=wr.heap.size;omega)
     |skip
    intro v9 w9 G F _
    have a0:Hid (w9.ownsRow w.heap.size 65 3 v9 (jG D E 2).length ((jG D E 2).flatMap aJ)/\zB w w9):=by
     have hT:ai (fun V=>(Value.slice ra M rc).ownBlock=some V) wr w9:=(ai.refl _ _).grown F (fun V _ e=>e);refine⟨?_,bl O.o.2 hT (fun V e=>(HO.o.lt V e).1)⟩;have e1:(jG D E 2).length=M+E.length:=by rw[<-Y.o];simp[jG]
     rw[e1,show(jG D E 2).flatMap aJ=S++E.flatMap aJ by rw[HX.o];simp[jG]];exact G
    clear G F d0 d1;go_wp2;go_roundg 0
    case measure=>omega
    case rel=>exact⟨2,v9,by omega,by omega,rfl,rfl,a0⟩
   have HF:Hid (wr.ownsRow w.heap.size 65 3 rv (D++E).length ((D++E).flatMap aJ)/\zB w wr):=HV.o
   go_wp2;go_ret;exact⟨_,rfl,HF.o.1,HF.o.2⟩
end Pn
namespace Pn
open Mf Ed
variable{w:zW}
theorem sP{B g n cap:Nat}{e:TypeId}{s:Nat}:∀(D:List zV)(o:Nat)(w:zW)(xs:List zV),w.ownsRow B e s (.slice (some (tD g 0)) n cap) n xs->
  ∃E,(w.setCells g o D).ownsRow B e s (.slice (some (tD g 0)) n cap) n E/\E.take o=xs.take o/\ai (fun b=>b=g) w (w.setCells g o D)
 |[],_,w,xs,h=>⟨xs,h,rfl,ai.refl _ _⟩
 |v::D,o,w,xs,h=>by
  obtain⟨E,G,I,M⟩:=sP D (o+1) (w.setCell (tD g o) v) (xs.set o v) (h.stored o v).1;refine⟨E,G,?_,ai.trans ((ai.refl (fun b=>b=g) w).set (a:=(tD g o)) (fun _=>rfl) v) M (fun _ _ e=>e) (fun _ _ e=>e)⟩;have F:=cV (List.take o) I;rw[List.take_take,List.take_take,Nat.min_eq_left (bS o)] at F;rw[F,List.take_set_of_le (af o)]
theorem N8{B g n cap:Nat}{e:TypeId}{s:Nat}{xs:List zV}(h:w.ownsRow B e s (.slice (some (tD g 0)) n cap) n xs){k:Nat}(S:k<=n):w.ownsRow B e s (.slice (some (tD g 0)) k cap) k (xs.take (k*s)):=by
 rcases h.2 with⟨E,_⟩|⟨W,O,F,E,U,V,M,G,I,T⟩
 ·simp at E
 simp only[Value.slice.injEq,mg,Addr.mk.injEq,fe,true_and] at E
 obtain⟨rfl,rfl⟩:=E;have D:k*s<=n*s:=eG s S;refine⟨by rw[jz,h.1];exact Nat.min_eq_left D,.inr ⟨g,cap,F,rfl,U,V,aO S M,G,I,?_⟩⟩;rw[<-T,List.take_take,Nat.min_eq_left D]
theorem yZ{P:Program}(w:zW)(t e ty:TypeId)(z:zV)(S:P.underlying t=some (.slice e))(T:∀w,(zeroValue e).run P w=.ok z w)(I:∀v∈z.cells,v.oneCell'=true)(U:0<z.cells.size)(b o n c:Nat)(V:0<n)
  (M:∀j,j<n*z.cells.size->(w.cell? (tD b (o+j))).isSome=true) (O:∀j,j<n*z.cells.size->w.frozen? (tD b (o+j))=false):
  (Builtin.clear_ #[t] ty #[.slice (some (tD b o)) n c]).run P w=.ok (.tuple #[]) (w.setCells b o (Builtin.zeroCells z.cells n).toList):=by
 have D:(Builtin.zeroCells z.cells n).toList.length=n*z.cells.size:=by simp[Builtin.zeroCells]
 have F:=run_storeCells_cells (P:=P) b o (Builtin.zeroCells z.cells n).toList 0 w (by rw[D];simpa using M) (by rw[D];simpa using O) (by
  intro v G;simp only[Builtin.zeroCells,Array.toList_map,bI] at G;obtain⟨i,_,rfl⟩:=G;have E:i%z.cells.size<z.cells.size:=Nat.mod_lt _ U;rw[bJ z.cells _ E];exact I _ (Array.getElem_mem E))
 simp only[Nat.add_zero] at F;obtain⟨m,rfl⟩:∃m,n=m+1:=⟨n-1,by omega⟩;simp[Builtin.clear_,run_underlying S,T,F]
end Pn
namespace Pn
open Mf Ed
variable{w:zW}
instance:Inhabited Pb:=⟨(0,⟨#[]⟩,⟨#[]⟩)⟩
theorem vO{B g cap:Nat}{D:List Pb}(h:w.ownsRow B 65 3 (.slice (some (tD g 0)) D.length cap) D.length (D.flatMap aJ))(j:Nat)(G:j<D.length):
  w.cell? (tD g (j*3))=some (zI D[j]!.1)/\w.cell? (tD g (j*3+1))=some (tS D[j]!.2.1)/\w.cell? (tD g (j*3+2))=some (tS D[j]!.2.2):=by
 have I:RdA (fun _=>False) aJ w (.slice (some (tD g 0)) D.length cap) D:=RdA.own h rfl (fun _=>rfl) (fun _ e=>e.elim);obtain⟨b,o,c,F,E⟩:=RdA.at (A:=fun _=>False) (L:=D) I (s:=3) (fun _=>rfl) (by decide) (ae _ _) j G;simp only[Value.slice.injEq,mg,Addr.mk.injEq,fe,true_and] at F;obtain⟨⟨rfl,rfl⟩,_⟩:=F;rw[bJ D j G];refine⟨?_,?_,?_⟩
 ·have:=E 0 _ rfl;simpa using this
 ·have:=E 1 _ rfl;simpa using this
 have:=E 2 _ rfl;simpa using this
theorem LY{B g n cap:Nat}{e:TypeId}{s:Nat}{xs:List zV}(h:w.ownsRow B e s (.slice (some (tD g 0)) n cap) n xs):n<=cap/\cap<=9223372036854775807:=by
 rcases h.2 with⟨D,_⟩|⟨S,G,I,D,T,U,F,E,M,O⟩
 ·simp at D
 simp only[Value.slice.injEq,mg,Addr.mk.injEq,fe,true_and] at D
 obtain⟨rfl,rfl⟩:=D;exact⟨F,by unfold maxLen at E;omega⟩
theorem uA:∀(D:List Pb)(j:Nat)(p:Pb),j<D.length->(((D.flatMap aJ).set (j*3) (zI p.1)).set (j*3+1) (tS p.2.1)).set (j*3+2) (tS p.2.2)=(D.set j p).flatMap aJ
 |[],j,p,h=>by simp at h
 |d::D,0,p,_=>rfl
 |d::D,j+1,p,h=>by
  have F:=uA D j p (by simpa using h);have e:(d::D).flatMap aJ=zI d.1::tS d.2.1::tS d.2.2::D.flatMap aJ:=rfl;have E:((d::D).set (j+1) p).flatMap aJ=zI d.1::tS d.2.1::tS d.2.2::(D.set j p).flatMap aJ:=rfl;rw[e,E,<-F,show(j+1)*3=j*3+3 by omega,show j*3+3+1=(j*3+1)+3 by omega,show j*3+3+2=(j*3+2)+3 by omega]
  rfl
theorem yi:∀(D:List Pb)(k:Nat),(D.flatMap aJ).take (k*3)=(D.take k).flatMap aJ
 |[],k=>by simp
 |d::D,0=>by simp
 |d::D,k+1=>by
  have F:=yi D k;have e:(d::D).flatMap aJ=zI d.1::tS d.2.1::tS d.2.2::D.flatMap aJ:=rfl;have E:((d::D).take (k+1)).flatMap aJ=zI d.1::tS d.2.1::tS d.2.2::(D.take k).flatMap aJ:=rfl;rw[e,E,show(k+1)*3=k*3+1+1+1 by omega,List.take_succ_cons,List.take_succ_cons,List.take_succ_cons,F]
theorem DG{B g n cap:Nat}{d:Array Pb}(h:w.ownsRow B 65 3 (.slice (some (tD g 0)) n cap) n (d.toList.flatMap aJ))(hd:d.size=n)(j:Nat)(E:j<n)(p:Pb):
  (((w.setCell (tD g (j*3)) (zI p.1)).setCell (tD g (j*3+1)) (tS p.2.1)).setCell (tD g (j*3+2)) (tS p.2.2)).ownsRow B 65 3 (.slice (some (tD g 0)) n cap) n ((d.setIfInBounds j p).toList.flatMap aJ)/\ai (fun b=>b=g) w (((w.setCell (tD g (j*3)) (zI p.1)).setCell (tD g (j*3+1)) (tS p.2.1)).setCell (tD g (j*3+2)) (tS p.2.2)):=by
 have D:=(((h.stored (j*3) (zI p.1)).1.stored (j*3+1) (tS p.2.1)).1.stored (j*3+2) (tS p.2.2)).1;rw[uA _ _ _ (by simpa[hd] using E)] at D;refine⟨by rw[Array.toList_setIfInBounds];exact D,(((ai.refl (fun b=>b=g) w).set (a:=(tD g (j*3))) (fun _=>rfl) _).set (a:=(tD g (j*3+1))) (fun _=>rfl) _).set (a:=(tD g (j*3+2))) (fun _=>rfl) _⟩
theorem lT{B g n cap:Nat}{d:Array Pb}(h:w.ownsRow B 65 3 (.slice (some (tD g 0)) n cap) n (d.toList.flatMap aJ))(hd:d.size=n)(j:Nat)(E:j<n):
  w.cell? (tD g (j*3))=some (zI d[j]!.1)/\w.cell? (tD g (j*3+1))=some (tS d[j]!.2.1)/\w.cell? (tD g (j*3+2))=some (tS d[j]!.2.2):=by
 have D:d.toList.length=n:=by simpa using hd
 have:=vO (by rw[D];exact h:w.ownsRow B 65 3 (.slice (some (tD g 0)) d.toList.length cap) d.toList.length (d.toList.flatMap aJ)) j (by omega);have e:d.toList[j]! =d[j]!:=by rw[bJ d.toList j (by omega),bJ d j (by omega)];simp
 rw[e] at this;exact this
theorem Jk{L:List Pb}{E:Nat}{D:Array Pb}(h:Lib.CompInv L.toArray L.length E D):D.toList.take E=Lib.compact L:=by
 have I:D.size=L.length:=by simpa using h.size
 have G:=h.lt;apply nI;intro j;unfold Lib.compact;by_cases F:j<E
 ·rw[h.low j F,List.getElem?_take_of_lt F]
  have:j<D.size:=by omega
  simp[this]
 rw[iL (by simp;omega),iL (by rw[h.len];omega)]
theorem LZ{B g n cap D:Nat}{L:List Pb}{F:Array Pb}(T:n=L.length)(h:Lib.CompInv L.toArray n D F)(U:w.ownsRow B 65 3 (.slice (some (tD g 0)) n cap) n (F.toList.flatMap aJ))(E:List zV):
  D=(Lib.compact L).length/\(w.setCells g (D*3) E).ownsRow B 65 3 (.slice (some (tD g 0)) (Lib.compact L).length cap) (Lib.compact L).length ((Lib.compact L).flatMap aJ)/\ai (fun b=>b=g) w (w.setCells g (D*3) E):=by
 subst T;have I:(Lib.compact L).length=D:=h.len;obtain⟨V,M,O,S⟩:=sP E (D*3) w _ U;have G:=N8 M (Nat.le_of_lt h.lt);rw[O,yi,Jk h] at G;exact⟨I.symm,by rw[I];exact G,S⟩
theorem DI(B g cap:Nat)(L:List Pb)(w:zW)(h:w.ownsRow B 65 3 (.slice (some (tD g 0)) L.length cap) L.length (L.flatMap aJ))(hl:L.length<=4000000):
  zC 58 #[.slice (some (tD g 0)) L.length cap] w fun e w'=>e=.returned (.slice (some (tD g 0)) (Lib.compact L).length cap)/\w'.ownsRow B 65 3 (.slice (some (tD g 0)) (Lib.compact L).length cap) (Lib.compact L).length ((Lib.compact L).flatMap aJ)/\ai (fun b=>b=g) w w':=by
 have H0:=zH h;obtain⟨n,hn⟩:∃n,n=L.length:=⟨_,rfl⟩;have HN:Hid (n=L.length):=hn;rw[<-hn] at hl ⊢
 have HS:Hid (∀W,W.ownsRow B 65 3 (.slice (some (tD g 0)) n cap) n (L.flatMap aJ)->ai (fun b=>b=g) w W->(∀j,j<n->Lib.keeps L.toArray j=true)->(Value.slice (some (tD g 0)) n cap=.slice (some (tD g 0)) (Lib.compact L).length cap)/\W.ownsRow B 65 3 (.slice (some (tD g 0)) (Lib.compact L).length cap) (Lib.compact L).length ((Lib.compact L).flatMap aJ)/\ai (fun b=>b=g) w W):=fun W h1 h2 h3=>by
  rw[Lib.compact_all L (by rw[<-hn];exact h3),<-hn];exact⟨rfl,h1,h2⟩
 have a2:Hid (w.ownsRow B 65 3 (.slice (some (tD g 0)) n cap) n (L.flatMap aJ)/\ai (fun b=>b=g) w w):=by rw[hn];exact⟨h,ai.refl _ _⟩
 obtain⟨av,aa⟩:=LY a2.o.1;clear h hn;by_cases h2:n<2
 ·go_enter func58,ntmps58
  go_wp2;go_ret;obtain⟨e1,e2⟩:=HS.o w a2.o.1 a2.o.2 (fun j hj=>Lib.keeps_lt_one _ j (by omega));exact⟨cV Ending.returned e1,e2⟩
 go_enter func58,ntmps58
 go_wp2;go_loopg [3] n (fun gg s3 wr=>∃k:Nat,1<=k/\k<=n/\n-k<=gg/\s3=zI k/\Hid (wr.ownsRow B 65 3 (.slice (some (tD g 0)) n cap) n (L.flatMap aJ)/\ai (fun b=>b=g) w wr)/\Hid (∀j,j<k->Lib.keeps L.toArray j=true))
 case atStart=>exact⟨1,by omega,by omega,by omega,rfl,a2,Lib.keeps_lt_one _⟩
 case round=>
  obtain⟨k,ak,hk,hg,rfl,Y,HK⟩:=hrel;clear a2;by_cases au:k<n
  ·have ij:((k:Nat):Int)<(n:Int):=by omega
   obtain⟨x0,x1,x2⟩:=vO (by rw[<-HN.o];exact Y.o.1:wr.ownsRow B 65 3 (.slice (some (tD g 0)) L.length cap) L.length (L.flatMap aJ)) k (by have:=HN.o;omega);obtain⟨y0,y1,y2⟩:=vO (by rw[<-HN.o];exact Y.o.1:wr.ownsRow B 65 3 (.slice (some (tD g 0)) L.length cap) L.length (L.flatMap aJ)) (k-1) (by have:=HN.o;omega);generalize hx:L[k]! =x at x0 x1 x2;generalize hy:L[k-1]! =y at y0 y1 y2;have G:Hid (L[k]! =x/\L[k-1]! =y):=⟨hx,hy⟩;clear hx hy;by_cases he:x=y
   ·subst he
    generalize x.1=p0 at*;generalize x.2.1=p1 at*;generalize x.2.2=p2 at*;have q0:(p0==p0)=true:=by simp
    have q1:(p1.toList==p1.toList)=true:=by simp
    have q2:(p2.toList==p2.toList)=true:=by simp
    go_upto_region 6 with fail;go_quiet (fail);generalize M:World.drewN _ _=I;have U:Hid (I.ownsRow B 65 3 (.slice (some (tD g 0)) n cap) n (L.flatMap aJ)/\ai (fun b=>b=g) w I):=by rw[<-M];exact⟨ar Y.o.1 (fun _ _=>rfl),Y.o.2.more (aK (ae _ _) _)⟩
    have a7:Hid (Lib.keeps L.toArray k=false):=Lib.keeps_neg (by omega) (by simpa using G.o.1.trans G.o.2.symm);clear M Y x0 x1 x2 y0 y1 y2 q0 q1 q2 G;go_wp2;clear ij;go_loopg [3,5] n (fun gg s3 s5 wr=>∃(D F:Nat)(S:Array Pb),s3=zI D/\s5=zI F/\1<=F/\k+F<=n/\n-(k+F)<=gg/\D<k+F/\Hid (wr.ownsRow B 65 3 (.slice (some (tD g 0)) n cap) n (S.toList.flatMap aJ)/\ai (fun b=>b=g) w wr/\S.size=n)/\Hid (Lib.CompInv L.toArray (k+F) D S))
    case atStart=>exact⟨k,1,L.toArray,rfl,rfl,by omega,by omega,by omega,by omega,⟨U.o.1,U.o.2,HN.o.symm⟩,Lib.CompInv.start HK.o a7.o⟩
    case round=>
     obtain⟨D,F,S,rfl,rfl,h1,aq,ab,an,O,HC⟩:=hrel;clear U a7 HK;by_cases vB:k+F<n
     ·have SI:((F:Nat):Int)<((n-k:Nat):Int):=by omega
      obtain⟨x0,x1,x2⟩:=lT O.o.1 O.o.2.2 (k+F) vB;obtain⟨y0,y1,y2⟩:=lT O.o.1 O.o.2.2 (k+F-1) (by omega);rw[HC.o.high (k+F) (by omega),show(k+F)*3=k*3+F*3 by omega] at x0 x1 x2;rw[HC.o.high (k+F-1) (by omega),show(k+F-1)*3=k*3+(F-1)*3 by omega] at y0 y1 y2;generalize hx:L.toArray[k+F]! =x at x0 x1 x2;generalize hy:L.toArray[k+F-1]! =y at y0 y1 y2;have G:Hid (L.toArray[k+F]! =x/\L.toArray[k+F-1]! =y):=⟨hx,hy⟩;clear hx hy;by_cases he:x=y
      ·subst he
       have a0:Hid (Lib.CompInv L.toArray (k+(F+1)) D S):=HC.o.skip (Lib.keeps_neg (by omega) (by rw[G.o.1,G.o.2]));clear G HC;generalize x.1=p0 at*;generalize x.2.1=p1 at*;generalize x.2.2=p2 at*;have q0:((p0:Int)==(p0:Int))=true:=by simp
       have q1:(p1.toList==p1.toList)=true:=by simp
       have q2:(p2.toList==p2.toList)=true:=by simp
       go_upto_region 11 with fail;go_quiet (fail);generalize M:World.drewN _ _=I;have E:Hid (I.ownsRow B 65 3 (.slice (some (tD g 0)) n cap) n (S.toList.flatMap aJ)/\ai (fun b=>b=g) w I/\S.size=n):=by rw[<-M];exact⟨ar O.o.1 (fun _ _=>rfl),O.o.2.1.more (aK (ae _ _) _),O.o.2.2⟩
       clear M;go_wp2;go_roundg (n-(k+(F+1)))
       case measure=>omega
       case rel=>exact⟨D,F+1,S,rfl,by go_num,by omega,by omega,by omega,by omega,E,a0⟩
      have a0:Hid (Lib.CompInv L.toArray (k+(F+1)) (D+1) (S.setIfInBounds D x)):=by
       have h9:=HC.o.keep (by have:=HN.o;simp;omega) (Lib.keeps_pos (by rw[G.o.1,G.o.2];exact he));rw[G.o.1] at h9;exact h9
      have T:Hid (¬(x.1=y.1/\x.2.1=y.2.1/\x.2.2=y.2.2)):=fun e=>he (ez e.1 (ez e.2.1 e.2.2))
      have a3:D<n:=by omega
      have a1:Hid (∀W:zW,W.ownsRow B 65 3 (.slice (some (tD g 0)) n cap) n (S.toList.flatMap aJ)->ai (fun b=>b=g) w W->(((W.setCell (tD g (D*3)) (zI x.1)).setCell (tD g (D*3+1)) (tS x.2.1)).setCell (tD g (D*3+2)) (tS x.2.2)).ownsRow B 65 3 (.slice (some (tD g 0)) n cap) n ((S.setIfInBounds D x).toList.flatMap aJ)/\ai (fun b=>b=g) w (((W.setCell (tD g (D*3)) (zI x.1)).setCell (tD g (D*3+1)) (tS x.2.1)).setCell (tD g (D*3+2)) (tS x.2.2))/\(S.setIfInBounds D x).size=n):=fun W g1 g2=>
       ⟨(DG g1 O.o.2.2 D a3 x).1,g2.trans (DG g1 O.o.2.2 D a3 x).2 (fun _ _ e=>e) (fun _ _ e=>e),by simpa using O.o.2.2⟩
      generalize S.setIfInBounds D x=a5 at*;clear he G HC;generalize x.1=p0 at*;generalize x.2.1=p1 at*;generalize x.2.2=p2 at*;generalize y.1=r0 at*;generalize y.2.1=r1 at*;generalize y.2.2=r2 at*;by_cases t0:p0=r0
      ·subst t0
       have q0:((p0:Int)==(p0:Int))=true:=by simp
       by_cases t1:p1=r1
       ·subst t1
        have q1:(p1.toList==p1.toList)=true:=by simp
        have q2:=Rn.bM (fun h:p2=r2=>T.o ⟨rfl,rfl,h⟩);clear T;go_upto_region 11 with fail;go_quiet (fail);generalize M:World.drewN _ _=I;have E:Hid (I.ownsRow B 65 3 (.slice (some (tD g 0)) n cap) n (S.toList.flatMap aJ)/\ai (fun b=>b=g) w I/\S.size=n):=by rw[<-M];exact⟨ar O.o.1 (fun _ _=>rfl),O.o.2.1.more (aK (ae _ _) _),O.o.2.2⟩
        have V:∀a,I.cell? a=wr.cell? a:=fun a=>by rw[<-M];rfl
        rw[<-V] at x0 x1 x2;clear M V y0 y1 y2;obtain⟨z0,z1,z2⟩:=lT E.o.1 E.o.2.2 D a3;have f0:=E.o.1.frozenAt (D*3);have f1:=E.o.1.frozenAt (D*3+1);have f2:=E.o.1.frozenAt (D*3+2);generalize S[D]! =old at z0 z1 z2;have a6:((D:Nat):Int)<(n:Int):=by omega
        go_wp2;go_roundg (n-(k+(F+1)))
        case measure=>omega
        case rel=>exact⟨D+1,F+1,a5,by go_num,by go_num,by omega,by omega,by omega,by omega,a1.o I E.o.1 E.o.2.1,a0⟩
       have q1:=Rn.bM t1
       clear T t1;go_upto_region 11 with fail;go_quiet (fail);generalize M:World.drewN _ _=I;have E:Hid (I.ownsRow B 65 3 (.slice (some (tD g 0)) n cap) n (S.toList.flatMap aJ)/\ai (fun b=>b=g) w I/\S.size=n):=by rw[<-M];exact⟨ar O.o.1 (fun _ _=>rfl),O.o.2.1.more (aK (ae _ _) _),O.o.2.2⟩
       have V:∀a,I.cell? a=wr.cell? a:=fun a=>by rw[<-M];rfl
       rw[<-V] at x0 x1 x2;clear M V y0 y1 y2;obtain⟨z0,z1,z2⟩:=lT E.o.1 E.o.2.2 D a3;have f0:=E.o.1.frozenAt (D*3);have f1:=E.o.1.frozenAt (D*3+1);have f2:=E.o.1.frozenAt (D*3+2);generalize S[D]! =old at z0 z1 z2;have a6:((D:Nat):Int)<(n:Int):=by omega
       go_wp2;go_roundg (n-(k+(F+1)))
       case measure=>omega
       case rel=>exact⟨D+1,F+1,a5,by go_num,by go_num,by omega,by omega,by omega,by omega,a1.o I E.o.1 E.o.2.1,a0⟩
      have q0:((p0:Int)==(r0:Int))=false:=by simp;omega
      clear T t0;go_upto_region 11 with fail;go_quiet (fail);generalize M:World.drewN _ _=I;have E:Hid (I.ownsRow B 65 3 (.slice (some (tD g 0)) n cap) n (S.toList.flatMap aJ)/\ai (fun b=>b=g) w I/\S.size=n):=by rw[<-M];exact⟨ar O.o.1 (fun _ _=>rfl),O.o.2.1.more (aK (ae _ _) _),O.o.2.2⟩
      have V:∀a,I.cell? a=wr.cell? a:=fun a=>by rw[<-M];rfl
      rw[<-V] at x0 x1 x2;clear M V y0 y1 y2;obtain⟨z0,z1,z2⟩:=lT E.o.1 E.o.2.2 D a3;have f0:=E.o.1.frozenAt (D*3);have f1:=E.o.1.frozenAt (D*3+1);have f2:=E.o.1.frozenAt (D*3+2);generalize S[D]! =old at z0 z1 z2;have a6:((D:Nat):Int)<(n:Int):=by omega
      go_wp2;go_roundg (n-(k+(F+1)))
      case measure=>omega
      case rel=>exact⟨D+1,F+1,a5,by go_num,by go_num,by omega,by omega,by omega,by omega,a1.o I E.o.1 E.o.2.1,a0⟩
     have SI:(((F:Nat):Int)<((n-k:Nat):Int))=False:=by simp;omega
     have a8:k+F=n:=by omega
     have HE:=fun vs=>LZ HN.o (by rw[<-a8];exact HC.o) O.o.1 vs
     have a9:∀ty,(Builtin.clear_ #[31] ty #[.slice (some (tD g (D*3))) (n-D) (cap-D)]).run prog wr=.ok (.tuple #[]) (wr.setCells g (D*3) (Builtin.zeroCells (Value.agg #[zI 0,zE,zE]).cells (n-D)).toList):=
      fun ty=>yZ wr 31 65 ty (.agg #[zI 0,zE,zE]) underlying31 zeroValue65 (by decide) (by decide) g (D*3) (n-D) (cap-D) (by omega)
       (fun j hj=>by
        have ad:j<(n-D)*3:=hj;obtain⟨c0,c1,c2⟩:=lT O.o.1 O.o.2.2 (D+j/3) (by omega);rcases(by omega:D*3+j=(D+j/3)*3\/D*3+j=(D+j/3)*3+1\/D*3+j=(D+j/3)*3+2) with e|e|e
        ·rw[e,c0];rfl
        ·rw[e,c1];rfl
        rw[e,c2];rfl)
       (fun j _=>O.o.1.frozenAt (D*3+j))
     generalize (Builtin.zeroCells (Value.agg #[zI 0,zE,zE]).cells (n-D)).toList=vs at a9
     have HF:Hid (D=(Lib.compact L).length/\(wr.setCells g (D*3) vs).ownsRow B 65 3 (.slice (some (tD g 0)) (Lib.compact L).length cap) (Lib.compact L).length ((Lib.compact L).flatMap aJ)/\ai (fun b=>b=g) w (wr.setCells g (D*3) vs)):=
      ⟨(HE vs).1,(HE vs).2.1,O.o.2.1.trans (HE vs).2.2 (fun _ _ e=>e) (fun _ _ e=>e)⟩
     clear HE O HC;have a6:((D:Nat):Int)<=(n:Int):=by omega
     go_wp2;go_ret;exact⟨cV (fun m=>Ending.returned (.slice (some (tD g 0)) m cap)) HF.o.1,HF.o.2⟩
   have a4:Hid (∀j,j<k+1->Lib.keeps L.toArray j=true):=fun j hj=>by
    by_cases e:j=k
    ·subst e
     exact Lib.keeps_pos (by simpa using fun e2:L[j]! =L[j-1]! => he (G.o.1.symm.trans (e2.trans G.o.2)))
    exact HK.o j (by omega)
   have T:Hid (¬(x.1=y.1/\x.2.1=y.2.1/\x.2.2=y.2.2)):=fun e=>he (ez e.1 (ez e.2.1 e.2.2))
   clear he G;generalize x.1=p0 at*;generalize x.2.1=p1 at*;generalize x.2.2=p2 at*;generalize y.1=r0 at*;generalize y.2.1=r1 at*;generalize y.2.2=r2 at*;by_cases t0:p0=r0
   ·subst t0
    have q0:((p0:Int)==(p0:Int))=true:=by simp
    by_cases t1:p1=r1
    ·subst t1
     have q1:(p1.toList==p1.toList)=true:=by simp
     have q2:=Rn.bM (fun h:p2=r2=>T.o ⟨rfl,rfl,h⟩);clear T;go_upto_region 6 with fail;go_quiet (fail);generalize M:World.drewN _ _=I;have U:Hid (I.ownsRow B 65 3 (.slice (some (tD g 0)) n cap) n (L.flatMap aJ)/\ai (fun b=>b=g) w I):=by rw[<-M];exact⟨ar Y.o.1 (fun _ _=>rfl),Y.o.2.more (aK (ae _ _) _)⟩
     clear M;go_wp2;go_roundg (n-(k+1))
     case measure=>omega
     case rel=>exact⟨k+1,by omega,by omega,by omega,by go_num,U,a4⟩
    have q1:=Rn.bM t1
    clear T t1;go_upto_region 6 with fail;go_quiet (fail);generalize M:World.drewN _ _=I;have U:Hid (I.ownsRow B 65 3 (.slice (some (tD g 0)) n cap) n (L.flatMap aJ)/\ai (fun b=>b=g) w I):=by rw[<-M];exact⟨ar Y.o.1 (fun _ _=>rfl),Y.o.2.more (aK (ae _ _) _)⟩
    clear M;go_wp2;go_roundg (n-(k+1))
    case measure=>omega
    case rel=>exact⟨k+1,by omega,by omega,by omega,by go_num,U,a4⟩
   have q0:((p0:Int)==(r0:Int))=false:=by simp;omega
   clear T t0;go_upto_region 6 with fail;go_quiet (fail);generalize M:World.drewN _ _=I;have U:Hid (I.ownsRow B 65 3 (.slice (some (tD g 0)) n cap) n (L.flatMap aJ)/\ai (fun b=>b=g) w I):=by rw[<-M];exact⟨ar Y.o.1 (fun _ _=>rfl),Y.o.2.more (aK (ae _ _) _)⟩
   clear M;go_wp2;go_roundg (n-(k+1))
   case measure=>omega
   case rel=>exact⟨k+1,by omega,by omega,by omega,by go_num,U,a4⟩
  have ij:(((k:Nat):Int)<(n:Int))=False:=by simp;omega
  obtain rfl:k=n:=by omega
  go_wp2;go_ret;obtain⟨e1,e2⟩:=HS.o wr Y.o.1 Y.o.2 HK.o;exact⟨cV Ending.returned e1,e2⟩
end Pn
namespace Pn
open Mf Ed
variable{w:zW}
def once(L:List Pb):List Pb:=Lib.compact (Ss.aN (Go.Proofs.ltOf cT) L)
theorem FH(D:zV)(w:zW):zC 56 #[zN,D] w fun e w'=>e=.returned (.tuple #[])/\w'=w:=AnyF.slices_SortFunc_none Tryz.laysSort_p none 0 D w
theorem DJ(w:zW):zC 58 #[zN] w fun e w'=>e=.returned (zN)/\w'=w:=by
 go_enter func58,ntmps58;go_wp2;go_ret;exact⟨rfl,rfl⟩
theorem BG(B:Nat)(v:zV)(L:List Pb)(w:zW)(hm:Ml w)(hB:0<B)(h:w.ownsRow B 65 3 v L.length (L.flatMap aJ))(hl:L.length<=4000000):
  zC 43 #[v] w fun e w'=>∃v',e=.returned v'/\w'.ownsRow B 65 3 v' (once L).length ((once L).flatMap aJ)/\ai (fun b=>v.ownBlock=some b) w w':=by
 rcases h.2 with⟨rfl,T⟩|⟨g,cap,a0,rfl,a1,_⟩
 ·have e0:L=[]:=List.length_eq_zero_iff.1 T
  subst e0;have I:=FH (.func (.func 57) #[] #[]) w;have G:=DJ w;have HO:Hid (w.ownsRow B 65 3 (zN) 0 []):=⟨rfl,oE ⟨rfl,rfl⟩⟩;clear h T hl;go_enter func43,ntmps43
  go_wp2_with (go_at_call 56;fail)
  go_at_call 56;refine I.mono ?_;rintro e M ⟨rfl,rfl⟩
  go_wp2_with (go_at_call 58;fail)
  go_at_call 58;refine G.mono ?_;rintro e O ⟨rfl,rfl⟩;go_wp2;go_ret;exact⟨_,rfl,HO.o,ai.refl _ _⟩
 have I:=LX B 65 g cap L w hm (by omega) h (by omega)
 have D:(Ss.aN (Go.Proofs.ltOf cT) L).length=L.length:=Ss.cu _;have G:=fun W hW=>DI B g cap (Ss.aN (Go.Proofs.ltOf cT) L) W hW (by omega)
 rw[D] at G;clear D h;generalize L.length=n at*;go_enter func43,ntmps43
 go_wp2_with (go_at_call 56;fail)
 go_at_call 56;refine I.mono ?_;rintro e M ⟨rfl,U,V⟩;have HT:Hid (ai (fun b=>b=g) w M):=V;have Y:=G M U;clear I G U V
 go_wp2_with (go_at_call 58;fail)
 go_at_call 58;refine Y.mono ?_;rintro e O ⟨rfl,E,F⟩
 have S:Hid (O.ownsRow B 65 3 (.slice (some (tD g 0)) (once L).length cap) (once L).length ((once L).flatMap aJ)/\ai (fun b=>(Value.slice (some (tD g 0)) n cap).ownBlock=some b) w O):=
  ⟨E,HT.o.trans F (fun _ _ e=>by rw[e];rfl) (fun _ _ e=>by rw[e];rfl)⟩
 clear Y E F;go_wp2;go_ret;exact⟨_,rfl,S.o.1,S.o.2⟩
