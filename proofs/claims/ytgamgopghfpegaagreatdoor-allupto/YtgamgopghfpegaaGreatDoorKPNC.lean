import Derived.Shelf.Spec.SlicesGrow
import Derived.Test.YtgamgopghfpegaaGreatDoorKPMO
import Derived.Lib.SlicesCompact
set_option linter.all false
open Go.Proofs.Tryz
set_option maxRecDepth 100000
set_option maxHeartbeats 4000000
namespace Go.Proofs.YtgamgopghfpegaaGreatDoor
open Go.RowKit
namespace Pn
open Mf Ed
variable{A:Nat→Prop}{w:zW}
theorem zT v L w(h:RdA A Sm.mc w v L)(F:L.length≤16777216):
  zC 81 #[v] w fun e w'=>∃D,e=.returned D∧w'.ownsRow w 68 2 D L (mcs L)∧Below w w w':=by
 rcases h with⟨f,E⟩|⟨b,off,c,f,_,G⟩
 ·rw[f,E]
  refine(Sm.nB w).mono ?_;rintro e w' ⟨rfl,rfl⟩;exact⟨_,rfl,iM _ _ _ _,af _ _⟩
 ·rw[f]
  refine(Sm.nA b off c L w F G).mono ?_
  grind
def SY:Go.Shelf.Ren:=⟨fun|41=>84|n=>n,fun|22=>57|23=>9|4=>4|n=>n,fun|n=>n⟩
theorem Ic:Go.Proofs.SlLaysE0.n41 prog SY:={
 mixed:=aB
 f41:=⟨f84.name,aA,func84.trans (iE some aB)⟩
 t4:=underlying4
 a4:=isAgg4
 z4:=sizeOf4
 v4:=zeroValue4
 t22:=underlying57
 a22:=isAgg57
 z22:=sizeOf57
 v22:=zeroValue57}
theorem qA v L w(h:RdA A dU w v L)(Y:L.length≤16777216):
  zC 84 #[v] w fun e w'=>∃f,e=.returned f∧w'.ownsRow w 9 1 f L (L.flatMap dU)∧Below w w w':=by
 rcases h with⟨D,O⟩|⟨b,off,c,D,_,S⟩
 ·rw[D,O]
  refine(AnyE.slices_Clone_nil Ic 0 0 w).mono ?_;rintro e w' ⟨rfl,rfl⟩;exact⟨_,rfl,iM _ _ _ _,af _ _⟩
 ·rw[D]
  obtain⟨V,F,G,I,M⟩:=Bm.eD 9 (zE) 1 16 aB;refine(AnyE.slices_Clone Ic V _ 1 16 F G I M rfl aA sizeOf9 b off _ c _ w (Ss.gp (enc:=dU) (fun _=>rfl) L) ae ae S (fun u U=>?_)).mono ?_
  ·obtain⟨x,_,E⟩:=List.mem_flatMap.1 U
   simp[dU] at E;rw[E];rfl
  ·rintro e w' ⟨f,rfl,T,_,R⟩
   exact⟨f,rfl,T,R⟩
def SZ:Go.Shelf.Ren:=⟨fun|4=>113|n=>n,fun|22=>56|25=>72|20=>20|n=>n,fun|n=>n⟩
theorem Ie:Go.Proofs.Lays8.n4 prog SZ:={
 mixed:=aB
 f4:=⟨f113.name,aA,func113.trans (iE some aB)⟩
 t0:=underlying0
 a0:=isAgg0
 z0:=sizeOf0
 v0:=zeroValue0
 t3:=underlying3
 a3:=isAgg3
 z3:=sizeOf3
 v3:=zeroValue3
 t4:=underlying4
 a4:=isAgg4
 z4:=sizeOf4
 v4:=zeroValue4
 t9:=underlying9
 a9:=isAgg9
 z9:=sizeOf9
 v9:=zeroValue9
 t20:=underlying20
 a20:=isAgg20
 z20:=sizeOf20
 v20:=zeroValue20
 t22:=underlying56
 a22:=isAgg56
 z22:=sizeOf56
 v22:=zeroValue56}
theorem EI n w(R:n≤3000000000000):zC 113 #[zN,(n:Nat)] w fun e w'=>∃v,e=.returned v∧w'.ownsRow w 72 3 v 0 []∧Below w w w':=by
 by_cases F:n=0
 ·subst F
  refine(Any8.slices_Grow_room Ie none 0 0 0 w (ai _) ae ae ae).mono ?_;rintro e w' ⟨rfl,rfl⟩;exact⟨_,rfl,iM _ _ _ _,af _ _⟩
 ·obtain⟨M,f,D,O,E⟩:=Bm.eD 72 (.agg #[.int .i64 0,zE,zE]) 3 40 aB
  refine(Any8.slices_Grow_grow Ie M _ f D ae none 0 0 n [] w (ai _) ae (by rw[E];omega) ae ah (fun _=>rfl) (fun a e=>by cases e)).mono ?_;rintro e w' ⟨rfl,rfl⟩;refine⟨_,rfl,?_,?_⟩
  ·have G:=grownCap_ge w (0+n) 0 72
   refine World.ownsRow_made _ _ (grownCap w _ 0 72) (ai _) (grownCap_le_maxLen w _ _ _ (by unfold maxLen;omega)) ?_;have I:(Value.agg #[.int .i64 0,zE,zE]).cells.size=3:=rfl;show([].toArray++Builtin.zeroCells _ (0+n-0)++Builtin.zeroCells _ (grownCap w (0+n) 0 72-(0+n))).size=_;rw[Array.size_append,Array.size_append,size_zeroCells,size_zeroCells,I]
   grind
  ·exact((af _ _).drew).alloc (ai _) _
end Pn
namespace Pn
open Mf Ed
variable{A:Nat→Prop}{w:zW}
theorem iZ{α}{enc}{P:Program}w{M}{rest}{o}{a}{Q}(I:o.guard=none)s x t
  (ho:o.op=.call {callee:=.builtin .append,args:=#[s,x],argTypes:=#[t,t]})
  (base:Nat) e (i:TypeInfo) (z:zV) size bytes (ht:P.underlying t=some (.slice e)) (Y:P.info? e=i) (hz:i.zero=z)
  (F:i.size=size) (S:i.bytes=bytes) (V:z.cells.size=size) (U:0<size)
  v n xs (hs:a.eval s=v) (D:w.ownsRow base e size v n xs)
  xv (L:List α) (hx:a.eval x=xv) (T:RdA A enc w xv L) (hl:∀y,(enc y)=size) (h1:∀y,∀u∈enc y,u.oneCell'=true)
  (R:n+L≤maxLen) (f:(n+L)*bytes≤140737488355328) (E:base≤w)
  (h:∀G w',w'.ownsRow base e size G (n+L) (xs++L.flatMap enc)→w.grownBy w' v.ownBlock→(G.ownBlock=v.ownBlock∨G.ownBlock=some w.heap.size)→wpList P M Q rest (a.put o.dst G) w'):
  wpList P M Q (o::rest) a w:=by
 rcases T with⟨O,e2⟩|⟨b,off,c,O,_,hc⟩
 ·refine wpList_append_own_none I s x t ho base e i size ht Y v n xs hs D (by rw[hx,O]) (h v w ?_ ⟨rfl,rfl,rfl,ai _,fun _ _ _=>rfl⟩ (Or.inl rfl))
  grind
 ·refine bO w I s x t ho base e i z size bytes ht Y hz F S V U v n xs hs D (b,off) _ c _ (by rw[hx,O]) (Ss.gp hl L) (fun j u hj=>by rw[addr_add];grind) (fun u hu=>?_) R f E (fun G w' g1 g2 _ g3=>h G w' g1 g2 g3)
  grind
def jD(f D:List Pb)(i:Nat):List Pb:=if i=0 then [] else if i=1 then f else f++D
theorem GB(b:Nat)v1 v2 f D w(hb:w.heap[b]?=some (.cells #[v1,v2] 56))(h1:RdA A aZ w v1 f)(h2:RdA A aZ w v2 D)(hl:f.length≤1000000∧D.length≤1000000):
  zC 83 #[.slice (some (b,0)) 2 2] w fun e w'=>∃v,e=.returned v∧w'.ownsRow w 72 3 v (f++D) ((f++D).flatMap aZ)∧Below w w w':=by
 obtain⟨i3,a6,a7,a8,a9⟩:=Bm.eD 72 (.agg #[.int .i64 0,zE,zE]) 3 40 aB;have S:Hid (_∧_∧_∧_):=⟨a6,a7,a8,a9⟩;clear a6 a7 a8 a9;obtain⟨a1,c1,e1⟩:=h1.len;obtain⟨a2,c2,e2⟩:=h2.len;subst e1;subst e2;have HR:Hid (_∧_∧_):=⟨h1,h2,hb⟩;obtain⟨⟨d0,_⟩,⟨d1,_⟩⟩:=fd2 hb;have a5:=ag hb;clear h1 h2 hb;obtain⟨PX,a3⟩:∃PX,PX=f.flatMap aZ:=⟨_,rfl⟩;have az:=zH a3;clear a3;generalize U:f.length=n1 at*;generalize V:D.length=n2 at*;have HN:Hid (_∧_):=⟨U,V⟩
 have av:Hid ((f++D).length=n1+n2):=by
  show(f++D).length=n1+n2;rw[bj,U,V]
 clear U V;have kg:=EI (n1+n2) w ae;go_enter func83,ntmps83;go_wp2;go_loopg [3,11] 2 (fun gg s3 an wr=>∃i:Nat,i≤2∧2-i≤gg∧s3=.int .i64 ((if i=0 then 0 else if i=1 then n1 else n1+n2:Nat):Int)∧an=.int .i64 i∧w=wr)
 case atStart=>exact⟨0,ae,ae,rfl,rfl,rfl⟩
 case round=>
  obtain⟨i,hi,hg,Y,rfl,rfl⟩:=hrel;rcases(by omega:i=0∨i=1∨i=2) with rfl|rfl|rfl
  ·rw[Y,ay rfl]
   clear Y;go_wp2;go_roundg 1
   case measure=>omega
   grind
  ·rw[Y,au aA,ay rfl]
   clear Y;go_wp2;go_roundg 0
   case measure=>omega
   grind
  ·rw[Y,au aA,au aA]
   clear Y
   go_wp2_with (go_at_call 113;fail)
   go_at_call 113;refine kg.mono ?_;rintro e w1 ⟨v,rfl,ho,a4⟩;have a0:Hid (w1.ownsRow _ 72 3 v (jD f D 0) ((jD f D 0).flatMap aZ)∧_):=⟨ho,a4⟩;clear ho a4 kg d0 d1;go_wp2;go_loopg [6,27] 2 (fun gg s6 aq wr=>∃(i:Nat)(rv:zV),i≤2∧2-i≤gg∧rv=s6∧aq=.int .i64 i∧Hid (wr.ownsRow w.heap.size 72 3 rv (jD f D i).length ((jD f D i).flatMap aZ)∧zB w wr))
   case atStart=>exact⟨0,v,ae,ae,rfl,rfl,a0⟩
   case round=>
    obtain⟨i,rv,hi,hg,ad,rfl,HV⟩:=hrel;subst ad;clear a0;rcases(by omega:i=0∨i=1∨i=2) with rfl|rfl|rfl
    ·have I:Hid (wr.ownsRow _ 72 3 rv ([]) (([]).flatMap aZ)∧_):=HV.out
     obtain⟨ra,rc,er⟩:=aC I.out.1;subst er;obtain⟨O,G⟩:∃O,O=([]:List Pb).flatMap aZ:=⟨_,rfl⟩;have HX:=zH G;have HO:Hid (wr.ownsRow w 72 3 (.slice ra ([]:List Pb) rc) ([]:List Pb) O):=by rw[G];exact I.out.1
     have ab:([]:List Pb).length≤1000000:=by exact aN _
     have M:=zH HN.out.1;generalize R:([]:List Pb).length=kk at*;have T:=zH R;clear R;clear G HV;obtain⟨⟨d0,_⟩,⟨d1,_⟩⟩:=fd2 ((I.out.2.block b a5).trans HR.out.2.2);have ak:=I.out.2.size
     go_wp2_with (at_builtin;refine iZ _ rfl _ _ 56 rfl _ 72 i3 _ 3 40 underlying56 S.out.1 S.out.2.1 S.out.2.2.1 S.out.2.2.2 rfl aA (.slice ra kk rc) kk O rfl HO.out _ f rfl (HR.out.1.below I.out.2) (fun _=>rfl) yj ?_ ?_ ?_ ?_)
     all_goals first
      |(show kk+f.length≤maxLen;rw[M.out];unfold maxLen;omega)
      |(show(kk+f.length)*40≤140737488355328;rw[M.out];omega)
      |(show w.heap.size≤wr.heap.size;omega)
      |skip
     intro v9 w9 F E _
     have aa:Hid (w9.ownsRow w 72 3 v9 (jD f D 1) ((jD f D 1).flatMap aZ)∧zB w w9):=by
      have hT:=(aj.refl _ _).grown E (fun bb _ e=>e);refine⟨?_,bg I.out.2 hT (fun bb e=>(HO.out.lt bb e).1)⟩;have e1:(jD f D 1)=kk+f:=by rw[←T.out];simp[jD]
      rw[e1,show(jD f D 1).flatMap aZ=O++f.flatMap aZ by rw[HX.out];simp[jD]];exact F
     clear F E d0 d1;go_wp2;go_roundg 1
     case measure=>omega
     grind
    ·have I:Hid (wr.ownsRow _ 72 3 rv f (f.flatMap aZ)∧_):=HV.out
     obtain⟨ra,rc,er⟩:=aC I.out.1;subst er;obtain⟨O,G⟩:∃O,O=(f:List Pb).flatMap aZ:=⟨_,rfl⟩;have HX:=zH G;have HO:Hid (wr.ownsRow w 72 3 (.slice ra f rc) f O):=by rw[G];exact I.out.1
     have ab:f.length≤1000000:=by rw[HN.out.1];exact hl.1
     have M:=zH HN.out.2;generalize R:(f:List Pb).length=kk at*;have T:=zH R;clear R;clear G HV;obtain⟨⟨d0,_⟩,⟨d1,_⟩⟩:=fd2 ((I.out.2.block b a5).trans HR.out.2.2);have ak:=I.out.2.size
     go_wp2_with (at_builtin;refine iZ _ rfl _ _ 56 rfl _ 72 i3 _ 3 40 underlying56 S.out.1 S.out.2.1 S.out.2.2.1 S.out.2.2.2 rfl aA (.slice ra kk rc) kk O rfl HO.out _ D rfl (HR.out.2.1.below I.out.2) (fun _=>rfl) yj ?_ ?_ ?_ ?_)
     all_goals first
      |(show kk+D.length≤maxLen;rw[M.out];unfold maxLen;omega)
      |(show(kk+D.length)*40≤140737488355328;rw[M.out];omega)
      |(show w.heap.size≤wr.heap.size;omega)
      |skip
     intro v9 w9 F E _
     have aa:Hid (w9.ownsRow w 72 3 v9 (jD f D 2) ((jD f D 2).flatMap aZ)∧zB w w9):=by
      have hT:=(aj.refl _ _).grown E (fun bb _ e=>e);refine⟨?_,bg I.out.2 hT (fun bb e=>(HO.out.lt bb e).1)⟩;have e1:(jD f D 2)=kk+D:=by rw[←T.out];simp[jD]
      rw[e1,show(jD f D 2).flatMap aZ=O++D.flatMap aZ by rw[HX.out];simp[jD]];exact F
     clear F E d0 d1;go_wp2;go_roundg 0
     case measure=>omega
     grind
    ·have HF:Hid (wr.ownsRow _ 72 3 rv (f++D) ((f++D).flatMap aZ)∧_):=HV.out
     go_wp2;go_ret;exact⟨_,rfl,HF.out.1,HF.out.2⟩
end Pn
namespace Pn
open Mf Ed
variable{w:zW}
theorem tq{B g n cap:Nat}{e:TypeId}{s:Nat}:∀(f:List zV)(o:Nat)(w:zW)(xs:List zV),w.ownsRow B e s (.slice (some ⟨g,0,none⟩) n cap) n xs→
  ∃D,(w.setCells g o f).ownsRow B e s (.slice (some ⟨g,0,none⟩) n cap) n D∧D.take o=xs.take o∧aj (fun b=>b=g) w (w.setCells g o f)
 |[],_,w,xs,h=>⟨xs,h,rfl,aj.refl _ _⟩
 |v::f,o,w,xs,h=>by
  obtain⟨D,F,G,I⟩:=tq f (o+1) _ _ (h.stored o v).1;refine⟨D,F,?_,aj.trans ((aj.refl (fun b=>b=g) w).set (fun _=>rfl) v) I (fun _ _ e=>e) (fun _ _ e=>e)⟩;have E:=iE (List.take o) G;rw[List.take_take,List.take_take,Nat.min_eq_left (bW o)] at E;rw[E,List.take_set_of_le (ai o)]
theorem Ql{B g n cap:Nat}{e}{s}{xs}(h:w.ownsRow B e s (.slice (some (g,0)) n cap) n xs){k}(M:k≤n):w.ownsRow B e s (.slice (some (g,0)) k cap) k (xs.take (k*s)):=by
 rcases h.2 with⟨f,_⟩|⟨U,I,D,f,O,R,G,E,F,T⟩
 ·simp at f
 ·simp only[Value.slice.injEq,jQ,Addr.mk.injEq,iF,true_and] at f
  obtain⟨rfl,rfl⟩:=f;have S:=dD s M;refine⟨by rw[jy,h.1];omega,.inr ⟨g,cap,D,rfl,O,R,aP M G,E,F,?_⟩⟩
  grind
theorem zU{P}w t e ty z(G:P.underlying t=some (.slice e))(I:∀w,(zeroValue e).run P w=.ok z w)(O:∀v∈z.cells,v.oneCell'=true)(M:0<z.cells.size)b o n c(T:0<n)
  (R:∀j,j<n*z.cells.size→(w.cell? (b,o+j)).isSome=true) (S:∀j,j<n*z.cells.size→w.frozen? (b,o+j)=false):
  (Builtin.clear_ #[t] ty #[.slice (some (b,o)) n c]).run P w=.ok (.tuple #[]) (w.setCells b o (Builtin.zeroCells z.cells n).toList):=by
 have E:(Builtin.zeroCells z.cells n).toList=n*z.cells.size:=by simp[Builtin.zeroCells]
 have f:=run_storeCells_cells (P:=P) b o (Builtin.zeroCells z.cells n).toList 0 w ax ax (by
  intro v D;simp only[Builtin.zeroCells,Array.toList_map,dC] at D;obtain⟨i,_,rfl⟩:=D;have F:i%_<_:=Nat.mod_lt _ M
  grind)
 simp only[Nat.add_zero] at f;obtain⟨m,rfl⟩:∃m,n=m+1:=⟨n-1,ae⟩;simp[Builtin.clear_,run_underlying G,I,f]
end Pn
namespace Pn
open Mf Ed
variable{w:zW}
instance:Inhabited Pb:=⟨(0,⟨#[]⟩,⟨#[]⟩)⟩
theorem CB{B g cap:Nat}{D:List Pb}(h:w.ownsRow B 72 3 (.slice (some (g,0)) D cap) D (D.flatMap aZ))(j:Nat)(F:j<D):
  w.cell? (g,j*3)=some (.int .i64 D[j]!.1)∧w.cell? (g,j*3+1)=some (.string D[j]!.2.1)∧w.cell? (g,j*3+2)=some (.string D[j]!.2.2):=by
 have G:RdA (fun _=>False) aZ w _ D:=RdA.own h rfl (fun _=>rfl) (fun _ e=>e.elim);obtain⟨b,o,c,E,f⟩:=RdA.at G (s:=3) (fun _=>rfl) aA (af _ _) j F;simp only[Value.slice.injEq,jQ,Addr.mk.injEq,iF,true_and] at E;obtain⟨⟨rfl,rfl⟩,_⟩:=E;rw[cB D j F];refine⟨?_,?_,?_⟩
 ·have:=f 0 _ rfl;simpa using this
 ·have:=f 1 _ rfl;simpa using this
 ·have:=f 2 _ rfl;simpa using this
theorem NT{B g n cap:Nat}{e}{s}{xs}(h:w.ownsRow B e s (.slice (some (g,0)) n cap) n xs):n≤cap∧cap≤9223372036854775807:=by
 rcases h.2 with⟨f,_⟩|⟨O,F,G,f,R,S,E,D,I,M⟩
 ·simp at f
 ·simp only[Value.slice.injEq,jQ,Addr.mk.injEq,iF,true_and] at f
  obtain⟨rfl,rfl⟩:=f;exact⟨E,by unfold maxLen at D;omega⟩
theorem uW:∀(D:List Pb)(j:Nat)(p:Pb),j<D.length→(((D.flatMap aZ).set (j*3) (.int .i64 p.1)).set (j*3+1) (.string p.2.1)).set (j*3+2) (.string p.2.2)=(D.set j p).flatMap aZ
 |[],j,p,h=>by simp at h
 |d::D,0,p,_=>rfl
 |d::D,j+1,p,h=>by
  have E:=uW D j p (by simpa using h);have e:(d::D).flatMap aZ=_::_::_::D.flatMap aZ:=rfl;have f:((d::D).set (j+1) p).flatMap aZ=_::_::_::(D.set j p).flatMap aZ:=rfl;rw[e,f,←E,show(j+1)*3=j*3+3 by omega,show j*3+3+1=(j*3+1)+3 by omega,show j*3+3+2=(j*3+2)+3 by omega]
  rfl
theorem yA:∀(D:List Pb)(k:Nat),(D.flatMap aZ).take (k*3)=(D.take k).flatMap aZ
 |[],k=>by simp
 |d::D,0=>by simp
 |d::D,k+1=>by
  have E:=yA D k;have e:(d::D).flatMap aZ=_::_::_::D.flatMap aZ:=rfl;have f:((d::D).take (k+1)).flatMap aZ=_::_::_::(D.take k).flatMap aZ:=rfl;rw[e,f,show _*3=k*3+1+1+1 by omega,List.take_succ_cons,List.take_succ_cons,List.take_succ_cons,E]
theorem EJ{B g n cap}{d:Array Pb}(h:w.ownsRow B 72 3 (.slice (some (g,0)) n cap) n (d.toList.flatMap aZ))(hd:d.size=n)j(D:j<n)p:
  (((w.setCell (g,j*3) (p.1)).setCell (g,j*3+1) (p.2.1)).setCell (g,j*3+2) (p.2.2)).ownsRow B 72 3 (.slice (some (g,0)) n cap) n ((d.setIfInBounds j p).toList.flatMap aZ)∧aj (fun b=>b=g) w (((w.setCell (g,j*3) (p.1)).setCell (g,j*3+1) (p.2.1)).setCell (g,j*3+2) (p.2.2)):=by
 have f:=(((h.stored (j*3) (p.1)).1.stored (j*3+1) (p.2.1)).1.stored (j*3+2) (p.2.2)).1;rw[uW _ _ _ (by simpa[hd] using D)] at f;refine⟨by rw[Array.toList_setIfInBounds];exact f,(((aj.refl (fun b=>b=g) w).set (fun _=>rfl) _).set (fun _=>rfl) _).set (fun _=>rfl) _⟩
theorem tu{B g n cap:Nat}{d:Array Pb}(h:w.ownsRow B 72 3 (.slice (some (g,0)) n cap) n (d.toList.flatMap aZ))(hd:d.size=n)j(D:j<n):
  w.cell? (g,j*3)=some (.int .i64 d[j]!.1)∧w.cell? (g,j*3+1)=some (.string d[j]!.2.1)∧w.cell? (g,j*3+2)=some (.string d[j]!.2.2):=by
 have f:d.toList=n:=by simpa using hd
 have:=CB (by rw[f];exact h:w.ownsRow B 72 3 (.slice (some (g,0)) d.toList cap) _ _) j ae;have e:d.toList[j]! =d[j]!:=by rw[cB _ j ae,cB d j ae];simp
 rw[e] at this;exact this
theorem Kn{L:List Pb}{kk}{f}(h:Lib.CompInv L.toArray L kk f):f.toList.take kk=Lib.compact L:=by
 have F:f.size=L:=by simpa using h.size
 have E:=h.lt;apply qH;intro j;unfold Lib.compact;by_cases D:j<kk
 ·rw[h.low j D,List.getElem?_take_of_lt D]
  have:j<f.size:=ae;simp[this]
 ·rw[qE aJ,qE (by rw[h.len];omega)]
theorem NU{B g n cap kk:Nat}{L:List Pb}{D}(O:n=L)(h:Lib.CompInv L.toArray n kk D)(R:w.ownsRow B 72 3 (.slice (some (g,0)) n cap) n (D.toList.flatMap aZ))f:
  kk=(Lib.compact L)∧(w.setCells g (kk*3) f).ownsRow B 72 3 (.slice (some (g,0)) (Lib.compact L) cap) (Lib.compact L) ((Lib.compact L).flatMap aZ)∧aj (fun b=>b=g) w (w.setCells g (kk*3) f):=by
 subst O;have F:(Lib.compact L)=kk:=h.len;obtain⟨S,G,I,M⟩:=tq f (kk*3) w _ R;have E:=Ql G (Nat.le_of_lt h.lt);rw[I,yA,Kn h] at E;exact⟨F.symm,by rw[F];exact E,M⟩
theorem Ra{x y:Pb}(h:¬x=y):((x.1:Int)==(y.1:Int))=false∨((x.1:Int)==(y.1:Int))=true∧((x.2.1.toList==y.2.1.toList)=false∨(x.2.1.toList==y.2.1.toList)=true∧(x.2.2.toList==y.2.2.toList)=false):=by
 by_cases t0:x.1=y.1
 ·refine Or.inr ⟨by simp[t0],?_⟩
  by_cases t1:x.2.1=y.2.1
  ·exact Or.inr ⟨by simp[t1],Rn.iN fun t2=>h (Prod.ext t0 (Prod.ext t1 t2))⟩
  ·exact Or.inl (Rn.iN t1)
 ·exact Or.inl aJ
theorem EK B g cap(L:List Pb)w(h:w.ownsRow B 72 3 (.slice (some (g,0)) L cap) L (L.flatMap aZ))(hl:L.length≤4000000):
  zC 112 #[.slice (some (g,0)) L cap] w fun e w'=>e=.returned (.slice (some (g,0)) (Lib.compact L) cap)∧w'.ownsRow B 72 3 (.slice (some (g,0)) (Lib.compact L) cap) (Lib.compact L) ((Lib.compact L).flatMap aZ)∧aj (fun b=>b=g) w w':=by
 have H0:=zH h;obtain⟨n,hn⟩:∃n,n=L.length:=⟨_,rfl⟩;have V:=zH hn;rw[←hn] at hl ⊢
 have HS:Hid (∀W,W.ownsRow B 72 3 (.slice (some (g,0)) n cap) n (L.flatMap aZ)→aj (fun b=>b=g) w W→(∀j,j<n→Lib.keeps L.toArray j=true)→(Value.slice (some (g,0)) n cap=.slice (some ⟨g,0,none⟩) (Lib.compact L) cap)∧W.ownsRow B 72 3 (.slice (some ⟨g,0,none⟩) (Lib.compact L) cap) (Lib.compact L) ((Lib.compact L).flatMap aZ)∧aj (fun b=>b=g) w W):=fun W h1 h2 h3=>by
  rw[Lib.compact_all L (by rw[←hn];exact h3),←hn];exact⟨rfl,h1,h2⟩
 have O:Hid (w.ownsRow B 72 3 (.slice (some (g,0)) n cap) n (L.flatMap aZ)∧aj (fun b=>b=g) w w):=by rw[hn];exact⟨h,aj.refl _ _⟩
 obtain⟨aq,a8⟩:=NT O.out.1;clear h hn;by_cases h2:n<2
 ·go_enter func112,ntmps112
  go_wp2;go_ret;obtain⟨e1,e2⟩:=HS.out w O.out.1 O.out.2 (fun j hj=>Lib.keeps_lt_one _ j ae);exact⟨iE _ e1,e2⟩
 ·go_enter func112,ntmps112
  go_wp2;go_loopg [3] n (fun gg s3 wr=>∃k:Nat,1≤k∧k≤n∧n-k≤gg∧s3=.int .i64 k∧Hid (wr.ownsRow B 72 3 (.slice (some ⟨g,0,none⟩) n cap) n (L.flatMap aZ)∧aj (fun b=>b=g) w wr)∧Hid (∀j,j<k→Lib.keeps L.toArray j=true))
  case atStart=>exact⟨1,ae,ae,ae,rfl,O,Lib.keeps_lt_one _⟩
  case round=>
   obtain⟨k,ab,hk,hg,rfl,S,HK⟩:=hrel;clear O;by_cases an:k<n
   ·have fD:k<(n:Int):=ae
    obtain⟨x0,x1,x2⟩:=CB (by rw[←V.out];exact S.out.1:wr.ownsRow B 72 3 (.slice (some (g,0)) L cap) _ _) k (by have:=V.out;omega);obtain⟨y0,y1,y2⟩:=CB (by rw[←V.out];exact S.out.1:wr.ownsRow B 72 3 (.slice (some (g,0)) L cap) _ _) (k-1) (by have:=V.out;omega);generalize hx:L[k]! =x at x0 x1 x2;generalize hy:L[k-1]! =y at y0 y1 y2;have f:Hid (_∧_):=⟨hx,hy⟩;clear hx hy;by_cases he:x=y
    ·subst he
     generalize x.1=p0 at*;generalize x.2.1=p1 at*;generalize x.2.2=p2 at*;have q0:(p0==p0)=true:=ah;have q1:(p1.toList==p1.toList)=true:=ah;have q2:(p2.toList==p2.toList)=true:=ah;go_upto_region 6 with fail;go_quiet (fail);generalize M:World.drewN _ _=I;have R:Hid (I.ownsRow B 72 3 (.slice (some (g,0)) n cap) n (L.flatMap aZ)∧aj (fun b=>b=g) w I):=by rw[←M];exact⟨ar S.out.1 (fun _ _=>rfl),S.out.2.more (bw (af _ _) _)⟩
     have a0:Hid (Lib.keeps L.toArray k=false):=Lib.keeps_neg ae (by simpa using f.out.1.trans f.out.2.symm);clear M S x0 x1 x2 y0 y1 y2 q0 q1 q2 f;go_wp2;clear fD;go_loopg [3,5] n (fun gg s3 s5 wr=>∃(kk D:Nat)(G:Array Pb),s3=.int .i64 kk∧s5=.int .i64 D∧1≤D∧k+D≤n∧n-(k+D)≤gg∧kk<k+D∧Hid (wr.ownsRow B 72 3 (.slice (some ⟨g,0,none⟩) n cap) n (G.toList.flatMap aZ)∧aj (fun b=>b=g) w wr∧G.size=n)∧Hid (Lib.CompInv L.toArray (k+D) kk G))
     case atStart=>exact⟨k,1,_,rfl,rfl,ae,ae,ae,ae,⟨R.out.1,R.out.2,V.out.symm⟩,Lib.CompInv.start HK.out a0.out⟩
     case round=>
      obtain⟨kk,D,G,rfl,rfl,h1,ak,a9,ad,E,T⟩:=hrel;clear R a0 HK;by_cases Gc:k+D<n
      ·have VJ:D<((n-k:Nat):Int):=ae
       obtain⟨x0,x1,x2⟩:=tu E.out.1 E.out.2.2 _ Gc;obtain⟨y0,y1,y2⟩:=tu E.out.1 E.out.2.2 (k+D-1) ae;rw[T.out.high _ ae,show _*3=k*3+D*3 by omega] at x0 x1 x2;rw[T.out.high _ ae,show _*3=k*3+(D-1)*3 by omega] at y0 y1 y2;generalize hx:L.toArray[k+D]! =x at x0 x1 x2;generalize hy:L.toArray[k+D-1]! =y at y0 y1 y2;have f:Hid (_∧_):=⟨hx,hy⟩;clear hx hy;by_cases he:x=y
       ·subst he
        have U:Hid (Lib.CompInv _ (k+(D+1)) kk G):=T.out.skip (Lib.keeps_neg ae (by rw[f.out.1,f.out.2]));clear f T;generalize x.1=p0 at*;generalize x.2.1=p1 at*;generalize x.2.2=p2 at*;have q0:(p0==(p0:Int))=true:=ah;have q1:(p1.toList==p1.toList)=true:=ah;have q2:(p2.toList==p2.toList)=true:=ah;go_upto_region 11 with fail;go_quiet (fail);generalize M:World.drewN _ _=I;have F:Hid (I.ownsRow B 72 3 (.slice (some (g,0)) n cap) n (G.toList.flatMap aZ)∧aj (fun b=>b=g) w I∧G.size=n):=by rw[←M];exact⟨ar E.out.1 (fun _ _=>rfl),E.out.2.1.more (bw (af _ _) _),E.out.2.2⟩
        clear M;go_wp2;go_roundg (n-(k+(D+1)))
        case measure=>omega
        case rel=>exact⟨kk,_,G,rfl,by go_num,ae,ae,ae,ae,F,U⟩
       ·have U:Hid (Lib.CompInv L.toArray (k+(D+1)) (kk+1) (G.setIfInBounds kk x)):=by
         have h9:=T.out.keep (by have:=V.out;simp;omega) (Lib.keeps_pos (by rw[f.out.1,f.out.2];exact he));rw[f.out.1] at h9;exact h9
        have QD:=Ra he;have Y:kk<n:=ae
        have a1:Hid (∀W:zW,W.ownsRow B 72 3 (.slice _ n cap) n _→aj (fun b=>b=g) w W→_∧_∧(G.setIfInBounds kk x).size=n):=fun W g1 g2=>
         ⟨(EJ g1 E.out.2.2 kk Y x).1,g2.trans (EJ g1 E.out.2.2 kk Y x).2 (fun _ _ e=>e) (fun _ _ e=>e),by simpa using E.out.2.2⟩
        generalize G.setIfInBounds kk x=a5 at*;clear he f T;generalize x.1=p0 at*;generalize x.2.1=p1 at*;generalize x.2.2=p2 at*;generalize y.1=r0 at*;generalize y.2.1=r1 at*;generalize y.2.2=r2 at*;rcases QD with q0|⟨q0,q1|⟨q1,q2⟩⟩
        all_goals
         go_upto_region 11 with fail;go_quiet (fail);generalize M:World.drewN _ _=I;have F:Hid (I.ownsRow B 72 3 (.slice (some (g,0)) n cap) n (G.toList.flatMap aZ)∧aj (fun b=>b=g) w I∧G.size=n):=by rw[←M];exact⟨ar E.out.1 (fun _ _=>rfl),E.out.2.1.more (bw (af _ _) _),E.out.2.2⟩
         have a2:∀a,I.cell? a=wr.cell? a:=fun a=>by rw[←M];rfl
         rw[←a2] at x0 x1 x2;clear M a2 y0 y1 y2;obtain⟨z0,z1,z2⟩:=tu F.out.1 F.out.2.2 kk Y;have f0:=F.out.1.frozenAt (kk*3);have f1:=F.out.1.frozenAt (kk*3+1);have f2:=F.out.1.frozenAt (kk*3+2);generalize G[kk]! =old at z0 z1 z2;have a7:kk<(n:Int):=ae;go_wp2;go_roundg (n-(k+(D+1)))
         case measure=>omega
         case rel=>exact⟨_,_,a5,by go_num,by go_num,ae,ae,ae,ae,a1.out I F.out.1 F.out.2.1,U⟩
      ·have VJ:(D<((n-k:Nat):Int))=False:=aJ
       have a3:k+D=n:=ae;have HE:=fun vs=>NU V.out (by rw[←a3];exact T.out) E.out.1 vs
       have a6:_:=
        fun ty=>zU wr 56 72 ty _ underlying56 zeroValue72 aA aA g (kk*3) (n-kk) (cap-kk) ae
         (fun j hj=>by
          have aa:j<_*3:=hj;obtain⟨c0,c1,c2⟩:=tu E.out.1 E.out.2.2 (kk+j/3) ae;rcases(by omega:kk*3+j=(kk+j/3)*3∨kk*3+j=(kk+j/3)*3+1∨kk*3+j=(kk+j/3)*3+2) with e|e|e
          ·rw[e,c0];rfl
          ·rw[e,c1];rfl
          ·rw[e,c2];rfl)
         (fun j _=>E.out.1.frozenAt _)
       generalize (Builtin.zeroCells (Value.agg #[.int .i64 0,zE,zE]).cells (n-kk)).toList=vs at a6
       have HF:Hid (_∧_∧_):=
        ⟨(HE vs).1,(HE vs).2.1,E.out.2.1.trans (HE vs).2.2 (fun _ _ e=>e) (fun _ _ e=>e)⟩
       clear HE E T;have a7:kk≤(n:Int):=ae;go_wp2;go_ret;exact⟨iE (fun m=>Ending.returned (.slice _ m cap)) HF.out.1,HF.out.2⟩
    ·have a4:Hid (∀j,j<k+1→Lib.keeps L.toArray j=true):=fun j hj=>by
      by_cases e:j=k
      ·subst e
       exact Lib.keeps_pos (by simpa using fun e2:L[j]! =L[j-1]! => he (f.out.1.symm.trans (e2.trans f.out.2)))
      ·exact HK.out j ae
     have QD:=Ra he;clear he f;generalize x.1=p0 at*;generalize x.2.1=p1 at*;generalize x.2.2=p2 at*;generalize y.1=r0 at*;generalize y.2.1=r1 at*;generalize y.2.2=r2 at*;rcases QD with q0|⟨q0,q1|⟨q1,q2⟩⟩
     all_goals
      go_upto_region 6 with fail;go_quiet (fail);generalize M:World.drewN _ _=I;have R:Hid (I.ownsRow B 72 3 (.slice (some (g,0)) n cap) n (L.flatMap aZ)∧aj (fun b=>b=g) w I):=by rw[←M];exact⟨ar S.out.1 (fun _ _=>rfl),S.out.2.more (bw (af _ _) _)⟩
      clear M;go_wp2;go_roundg (n-(k+1))
      case measure=>omega
      case rel=>exact⟨_,ae,ae,ae,by go_num,R,a4⟩
   ·have fD:(k<(n:Int))=False:=aJ
    obtain rfl:k=n:=ae;go_wp2;go_ret;obtain⟨e1,e2⟩:=HS.out wr S.out.1 S.out.2 HK.out;exact⟨iE _ e1,e2⟩
end Pn
namespace Pn
open Mf Ed
variable{w:zW}
def once(L:List Pb):List Pb:=Lib.compact (Ss.aQ (Go.Proofs.ltOf eW) L)
theorem GD f w:zC 110 #[zN,f] w fun e w'=>e=.returned (.tuple #[])∧w'=w:=AnyF.slices_SortFunc_none Tryz.laysSort_p none 0 f w
theorem EL w:zC 112 #[zN] w fun e w'=>e=.returned (zN)∧w'=w:=by
 go_enter func112,ntmps112;go_wp2;go_ret;simp
theorem CC B v(L:List Pb)w(hm:Ml w)(hB:0<B)(h:w.ownsRow B 72 3 v L (L.flatMap aZ))(hl:L.length≤4000000):
  zC 82 #[v] w fun e w'=>∃U,e=.returned U∧w'.ownsRow B 72 3 U (once L) ((once L).flatMap aZ)∧aj (fun b=>v.ownBlock=b) w w':=by
 rcases h.2 with⟨rfl,O⟩|⟨g,cap,a0,rfl,a1,_⟩
 ·have e0:=List.length_eq_zero_iff.1 O
  subst e0;have G:=GD (.func (.func 111) #[] #[]) w;have F:=EL w;have Y:Hid (w.ownsRow B 72 3 _ 0 []):=⟨rfl,Or.inl ⟨rfl,rfl⟩⟩;clear h O hl;go_enter func82,ntmps82
  go_wp2_with (go_at_call 110;fail)
  go_at_call 110;refine G.mono ?_;rintro e V ⟨rfl,rfl⟩
  go_wp2_with (go_at_call 112;fail)
  go_at_call 112;refine F.mono ?_;rintro e I ⟨rfl,rfl⟩;go_wp2;go_ret;exact⟨_,rfl,Y.out,aj.refl _ _⟩
 ·have G:=Nn B 72 g cap L w hm ae h ae
  have f:(Ss.aQ (Go.Proofs.ltOf eW) L).length=_:=Ss.aY _;have F:=fun W hW=>EK B g cap (Ss.aQ (Go.Proofs.ltOf eW) L) W hW ae
  rw[f] at F;clear f h;generalize L.length=n at*;go_enter func82,ntmps82
  go_wp2_with (go_at_call 110;fail)
  go_at_call 110;refine G.mono ?_;rintro e V ⟨rfl,R,S⟩;have HT:=zH S;have T:=F V R;clear G F R S
  go_wp2_with (go_at_call 112;fail)
  go_at_call 112;refine T.mono ?_;rintro e I ⟨rfl,D,E⟩
  have M:Hid (I.ownsRow B 72 3 (.slice _ (once L) cap) (once L) ((once L).flatMap aZ)∧aj (fun b=>(Value.slice (some (g,0)) n cap).ownBlock=b) w I):=
   ⟨D,HT.out.trans E (fun _ _ e=>by rw[e];rfl) (fun _ _ e=>by rw[e];rfl)⟩
  clear T D E;go_wp2;go_ret;exact⟨_,rfl,M.out.1,M.out.2⟩
