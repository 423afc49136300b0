import Derived.Test.YtgamgopghfpegaaGreatDoorKKNA
import Derived.Test.YtgamgopghfpegaaGreatDoorKOAA
set_option linter.all false
open Go.Proofs.Tryz
set_option maxRecDepth 100000
set_option maxHeartbeats 4000000
namespace Go.Proofs.YtgamgopghfpegaaGreatDoor
open Go.RowKit
namespace Pn
open Mf Ed
noncomputable def wo{α:Type}(L f:List α):List α:=L.filter fun x=>@decide (x∉f) (Classical.propDecidable _)
theorem Ik{α}{L f:List α}{i:Nat}(h:i<L)(D:L[i]∈f):wo (L.take (i+1)) f=wo (L.take i) f:=by
 unfold wo;rw[←List.take_append_getElem h,List.filter_append,Fw (by simpa using D)];simp
theorem CG{α}{L f:List α}{i:Nat}(h:i<L)(D:L[i]∉f):wo (L.take (i+1)) f=wo (L.take i) f++[L[i]]:=by
 unfold wo;rw[←List.take_append_getElem h,List.filter_append,wJ (by simpa using D)];simp
theorem vK{α}(L f:List α):(wo L f)≤L.length:=List.length_filter_le _ _
abbrev Wos{α}(enc:α→List zV)(t sz f:Nat):Prop:=∀(A A2:Nat→Prop)(v u:zV)(L D:List α)(w:zW),L.length≤10000000→D.length≤100000000→RdA A enc w v L→RdA A2 enc w u D→
  zC f #[v,u] w fun e w'=>(∃x,e=.returned x∧Ro t sz enc w.heap.size w' x (wo L D))∧zB w w'
abbrev WoJ{α}(enc:α→List zV)(t sz:Nat)(L D:List α)(w:zW)(n E:Nat)(F f:zV)(wr:zW):Prop:=∃i:Nat,i≤n∧n-i≤E∧f=.int .i64 i∧zB w wr∧Hid (Ro t sz enc w.heap.size wr F (wo (L.take i) D))
theorem wos:Wos Sm.mc 68 2 92∧Wos aZ 72 3 93:=by
 refine⟨?_,?_⟩
 all_goals
  intro A A2 v u L F w hL R h h2;obtain⟨a,c,rfl⟩:=h.len;have HR:=zH h;have S:Hid (_∧_):=⟨R,h2⟩;obtain⟨n,hn⟩:∃n,L.length=n:=⟨_,rfl⟩;have HN:=zH hn;obtain⟨Y,hY⟩:∃Y,wo L F=Y:=⟨_,rfl⟩;have HY:=zH hY;rw[hn] at hL ⊢;rw[hY];clear h h2 hn R hY
  first
   |(go_enter func92,ntmps92
     go_wp2;go_loopg [5,10] n (fun gg s5 O wr=>WoJ Sm.mc 68 2 L F w n gg s5 O wr))
   |(go_enter func93,ntmps93
     go_wp2;go_loopg [5,10] n (fun gg s5 O wr=>WoJ aZ 72 3 L F w n gg s5 O wr))
  case atStart=>exact⟨0,ae,ae,rfl,af _ _,Ro.nil⟩
  case round=>
   obtain⟨i,hi,hg,rfl,f,U⟩:=hrel;by_cases a3:i<n
   ·have V:i<L:=by rw[HN.out];exact a3
    have a2:i<(n:Int):=ae;have T:Hid ((L[i]∈F→_)∧(L[i]∉F→_)∧(wo (L.take i) F).length≤10000000):=⟨Ik V,CG V,aP (vK _ _) ax⟩
    first
     |(obtain⟨b,o,rfl,x0,x1,x2⟩:=rdP HR.out f i V
       generalize L[i]=x at*;have G:=zH (boxed wr #[(x.1),x.2.1,x.2.2] 72)
       go_wp2_with (go_at_call 117;fail)
       generalize wr.alloc _=W2 at*;go_at_call 117;refine(PU.2 _ u F x W2 S.out.1 (S.out.2.below (f.trans (G.out.1.mono f.size)))).mono ?_)
     |(obtain⟨b,o,rfl,x0,x1⟩:=rdM HR.out f i V
       generalize L[i]=x at*;have G:=zH (boxed wr #[x.1,x.2] 68)
       go_wp2_with (go_at_call 116;fail)
       generalize wr.alloc _=W2 at*;go_at_call 116;refine(PU.1 _ u F x W2 S.out.1 (S.out.2.below (f.trans (G.out.1.mono f.size)))).mono ?_)
    rintro e w4 ⟨rfl,I⟩;have M:=G.out.1.trans (I.mono G.out.1.size);have HX:=zH ((I.block _ (by rw[G.out.2.2];omega)).trans G.out.2.1);have E:=zH (f.trans (M.mono f.size));have D:=zH (U.out.below M);clear I M f U G;by_cases hm:x∈F
    ·have e:=T.out.1 hm
     rw[←e] at D;rw[@bu _ (_) hm];clear e hm;go_wp2;go_roundg (n-(i+1))
     case measure=>omega
     case rel=>exact⟨_,ae,ae,by go_num,E.out,D⟩
    ·have HE:=zH (T.out.2.1 hm)
     rw[@br _ (_) hm];clear hm
     first
      |(obtain⟨⟨z0,_⟩,⟨z1,_⟩,⟨z2,_⟩⟩:=fd3 HX.out
        go_wp2_with (at_builtin;refine app1 kP x rfl _ _ rfl rfl rfl ah D.out (by have:=T.out.2.2;omega) E.out.size ?_))
      |(obtain⟨⟨z0,_⟩,⟨z1,_⟩⟩:=fd2 HX.out
        go_wp2_with (at_builtin;refine app1 kM x rfl _ _ rfl rfl rfl ah D.out (by have:=T.out.2.2;omega) E.out.size ?_))
     intro v' W' ho ht a1;rw[←HE.out] at ho;have HO:=zH ho;have a0:=zH (bg E.out ht (fun b e=>(D.out.lt b e).1));clear ho ht a1 z0 z1;go_wp2;go_roundg (n-(i+1))
     case measure=>omega
     case rel=>exact⟨_,ae,ae,by go_num,a0.out,HO⟩
   ·have a2:¬i<(n:Int):=ae
    rw[cV (by rw[HN.out];omega),HY.out] at U;go_wp2;go_ret;exact⟨⟨_,rfl,U.out⟩,f⟩
end Pn
namespace Pn
open Mf Ed
theorem CH L:(once L)≤L.length:=by
 unfold once Lib.compact Lib.compactUpTo;rw[dM];refine aP (List.length_filter_le _ _) ?_;rw[List.length_range,Ss.aY];omega
noncomputable def gN(s:Shf):Tri:=((lL (val s ⟨3,e0,e0⟩)).1,once ((lL (val s ⟨3,e0,e0⟩)).2++(lj (val s ⟨4,e0,e0⟩)).2),(lj (val s ⟨4,e0,e0⟩)).1)
