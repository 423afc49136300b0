import Derived.Test.YtelmkfkgpnadnaaGreatDoorJLKC
import Derived.ProofKit
import Derived.OpenShut
import Derived.LaidMore
import Derived.Lay
import Derived.Deep.Slices
import Derived.Deep.Strs
import Derived.Lib.SmallJoins
import Derived.Test.YtelmkfkgpnadnaaGreatDoorJLN4
import Derived.Test.YtelmkfkgpnadnaaGreatDoorRows
import Derived.ShutString
import Derived.Stop.Joined
import Derived.Deep.MidRow
set_option linter.all false
open Go.Proofs.Tryz
set_option maxRecDepth 100000
namespace Go.Proofs.YtelmkfkgpnadnaaGreatDoor
section
open Go.ChangeShapes Go.WideShapes Go.ChangeAt Go.RowKit Go.Deep Go.Joins
namespace Lk
open Rn
theorem Om:prog.cellsOf 3=1:=by kernel_rfl
theorem MJ:prog.cellsOf 30=1:=by kernel_rfl
theorem MK{α:Type}{Q:Nat→α→Prop}:∀m,(∀i,i<m→∃x,Q i x)→∃L:List α,L.length=m∧∀i x,L[i]?=some x→Q i x
 |0,_=>⟨[],rfl,fun i x h=>by simp at h⟩
 |m+1,h=>by
  obtain⟨L,hl,hq⟩:=MK m (fun i hi=>h i (by omega));obtain⟨x,hx⟩:=h m (by omega);refine⟨L++[x],by simp[hl],fun i y hy=>?_⟩;by_cases hi:i<L.length
  ·rw[qO hi] at hy
   exact hq i y hy
  ·rw[List.getElem?_append_right (by omega)] at hy
   have h0:i-L.length=0:=by
    by_cases h0:i-L.length=0
    ·exact h0
    ·rw[gT (by simp;omega)] at hy
     cases hy
   rw[h0] at hy;have:x=y:=by simpa using hy
   rw[←this,show i=m by omega];exact hx
theorem Jx{W:zW}{a:Addr}{u:zV}(h:W.cell? (a.add 0)=some u):a=⟨a.block,a.off,none⟩:=by
 obtain⟨b,o,sp⟩:=a;cases sp with
 |none=>rfl
 |some q=>
  exfalso
  have:W.cell? ((⟨b,o,some q⟩:Addr).add 0)=none:=by
   simp only[Addr.add,World.cell?]
   split<;>simp_all
  rw[this] at h;cases h
theorem AQ{W:zW}{a:Addr}{i:Nat}{u u0:zV}(h0:W.cell? (a.add 0)=some u0)(h:W.cell? (a.add i)=some u):a=⟨a.block,a.off,none⟩∧W.cell? ⟨a.block,a.off+i,none⟩=some u:=by
 have e:=Jx h0;refine⟨e,?_⟩;rw[e,Addr.add_mid] at h;exact h
theorem ML(L:List Int):L.flatMap Rx=L.map (Value.int .i64):=by
 induction L with
 |nil=>rfl
 |cons a r ih=>rw[ig,ih];rfl
theorem GB{H:Type}{enc:TypeId×zV→H}{W:zW}{fuel:Nat}{v:zV}{x:DataW H×List MemPlace}(h:DataW.trod enc prog W 0 (fun _=>true) true fuel 30 [v]=some x):
  ∃L:List Int,RdI W v L∧RdX Rx W v L∧L.length≤9223372036854775807∧((x.1=.nil∧L=[])∨∃(D:Nat→DataW H)(r:List (DataW H)),x.1=.slice ((List.range L.length).map D) r):=by
 rcases open_slice1 underlying30 Om h with⟨hcs,hx⟩|⟨a,len,cap,m,n,V,D,Pl,hcs,_,hl,hm,hmm,hx,hel⟩
 ·have e:v=zN:=by simpa using hcs
  subst e;exact⟨[],⟨none,0,rfl,fun i x h=>by simp at h⟩,Or.inl ⟨rfl,rfl⟩,by simp,Or.inl ⟨by rw[hx],rfl⟩⟩
 ·have e:v=.slice (some a) len cap:=by simpa using hcs
  subst e;have hmc:m=cap:=by rw[hmm];simp
  unfold maxLen at hm
  obtain⟨L,hL,hq⟩:=MK (Q:=fun i (x:Int)=>(-9223372036854775808≤x∧x≤9223372036854775807)∧W.cell? (a.add i)=some (zI x)) len (fun i hi=>by
   obtain⟨hc,ht⟩:=hel i (by omega);obtain⟨x,ex,_,wx⟩:=DataW.trod_int underlying3 ht;have ex':V i=zI x:=by simpa using ex
   exact⟨x,bounds_i64 wx,by rw[←ex'];exact hc⟩)
  subst hL;refine⟨L,⟨some a,cap,rfl,fun i x hx=>⟨(hq i x hx).1,?_⟩⟩,Or.inr ⟨a,cap,rfl,fun j u hj=>?_⟩,by omega,Or.inr ⟨D,_,by rw[hx]⟩⟩
  ·have hi:=(cq.1 hx).1
   obtain⟨h1,h2⟩:=AQ (hq 0 L[0] (aO (by omega))).2 (hq i x hx).2;exact⟨a.block,a.off,bW some h1,aU W ⟨a.block,a.off+i,none⟩ h2,h2⟩
  ·rw[ML,eU] at hj
   cases hc:L[j]? with
   |none=>rw[hc] at hj;cases hj
   |some y=>
    rw[hc] at hj;injection hj with hj;rw[←hj];exact(hq j y hc).2
theorem MN{H:Type}{enc:TypeId×zV→H}{W:zW}{fuel:Nat}{v:zV}{x:DataW H×List MemPlace}(h:DataW.trod enc prog W 0 (fun _=>true) true fuel 51 [v]=some x):∃LL:List (List Int),wh W v LL:=by
 rcases open_slice1 underlying51 MJ h with⟨hcs,hx⟩|⟨a,len,cap,m,n,V,D,Pl,hcs,_,hl,hm,hmm,hx,hel⟩
 ·have e:v=zN:=by simpa using hcs
  subst e;exact⟨[],none,0,rfl,by simp,fun i L h=>by simp at h⟩
 ·have e:v=.slice (some a) len cap:=by simpa using hcs
  subst e;have hmc:m=cap:=by rw[hmm];simp
  unfold maxLen at hm
  obtain⟨LL,hL,hq⟩:=MK (Q:=fun i (L:List Int)=>L.length≤9223372036854775807∧∃u,W.cell? (a.add i)=some u∧RdI W u L) len (fun i hi=>by
   obtain⟨hc,ht⟩:=hel i (by omega);obtain⟨L,g1,_,g3,_⟩:=GB ht;exact⟨L,g3,V i,hc,g1⟩)
  subst hL;refine⟨LL,some a,cap,rfl,by omega,fun i L hL=>⟨(hq i L hL).1,?_⟩⟩;obtain⟨u,h1,h2⟩:=(hq i L hL).2;have hi:=(cq.1 hL).1;obtain⟨u0,h0,_⟩:=(hq 0 LL[0] (aO (by omega))).2;obtain⟨g1,g2⟩:=AQ h0 h1;exact⟨a.block,a.off,u,bW some g1,aU W ⟨a.block,a.off+i,none⟩ g2,g2,h2⟩
end Lk
end
section
open Go.ChangeShapes Go.WideShapes Go.ChangeAt Go.RowKit Go.Deep Go.Joins
namespace Lk
theorem Em:laidOutB prog=true:=by kernel_rfl
theorem SV:ownKnob prog.godebug=none:=by kernel_rfl
theorem Jy(os:Os)(args:Array zV):laidMetH prog Rows.laidRow.laid ((World.laidAll prog os Rows.laidRow.laid).forCall (fun _ _=>0) ⟨#[],args,[]⟩).memory:=by
 rw[MakeChecks.laidMetH_plain _ _ _ (by kernel_rfl)];exact laidMet_laidAll _ (by kernel_rfl) (by kernel_rfl)
theorem On(os:Os)(started:os.Started)(H:Type)(enc:TypeId×zV→H):
  ReturnsInHanded {} checked os 9 .any (fun w args=>(Rows.laidSpec.pre enc prog f9 [] false w args∧laidMetH prog Rows.laidRow.laid w)∧sizedMet enc prog f9 (OpenSpec.ofChange Rows.laidSpec) false w args)
   (Rows.laidSpec.post enc prog f9 false true false false):=by
 refine returnsInHanded_of_calls (C:=checked) SV started (by kernel_rfl)
  (ChangeSpec.witness_shaped (enc:=enc) (C:=checked) (os:=os) (X:=fun w _=>laidMetH prog Rows.laidRow.laid w) false (World.laidAll prog os Rows.laidRow.laid) #[zN,zN] 8 (World.laidAll_os _ _ _) (World.shaped_of_ZipB (by kernel_rfl) (by kernel_rfl)) (by kernel_rfl) (by kernel_rfl) (by kernel_rfl) (Jy os _)) ?_
 intro w tape i _ hsh _ hok hpre _;obtain⟨_,_,_,fn',SX,_,_,_,_,MO⟩:=hok;have e:fn'=f9:=cY (SX.symm.trans func9);subst e;obtain⟨⟨⟨ds,gs,before,hw,_⟩,_⟩,_⟩:=hpre;have hW:=DataW.Whole.of_heap (w':=w.forCall tape i) (by rfl) hw;obtain⟨heap,args,vars⟩:=i;have hm:Ml (w.forCall tape ⟨heap,args,vars⟩):=Tryz.laysM146.s1_3 _ hsh;generalize w.forCall tape ⟨heap,args,vars⟩=W at hW hm MO ⊢;have hval:∀(j:Nat) t v,f9.params[j]?=some t→args[j]?=some v→Value.okWide prog W .any w.heap.size t v:=MO;have hW':=hW;obtain⟨p,q,hA0,hV,rfl,hfz,hnd⟩:=hW;have hA:DataW.TrodAll enc prog W 0 (fun _=>true) true f9.params.toList args.toList ds p:=hA0;rw[params9] at hA hval;obtain⟨v0,vs0,d0,ds0,p0,q0,hargs,rfl,rfl,h0,r0⟩:=trodAll_cons hA;obtain⟨v1,vs1,d1,ds1,p1,q1,SY,rfl,rfl,h1,r1⟩:=trodAll_cons r0;obtain⟨rfl,rfl,rfl⟩:=trodAll_nil r1;obtain rfl:args=#[v0,v1]:=by cases args;simp_all
 obtain⟨rfl,rfl⟩:=trodVars_none hV;have hlt:=hW'.lt;obtain⟨ta,tm,RN,rfl⟩:=okWide_slice underlying30 (hval 0 30 v0 rfl rfl);obtain⟨ra,rm,RO,rfl⟩:=okWide_slice underlying51 (hval 1 51 v1 rfl rfl);obtain⟨RP,hf0⟩:=id h0;obtain⟨RQ,hf1⟩:=id h1;have hf0:DataW.trod enc prog W 0 (fun _=>true) true RP 30 [.slice ta tm RN]=some (d0,p0):=hf0;have hf1:DataW.trod enc prog W 0 (fun _=>true) true RQ 51 [.slice ra rm RO]=some (d1,p1):=hf1;obtain⟨T,g1,_,g3,_⟩:=GB hf0;obtain⟨LL,c1⟩:=MN hf1;clear hA0 MO hval;refine(MH (.slice ta tm RN) (.slice ra rm RO) T LL g3 W hm g1 c1).mono fun e W' ⟨he,hg⟩=>?_
 subst he;have t0:=Below.trod Em (by kernel_rfl) (gH (by kernel_rfl)) h0 hg (fun x hx=>hlt x (by simp[hx]));have t1:=Below.trod Em (by kernel_rfl) (gH (by kernel_rfl)) h1 hg (fun x hx=>hlt x (by simp[hx]))
 have hp:Rows.laidSpec.post enc prog f9 false true false false W _ (.bool true) W':=
  ⟨_,_,_,[],_,[],hW',trodAll_cons_mk (shut_bool underlying4 _) trodAll_mk0,trodAll_cons_mk t0 (trodAll_cons_mk t1 trodAll_mk0),rfl,hg.frame _,fun h=>by cases h⟩
 exact ChangeSpec.post_blind hp
