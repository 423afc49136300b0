import Derived.Test.YtelmkfkgpnadnaaGreatDoorKLK10
import Derived.ProofKit
import Derived.OpenShut
import Derived.LaidMore
import Derived.Lay
import Derived.Deep.Slices
import Derived.Deep.Strs
import Derived.Lib.SmallJoins
import Derived.Test.YtelmkfkgpnadnaaGreatDoorRows
import Derived.ShutString
import Derived.Stop.Joined
import Derived.JoinedCond
import Derived.Deep.DeepHandedRow
import Derived.Deep.MidRow
set_option linter.all false
open Go.Proofs.Tryz
set_option maxRecDepth 100000
namespace Go.Proofs.YtelmkfkgpnadnaaGreatDoor
section
open Go.ChangeShapes Go.WideShapes Go.ChangeAt Go.RowKit Go.Deep Go.Joins
namespace Lk
open Rn
theorem ME:prog.cellsOf 3=1:=by kernel_rfl
theorem Kj:prog.cellsOf 30=1:=by kernel_rfl
theorem Kk{α:Type}{Q:Nat→α→Prop}:∀m,(∀i,i<m→∃x,Q i x)→∃L:List α,L.length=m∧∀i x,L[i]?=some x→Q i x
 |0,_=>⟨[],rfl,fun i x h=>by simp at h⟩
 |m+1,h=>by
  obtain⟨L,hl,hq⟩:=Kk m (fun i hi=>h i (by omega));obtain⟨x,hx⟩:=h m (by omega);refine⟨L++[x],by simp[hl],fun i y hy=>?_⟩;by_cases hi:i<L.length
  ·rw[r8 hi] at hy
   exact hq i y hy
  ·rw[List.getElem?_append_right (by omega)] at hy
   have h0:i-L.length=0:=by
    by_cases h0:i-L.length=0
    ·exact h0
    ·rw[ij (by simp;omega)] at hy
     cases hy
   rw[h0] at hy;have:x=y:=by simpa using hy
   rw[←this,show i=m by omega];exact hx
theorem GZ{W:World}{a:Addr}{u:Value}(h:W.cell? (a.add 0)=some u):a=⟨a.block,a.off,none⟩:=by
 obtain⟨b,o,sp⟩:=a;cases sp with
 |none=>rfl
 |some q=>
  exfalso
  have:W.cell? ((⟨b,o,some q⟩:Addr).add 0)=none:=by
   simp only[Addr.add,World.cell?]
   split<;>simp_all
  rw[this] at h;cases h
theorem yR{W:World}{a:Addr}{i:Nat}{u u0:Value}(h0:W.cell? (a.add 0)=some u0)(h:W.cell? (a.add i)=some u):a=⟨a.block,a.off,none⟩∧W.cell? ⟨a.block,a.off+i,none⟩=some u:=by
 have e:=GZ h0;refine⟨e,?_⟩;rw[e,Addr.add_mid] at h;exact h
theorem Kl(L:List Int):L.flatMap oy=L.map (Value.int .i64):=by
 induction L with
 |nil=>rfl
 |cons a r ih=>rw[gK,ih];rfl
theorem EV{H:Type}{enc:TypeId×Value→H}{W:World}{fuel:Nat}{v:Value}{x:DataW H×List MemPlace}(h:DataW.trod enc prog W 0 (fun _=>true) true fuel 30 [v]=some x):
  ∃L:List Int,RdI W v L∧RdX oy W v L∧L.length≤9223372036854775807∧((x.1=.nil∧L=[])∨∃(D:Nat→DataW H)(r:List (DataW H)),x.1=.slice ((List.range L.length).map D) r):=by
 rcases open_slice1 underlying30 ME h with⟨hcs,hx⟩|⟨a,len,cap,m,n,V,D,Pl,hcs,_,hl,hm,hmm,hx,hel⟩
 ·have e:v=.slice none 0 0:=by simpa using hcs
  subst e;exact⟨[],⟨none,0,rfl,fun i x h=>by simp at h⟩,Or.inl ⟨rfl,rfl⟩,by simp,Or.inl ⟨by rw[hx],rfl⟩⟩
 ·have e:v=.slice (some a) len cap:=by simpa using hcs
  subst e;have hmc:m=cap:=by rw[hmm];simp
  unfold maxLen at hm
  obtain⟨L,hL,hq⟩:=Kk (Q:=fun i (x:Int)=>(-9223372036854775808≤x∧x≤9223372036854775807)∧W.cell? (a.add i)=some (.int .i64 x)) len (fun i hi=>by
   obtain⟨hc,ht⟩:=hel i (by omega);obtain⟨x,ex,_,wx⟩:=DataW.trod_int underlying3 ht;have ex':V i=.int .i64 x:=by simpa using ex
   exact⟨x,bounds_i64 wx,by rw[←ex'];exact hc⟩)
  subst hL;refine⟨L,⟨some a,cap,rfl,fun i x hx=>⟨(hq i x hx).1,?_⟩⟩,Or.inr ⟨a,cap,rfl,fun j u hj=>?_⟩,by omega,Or.inr ⟨D,_,by rw[hx]⟩⟩
  ·have hi:=(dw.1 hx).1
   obtain⟨h1,h2⟩:=yR (hq 0 L[0] (bg (by omega))).2 (hq i x hx).2;exact⟨a.block,a.off,bZ some h1,aT W ⟨a.block,a.off+i,none⟩ h2,h2⟩
  ·rw[Kl,iT] at hj
   cases hc:L[j]? with
   |none=>rw[hc] at hj;cases hj
   |some y=>
    rw[hc] at hj;injection hj with hj;rw[←hj];exact(hq j y hc).2
theorem Km{H:Type}{enc:TypeId×Value→H}{W:World}{fuel:Nat}{v:Value}{x:DataW H×List MemPlace}(h:DataW.trod enc prog W 0 (fun _=>true) true fuel 51 [v]=some x):∃LL:List (List Int),rR W v LL:=by
 rcases open_slice1 underlying51 Kj h with⟨hcs,hx⟩|⟨a,len,cap,m,n,V,D,Pl,hcs,_,hl,hm,hmm,hx,hel⟩
 ·have e:v=.slice none 0 0:=by simpa using hcs
  subst e;exact⟨[],none,0,rfl,by simp,fun i L h=>by simp at h⟩
 ·have e:v=.slice (some a) len cap:=by simpa using hcs
  subst e;have hmc:m=cap:=by rw[hmm];simp
  unfold maxLen at hm
  obtain⟨LL,hL,hq⟩:=Kk (Q:=fun i (L:List Int)=>L.length≤9223372036854775807∧∃u,W.cell? (a.add i)=some u∧RdI W u L) len (fun i hi=>by
   obtain⟨hc,ht⟩:=hel i (by omega);obtain⟨L,g1,_,g3,_⟩:=EV ht;exact⟨L,g3,V i,hc,g1⟩)
  subst hL;refine⟨LL,some a,cap,rfl,by omega,fun i L hL=>⟨(hq i L hL).1,?_⟩⟩;obtain⟨u,h1,h2⟩:=(hq i L hL).2;have hi:=(dw.1 hL).1;obtain⟨u0,h0,_⟩:=(hq 0 LL[0] (bg (by omega))).2;obtain⟨g1,g2⟩:=yR h0 h1;exact⟨a.block,a.off,u,bZ some g1,aT W ⟨a.block,a.off+i,none⟩ g2,g2,h2⟩
end Lk
end
section
open Go.ChangeShapes Go.WideShapes Go.ChangeAt Go.RowKit Go.Deep Go.Joins
namespace Lk
theorem xq:laidOutB prog=true:=by kernel_rfl
theorem RS:ownKnob prog.godebug=none:=by kernel_rfl
theorem Kn{H:Type}(d:DataW H):1≤Rows.uptoBulk d:=by
 cases d with
 |lit l=>cases l<;>simp[Rows.uptoBulk]
 |_=>simp[Rows.uptoBulk]
theorem CB{H:Type}:∀l:List (DataW H),l.length≤Rows.uptoBulkAll l
 |[]=>by simp[Rows.uptoBulkAll]
 |d::r=>by
  have h1:=Kn d;have h2:=CB r;simp only[Rows.uptoBulkAll,bS];omega
theorem open_list{H:Type}{enc:TypeId×Value→H}{W:World}{b0:Nat}{v:Value}{d:DataW H}{p:List MemPlace}(hv:Value.okWide prog W .any b0 30 v)(h:DataW.Trod enc prog W 0 (fun _=>true) true 30 v d p)(hk:Rows.uptoBulk d≤1048576):
  ∃L:List Int,Rn.RdI W v L∧RdX oy W v L∧L.length≤1048576:=by
 obtain⟨la,m,cap,rfl⟩:=okWide_slice underlying30 hv;obtain⟨fuel,hf⟩:=h;have hf:DataW.trod enc prog W 0 (fun _=>true) true fuel 30 [.slice la m cap]=some (d,p):=hf;obtain⟨L,g1,g2,_,g4⟩:=EV hf;refine⟨L,g1,g2,?_⟩;rcases g4 with⟨_,e⟩|⟨D,r,e⟩
 ·rw[e];simp
 ·have e:d=.slice ((List.range L.length).map D) r:=e
  rw[e] at hk;simp only[Rows.uptoBulk] at hk;have h1:=CB ((List.range L.length).map D);rw[bz,List.length_range] at h1;omega
theorem Ec{H:Type}{d1 d2 d3:DataW H}(hk:Rows.uptoSmall H [d1,d2,d3]=true):Rows.uptoBulk d1≤1048576∧Rows.uptoBulk d3≤1048576:=by
 have h:Rows.uptoBulkAll [d1,d2,d3]≤1048576:=ik hk;simp only[Rows.uptoBulkAll] at h;omega
theorem G0(H:Type)(enc:TypeId×Value→H)(W:World)(base:Nat)(args:Array Value)(ds gs:List (DataW H))(before:List MemPlace)(hm:Ml W)
  (M0:∀(j:Nat) t v,f8.params[j]?=some t→args[j]?=some v→Value.okWide prog W .any base t v)
  (hW:DataW.Whole enc prog f8.params.toList Rows.leastSpec.vars false W args.toList ds gs before) (hk:Rows.uptoSmall H (ds++gs)=true):
  Calls prog 8 args W fun e W'=>∃v,e=.returned v∧Rows.leastSpec.post enc prog f8 false true false false W args v W':=by
 have hval:=M0;have hW':=hW;obtain⟨p,q,hA0,hV,rfl,hfz,hnd⟩:=hW;have hA:DataW.TrodAll enc prog W 0 (fun _=>true) true f8.params.toList args.toList ds p:=hA0;rw[params8] at hA hval;obtain⟨v0,v1,v2,d0,d1,d2,p0,p1,p2,rfl,rfl,rfl,h0,h1,h2⟩:=trodAll_three hA;obtain⟨rfl,rfl⟩:=trodVars_none hV;have hlt:=hW'.lt;have hbk:Rows.uptoBulk d0≤1048576∧Rows.uptoBulk d2≤1048576:=Ec (by simpa using hk);obtain⟨T,a1,a2,a3⟩:=open_list (hval 0 30 v0 rfl rfl) h0 hbk.1;obtain⟨M,b1,b2,b3⟩:=open_list (hval 2 30 v2 rfl rfl) h2 hbk.2;obtain⟨ra,rm,Qy,rfl⟩:=okWide_slice underlying51 (hval 1 51 v1 rfl rfl);obtain⟨fuel,hf1⟩:=id h1;have hf1:DataW.trod enc prog W 0 (fun _=>true) true fuel 51 [.slice ra rm Qy]=some (d1,p1):=hf1;obtain⟨LL,c1⟩:=Km hf1;clear hA0 M0 hval;refine(GY v0 (.slice ra rm Qy) v2 T M LL a3 b3 W hm a1 c1 b1 a2 b2).mono fun e W' ⟨he,hg⟩=>?_
 subst he;have t0:=Below.trod xq (by kernel_rfl) (ik (by kernel_rfl)) h0 hg (fun x hx=>hlt x (by simp[hx]));have t1:=Below.trod xq (by kernel_rfl) (ik (by kernel_rfl)) h1 hg (fun x hx=>hlt x (by simp[hx]));have t2:=Below.trod xq (by kernel_rfl) (ik (by kernel_rfl)) h2 hg (fun x hx=>hlt x (by simp[hx]))
 have hp:Rows.leastSpec.post enc prog f8 false true false false W _ (.bool true) W':=
  ⟨_,_,_,[],_,[],hW',trodAll_cons_mk (shut_bool underlying4 _) trodAll_mk0,trodAll_cons_mk t0 (trodAll_cons_mk t1 (trodAll_cons_mk t2 trodAll_mk0)),rfl,hg.frame _,fun h=>by cases h⟩
 exact⟨_,rfl,hp⟩
theorem G1(os:Os)(args:Array Value):laidMetH prog Rows.leastUptoRow.laid ((World.laidAll prog os Rows.leastUptoRow.laid).forCall (fun _ _=>0) ⟨#[],args,[]⟩).memory:=by
 rw[MakeChecks.laidMetH_plain _ _ _ (by kernel_rfl)];exact laidMet_laidAll _ (by kernel_rfl) (by kernel_rfl)
theorem OQ(os:Os){H:Type}(enc:TypeId×Value→H):∃places,DataW.whole enc prog ((World.laidAll prog os Rows.leastUptoRow.laid).forCall (fun _ _=>0) ⟨#[],#[.slice none 0 0,.slice none 0 0,.slice none 0 0],[]⟩).memory f8.params.toList Rows.leastSpec.vars false #[Value.slice none 0 0,.slice none 0 0,.slice none 0 0].toList 8=some ([.nil,.nil,.nil],[],places):=
 ⟨[],by kernel_rfl⟩
theorem MF(os:Os)(started:os.Started)(H:Type)(enc:TypeId×Value→H)(F:Stop.Interp):
  ReturnsInHanded {} checked os 8 .any ((Rows.OpenSpec.upto Rows.leastSpec).preRow enc prog f8 Rows.leastUptoRow.domain false Rows.leastUptoRow.laid) (((Rows.OpenSpec.upto Rows.leastSpec).at F).post enc prog f8 false true false false):=by
 obtain⟨places,hx⟩:=OQ os enc;have hok:Input.okWideB prog ((World.laidAll prog os Rows.leastUptoRow.laid).forCall (fun _ _=>0) ⟨#[],#[.slice none 0 0,.slice none 0 0,.slice none 0 0],[]⟩) 8 ⟨#[],#[.slice none 0 0,.slice none 0 0,.slice none 0 0],[]⟩=true:=by kernel_rfl
 refine returnsInHanded_of_row (C:=checked) (s:=Rows.OpenSpec.upto Rows.leastSpec) RS started (by kernel_rfl) func8
  ⟨World.laidAll prog os Rows.leastUptoRow.laid,fun _ _=>0,⟨#[],#[.slice none 0 0,.slice none 0 0,.slice none 0 0],[]⟩,World.laidAll_os _ _ _,World.shaped_of_ZipB (by kernel_rfl) (by kernel_rfl),(Input.okWide_of_okWideB (base:=0) hok).1,(Input.okWide_of_okWideB hok).2,
   OpenSpec.preRow_of_cond 8 hx (by kernel_rfl) (fun k hk=>by cases hk;kernel_rfl) (by kernel_rfl) (G1 os _),by
    simp only[Assume.holds];exact⟨by simp,by simp,by simp,by simp,by simp⟩⟩ ?_
 intro W base args ds gs before hval hW _ Qz _ _ hsh _;exact G0 H enc W base args ds gs before (Tryz.laysM146.s1_3 _ hsh) hval hW (Qz _ rfl)
