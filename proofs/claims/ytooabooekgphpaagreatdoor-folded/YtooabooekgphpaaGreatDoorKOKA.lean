import Derived.Test.YtooabooekgphpaaGreatDoorKOJ2
import Derived.Deep.DeepHandedRow
import Derived.Test.YtooabooekgphpaaGreatDoorTie
import Derived.Test.YtooabooekgphpaaGreatDoorCards
set_option linter.all false
open Go.Proofs.Tryz
set_option maxRecDepth 100000
set_option maxHeartbeats 20000000
namespace Go.Proofs.YtooabooekgphpaaGreatDoor
section
open Go.ChangeShapes Go.WideShapes Go.ChangeAt Go.RowKit Go.Deep Go.Joins
namespace Lk
theorem Er:laidOutB prog=true:=by kernel_rfl
theorem SY:ownKnob prog.godebug=none:=by kernel_rfl
theorem JA(os:Os)(args:Array zV):laidMetH prog Rows.foldedRow.laid ((World.laidAll prog os Rows.foldedRow.laid).forCall (fun _ _=>0) ⟨#[],args,[]⟩).memory:=by
 rw[MakeChecks.laidMetH_plain _ _ _ (by kernel_rfl)];exact laidMet_laidAll _ (by kernel_rfl) (by kernel_rfl)
abbrev zA:Array zV:=#[zN,zI 0,zN]
theorem Oq(os:Os)(E:os.Started)(H:Type)(enc:TypeId×zV->H):
  ReturnsInHanded {} checked os 3 .any (fun w args=>(Rows.foldedSpec.pre enc prog f3 [] false w args/\laidMetH prog Rows.foldedRow.laid w)/\sizedMet enc prog f3 (OpenSpec.ofChange Rows.foldedSpec) false w args)
   (Rows.foldedSpec.post enc prog f3 false true false false):=by
 refine returnsInHanded_of_calls (C:=checked) SY E (by kernel_rfl)
  (ChangeSpec.witness_shaped (enc:=enc) (C:=checked) (os:=os) (X:=fun w _=>laidMetH prog Rows.foldedRow.laid w) false (World.laidAll prog os Rows.foldedRow.laid) zA 8 (World.laidAll_os _ _ _) (World.shaped_of_ZipB (by kernel_rfl) (by kernel_rfl)) (by kernel_rfl) (by kernel_rfl) (by kernel_rfl) (JA os _)) ?_
 intro w tape i _ a5 _ a4 V _;obtain⟨_,_,_,a0,SZ,_,_,_,_,ML⟩:=a4;have e:a0=f3:=bK (SZ.symm.trans func3);subst e;obtain⟨_,_,ds,gs,Y,hw,I⟩:=V;have hW:=DataW.Whole.of_heap (w':=w.forCall tape i) (by rfl) hw;obtain⟨F,args,vars⟩:=i;have hm:Ml (w.forCall tape ⟨F,args,vars⟩):=Go.Proofs.cell_of_shapedOpen_int (zero:=#[zI 0]) (t:=3) a5 (gJ (by kernel_rfl)) (by kernel_rfl) rfl (by kernel_rfl) (by kernel_rfl) underlying3;generalize w.forCall tape ⟨F,args,vars⟩=W at hW hm ML ⊢;have D:∀(j:Nat) t v,f3.params[j]?=some t->args[j]?=some v->Value.okWide prog W .any w.heap.size t v:=ML;have S:=hW;obtain⟨p,q,M,hV,rfl,a9,aa⟩:=hW;have hA:DataW.TrodAll enc prog W 0 (fun _=>true) true f3.params.toList args.toList ds p:=M;rw[params3] at hA D;obtain⟨v0,ab,d0,a6,p0,q0,a3,rfl,rfl,h0,r0⟩:=trodAll_cons hA;obtain⟨v1,ad,d1,a7,p1,q1,S5,rfl,rfl,h1,r1⟩:=trodAll_cons r0;obtain⟨v2,ak,d2,a8,p2,q2,S6,rfl,rfl,h2,r2⟩:=trodAll_cons r1;obtain⟨rfl,rfl,rfl⟩:=trodAll_nil r2;obtain rfl:args=#[v0,v1,v2]:=by cases args;simp_all
 obtain⟨rfl,rfl⟩:=trodVars_none hV;have U:=S.lt
 have hz:(d0.weights prog 22).all (·<=reachBytes)=true:=by
  rw[params3] at I;simp only[jA,DataW.weightsEach,List.all_append,ed] at I;exact I.1
 obtain⟨O,a1,a2⟩:=MJ (D 0 22 v0 rfl rfl) h0 hz;obtain⟨c,rfl,rfl,rfl,wc⟩:=open_int underlying3 (D 1 3 v1 rfl rfl) h1;obtain⟨ta,tm,RJ,rfl⟩:=okWide_slice underlying23 (D 2 23 v2 rfl rfl);obtain⟨RL,G⟩:=id h2;have G:DataW.trod enc prog W 0 (fun _=>true) true RL 23 [.slice ta tm RJ]=some (d2,p2):=G;obtain⟨T,b1,b2⟩:=GI G;clear M ML D;refine(Pn.zg v0 (.slice ta tm RJ) O T c a2 b2 (bounds_i64 wc) W hm a1 b1).mono fun e W' ⟨he,hg⟩=>?_
 subst he;have t0:=Below.trod Er (by kernel_rfl) (gJ (by kernel_rfl)) h0 hg (fun x hx=>U x (by simp[hx]));have t2:=Below.trod Er (by kernel_rfl) (gJ (by kernel_rfl)) h2 hg (fun x hx=>U x (by simp[hx]))
 have hp:Rows.foldedSpec.post enc prog f3 false true false false W _ (.bool true) W':=
  ⟨_,_,_,[],_,[],S,trodAll_cons_mk (shut_bool underlying4 _) trodAll_mk0,trodAll_cons_mk t0 (trodAll_cons_mk (shut_int underlying3 wc) (trodAll_cons_mk t2 trodAll_mk0)),rfl,hg.frame _,fun h=>by cases h⟩
 exact ChangeSpec.post_blind hp
end Lk
end
section
open Go.ChangeShapes Go.WideShapes Go.ChangeAt Go.RowKit
theorem MN:prog.funcNamed Rows.foldedRow.func=some 3:=by kernel_rfl
theorem Ot:joinedFacts prog 3 f3 Rows.foldedSpec Rows.foldedRow=true:=by
 unfold joinedFacts
 repeat (rw[ed];refine⟨?_,?_⟩;rotate_left;(as_aux_lemma=>kernel_rfl))
 as_aux_lemma=>kernel_rfl
theorem RN:f3.isInstance prog Rows.foldedRow.origin Rows.foldedRow.targs:=gJ (by kernel_rfl)
theorem RO:f3.isWrapper prog Rows.foldedRow.wrapper Rows.foldedRow.mainSum:=by
 unfold Func.isWrapper
 first
  |(rw[aj (by decide+kernel)];kernel_rfl)
  |(rw[ag (by decide+kernel)];exact⟨rfl,rfl⟩)
end
section
open Go.ChangeShapes Go.WideShapes Go.ChangeAt Go.RowKit
theorem FW:Rows.FoldedSaid:=
 OpenClaim.holds_of_wide 3 f3 rfl rfl rfl rfl rfl rfl rfl ⟨rfl,rfl,rfl,rfl,rfl⟩ rfl rfl rfl rfl rfl MN func3 Ot RN RO
  (fun os D H enc _=>Lk.Oq os D H enc)
theorem folded_card:Rows.FoldedCardSaid:=
 Claim7.holds_tied_plain_at .later [] _ _ _ _
  FW (fun _ h=>by cases h) (by as_aux_lemma=>kernel_rfl) (fun _ h=>by cases h) folded_row_tie rfl ⟨rfl,rfl⟩ (by as_aux_lemma=>kernel_rfl) rfl
  (fun f fn G E=>by
   obtain rfl:f=3:=bK (MN.symm.trans G) |>.symm
   obtain rfl:fn=f3:=(bK (func3.symm.trans E)).symm
   exact⟨by as_aux_lemma=>kernel_rfl,fun j t F=>by
    rw[params3] at F;have hm:t∈[22,3,23]:=by simpa using Array.mem_of_getElem? F
    have D:([22,3,23].all fun u=>!prog.wantsStandIn u)=true:=by as_aux_lemma=>kernel_rfl
    exact(show prog.wantsStandIn t=false by simpa using il.1 D t hm)⟩)
  (by as_aux_lemma=>kernel_rfl)
