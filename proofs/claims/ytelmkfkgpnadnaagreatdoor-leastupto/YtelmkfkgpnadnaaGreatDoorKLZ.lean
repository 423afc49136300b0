import Derived.Test.YtelmkfkgpnadnaaGreatDoorKLKE
import Derived.Test.YtelmkfkgpnadnaaGreatDoorKLY
import Derived.Test.YtelmkfkgpnadnaaGreatDoorTie
import Derived.Test.YtelmkfkgpnadnaaGreatDoorCards
import Derived.SevenTiedAt
set_option linter.all false
open Go.Proofs.Tryz
namespace Go.Proofs.YtelmkfkgpnadnaaGreatDoor
open Go.ChangeShapes Go.WideShapes Go.ChangeAt Go.RowKit
theorem xr:Rows.LeastUptoSaid:=
 OpenClaim.holds_of_cond 8 f8 rfl rfl rfl rfl rfl rfl rfl ⟨rfl,rfl,rfl,rfl,rfl⟩ rfl rfl rfl rfl rfl Ko func8 MG QA QB
  (fun os started H enc _ F=>by rw[OpenClaim.pre_eq_preRow];exact Lk.MF os started H enc F)
theorem least_upto_card:Rows.LeastUptoCardSaid:=
 Claim7.holds_tied_plain_at .later [] _ _ _ _
  xr (fun _ h=>by cases h) (by as_aux_lemma=>kernel_rfl) (fun _ h=>by cases h) leastUpto_row_tie rfl ⟨rfl,rfl⟩ (by as_aux_lemma=>kernel_rfl) rfl
  (fun f fn hf hfn=>by
   obtain rfl:f=8:=cJ (Ko.symm.trans hf) |>.symm
   obtain rfl:fn=f8:=(cJ (func8.symm.trans hfn)).symm
   exact⟨by as_aux_lemma=>kernel_rfl,fun j t ht=>by
    rw[params8] at ht;have hm:t∈[30,51,30]:=by simpa using Array.mem_of_getElem? ht
    have hall:([30,51,30].all fun u=>!prog.wantsStandIn u)=true:=by as_aux_lemma=>kernel_rfl
    exact(show prog.wantsStandIn t=false by simpa using gw.1 hall t hm)⟩)
  (by as_aux_lemma=>kernel_rfl)
