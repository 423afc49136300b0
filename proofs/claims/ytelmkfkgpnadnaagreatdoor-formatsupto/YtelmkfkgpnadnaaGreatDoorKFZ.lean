/-
  The row of the law Formats, where what comes in is of bounded bulk, and its card.
-/
import Derived.Test.YtelmkfkgpnadnaaGreatDoorKFX
import Derived.Test.YtelmkfkgpnadnaaGreatDoorKFY
import Derived.Test.YtelmkfkgpnadnaaGreatDoorTie
import Derived.Test.YtelmkfkgpnadnaaGreatDoorCards
import Derived.SevenTiedAt
namespace Go.Proofs.YtelmkfkgpnadnaaGreatDoor
open Go.ChangeShapes Go.WideShapes Go.ChangeAt Go.RowKit

theorem formats_upto_row : Rows.FormatsUptoSaid :=
  OpenClaim.holds_of_cond 4 Tryz.f4 rfl rfl rfl rfl rfl rfl rfl ⟨rfl, rfl, rfl, rfl, rfl⟩ rfl rfl rfl rfl rfl namedF Tryz.func4 closedF instF wrapF
    (fun os started H enc _ F => by rw [OpenClaim.pre_eq_preRow]; exact Fm.liftedF os started H enc F)

/-- The card of the law Formats. -/
theorem formats_upto_card : Rows.FormatsUptoCardSaid :=
  Claim7.holds_tied_plain_at .later [] _ _ _ _
    formats_upto_row (fun _ h => by cases h) (by as_aux_lemma => kernel_rfl) (fun _ h => by cases h) formatsUpto_row_tie rfl ⟨rfl, rfl⟩ (by as_aux_lemma => kernel_rfl) rfl
    (fun f fn hf hfn => by
      obtain rfl : f = 4 := Option.some.inj (namedF.symm.trans hf) |>.symm
      obtain rfl : fn = Tryz.f4 := (Option.some.inj (Tryz.func4.symm.trans hfn)).symm
      exact ⟨by as_aux_lemma => kernel_rfl, fun j t ht => by
        rw [Tryz.params4] at ht
        have hm : t ∈ [26] := by simpa using Array.mem_of_getElem? ht
        have hall : ([26].all fun u => !Tryz.prog.wantsStandIn u) = true := by as_aux_lemma => kernel_rfl
        exact (show Tryz.prog.wantsStandIn t = false by simpa using List.all_eq_true.1 hall t hm)⟩)
    (by as_aux_lemma => kernel_rfl)

end Go.Proofs.YtelmkfkgpnadnaaGreatDoor
