/-
  The row of the law Rounded, and its card.
-/
import Derived.Test.YtelmkfkgpnadnaaGreatDoorKRXL
import Derived.Test.YtelmkfkgpnadnaaGreatDoorKRXC
import Derived.Test.YtelmkfkgpnadnaaGreatDoorTie
import Derived.Test.YtelmkfkgpnadnaaGreatDoorCards
import Derived.SevenTiedAt
namespace Go.Proofs.YtelmkfkgpnadnaaGreatDoor
open Go.ChangeShapes Go.WideShapes Go.ChangeAt Go.RowKit

theorem rounded_row : Rows.RoundedSaid :=
  OpenClaim.holds_of_wide 6 Tryz.f6 rfl rfl rfl rfl rfl rfl rfl ⟨rfl, rfl, rfl, rfl, rfl⟩ rfl rfl rfl rfl rfl named6 Tryz.func6 closed6 inst6 wrap6
    (fun os started H enc _ => Rn.liftedR os started H enc)

/-- The card of the law Rounded. -/
theorem rounded_card : Rows.RoundedCardSaid :=
  Claim7.holds_tied_plain_at .later [] _ _ _ _
    rounded_row (fun _ h => by cases h) (by as_aux_lemma => kernel_rfl) (fun _ h => by cases h) rounded_row_tie rfl ⟨rfl, rfl⟩ (by as_aux_lemma => kernel_rfl) rfl
    (fun f fn hf hfn => by
      obtain rfl : f = 6 := Option.some.inj (named6.symm.trans hf) |>.symm
      obtain rfl : fn = Tryz.f6 := (Option.some.inj (Tryz.func6.symm.trans hfn)).symm
      exact ⟨by as_aux_lemma => kernel_rfl, fun j t ht => by
        rw [Tryz.params6] at ht
        have hm : t ∈ [30, 3] := by have := Array.mem_of_getElem? ht; simp at this; simp; omega
        have hall : ([30, 3].all fun u => !Tryz.prog.wantsStandIn u) = true := by as_aux_lemma => kernel_rfl
        exact (show Tryz.prog.wantsStandIn t = false by simpa using List.all_eq_true.1 hall t hm)⟩)
    (by as_aux_lemma => kernel_rfl)

end Go.Proofs.YtelmkfkgpnadnaaGreatDoor
