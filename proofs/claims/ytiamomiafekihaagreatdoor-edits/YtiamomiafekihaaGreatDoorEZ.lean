/-
  The row of the law Edits and its card.
-/
import Derived.Test.YtiamomiafekihaaGreatDoorEX
import Derived.Test.YtiamomiafekihaaGreatDoorEY
import Derived.Test.YtiamomiafekihaaGreatDoorTie
import Derived.Test.YtiamomiafekihaaGreatDoorCards
import Derived.SevenTiedAt
namespace Go.Proofs.YtiamomiafekihaaGreatDoor
open Go.ChangeShapes Go.WideShapes Go.ChangeAt Go.RowKit

theorem edits_row : Rows.EditsSaid :=
  OpenClaim.holds_of_wide 3 Tryz.f3 rfl rfl rfl rfl rfl rfl rfl ⟨rfl, rfl, rfl, rfl, rfl⟩ rfl rfl rfl rfl rfl named3 Tryz.func3 closed3 inst3 wrap3
    (fun os started H enc _ => Ed.liftedE os started H enc)

/-- The card of the law Edits. -/
theorem edits_card : Rows.EditsCardSaid :=
  Claim7.holds_tied_plain_at .later [] _ _ _ _
    edits_row (fun _ h => by cases h) (by as_aux_lemma => kernel_rfl) (fun _ h => by cases h) edits_row_tie rfl ⟨rfl, rfl⟩ (by as_aux_lemma => kernel_rfl) rfl
    (fun f fn hf hfn => by
      obtain rfl : f = 3 := Option.some.inj (named3.symm.trans hf) |>.symm
      obtain rfl : fn = Tryz.f3 := (Option.some.inj (Tryz.func3.symm.trans hfn)).symm
      exact ⟨by as_aux_lemma => kernel_rfl, fun j t ht => by
        rw [Tryz.params3] at ht
        have hm : t ∈ [3, 3, 22] := by simpa using Array.mem_of_getElem? ht
        have hall : ([3, 3, 22].all fun u => !Tryz.prog.wantsStandIn u) = true := by as_aux_lemma => kernel_rfl
        exact (show Tryz.prog.wantsStandIn t = false by simpa using List.all_eq_true.1 hall t hm)⟩)
    (by as_aux_lemma => kernel_rfl)

end Go.Proofs.YtiamomiafekihaaGreatDoor
