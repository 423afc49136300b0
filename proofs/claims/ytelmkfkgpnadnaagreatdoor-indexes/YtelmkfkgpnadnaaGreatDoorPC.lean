/-
  The row of the law Indexes, and its card.
-/
import Derived.Test.YtelmkfkgpnadnaaGreatDoorPX
import Derived.Test.YtelmkfkgpnadnaaGreatDoorPY
import Derived.Test.YtelmkfkgpnadnaaGreatDoorTie
import Derived.Test.YtelmkfkgpnadnaaGreatDoorCards
import Derived.SevenTiedAt
namespace Go.Proofs.YtelmkfkgpnadnaaGreatDoor
open Go.ChangeShapes Go.WideShapes Go.ChangeAt Go.RowKit

theorem indexes_row : Rows.IndexesSaid :=
  OpenClaim.holds_of_wide 5 Tryz.f5 rfl rfl rfl rfl rfl rfl rfl ⟨rfl, rfl, rfl, rfl, rfl⟩ rfl rfl rfl rfl rfl named5 Tryz.func5 closed5 inst5 wrap5
    (fun os started H enc _ => lifted os started H enc)

/-- The card of the law Indexes. -/
theorem indexes_card : Rows.IndexesCardSaid :=
  Claim7.holds_tied_plain_at .later [] _ _ _ _
    indexes_row (fun _ h => by cases h) (by as_aux_lemma => kernel_rfl) (fun _ h => by cases h) indexes_row_tie rfl ⟨rfl, rfl⟩ (by as_aux_lemma => kernel_rfl) rfl
    (fun f fn hf hfn => by
      obtain rfl : f = 5 := Option.some.inj (named5.symm.trans hf) |>.symm
      obtain rfl : fn = Tryz.f5 := (Option.some.inj (Tryz.func5.symm.trans hfn)).symm
      exact ⟨by as_aux_lemma => kernel_rfl, fun j t ht => by
        rw [Tryz.params5] at ht
        have hm : t ∈ [9] := by simpa using Array.mem_of_getElem? ht
        have hall : ([9].all fun u => !Tryz.prog.wantsStandIn u) = true := by as_aux_lemma => kernel_rfl
        exact (show Tryz.prog.wantsStandIn t = false by simpa using List.all_eq_true.1 hall t hm)⟩)
    (by as_aux_lemma => kernel_rfl)

end Go.Proofs.YtelmkfkgpnadnaaGreatDoor
