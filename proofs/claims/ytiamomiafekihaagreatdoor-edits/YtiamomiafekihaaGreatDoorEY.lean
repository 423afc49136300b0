/-
  The closed facts of the row of the law Edits.
-/
import Derived.Test.YtiamomiafekihaaGreatDoorProg
import Derived.Test.YtiamomiafekihaaGreatDoorRows
import Derived.ProofKit
import Derived.OpenShut
import Derived.ShutString
import Derived.LaidMore
import Derived.Lay
import Derived.Stop.Joined
import Derived.JoinedCond
namespace Go.Proofs.YtiamomiafekihaaGreatDoor
open Go.ChangeShapes Go.WideShapes Go.ChangeAt Go.RowKit

theorem named3 : Tryz.prog.funcNamed Rows.editsRow.func = some 3 := by kernel_rfl

set_option maxRecDepth 100000 in
set_option maxHeartbeats 40000000 in
theorem closed3 : joinedFacts Tryz.prog 3 Tryz.f3 Rows.editsSpec Rows.editsRow = true := by
  unfold joinedFacts
  repeat (rw [Bool.and_eq_true]; refine ⟨?_, ?_⟩; rotate_left; (as_aux_lemma => kernel_rfl))
  as_aux_lemma => kernel_rfl

theorem inst3 : Tryz.f3.isInstance Tryz.prog Rows.editsRow.origin Rows.editsRow.targs := of_decide_eq_true (by kernel_rfl)

theorem wrap3 : Tryz.f3.isWrapper Tryz.prog Rows.editsRow.wrapper Rows.editsRow.mainSum := by
  unfold Func.isWrapper
  first
    | (rw [if_pos (by decide +kernel)]; kernel_rfl)
    | (rw [if_neg (by decide +kernel)]; exact ⟨rfl, rfl⟩)

end Go.Proofs.YtiamomiafekihaaGreatDoor
