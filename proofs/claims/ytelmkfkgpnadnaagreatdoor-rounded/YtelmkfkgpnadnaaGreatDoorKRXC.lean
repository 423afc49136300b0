/-
  The closed facts of the row of the law Rounded.
-/
import Derived.Test.YtelmkfkgpnadnaaGreatDoorProg
import Derived.Test.YtelmkfkgpnadnaaGreatDoorRows
import Derived.ProofKit
import Derived.OpenShut
import Derived.ShutString
import Derived.LaidMore
import Derived.Lay
import Derived.Stop.Joined
namespace Go.Proofs.YtelmkfkgpnadnaaGreatDoor
open Go.ChangeShapes Go.WideShapes Go.ChangeAt Go.RowKit

theorem named6 : Tryz.prog.funcNamed Rows.roundedRow.func = some 6 := by kernel_rfl

set_option maxRecDepth 100000 in
set_option maxHeartbeats 40000000 in
theorem closed6 : joinedFacts Tryz.prog 6 Tryz.f6 Rows.roundedSpec Rows.roundedRow = true := by
  unfold joinedFacts
  repeat (rw [Bool.and_eq_true]; refine ⟨?_, ?_⟩; rotate_left; (as_aux_lemma => kernel_rfl))
  as_aux_lemma => kernel_rfl

theorem inst6 : Tryz.f6.isInstance Tryz.prog Rows.roundedRow.origin Rows.roundedRow.targs := of_decide_eq_true (by kernel_rfl)

theorem wrap6 : Tryz.f6.isWrapper Tryz.prog Rows.roundedRow.wrapper Rows.roundedRow.mainSum := by
  unfold Func.isWrapper
  first
    | (rw [if_pos (by decide +kernel)]; kernel_rfl)
    | (rw [if_neg (by decide +kernel)]; exact ⟨rfl, rfl⟩)

end Go.Proofs.YtelmkfkgpnadnaaGreatDoor
