/-
  The closed facts of the row of the law Edits.
-/
import Derived.Test.YtelmkfkgpnadnaaGreatDoorProg
import Derived.Test.YtelmkfkgpnadnaaGreatDoorRows
import Derived.ProofKit
import Derived.OpenShut
import Derived.ShutString
import Derived.LaidMore
import Derived.Lay
import Derived.Stop.Joined
import Derived.JoinedCond
namespace Go.Proofs.YtelmkfkgpnadnaaGreatDoor
open Go.ChangeShapes Go.WideShapes Go.ChangeAt Go.RowKit

theorem named7 : Tryz.prog.funcNamed Rows.editsUptoRow.func = some 7 := by kernel_rfl

set_option maxRecDepth 100000 in
set_option maxHeartbeats 40000000 in
theorem closed7 : joinedFacts Tryz.prog 7 Tryz.f7 (Rows.OpenSpec.upto Rows.editsSpec).bare Rows.editsUptoRow = true := by
  unfold joinedFacts
  repeat (rw [Bool.and_eq_true]; refine ⟨?_, ?_⟩; rotate_left; (as_aux_lemma => kernel_rfl))
  as_aux_lemma => kernel_rfl

theorem inst7 : Tryz.f7.isInstance Tryz.prog Rows.editsUptoRow.origin Rows.editsUptoRow.targs := of_decide_eq_true (by kernel_rfl)

theorem wrap7 : Tryz.f7.isWrapper Tryz.prog Rows.editsUptoRow.wrapper Rows.editsUptoRow.mainSum := by
  unfold Func.isWrapper
  first
    | (rw [if_pos (by decide +kernel)]; kernel_rfl)
    | (rw [if_neg (by decide +kernel)]; exact ⟨rfl, rfl⟩)

end Go.Proofs.YtelmkfkgpnadnaaGreatDoor
