/-
  The closed facts of the row of the law Formats.
-/
import Derived.Test.YtelmkfkgpnadnaaGreatDoorProg
import Derived.Test.YtelmkfkgpnadnaaGreatDoorRows
import Derived.ProofKit
import Derived.OpenShut
import Derived.ShutString
import Derived.LaidMore
import Derived.Lay
import Derived.Stop.Joined
import Derived.JoinedCond
namespace Go.Proofs.YtelmkfkgpnadnaaGreatDoor
open Go.ChangeShapes Go.WideShapes Go.ChangeAt Go.RowKit

theorem namedF : Tryz.prog.funcNamed Rows.formatsUptoRow.func = some 4 := by kernel_rfl

set_option maxRecDepth 100000 in
set_option maxHeartbeats 40000000 in
theorem closedF : joinedFacts Tryz.prog 4 Tryz.f4 (Rows.OpenSpec.upto Rows.formatsSpec).bare Rows.formatsUptoRow = true := by
  unfold joinedFacts
  repeat (rw [Bool.and_eq_true]; refine ⟨?_, ?_⟩; rotate_left; (as_aux_lemma => kernel_rfl))
  as_aux_lemma => kernel_rfl

theorem instF : Tryz.f4.isInstance Tryz.prog Rows.formatsUptoRow.origin Rows.formatsUptoRow.targs := of_decide_eq_true (by kernel_rfl)

theorem wrapF : Tryz.f4.isWrapper Tryz.prog Rows.formatsUptoRow.wrapper Rows.formatsUptoRow.mainSum := by
  unfold Func.isWrapper
  first
    | (rw [if_pos (by decide +kernel)]; kernel_rfl)
    | (rw [if_neg (by decide +kernel)]; exact ⟨rfl, rfl⟩)

end Go.Proofs.YtelmkfkgpnadnaaGreatDoor
