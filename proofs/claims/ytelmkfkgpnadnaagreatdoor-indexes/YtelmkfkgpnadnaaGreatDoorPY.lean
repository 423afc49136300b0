/-
  The closed facts of the row of the law Indexes.
-/
import Derived.Test.YtelmkfkgpnadnaaGreatDoorProg
import Derived.Test.YtelmkfkgpnadnaaGreatDoorRows
import Derived.ProofKit
import Derived.OpenShut
import Derived.ShutString
import Derived.LaidMore
import Derived.Lay
import Derived.Stop.Joined
namespace Go.Proofs.YtelmkfkgpnadnaaGreatDoor
open Go.ChangeShapes Go.WideShapes Go.ChangeAt Go.RowKit

theorem named5 : Tryz.prog.funcNamed Rows.indexesRow.func = some 5 := by kernel_rfl

set_option maxRecDepth 100000 in
set_option maxHeartbeats 40000000 in
theorem closed5 : joinedFacts Tryz.prog 5 Tryz.f5 Rows.indexesSpec Rows.indexesRow = true := by
  unfold joinedFacts
  repeat (rw [Bool.and_eq_true]; refine ⟨?_, ?_⟩; rotate_left; (as_aux_lemma => kernel_rfl))
  as_aux_lemma => kernel_rfl

theorem inst5 : Tryz.f5.isInstance Tryz.prog Rows.indexesRow.origin Rows.indexesRow.targs := of_decide_eq_true (by kernel_rfl)

theorem wrap5 : Tryz.f5.isWrapper Tryz.prog Rows.indexesRow.wrapper Rows.indexesRow.mainSum := by
  unfold Func.isWrapper
  first
    | (rw [if_pos (by decide +kernel)]; kernel_rfl)
    | (rw [if_neg (by decide +kernel)]; exact ⟨rfl, rfl⟩)

end Go.Proofs.YtelmkfkgpnadnaaGreatDoor
