/-
  The closed facts of the row of the law Manifests.
-/
import Derived.Test.YtelmkfkgpnadnaaGreatDoorProg
import Derived.Test.YtelmkfkgpnadnaaGreatDoorRows
import Derived.ProofKit
import Derived.OpenShut
import Derived.ShutString
import Derived.LaidMore
import Derived.Lay
import Derived.Stop.Joined
namespace Go.Proofs.YtelmkfkgpnadnaaGreatDoor
open Go.ChangeShapes Go.WideShapes Go.ChangeAt Go.RowKit

theorem named3 : Tryz.prog.funcNamed Rows.manifestsRow.func = some 3 := by kernel_rfl

set_option maxRecDepth 100000 in
set_option maxHeartbeats 40000000 in
theorem closed3 : joinedFacts Tryz.prog 3 Tryz.f3 Rows.manifestsSpec Rows.manifestsRow = true := by
  unfold joinedFacts
  repeat (rw [Bool.and_eq_true]; refine ⟨?_, ?_⟩; rotate_left; (as_aux_lemma => kernel_rfl))
  as_aux_lemma => kernel_rfl

theorem inst3 : Tryz.f3.isInstance Tryz.prog Rows.manifestsRow.origin Rows.manifestsRow.targs := of_decide_eq_true (by kernel_rfl)

theorem wrap3 : Tryz.f3.isWrapper Tryz.prog Rows.manifestsRow.wrapper Rows.manifestsRow.mainSum := by
  unfold Func.isWrapper
  first
    | (rw [if_pos (by decide +kernel)]; kernel_rfl)
    | (rw [if_neg (by decide +kernel)]; exact ⟨rfl, rfl⟩)

end Go.Proofs.YtelmkfkgpnadnaaGreatDoor
