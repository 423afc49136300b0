import Derived.Test.YtelmkfkgpnadnaaGreatDoorKPure
import Derived.Test.YtelmkfkgpnadnaaGreatDoorProg
import Derived.Test.YtelmkfkgpnadnaaGreatDoorRows
import Derived.ProofKit
import Derived.OpenShut
import Derived.ShutString
import Derived.LaidMore
import Derived.Lay
import Derived.Stop.Joined
import Derived.JoinedCond
open Go.Proofs.Tryz
set_option maxRecDepth 100000
set_option maxHeartbeats 40000000
namespace Go.Proofs.YtelmkfkgpnadnaaGreatDoor
open Go.ChangeShapes Go.WideShapes Go.ChangeAt Go.RowKit
theorem Ko:prog.funcNamed Rows.leastUptoRow.func=some 8:=by kernel_rfl
theorem MG:joinedFacts prog 8 f8 (Rows.OpenSpec.upto Rows.leastSpec).bare Rows.leastUptoRow=true:=by
 unfold joinedFacts
 repeat (rw[eI];refine⟨?_,?_⟩;rotate_left;(as_aux_lemma=>kernel_rfl))
 as_aux_lemma=>kernel_rfl
theorem QA:f8.isInstance prog Rows.leastUptoRow.origin Rows.leastUptoRow.targs:=ik (by kernel_rfl)
theorem QB:f8.isWrapper prog Rows.leastUptoRow.wrapper Rows.leastUptoRow.mainSum:=by
 unfold Func.isWrapper
 first
  |(rw[ai (by decide+kernel)];kernel_rfl)
  |(rw[af (by decide+kernel)];exact⟨rfl,rfl⟩)
