import Derived.Test.YtelmkfkgpnadnaaGreatDoorJPure
import Derived.Test.YtelmkfkgpnadnaaGreatDoorProg
import Derived.Test.YtelmkfkgpnadnaaGreatDoorRows
import Derived.ProofKit
import Derived.OpenShut
import Derived.ShutString
import Derived.LaidMore
import Derived.Lay
import Derived.Stop.Joined
set_option linter.all false
open Go.Proofs.Tryz
set_option maxRecDepth 100000
set_option maxHeartbeats 40000000
namespace Go.Proofs.YtelmkfkgpnadnaaGreatDoor
open Go.ChangeShapes Go.WideShapes Go.ChangeAt Go.RowKit
theorem Jz:prog.funcNamed Rows.laidRow.func=some 9:=by kernel_rfl
theorem MQ:joinedFacts prog 9 f9 Rows.laidSpec Rows.laidRow=true:=by
 unfold joinedFacts
 repeat (rw[cG];refine⟨?_,?_⟩;rotate_left;(as_aux_lemma=>kernel_rfl))
 as_aux_lemma=>kernel_rfl
theorem Qr:f9.isInstance prog Rows.laidRow.origin Rows.laidRow.targs:=gH (by kernel_rfl)
theorem Qs:f9.isWrapper prog Rows.laidRow.wrapper Rows.laidRow.mainSum:=by
 unfold Func.isWrapper
 first
  |(rw[ah (by decide+kernel)];kernel_rfl)
  |(rw[af (by decide+kernel)];exact⟨rfl,rfl⟩)
