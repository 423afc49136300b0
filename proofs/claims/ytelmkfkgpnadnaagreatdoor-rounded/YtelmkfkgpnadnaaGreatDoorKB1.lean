/-
  The document's answer: an index of more than 2000 bytes.
-/
import Derived.Test.YtelmkfkgpnadnaaGreatDoorKAA
import Derived.Deep.RegionHeld3
namespace Go.Proofs.YtelmkfkgpnadnaaGreatDoor
open Go.RowKit

variable {w w' : World}

theorem own_one_slip (w : World) (a b c : Nat) : (w.alloc (.cells #[.int .i64 a, .int .i64 b, .int .i64 c] 45)).ownsRow w.heap.size 45 3 (.slice (some ⟨w.heap.size, 0, none⟩) 1 1) 1 (scells [(a, b, c)]) := by
  refine ⟨rfl, .inr ⟨w.heap.size, 1, _, rfl, Nat.le_refl _, block_new w _, Nat.le_refl _, by decide, rfl, rfl⟩⟩

end Go.Proofs.YtelmkfkgpnadnaaGreatDoor
