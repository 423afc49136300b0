/-
  The document's answer: an index of more than 2000 bytes.
-/
import Derived.Test.YtelmkfkgpnadnaaGreatDoorKAA
import Derived.Deep.RegionHeld3
namespace Go.Proofs.YtelmkfkgpnadnaaGreatDoor
open Go.RowKit

variable {w w' : World}

theorem own_one_slip (w : World) (a b c : Nat) : (w.alloc (.cells #[.int .i64 a, .int .i64 b, .int .i64 c] 45)).ownsRow w.heap.size 45 3 (.slice (some ⟨w.heap.size, 0, none⟩) 1 1) 1 (scells [(a, b, c)]) := by
  refine ⟨rfl, .inr ⟨w.heap.size, 1, _, rfl, Nat.le_refl _, block_new w _, Nat.le_refl _, by decide, rfl, rfl⟩⟩

set_option maxRecDepth 100000 in
set_option maxHeartbeats 4000000 in
theorem slipped_long (s : ByteArray) (ix : Bool) (w : World) (hs : 2000 < s.size) :
    Calls Tryz.prog 117 #[.string s, .bool ix] w fun e w' => ∃ a c, e = .returned (.tuple #[.slice none 0 0, .slice a 1 c]) ∧ w'.ownsRow w.heap.size 45 3 (.slice a 1 c) 1 (scells [(0, 0, 1)]) ∧ Below w.heap.size w w' := by
  have hsI : ((s.size : Int) > 2000) := by omega
  go_enter Tryz.func117, Tryz.ntmps117
  go_wp2
  go_ret2
  exact ⟨_, _, rfl, own_one_slip w 0 0 1, (Below.refl _ _).alloc (Nat.le_refl _) _⟩

end Go.Proofs.YtelmkfkgpnadnaaGreatDoor
