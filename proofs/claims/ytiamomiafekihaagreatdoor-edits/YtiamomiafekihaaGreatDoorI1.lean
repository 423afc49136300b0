/-
  The program's reading of a line: a blank, a copy of a word.
-/
import Derived.Test.YtiamomiafekihaaGreatDoorW1
import Derived.Test.YtiamomiafekihaaGreatDoorT2
import Derived.Shelf.Strconv.Clone
namespace Go.Proofs.YtiamomiafekihaaGreatDoor
open Go.RowKit Go.Shelf

theorem cloneIn_any (s : ByteArray) (w : World) (hlim : s.size ≤ 281474976710656) :
    Calls Tryz.prog 102 #[.string s] w fun e w' => e = .returned (.string s) ∧ Below w.heap.size w w' := Tryz.stringslite_Clone s w hlim

set_option maxHeartbeats 400000 in
theorem clone_any (s : ByteArray) (w : World) (hlim : s.size ≤ 281474976710656) :
    Calls Tryz.prog 73 #[.string s] w fun e w' => e = .returned (.string s) ∧ Below w.heap.size w w' := by
  have k := cloneIn_any s w hlim
  go_enter Tryz.func73, Tryz.ntmps73
  go_wp2_with (go_at_call 102; refine k.mono ?_; rintro e w' ⟨rfl, hb⟩)
  go_ret
  exact ⟨rfl, hb⟩

theorem nb_int (c : UInt8) : (!Tx.nb c) = decide ((c.toNat : Int) = 32 ∨ (c.toNat : Int) = 9) := by
  rw [Bool.eq_iff_iff]; simp [Tx.nb, ← UInt8.toNat_inj]; omega

set_option maxHeartbeats 400000 in
theorem isBlank_any (c : UInt8) (w : World) :
    Calls Tryz.prog 264 #[.int .u8 c.toNat] w fun e w' => e = .returned (.bool (!Tx.nb c)) ∧ w' = w := by
  rw [nb_int]
  generalize (c.toNat : Int) = n
  by_cases h1 : n = 32 <;> by_cases h2 : n = 9
  all_goals
    go_enter Tryz.func264, Tryz.ntmps264
    go_wp2
    go_ret
    exact ⟨ret_bool (by simp [h1, h2]), rfl⟩

end Go.Proofs.YtiamomiafekihaaGreatDoor
