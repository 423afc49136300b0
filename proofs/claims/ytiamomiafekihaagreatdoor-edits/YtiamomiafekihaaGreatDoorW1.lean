/-
  The walks of the small functions: bytes, numbers, identifiers.
-/
import Derived.Test.YtiamomiafekihaaGreatDoorProg
import Derived.Test.YtiamomiafekihaaGreatDoorPure
import Derived.Test.YtiamomiafekihaaGreatDoorShelf
import Derived.WalkKit
import Derived.WalkSpells
import Derived.WalkLawsBesides
namespace Go.Proofs.YtiamomiafekihaaGreatDoor
open Go.RowKit

theorem ret_bool {a b : Bool} (h : a = b) : Ending.returned (.bool a) = .returned (.bool b) := by rw [h]
theorem ret_int {k : IntKind} {a b : Int} (h : a = b) : Ending.returned (.int k a) = .returned (.int k b) := by rw [h]

theorem dg_int (c : UInt8) : Pv.dg c = decide (48 ≤ (c.toNat : Int) ∧ (c.toNat : Int) ≤ 57) := by
  rw [Bool.eq_iff_iff]; simp [Pv.dg, UInt8.le_iff_toNat_le]; omega
theorem sm_int (c : UInt8) : Pv.sm c = decide (97 ≤ (c.toNat : Int) ∧ (c.toNat : Int) ≤ 122) := by
  rw [Bool.eq_iff_iff]; simp [Pv.sm, UInt8.le_iff_toNat_le]; omega
theorem gr_int (c : UInt8) : Pv.gr c = decide (65 ≤ (c.toNat : Int) ∧ (c.toNat : Int) ≤ 90) := by
  rw [Bool.eq_iff_iff]; simp [Pv.gr, UInt8.le_iff_toNat_le]; omega

set_option maxHeartbeats 400000 in
theorem isDigit_any (c : UInt8) (w : World) :
    Calls Tryz.prog 128 #[.int .u8 c.toNat] w fun e w' => e = .returned (.bool (Pv.dg c)) ∧ w' = w := by
  rw [dg_int]
  generalize (c.toNat : Int) = n
  by_cases h1 : 48 ≤ n <;> by_cases h2 : n ≤ 57
  all_goals
    go_enter Tryz.func128, Tryz.ntmps128
    go_wp2
    go_ret
    exact ⟨ret_bool (by simp [h1, h2]), rfl⟩

set_option maxHeartbeats 400000 in
theorem isSmall_any (c : UInt8) (w : World) :
    Calls Tryz.prog 134 #[.int .u8 c.toNat] w fun e w' => e = .returned (.bool (Pv.sm c)) ∧ w' = w := by
  rw [sm_int]
  generalize (c.toNat : Int) = n
  by_cases h1 : 97 ≤ n <;> by_cases h2 : n ≤ 122
  all_goals
    go_enter Tryz.func134, Tryz.ntmps134
    go_wp2
    go_ret
    exact ⟨ret_bool (by simp [h1, h2]), rfl⟩

set_option maxHeartbeats 400000 in
theorem isGreat_any (c : UInt8) (w : World) :
    Calls Tryz.prog 157 #[.int .u8 c.toNat] w fun e w' => e = .returned (.bool (Pv.gr c)) ∧ w' = w := by
  rw [gr_int]
  generalize (c.toNat : Int) = n
  by_cases h1 : 65 ≤ n <;> by_cases h2 : n ≤ 90
  all_goals
    go_enter Tryz.func157, Tryz.ntmps157
    go_wp2
    go_ret
    exact ⟨ret_bool (by simp [h1, h2]), rfl⟩

end Go.Proofs.YtiamomiafekihaaGreatDoor
