/-
  The walk of labelOf, place by place.
-/
import Derived.Test.YtelmkfkgpnadnaaDoorR1
import Derived.Test.YtelmkfkgpnadnaaDoorW1
import Derived.LoopN
namespace Go.Proofs.YtelmkfkgpnadnaaDoor
open Go.RowKit

set_option maxRecDepth 100000 in
set_option maxHeartbeats 8000000 in
theorem labelOf_0 (w : World) : Calls Tryd.prog 13 #[.int .i64 0] w fun e w' => e = .returned (.string ⟨#[48]⟩) ∧ w' = w := by
  go_enter Tryd.func13, Tryd.ntmps13
  go_wp2
  refine wp_loop_rounds 37 ?_
  repeat (rw [rounds_succ]; go_wp2)
  go_ret
  exact ⟨by kernel_rfl, rfl⟩

set_option maxRecDepth 100000 in
set_option maxHeartbeats 8000000 in
theorem labelOf_1 (w : World) : Calls Tryd.prog 13 #[.int .i64 1] w fun e w' => e = .returned (.string ⟨#[50]⟩) ∧ w' = w := by
  go_enter Tryd.func13, Tryd.ntmps13
  go_wp2
  refine wp_loop_rounds 37 ?_
  repeat (rw [rounds_succ]; go_wp2)
  go_ret
  exact ⟨by kernel_rfl, rfl⟩

set_option maxRecDepth 100000 in
set_option maxHeartbeats 8000000 in
theorem labelOf_2 (w : World) : Calls Tryd.prog 13 #[.int .i64 2] w fun e w' => e = .returned (.string ⟨#[49, 48]⟩) ∧ w' = w := by
  go_enter Tryd.func13, Tryd.ntmps13
  go_wp2
  refine wp_loop_rounds 37 ?_
  repeat (rw [rounds_succ]; go_wp2)
  go_ret
  exact ⟨by kernel_rfl, rfl⟩

set_option maxRecDepth 100000 in
set_option maxHeartbeats 8000000 in
theorem labelOf_3 (w : World) : Calls Tryd.prog 13 #[.int .i64 3] w fun e w' => e = .returned (.string ⟨#[57, 57, 57, 57, 57, 57, 57, 57]⟩) ∧ w' = w := by
  go_enter Tryd.func13, Tryd.ntmps13
  go_wp2
  refine wp_loop_rounds 37 ?_
  repeat (rw [rounds_succ]; go_wp2)
  go_ret
  exact ⟨by kernel_rfl, rfl⟩

set_option maxRecDepth 100000 in
set_option maxHeartbeats 8000000 in
theorem labelOf_4 (w : World) : Calls Tryd.prog 13 #[.int .i64 4] w fun e w' => e = .returned (.string ⟨#[45]⟩) ∧ w' = w := by
  go_enter Tryd.func13, Tryd.ntmps13
  go_wp2
  refine wp_loop_rounds 37 ?_
  repeat (rw [rounds_succ]; go_wp2)
  go_ret
  exact ⟨by kernel_rfl, rfl⟩

set_option maxRecDepth 100000 in
set_option maxHeartbeats 8000000 in
theorem labelOf_5 (w : World) : Calls Tryd.prog 13 #[.int .i64 5] w fun e w' => e = .returned (.string ⟨#[48, 97]⟩) ∧ w' = w := by
  go_enter Tryd.func13, Tryd.ntmps13
  go_wp2
  refine wp_loop_rounds 37 ?_
  repeat (rw [rounds_succ]; go_wp2)
  go_ret
  exact ⟨by kernel_rfl, rfl⟩

set_option maxRecDepth 100000 in
set_option maxHeartbeats 8000000 in
theorem labelOf_6 (w : World) : Calls Tryd.prog 13 #[.int .i64 6] w fun e w' => e = .returned (.string ⟨#[65]⟩) ∧ w' = w := by
  go_enter Tryd.func13, Tryd.ntmps13
  go_wp2
  refine wp_loop_rounds 37 ?_
  repeat (rw [rounds_succ]; go_wp2)
  go_ret
  exact ⟨by kernel_rfl, rfl⟩

set_option maxRecDepth 100000 in
set_option maxHeartbeats 8000000 in
theorem labelOf_7 (w : World) : Calls Tryd.prog 13 #[.int .i64 7] w fun e w' => e = .returned (.string ⟨#[66, 48]⟩) ∧ w' = w := by
  go_enter Tryd.func13, Tryd.ntmps13
  go_wp2
  refine wp_loop_rounds 37 ?_
  repeat (rw [rounds_succ]; go_wp2)
  go_ret
  exact ⟨by kernel_rfl, rfl⟩

set_option maxRecDepth 100000 in
set_option maxHeartbeats 8000000 in
theorem labelOf_8 (w : World) : Calls Tryd.prog 13 #[.int .i64 8] w fun e w' => e = .returned (.string ⟨#[97]⟩) ∧ w' = w := by
  go_enter Tryd.func13, Tryd.ntmps13
  go_wp2
  refine wp_loop_rounds 37 ?_
  repeat (rw [rounds_succ]; go_wp2)
  go_ret
  exact ⟨by kernel_rfl, rfl⟩

set_option maxRecDepth 100000 in
set_option maxHeartbeats 8000000 in
theorem labelOf_9 (w : World) : Calls Tryd.prog 13 #[.int .i64 9] w fun e w' => e = .returned (.string ⟨#[97, 45]⟩) ∧ w' = w := by
  go_enter Tryd.func13, Tryd.ntmps13
  go_wp2
  refine wp_loop_rounds 37 ?_
  repeat (rw [rounds_succ]; go_wp2)
  go_ret
  exact ⟨by kernel_rfl, rfl⟩

set_option maxRecDepth 100000 in
set_option maxHeartbeats 8000000 in
theorem labelOf_10 (w : World) : Calls Tryd.prog 13 #[.int .i64 10] w fun e w' => e = .returned (.string ⟨#[97, 98]⟩) ∧ w' = w := by
  go_enter Tryd.func13, Tryd.ntmps13
  go_wp2
  refine wp_loop_rounds 37 ?_
  repeat (rw [rounds_succ]; go_wp2)
  go_ret
  exact ⟨by kernel_rfl, rfl⟩

set_option maxRecDepth 100000 in
set_option maxHeartbeats 8000000 in
theorem labelOf_11 (w : World) : Calls Tryd.prog 13 #[.int .i64 11] w fun e w' => e = .returned (.string ⟨#[98]⟩) ∧ w' = w := by
  go_enter Tryd.func13, Tryd.ntmps13
  go_wp2
  refine wp_loop_rounds 37 ?_
  repeat (rw [rounds_succ]; go_wp2)
  go_ret
  exact ⟨by kernel_rfl, rfl⟩

theorem labelOf_any (k : Nat) (h : k < 12) (w : World) : Calls Tryd.prog 13 #[.int .i64 k] w fun e w' => e = .returned (.string ⟨(Rk.lab k).toArray⟩) ∧ w' = w := by
  match k, h with
  | 0, _ => exact labelOf_0 w
  | 1, _ => exact labelOf_1 w
  | 2, _ => exact labelOf_2 w
  | 3, _ => exact labelOf_3 w
  | 4, _ => exact labelOf_4 w
  | 5, _ => exact labelOf_5 w
  | 6, _ => exact labelOf_6 w
  | 7, _ => exact labelOf_7 w
  | 8, _ => exact labelOf_8 w
  | 9, _ => exact labelOf_9 w
  | 10, _ => exact labelOf_10 w
  | 11, _ => exact labelOf_11 w

end Go.Proofs.YtelmkfkgpnadnaaDoor
