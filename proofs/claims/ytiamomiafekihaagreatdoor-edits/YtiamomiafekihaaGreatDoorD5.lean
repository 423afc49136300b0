/-
  With the draws counted.   The walk of the comparison of two versions.
-/
import Derived.Test.YtiamomiafekihaaGreatDoorD4
import Derived.Deep.RegionWith
namespace Go.Proofs.YtiamomiafekihaaGreatDoor.Dr
open Go.RowKit

set_option maxHeartbeats 400000 in
theorem isPrerelease_any (a b c : Value) (ad : Option Addr) (n k : Nat) (w : World) :
    Calls Tryz.prog 281 #[.agg #[a, b, c, .slice ad n k]] w fun e w' => e = .returned (.bool (decide (0 < n))) ∧ w' = w.alloc (.cells #[a, b, c, .slice ad n k] 133) := by
  by_cases h : 0 < n
  · rw [decide_eq_true h]
    go_enter Tryz.func281, Tryz.ntmps281
    go_wp2
    go_ret
    exact ⟨rfl, rfl⟩
  · rw [decide_eq_false h]
    go_enter Tryz.func281, Tryz.ntmps281
    go_wp2
    go_ret
    exact ⟨rfl, rfl⟩

set_option maxHeartbeats 400000 in
theorem compareNil_any (fv : Value) (w : World) :
    Calls Tryz.prog 282 #[.slice none 0 0, .slice none 0 0, fv] w fun e w' => e = .returned (.int .i64 0) ∧ w' = w := by
  go_enter Tryz.func282, Tryz.ntmps282
  go_wp2
  go_loopg [13] 0 (fun _ s13 wr => s13 = .int .i64 0 ∧ wr = w)
  case atStart => exact ⟨rfl, rfl⟩
  case round =>
    obtain ⟨rfl, rfl⟩ := hrel
    go_wp2
    go_ret
    exact ⟨rfl, rfl⟩

/-- What the walk of Compare needs of its two callees. -/
def Two (x0 x1 x2 y0 y1 y2 : Int) (r0 : Int) : Prop := ∀ (b b' : Nat) (W : World), (W.cell? ⟨b, 0, none⟩ = some (.int .i64 x0) ∧ W.cell? ⟨b, 1, none⟩ = some (.int .i64 x1) ∧ W.cell? ⟨b, 2, none⟩ = some (.int .i64 x2)) → (W.cell? ⟨b', 0, none⟩ = some (.int .i64 y0) ∧ W.cell? ⟨b', 1, none⟩ = some (.int .i64 y1) ∧ W.cell? ⟨b', 2, none⟩ = some (.int .i64 y2)) →
  Calls Tryz.prog 280 #[.slice (some ⟨b, 0, none⟩) 3 3, .slice (some ⟨b', 0, none⟩) 3 3] W fun e w' => e = .returned (.int .i64 r0) ∧ w' = W

theorem two_of (p q s p' q' s' : List UInt8) : Two (Pv.val p) (Pv.val q) (Pv.val s) (Pv.val p') (Pv.val q') (Pv.val s') (Pv.cmpL Pv.cmpN [p, q, s] [p', q', s']) := by
  intro b b' W h h'
  refine compareInts_any [p, q, s] [p', q', s'] b b' 3 3 W rfl rfl ?_ ?_
  · intro j hj
    match j, hj with
    | 0, _ => exact h.1
    | 1, _ => exact h.2.1
    | 2, _ => exact h.2.2
  · intro j hj
    match j, hj with
    | 0, _ => exact h'.1
    | 1, _ => exact h'.2.1
    | 2, _ => exact h'.2.2

set_option maxHeartbeats 1000000 in
theorem verCompare_ne (x0 x1 x2 y0 y1 y2 r0 : Int) (h2 : Two x0 x1 x2 y0 y1 y2 r0) (hr : (r0 != 0) = true) (sa sb : Value) (w : World) :
    Calls Tryz.prog 256 #[.agg #[.int .i64 x0, .int .i64 x1, .int .i64 x2, sa], .agg #[.int .i64 y0, .int .i64 y1, .int .i64 y2, sb]] w fun e w' => e = .returned (.int .i64 r0) ∧ Below w.heap.size w w' := by
  have kc : ∀ n, Calls Tryz.prog 280 #[.slice (some ⟨w.heap.size, 0, none⟩) 3 3, .slice (some ⟨w.heap.size + 1, 0, none⟩) 3 3] (((w.alloc (.cells #[.int .i64 x0, .int .i64 x1, .int .i64 x2, sa] 133)).alloc (.cells #[.int .i64 y0, .int .i64 y1, .int .i64 y2, sb] 133)).drewN n) fun e w' => e = .returned (.int .i64 r0) ∧ w' = (((w.alloc (.cells #[.int .i64 x0, .int .i64 x1, .int .i64 x2, sa] 133)).alloc (.cells #[.int .i64 y0, .int .i64 y1, .int .i64 y2, sb] 133)).drewN n) := fun n => h2 _ _ _ (by simp [go_sem]) (by simp [go_sem])
  clear h2
  go_enter Tryz.func256, Tryz.ntmps256
  go_wp2
  go_quiet ((go_at_call 280; exact Calls.quiet_of_same (kc _)))
  go_wp2
  go_ret
  exact ⟨rfl, (((Below.refl _ _).alloc (Nat.le_refl _) _).alloc (by simp) _).trans (below_drewN' (Below.refl _ _) _)⟩

set_option maxHeartbeats 1000000 in
theorem verCompare_eq (x0 x1 x2 y0 y1 y2 : Int) (h2 : Two x0 x1 x2 y0 y1 y2 0) (ad ad' : Option Addr) (n k n' k' : Nat) (w : World) (hd : decide (0 < n) = decide (0 < n')) (r1 : Int)
    (kl : ∀ W', Below w.heap.size w W' → Calls Tryz.prog 282 #[.slice ad n k, .slice ad' n' k', .func (.func 283) #[] #[]] W' fun e w' => e = .returned (.int .i64 r1) ∧ Below W'.heap.size W' w') :
    Calls Tryz.prog 256 #[.agg #[.int .i64 x0, .int .i64 x1, .int .i64 x2, .slice ad n k], .agg #[.int .i64 y0, .int .i64 y1, .int .i64 y2, .slice ad' n' k']] w fun e w' => e = .returned (.int .i64 r1) ∧ Below w.heap.size w w' := by
  have kc : ∀ m, Calls Tryz.prog 280 #[.slice (some ⟨w.heap.size, 0, none⟩) 3 3, .slice (some ⟨w.heap.size + 1, 0, none⟩) 3 3] (((w.alloc (.cells #[.int .i64 x0, .int .i64 x1, .int .i64 x2, .slice ad n k] 133)).alloc (.cells #[.int .i64 y0, .int .i64 y1, .int .i64 y2, .slice ad' n' k'] 133)).drewN m) fun e w' => e = .returned (.int .i64 0) ∧ w' = (((w.alloc (.cells #[.int .i64 x0, .int .i64 x1, .int .i64 x2, .slice ad n k] 133)).alloc (.cells #[.int .i64 y0, .int .i64 y1, .int .i64 y2, .slice ad' n' k'] 133)).drewN m) := fun n => h2 _ _ _ (by simp [go_sem]) (by simp [go_sem])
  have k1 := fun w => isPrerelease_any (.int .i64 x0) (.int .i64 x1) (.int .i64 x2) ad n k w
  have k2 := fun w => isPrerelease_any (.int .i64 y0) (.int .i64 y1) (.int .i64 y2) ad' n' k' w
  rw [← hd] at k2
  generalize decide (0 < n) = p at k1 k2
  clear h2 hd
  go_enter Tryz.func256, Tryz.ntmps256
  go_wp2
  go_quiet ((go_at_call 280; exact Calls.quiet_of_same (kc _)))
  go_wp2
  go_region_with (first | (go_at_call_of 281 x0; refine (k1 _).mono ?_; rintro e w' ⟨rfl, rfl⟩) | (go_at_call_of 281 y0; refine (k2 _).mono ?_; rintro e w' ⟨rfl, rfl⟩))
  all_goals
    go_wp2_with (go_at_call 282; fail)
    go_at_call 282
    refine (kl _ ?hb).mono ?_
    case hb => repeat (first | exact Below.refl _ _ | refine Below.drew ?_ | refine below_drewN' ?_ _ | refine Below.alloc ?_ (by first | (simp; done) | (simp; omega) | omega) _)
    rintro e w' ⟨rfl, hb'⟩
    go_wp2
    go_ret
    refine ⟨rfl, Below.trans ?_ (hb'.mono ?_)⟩
    · repeat (first | exact Below.refl _ _ | refine Below.drew ?_ | refine below_drewN' ?_ _ | refine Below.alloc ?_ (by first | (simp; done) | (simp; omega) | omega) _)
    · first | (simp; done) | (simp; omega)

end Go.Proofs.YtiamomiafekihaaGreatDoor.Dr
