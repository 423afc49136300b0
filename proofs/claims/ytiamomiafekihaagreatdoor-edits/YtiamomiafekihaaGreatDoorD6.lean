/-
  With the draws counted.   The comparison of two versions, all cases together.
-/
import Derived.Test.YtiamomiafekihaaGreatDoorD5
namespace Go.Proofs.YtiamomiafekihaaGreatDoor.Dr
open Go.RowKit

set_option maxHeartbeats 1000000 in
theorem verCompare_pre (x0 x1 x2 y0 y1 y2 : Int) (h2 : Two x0 x1 x2 y0 y1 y2 0) (ad ad' : Option Addr) (n k n' k' : Nat) (w : World) (hn : 0 < n) (hn' : n' = 0) :
    Calls Tryz.prog 256 #[.agg #[.int .i64 x0, .int .i64 x1, .int .i64 x2, .slice ad n k], .agg #[.int .i64 y0, .int .i64 y1, .int .i64 y2, .slice ad' n' k']] w fun e w' => e = .returned (.int .i64 (-1)) ∧ Below w.heap.size w w' := by
  have kc : ∀ m, Calls Tryz.prog 280 #[.slice (some ⟨w.heap.size, 0, none⟩) 3 3, .slice (some ⟨w.heap.size + 1, 0, none⟩) 3 3] (((w.alloc (.cells #[.int .i64 x0, .int .i64 x1, .int .i64 x2, .slice ad n k] 133)).alloc (.cells #[.int .i64 y0, .int .i64 y1, .int .i64 y2, .slice ad' n' k'] 133)).drewN m) fun e w' => e = .returned (.int .i64 0) ∧ w' = (((w.alloc (.cells #[.int .i64 x0, .int .i64 x1, .int .i64 x2, .slice ad n k] 133)).alloc (.cells #[.int .i64 y0, .int .i64 y1, .int .i64 y2, .slice ad' n' k'] 133)).drewN m) := fun n => h2 _ _ _ (by simp [go_sem]) (by simp [go_sem])
  have k1 := fun w => isPrerelease_any (.int .i64 x0) (.int .i64 x1) (.int .i64 x2) ad n k w
  have k2 := fun w => isPrerelease_any (.int .i64 y0) (.int .i64 y1) (.int .i64 y2) ad' n' k' w
  rw [decide_eq_true hn] at k1
  rw [decide_eq_false (by omega : ¬ 0 < n')] at k2
  clear h2 hn hn'
  go_enter Tryz.func256, Tryz.ntmps256
  go_wp2
  go_quiet ((go_at_call 280; exact Calls.quiet_of_same (kc _)))
  go_wp2
  go_region_with (first | (go_at_call_of 281 x0; refine (k1 _).mono ?_; rintro e w' ⟨rfl, rfl⟩) | (go_at_call_of 281 y0; refine (k2 _).mono ?_; rintro e w' ⟨rfl, rfl⟩))
  all_goals
    go_wp2_with (go_at_call 281; refine (k1 _).mono ?_; rintro e w' ⟨rfl, rfl⟩)
    go_ret
    refine ⟨rfl, ?_⟩
    repeat (first | exact Below.refl _ _ | refine Below.drew ?_ | refine below_drewN' ?_ _ | refine Below.alloc ?_ (by first | (simp; done) | (simp; omega) | omega) _)

set_option maxHeartbeats 1000000 in
theorem verCompare_post (x0 x1 x2 y0 y1 y2 : Int) (h2 : Two x0 x1 x2 y0 y1 y2 0) (ad ad' : Option Addr) (n k n' k' : Nat) (w : World) (hn : n = 0) (hn' : 0 < n') :
    Calls Tryz.prog 256 #[.agg #[.int .i64 x0, .int .i64 x1, .int .i64 x2, .slice ad n k], .agg #[.int .i64 y0, .int .i64 y1, .int .i64 y2, .slice ad' n' k']] w fun e w' => e = .returned (.int .i64 1) ∧ Below w.heap.size w w' := by
  have kc : ∀ m, Calls Tryz.prog 280 #[.slice (some ⟨w.heap.size, 0, none⟩) 3 3, .slice (some ⟨w.heap.size + 1, 0, none⟩) 3 3] (((w.alloc (.cells #[.int .i64 x0, .int .i64 x1, .int .i64 x2, .slice ad n k] 133)).alloc (.cells #[.int .i64 y0, .int .i64 y1, .int .i64 y2, .slice ad' n' k'] 133)).drewN m) fun e w' => e = .returned (.int .i64 0) ∧ w' = (((w.alloc (.cells #[.int .i64 x0, .int .i64 x1, .int .i64 x2, .slice ad n k] 133)).alloc (.cells #[.int .i64 y0, .int .i64 y1, .int .i64 y2, .slice ad' n' k'] 133)).drewN m) := fun n => h2 _ _ _ (by simp [go_sem]) (by simp [go_sem])
  have k1 := fun w => isPrerelease_any (.int .i64 x0) (.int .i64 x1) (.int .i64 x2) ad n k w
  have k2 := fun w => isPrerelease_any (.int .i64 y0) (.int .i64 y1) (.int .i64 y2) ad' n' k' w
  rw [decide_eq_false (by omega : ¬ 0 < n)] at k1
  rw [decide_eq_true hn'] at k2
  clear h2 hn hn'
  go_enter Tryz.func256, Tryz.ntmps256
  go_wp2
  go_quiet ((go_at_call 280; exact Calls.quiet_of_same (kc _)))
  go_wp2
  go_region_with (first | (go_at_call_of 281 x0; refine (k1 _).mono ?_; rintro e w' ⟨rfl, rfl⟩) | (go_at_call_of 281 y0; refine (k2 _).mono ?_; rintro e w' ⟨rfl, rfl⟩))
  all_goals
    go_wp2_with (go_at_call 281; refine (k1 _).mono ?_; rintro e w' ⟨rfl, rfl⟩)
    go_ret
    refine ⟨rfl, ?_⟩
    repeat (first | exact Below.refl _ _ | refine Below.drew ?_ | refine below_drewN' ?_ _ | refine Below.alloc ?_ (by first | (simp; done) | (simp; omega) | omega) _)

/-- A slice of identifiers, as a version holds it. -/
def SlOf (w : World) (v : Value) (ids : List ByteArray) : Prop :=
  (ids = [] ∧ v = .slice none 0 0) ∨ ∃ b c, v = .slice (some ⟨b, 0, none⟩) ids.length c ∧ ids ≠ [] ∧ b < w.heap.size ∧ ∀ j, j < ids.length → w.cell? ⟨b, j, none⟩ = some (.string ids[j]!)

theorem SlOf.below {w w' : World} {v : Value} {ids : List ByteArray} (h : SlOf w v ids) (hb : Below w.heap.size w w') : SlOf w' v ids := by
  rcases h with h | ⟨b, c, h1, h2, h3, h4⟩
  · exact Or.inl h
  · exact Or.inr ⟨b, c, h1, h2, Nat.lt_of_lt_of_le h3 hb.size, fun j hj => by rw [hb.cell (p := ⟨b, j, none⟩) h3]; exact h4 j hj⟩

theorem verCompare_any (p q s p' q' s' : List UInt8) (ids ids' : List ByteArray) (sl sl' : Value) (w : World) (h : SlOf w sl ids) (h' : SlOf w sl' ids') (hl : ids.length ≤ 4) (hl' : ids'.length ≤ 4) (hz : ∀ x ∈ ids, x.size ≤ 8) (hz' : ∀ x ∈ ids', x.size ≤ 8) :
    Calls Tryz.prog 256 #[.agg #[.int .i64 (Pv.val p), .int .i64 (Pv.val q), .int .i64 (Pv.val s), sl], .agg #[.int .i64 (Pv.val p'), .int .i64 (Pv.val q'), .int .i64 (Pv.val s'), sl']] w fun e w' => e = .returned (.int .i64 (Pv.cmpV ([p, q, s], ids.map (·.data.toList)) ([p', q', s'], ids'.map (·.data.toList)))) ∧ Below w.heap.size w w' := by
  have h2 := two_of p q s p' q' s'
  unfold Pv.cmpV
  dsimp only
  by_cases hr : Pv.cmpL Pv.cmpN [p, q, s] [p', q', s'] = 0
  · rw [if_pos hr]
    rw [hr] at h2
    simp only [List.length_map]
    rcases h with ⟨rfl, rfl⟩ | ⟨b, c, rfl, hne, hb, hc⟩
    · rcases h' with ⟨rfl, rfl⟩ | ⟨b', c', rfl, hne', hb', hc'⟩
      · exact verCompare_eq _ _ _ _ _ _ h2 none none 0 0 0 0 w rfl 0 (fun W' _ => (compareNil_any _ W').mono (by rintro e w' ⟨rfl, rfl⟩; exact ⟨rfl, Below.refl _ _⟩))
      · have hpos : 0 < ids'.length := List.length_pos_iff.2 hne'
        rw [if_neg (by simp; omega), if_neg (by simp)]
        exact verCompare_post _ _ _ _ _ _ h2 _ _ 0 0 _ _ w rfl hpos
    · have hpos : 0 < ids.length := List.length_pos_iff.2 hne
      rcases h' with ⟨rfl, rfl⟩ | ⟨b', c', rfl, hne', hb', hc'⟩
      · rw [if_neg (by simp; omega), if_pos hpos]
        exact verCompare_pre _ _ _ _ _ _ h2 _ _ _ _ 0 0 w hpos rfl
      · have hpos' : 0 < ids'.length := List.length_pos_iff.2 hne'
        rw [if_pos (by simp [hpos, hpos'])]
        refine verCompare_eq _ _ _ _ _ _ h2 _ _ _ _ _ _ w (by simp [hpos, hpos']) _ (fun W' hbw => ?_)
        exact compareLists_any ids ids' b b' c c' W' hl hl' (Nat.lt_of_lt_of_le hb hbw.size) (Nat.lt_of_lt_of_le hb' hbw.size) hz hz' (fun j hj => by rw [hbw.cell (p := ⟨b, j, none⟩) hb]; exact hc j hj) (fun j hj => by rw [hbw.cell (p := ⟨b', j, none⟩) hb']; exact hc' j hj)
  · rw [if_neg hr]
    exact verCompare_ne _ _ _ _ _ _ _ h2 (by simpa using hr) sl sl' w

end Go.Proofs.YtiamomiafekihaaGreatDoor.Dr
