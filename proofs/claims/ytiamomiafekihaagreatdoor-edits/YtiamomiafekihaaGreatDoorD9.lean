/-
  With the draws counted.   The reading of three numbers, all cases together; and the walk of the reading of a version.
-/
import Derived.Test.YtiamomiafekihaaGreatDoorD6
import Derived.Test.YtiamomiafekihaaGreatDoorD8
namespace Go.Proofs.YtiamomiafekihaaGreatDoor.Dr
open Go.RowKit

theorem okNum_cases (x : ByteArray) (h : Pv.okNum x.data.toList = false) : (6 : Int) < (x.size : Int) ∨ ((x.size : Int) ≤ 6 ∧ Pv.isNum x.data.toList = false) := by
  unfold Pv.okNum at h
  rw [← Lib.size_eq] at h
  by_cases h6 : x.size ≤ 6
  · right
    rw [decide_eq_true h6] at h
    exact ⟨by omega, by simpa using h⟩
  · left; omega
theorem okNum_yes (x : ByteArray) (h : Pv.okNum x.data.toList = true) : x.size ≤ 6 ∧ Pv.isNum x.data.toList = true := by
  unfold Pv.okNum at h
  rw [← Lib.size_eq] at h
  simpa using h

theorem parseNumbers_none (s : ByteArray) (w : World) (hm : Ml w) (hs : s.size ≤ 40) (h : Pv.parseN s.data.toList = none) :
    Calls Tryz.prog 99 #[.string s] w fun e w' => e = .returned (.tuple #[.agg #[.int .i64 0, .int .i64 0, .int .i64 0], .bool false]) ∧ Below w.heap.size w w' := by
  obtain ⟨l, hl, hz, k⟩ := split_any s (by omega)
  have k : ∀ W : World, Below w.heap.size w W → Calls Tryz.prog 100 #[.string s, .string ⟨#[46]⟩] W fun e w' => e = .returned (.slice (some ⟨W.heap.size, 0, none⟩) l.length l.length) ∧ w' = W.alloc (.cells (l.map Value.string).toArray 9) := fun W hb => k W (hm.below hb)
  by_cases h3 : l.length = 3
  · match l, h3 with
    | [x0, x1, x2], _ =>
      have isn : ∀ x ∈ [x0, x1, x2], ∀ W, Calls Tryz.prog 126 #[.string x] W fun e w' => e = .returned (.bool (Pv.isNum x.data.toList)) ∧ w' = W := fun x hx W => isNumber_any x W (by have := hz x hx; unfold maxLen; omega)
      have j0 := isn x0 (by simp)
      have j1 := isn x1 (by simp)
      have j2 := isn x2 (by simp)
      cases h0 : Pv.okNum x0.data.toList with
      | false =>
        rcases okNum_cases x0 h0 with hh | ⟨hh, hn⟩
        · exact parseNumbers_no0len s x0 x1 x2 w k hh
        · rw [hn] at j0
          exact parseNumbers_no0num s x0 x1 x2 w k hh j0
      | true =>
        obtain ⟨a0, b0⟩ := okNum_yes x0 h0
        have n0 := fun W => numberOf_any x0 W b0 (by omega)
        rw [b0] at j0
        cases h1 : Pv.okNum x1.data.toList with
        | false =>
          rcases okNum_cases x1 h1 with hh | ⟨hh, hn⟩
          · exact parseNumbers_no1len s x0 x1 x2 _ w k a0 j0 n0 hh
          · rw [hn] at j1
            exact parseNumbers_no1num s x0 x1 x2 _ w k a0 j0 n0 hh j1
        | true =>
          obtain ⟨a1, b1⟩ := okNum_yes x1 h1
          have n1 := fun W => numberOf_any x1 W b1 (by omega)
          rw [b1] at j1
          cases h2 : Pv.okNum x2.data.toList with
          | false =>
            rcases okNum_cases x2 h2 with hh | ⟨hh, hn⟩
            · exact parseNumbers_no2len s x0 x1 x2 _ _ w k a0 j0 n0 a1 j1 n1 hh
            · rw [hn] at j2
              exact parseNumbers_no2num s x0 x1 x2 _ _ w k a0 j0 n0 a1 j1 n1 hh j2
          | true =>
            exfalso
            unfold Pv.parseN at h
            rw [← hl] at h
            simp [h0, h1, h2] at h
  · exact parseNumbers_len s l w (by simp; omega) k

theorem parseNumbers_some (s : ByteArray) (w : World) (hm : Ml w) (hs : s.size ≤ 40) (p q r : List UInt8) (h : Pv.parseN s.data.toList = some [p, q, r]) :
    Calls Tryz.prog 99 #[.string s] w fun e w' => e = .returned (.tuple #[.agg #[.int .i64 (Pv.val p), .int .i64 (Pv.val q), .int .i64 (Pv.val r)], .bool true]) ∧ Below w.heap.size w w' := by
  obtain ⟨l, hl, hz, k⟩ := split_any s (by omega)
  have k : ∀ W : World, Below w.heap.size w W → Calls Tryz.prog 100 #[.string s, .string ⟨#[46]⟩] W fun e w' => e = .returned (.slice (some ⟨W.heap.size, 0, none⟩) l.length l.length) ∧ w' = W.alloc (.cells (l.map Value.string).toArray 9) := fun W hb => k W (hm.below hb)
  unfold Pv.parseN at h
  rw [← hl] at h
  split at h
  · rename_i hc
    simp only [Option.some.injEq] at h
    match l, h, hc, k with
    | [x0, x1, x2], h, hc, k =>
      simp only [List.map_cons, List.map_nil, List.cons.injEq, and_true] at h
      obtain ⟨rfl, rfl, rfl⟩ := h
      simp only [List.map_cons, List.map_nil, List.all_cons, List.all_nil, Bool.and_true, Bool.and_eq_true] at hc
      obtain ⟨_, h0, h1, h2⟩ := hc
      obtain ⟨a0, b0⟩ := okNum_yes x0 h0
      obtain ⟨a1, b1⟩ := okNum_yes x1 h1
      obtain ⟨a2, b2⟩ := okNum_yes x2 h2
      have j0 := fun W => isNumber_any x0 W (by unfold maxLen; omega)
      have j1 := fun W => isNumber_any x1 W (by unfold maxLen; omega)
      have j2 := fun W => isNumber_any x2 W (by unfold maxLen; omega)
      rw [b0] at j0
      rw [b1] at j1
      rw [b2] at j2
      exact parseNumbers_ok s x0 x1 x2 _ _ _ w k a0 a1 a2 j0 j1 j2 (fun W => numberOf_any x0 W b0 (by omega)) (fun W => numberOf_any x1 W b1 (by omega)) (fun W => numberOf_any x2 W b2 (by omega))
  · simp at h

end Go.Proofs.YtiamomiafekihaaGreatDoor.Dr
