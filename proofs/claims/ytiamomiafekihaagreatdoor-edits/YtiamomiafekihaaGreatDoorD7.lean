/-
  With the draws counted.   The walk of the reading of three numbers.
-/
import Derived.Test.YtiamomiafekihaaGreatDoorD4
import Derived.LoopN
namespace Go.Proofs.YtiamomiafekihaaGreatDoor.Dr
open Go.RowKit

/-- The library's variable internal/bytealg.MaxLen holds an int, whichever. -/
def Ml (w : World) : Prop := ∃ m, w.cell? ⟨0, 0, none⟩ = some (.int .i64 m)
theorem Ml.pos {w : World} (h : Ml w) : 0 < w.heap.size := by
  obtain ⟨m, h⟩ := h
  apply Classical.byContradiction
  intro hc
  have : w.heap[0]? = none := Array.getElem?_eq_none (by omega)
  simp [World.cell?, this] at h
theorem Ml.below {w w' : World} (h : Ml w) (hb : Below w.heap.size w w') : Ml w' := by
  have hp := h.pos
  obtain ⟨m, h⟩ := h
  exact ⟨m, by rw [hb.cell (p := ⟨0, 0, none⟩) hp]; exact h⟩

theorem spl_len (c : UInt8) : ∀ (l : List UInt8), ∀ x ∈ Pv.spl c l, x.length ≤ l.length
  | [], x, h => by simp [Pv.spl] at h; simp [h]
  | b :: t, x, h => by
    have ih := spl_len c t
    unfold Pv.spl at h
    split at h
    · rcases List.mem_cons.1 h with rfl | h
      · simp
      · have := ih x h; simp; omega
    · split at h
      · simp at h; simp [h]
      · rename_i p ps e
        rw [e] at ih
        rcases List.mem_cons.1 h with rfl | h
        · have := ih p (by simp); simp; omega
        · have := ih x (by simp [h]); simp; omega

/-- What Split lays, at a dot. -/
theorem split_any (s : ByteArray) (hs : s.size < 4294967281) : ∃ l : List ByteArray, l.map (·.data.toList) = Pv.spl 46 s.data.toList ∧ (∀ x ∈ l, x.size ≤ s.size) ∧
    ∀ w : World, Ml w → Calls Tryz.prog 100 #[.string s, .string ⟨#[46]⟩] w fun e w' => e = .returned (.slice (some ⟨w.heap.size, 0, none⟩) l.length l.length) ∧ w' = w.alloc (.cells (l.map Value.string).toArray 9) := by
  have h1 : 1 ≤ (⟨#[46]⟩ : ByteArray).size := by decide
  refine ⟨Lib.splitB ⟨#[46]⟩ 0 (Lib.countB s ⟨#[46]⟩) s, Pv.splitB_spl s ⟨#[46]⟩ 46 rfl, ?_, ?_⟩
  · intro x hx
    have hm : x.data.toList ∈ Pv.spl 46 s.data.toList := by
      rw [← Pv.splitB_spl s ⟨#[46]⟩ 46 rfl]; exact List.mem_map_of_mem hx
    have := spl_len 46 _ _ hm
    rw [← Lib.size_eq, ← Lib.size_eq] at this
    exact this
  · rintro w ⟨m, hm⟩
    have k := Tryz.strings_Split s ⟨#[46]⟩ m w hs hm h1
    rw [Lib.splitB_all ⟨#[46]⟩ h1 0 _ s rfl]
    exact k

set_option maxHeartbeats 1000000 in
theorem parseNumbers_len (s : ByteArray) (l : List ByteArray) (w : World) (hl : ((l.length : Int) != 3) = true)
    (k : ∀ W : World, Below w.heap.size w W → Calls Tryz.prog 100 #[.string s, .string ⟨#[46]⟩] W fun e w' => e = .returned (.slice (some ⟨W.heap.size, 0, none⟩) l.length l.length) ∧ w' = W.alloc (.cells (l.map Value.string).toArray 9)) :
    Calls Tryz.prog 99 #[.string s] w fun e w' => e = .returned (.tuple #[.agg #[.int .i64 0, .int .i64 0, .int .i64 0], .bool false]) ∧ Below w.heap.size w w' := by
  have k := k ((w.alloc (.cells #[.int .i64 0, .int .i64 0, .int .i64 0] 131)).alloc (.cells #[.int .i64 0, .int .i64 0, .int .i64 0] 131)) (((Below.refl _ _).alloc (Nat.le_refl _) _).alloc (by simp) _)
  go_enter Tryz.func99, Tryz.ntmps99
  go_wp2_with (go_at_call 100; refine k.mono ?_; rintro e w' ⟨rfl, rfl⟩)
  exact bodyPost_ret (v := .tuple #[.agg #[.int .i64 0, .int .i64 0, .int .i64 0], .bool false]) (by simp [results, Tryz.results99, go_sem]) rfl ⟨rfl, (((Below.refl _ _).alloc (Nat.le_refl _) _).alloc (by simp) _).alloc (by simp; omega) _⟩

theorem cells3 {w : World} {b : Nat} {a0 a1 a2 : Value} {t : TypeId} (h : w.heap[b]? = some (.cells #[a0, a1, a2] t)) : (w.cell? ⟨b, 0, none⟩ = some a0 ∧ w.cell? ⟨b, 1, none⟩ = some a1 ∧ w.cell? ⟨b, 2, none⟩ = some a2) ∧ (w.frozen? ⟨b, 0, none⟩ = false ∧ w.frozen? ⟨b, 1, none⟩ = false ∧ w.frozen? ⟨b, 2, none⟩ = false) := by
  simp [World.cell?, World.frozen?, h]

/-- The three blocks of the call: its result, its numbers, the parts. -/
def St (w wr : World) (x0 x1 x2 : ByteArray) (a0 a1 a2 : Int) : Prop :=
  Below w.heap.size w wr ∧ w.heap.size + 2 < wr.heap.size ∧ wr.heap[w.heap.size]? = some (.cells #[.int .i64 0, .int .i64 0, .int .i64 0] 131) ∧ wr.heap[w.heap.size + 1]? = some (.cells #[.int .i64 a0, .int .i64 a1, .int .i64 a2] 131) ∧ wr.heap[w.heap.size + 2]? = some (.cells #[.string x0, .string x1, .string x2] 9)

theorem St.start (w : World) (x0 x1 x2 : ByteArray) : St w (((w.alloc (.cells #[.int .i64 0, .int .i64 0, .int .i64 0] 131)).alloc (.cells #[.int .i64 0, .int .i64 0, .int .i64 0] 131)).alloc (.cells #[.string x0, .string x1, .string x2] 9)) x0 x1 x2 0 0 0 := by
  refine ⟨(((Below.refl _ _).alloc (Nat.le_refl _) _).alloc (by simp) _).alloc (by simp; omega) _, by simp, ?_, ?_, ?_⟩
  all_goals
    show (((w.heap.push _).push _).push _)[_]? = _
    rw [Array.getElem?_push, Array.getElem?_push, Array.getElem?_push]
    simp only [Array.size_push]
  · rw [if_neg (by omega), if_neg (by omega), if_pos trivial]
  · rw [if_neg (by omega), if_pos trivial]
  · rw [if_pos trivial]

theorem St.below {w wr w' : World} {x0 x1 x2 : ByteArray} {a0 a1 a2 : Int} (h : St w wr x0 x1 x2 a0 a1 a2) (hb : Below wr.heap.size wr w') : St w w' x0 x1 x2 a0 a1 a2 := by
  obtain ⟨h1, h2, h3, h4, h5⟩ := h
  have := hb.size
  exact ⟨h1.trans (hb.mono h1.size), by omega, by rw [hb.block _ (by omega)]; exact h3, by rw [hb.block _ (by omega)]; exact h4, by rw [hb.block _ (by omega)]; exact h5⟩

theorem St.set {w wr : World} {x0 x1 x2 : ByteArray} {a0 a1 a2 : Int} (h : St w wr x0 x1 x2 a0 a1 a2) (v : Int) :
    St w (wr.setCell ⟨w.heap.size + 1, 0, none⟩ (.int .i64 v)) x0 x1 x2 v a1 a2 ∧ St w (wr.setCell ⟨w.heap.size + 1, 1, none⟩ (.int .i64 v)) x0 x1 x2 a0 v a2 ∧ St w (wr.setCell ⟨w.heap.size + 1, 2, none⟩ (.int .i64 v)) x0 x1 x2 a0 a1 v := by
  obtain ⟨h1, h2, h3, h4, h5⟩ := h
  refine ⟨?_, ?_, ?_⟩
  all_goals
    refine ⟨h1.setCell (by simp) _, by simpa [World.setCell] using h2, ?_, ?_, ?_⟩
    · rw [Below.heap_setCell _ _ _ _ (by simp)]; exact h3
    · simp [World.setCell, Array.getElem?_modify, h4]
    · rw [Below.heap_setCell _ _ _ _ (by simp)]; exact h5

set_option maxHeartbeats 1000000 in
theorem parseNumbers_ok (s x0 x1 x2 : ByteArray) (v0 v1 v2 : Int) (w : World)
    (k : ∀ W : World, Below w.heap.size w W → Calls Tryz.prog 100 #[.string s, .string ⟨#[46]⟩] W fun e w' => e = .returned (.slice (some ⟨W.heap.size, 0, none⟩) 3 3) ∧ w' = W.alloc (.cells #[.string x0, .string x1, .string x2] 9))
    (h0 : x0.size ≤ 6) (h1 : x1.size ≤ 6) (h2 : x2.size ≤ 6)
    (i0 : ∀ W, Calls Tryz.prog 126 #[.string x0] W fun e w' => e = .returned (.bool true) ∧ w' = W) (i1 : ∀ W, Calls Tryz.prog 126 #[.string x1] W fun e w' => e = .returned (.bool true) ∧ w' = W) (i2 : ∀ W, Calls Tryz.prog 126 #[.string x2] W fun e w' => e = .returned (.bool true) ∧ w' = W)
    (n0 : ∀ W, Calls Tryz.prog 127 #[.string x0] W fun e w' => e = .returned (.int .i64 v0) ∧ Below W.heap.size W w') (n1 : ∀ W, Calls Tryz.prog 127 #[.string x1] W fun e w' => e = .returned (.int .i64 v1) ∧ Below W.heap.size W w') (n2 : ∀ W, Calls Tryz.prog 127 #[.string x2] W fun e w' => e = .returned (.int .i64 v2) ∧ Below W.heap.size W w') :
    Calls Tryz.prog 99 #[.string s] w fun e w' => e = .returned (.tuple #[.agg #[.int .i64 v0, .int .i64 v1, .int .i64 v2], .bool true]) ∧ Below w.heap.size w w' := by
  have k := k ((w.alloc (.cells #[.int .i64 0, .int .i64 0, .int .i64 0] 131)).alloc (.cells #[.int .i64 0, .int .i64 0, .int .i64 0] 131)) (((Below.refl _ _).alloc (Nat.le_refl _) _).alloc (by simp) _)
  go_enter Tryz.func99, Tryz.ntmps99
  go_wp2_with (go_at_call 100; refine k.mono ?_; rintro e w' ⟨rfl, rfl⟩)
  have S0 : Hid (St w _ x0 x1 x2 0 0 0) := St.start w x0 x1 x2
  refine wp_loop_rounds 4 ?_
  rw [rounds_succ]
  go_wp2_with (first | (go_at_call_of 126 x0; refine (i0 _).mono ?_; rintro e w' ⟨rfl, rfl⟩) | (go_at_call_of 127 x0; fail))
  refine (n0 _).mono ?_
  rintro e w1 ⟨rfl, hb1⟩
  have S1 := S0.out.below hb1
  clear hb1 S0
  obtain ⟨⟨p0, p1, p2⟩, ⟨q0, q1, q2⟩⟩ := cells3 S1.2.2.2.1
  obtain ⟨⟨y0, y1, y2⟩, _⟩ := cells3 S1.2.2.2.2
  have S1' : Hid (St w _ x0 x1 x2 v0 0 0) := (S1.set v0).1
  clear S1
  go_wp2
  clear p0 p1 p2 q0 q1 q2
  rw [rounds_succ]
  go_wp2_with (first | (go_at_call_of 126 x1; refine (i1 _).mono ?_; rintro e w' ⟨rfl, rfl⟩) | (go_at_call_of 127 x1; fail))
  refine (n1 _).mono ?_
  rintro e w2 ⟨rfl, hb2⟩
  have S2 := S1'.out.below hb2
  clear hb2 S1' y0 y1 y2
  obtain ⟨⟨p0, p1, p2⟩, ⟨q0, q1, q2⟩⟩ := cells3 S2.2.2.2.1
  obtain ⟨⟨y0, y1, y2⟩, _⟩ := cells3 S2.2.2.2.2
  have S2' : Hid (St w _ x0 x1 x2 v0 v1 0) := (S2.set v1).2.1
  clear S2
  go_wp2
  clear p0 p1 p2 q0 q1 q2
  rw [rounds_succ]
  go_wp2_with (first | (go_at_call_of 126 x2; refine (i2 _).mono ?_; rintro e w' ⟨rfl, rfl⟩) | (go_at_call_of 127 x2; fail))
  refine (n2 _).mono ?_
  rintro e w3 ⟨rfl, hb3⟩
  have S3 := S2'.out.below hb3
  clear hb3 S2' y0 y1 y2
  obtain ⟨⟨p0, p1, p2⟩, ⟨q0, q1, q2⟩⟩ := cells3 S3.2.2.2.1
  obtain ⟨⟨z0, z1, z2⟩, ⟨f0, f1, f2⟩⟩ := cells3 S3.2.2.1
  have S3' : Hid (St w _ x0 x1 x2 v0 v1 v2) := (S3.set v2).2.2
  clear S3
  go_wp2
  rw [rounds_succ]
  go_wp2
  exact bodyPost_ret (v := .tuple #[.agg #[.int .i64 v0, .int .i64 v1, .int .i64 v2], .bool true]) (by simp [results, Tryz.results99, go_sem, z0, z1, z2]) rfl ⟨rfl, ((S3'.out.1.setCell (Nat.le_refl _) _).setCell (Nat.le_refl _) _).setCell (Nat.le_refl _) _⟩

end Go.Proofs.YtiamomiafekihaaGreatDoor.Dr
