/-
  With the draws counted.   The walk of the reading of a version, way by way.
-/
import Derived.Test.YtiamomiafekihaaGreatDoorD6
import Derived.Test.YtiamomiafekihaaGreatDoorD7
namespace Go.Proofs.YtiamomiafekihaaGreatDoor.Dr
open Go.RowKit

theorem cells4 {w : World} {b : Nat} {a0 a1 a2 a3 : Value} {t : TypeId} (h : w.heap[b]? = some (.cells #[a0, a1, a2, a3] t)) : (w.cell? ⟨b, 0, none⟩ = some a0 ∧ w.cell? ⟨b, 1, none⟩ = some a1 ∧ w.cell? ⟨b, 2, none⟩ = some a2 ∧ w.cell? ⟨b, 3, none⟩ = some a3) ∧ (w.frozen? ⟨b, 0, none⟩ = false ∧ w.frozen? ⟨b, 1, none⟩ = false ∧ w.frozen? ⟨b, 2, none⟩ = false ∧ w.frozen? ⟨b, 3, none⟩ = false) := by
  simp [World.cell?, World.frozen?, h]

set_option maxHeartbeats 1000000 in
theorem parseVersion_a1 (s rest : ByteArray) (w : World)
    (k1 : ∀ W, Calls Tryz.prog 97 #[.string s, .string ⟨#[118]⟩] W fun e w' => e = .returned (.tuple #[.string rest, .bool false]) ∧ w' = W) :
    Calls Tryz.prog 71 #[.string s] w fun e w' => e = .returned (.tuple #[.agg #[.int .i64 0, .int .i64 0, .int .i64 0, .slice none 0 0], .bool false]) ∧ Below w.heap.size w w' := by
  go_enter Tryz.func71, Tryz.ntmps71
  go_wp2_with (go_at_call 97; refine (k1 _).mono ?_; rintro e w' ⟨rfl, rfl⟩)
  exact bodyPost_ret (v := .tuple #[.agg #[.int .i64 0, .int .i64 0, .int .i64 0, .slice none 0 0], .bool false]) (by simp [results, Tryz.results71, go_sem]) rfl ⟨rfl, (Below.refl _ _).alloc (Nat.le_refl _) _⟩

set_option maxHeartbeats 1000000 in
theorem parseVersion_a2 (s rest : ByteArray) (w : World) (hl : (40 : Int) < (s.size : Int))
    (k1 : ∀ W, Calls Tryz.prog 97 #[.string s, .string ⟨#[118]⟩] W fun e w' => e = .returned (.tuple #[.string rest, .bool true]) ∧ w' = W) :
    Calls Tryz.prog 71 #[.string s] w fun e w' => e = .returned (.tuple #[.agg #[.int .i64 0, .int .i64 0, .int .i64 0, .slice none 0 0], .bool false]) ∧ Below w.heap.size w w' := by
  go_enter Tryz.func71, Tryz.ntmps71
  go_wp2_with (go_at_call 97; refine (k1 _).mono ?_; rintro e w' ⟨rfl, rfl⟩)
  exact bodyPost_ret (v := .tuple #[.agg #[.int .i64 0, .int .i64 0, .int .i64 0, .slice none 0 0], .bool false]) (by simp [results, Tryz.results71, go_sem]) rfl ⟨rfl, (Below.refl _ _).alloc (Nat.le_refl _) _⟩

theorem first_block (w : World) (n : Nat) (w1 : World) (hb : Below ((w.alloc (.cells #[.int .i64 0, .int .i64 0, .int .i64 0, .slice none 0 0] 133)).drewN n).heap.size ((w.alloc (.cells #[.int .i64 0, .int .i64 0, .int .i64 0, .slice none 0 0] 133)).drewN n) w1) :
    w1.heap[w.heap.size]? = some (.cells #[.int .i64 0, .int .i64 0, .int .i64 0, .slice none 0 0] 133) ∧ Below w.heap.size w w1 ∧ w.heap.size < w1.heap.size := by
  have hs : ((w.alloc (.cells #[.int .i64 0, .int .i64 0, .int .i64 0, .slice none 0 0] 133)).drewN n).heap.size = w.heap.size + 1 := by show (w.heap.push _).size = _; simp
  have hz := hb.size
  rw [hs] at hb hz
  refine ⟨?_, ?_, by omega⟩
  · rw [hb.block _ (by omega)]
    show (w.heap.push _)[w.heap.size]? = _
    rw [Array.getElem?_push, if_pos rfl]
  · exact (((Below.refl _ _).alloc (Nat.le_refl _) _).trans (below_drewN' (Below.refl _ _) n)).trans (hb.mono (by omega))

set_option maxHeartbeats 1000000 in
theorem parseVersion_a3 (s rest front back : ByteArray) (pre : Bool) (w : World) (hl : (s.size : Int) ≤ 40)
    (k1 : ∀ W, Calls Tryz.prog 97 #[.string s, .string ⟨#[118]⟩] W fun e w' => e = .returned (.tuple #[.string rest, .bool true]) ∧ w' = W)
    (k2 : ∀ W, Below w.heap.size w W → Calls Tryz.prog 98 #[.string rest, .string ⟨#[45]⟩] W fun e w' => e = .returned (.tuple #[.string front, .string back, .bool pre]) ∧ ∃ n, w' = W.drewN n)
    (k3 : ∀ W, Below w.heap.size w W → Calls Tryz.prog 99 #[.string front] W fun e w' => e = .returned (.tuple #[.agg #[.int .i64 0, .int .i64 0, .int .i64 0], .bool false]) ∧ Below W.heap.size W w') :
    Calls Tryz.prog 71 #[.string s] w fun e w' => e = .returned (.tuple #[.agg #[.int .i64 0, .int .i64 0, .int .i64 0, .slice none 0 0], .bool false]) ∧ Below w.heap.size w w' := by
  have k2 := k2 (w.alloc (.cells #[.int .i64 0, .int .i64 0, .int .i64 0, .slice none 0 0] 133)) ((Below.refl _ _).alloc (Nat.le_refl _) _)
  have k3 := fun n => k3 ((w.alloc (.cells #[.int .i64 0, .int .i64 0, .int .i64 0, .slice none 0 0] 133)).drewN n) (below_drewN' ((Below.refl _ _).alloc (Nat.le_refl _) _) n)
  go_enter Tryz.func71, Tryz.ntmps71
  go_wp2_with (first | (go_at_call 97; refine (k1 _).mono ?_; rintro e w' ⟨rfl, rfl⟩) | (go_at_call 98; refine k2.mono ?_; rintro e w' ⟨rfl, n, rfl⟩) | (go_at_call 99; fail))
  refine (k3 _).mono ?_
  rintro e w1 ⟨rfl, hb⟩
  obtain ⟨hblk, hb1, hz1⟩ := first_block w _ w1 hb
  clear hb
  obtain ⟨⟨z0, z1, z2, z3⟩, ⟨f0, f1, f2, f3⟩⟩ := cells4 hblk
  clear hblk
  go_wp2
  exact bodyPost_ret (v := .tuple #[.agg #[.int .i64 0, .int .i64 0, .int .i64 0, .slice none 0 0], .bool false]) (by simp [results, Tryz.results71, go_sem, z0, z1, z2, z3, hz1]) rfl ⟨rfl, ((((hb1.setCell (Nat.le_refl _) _).setCell (Nat.le_refl _) _).setCell (Nat.le_refl _) _).setCell (Nat.le_refl _) _).alloc (by simp [World.setCell]; omega) _⟩

set_option maxHeartbeats 1000000 in
theorem parseVersion_a4 (s rest front back : ByteArray) (a b c : Int) (w : World) (hl : (s.size : Int) ≤ 40)
    (k1 : ∀ W, Calls Tryz.prog 97 #[.string s, .string ⟨#[118]⟩] W fun e w' => e = .returned (.tuple #[.string rest, .bool true]) ∧ w' = W)
    (k2 : ∀ W, Below w.heap.size w W → Calls Tryz.prog 98 #[.string rest, .string ⟨#[45]⟩] W fun e w' => e = .returned (.tuple #[.string front, .string back, .bool false]) ∧ ∃ n, w' = W.drewN n)
    (k3 : ∀ W, Below w.heap.size w W → Calls Tryz.prog 99 #[.string front] W fun e w' => e = .returned (.tuple #[.agg #[.int .i64 a, .int .i64 b, .int .i64 c], .bool true]) ∧ Below W.heap.size W w') :
    Calls Tryz.prog 71 #[.string s] w fun e w' => e = .returned (.tuple #[.agg #[.int .i64 a, .int .i64 b, .int .i64 c, .slice none 0 0], .bool true]) ∧ Below w.heap.size w w' := by
  have k2 := k2 (w.alloc (.cells #[.int .i64 0, .int .i64 0, .int .i64 0, .slice none 0 0] 133)) ((Below.refl _ _).alloc (Nat.le_refl _) _)
  have k3 := fun n => k3 ((w.alloc (.cells #[.int .i64 0, .int .i64 0, .int .i64 0, .slice none 0 0] 133)).drewN n) (below_drewN' ((Below.refl _ _).alloc (Nat.le_refl _) _) n)
  go_enter Tryz.func71, Tryz.ntmps71
  go_wp2_with (first | (go_at_call 97; refine (k1 _).mono ?_; rintro e w' ⟨rfl, rfl⟩) | (go_at_call 98; refine k2.mono ?_; rintro e w' ⟨rfl, n, rfl⟩) | (go_at_call 99; fail))
  refine (k3 _).mono ?_
  rintro e w1 ⟨rfl, hb⟩
  obtain ⟨hblk, hb1, hz1⟩ := first_block w _ w1 hb
  clear hb
  obtain ⟨⟨z0, z1, z2, z3⟩, ⟨f0, f1, f2, f3⟩⟩ := cells4 hblk
  clear hblk
  go_wp2
  exact bodyPost_ret (v := .tuple #[.agg #[.int .i64 a, .int .i64 b, .int .i64 c, .slice none 0 0], .bool true]) (by simp [results, Tryz.results71, go_sem, z0, z1, z2, z3, hz1]) rfl ⟨rfl, ((((hb1.setCell (Nat.le_refl _) _).setCell (Nat.le_refl _) _).setCell (Nat.le_refl _) _).setCell (Nat.le_refl _) _).alloc (by simp [World.setCell]; omega) _⟩

theorem cells_new (w1 : World) (o : Obj) (l : List ByteArray) (j : Nat) (hj : j < l.length) : ((w1.alloc o).alloc (.cells (l.map Value.string).toArray 9)).cell? ⟨w1.heap.size + 1, j, none⟩ = some (.string l[j]!) := by
  have hb : ((w1.alloc o).alloc (.cells (l.map Value.string).toArray 9)).heap[w1.heap.size + 1]? = some (.cells (l.map Value.string).toArray 9) := by
    show ((w1.heap.push o).push _)[w1.heap.size + 1]? = _
    rw [Array.getElem?_push, if_pos (by simp)]
  rw [World.cell?]
  dsimp only
  rw [hb]
  simp [hj]

set_option maxHeartbeats 1000000 in
theorem parseVersion_a5 (s rest front back : ByteArray) (l : List ByteArray) (a b c : Int) (w : World) (hl : (s.size : Int) ≤ 40) (h4 : (4 : Int) < (l.length : Int))
    (k1 : ∀ W, Calls Tryz.prog 97 #[.string s, .string ⟨#[118]⟩] W fun e w' => e = .returned (.tuple #[.string rest, .bool true]) ∧ w' = W)
    (k2 : ∀ W, Below w.heap.size w W → Calls Tryz.prog 98 #[.string rest, .string ⟨#[45]⟩] W fun e w' => e = .returned (.tuple #[.string front, .string back, .bool true]) ∧ ∃ n, w' = W.drewN n)
    (k3 : ∀ W, Below w.heap.size w W → Calls Tryz.prog 99 #[.string front] W fun e w' => e = .returned (.tuple #[.agg #[.int .i64 a, .int .i64 b, .int .i64 c], .bool true]) ∧ Below W.heap.size W w')
    (k4 : ∀ W, Below w.heap.size w W → Calls Tryz.prog 100 #[.string back, .string ⟨#[46]⟩] W fun e w' => e = .returned (.slice (some ⟨W.heap.size, 0, none⟩) l.length l.length) ∧ w' = W.alloc (.cells (l.map Value.string).toArray 9)) :
    Calls Tryz.prog 71 #[.string s] w fun e w' => e = .returned (.tuple #[.agg #[.int .i64 0, .int .i64 0, .int .i64 0, .slice none 0 0], .bool false]) ∧ Below w.heap.size w w' := by
  have k2 := k2 (w.alloc (.cells #[.int .i64 0, .int .i64 0, .int .i64 0, .slice none 0 0] 133)) ((Below.refl _ _).alloc (Nat.le_refl _) _)
  have k3 := fun n => k3 ((w.alloc (.cells #[.int .i64 0, .int .i64 0, .int .i64 0, .slice none 0 0] 133)).drewN n) (below_drewN' ((Below.refl _ _).alloc (Nat.le_refl _) _) n)
  go_enter Tryz.func71, Tryz.ntmps71
  go_wp2_with (first | (go_at_call 97; refine (k1 _).mono ?_; rintro e w' ⟨rfl, rfl⟩) | (go_at_call 98; refine k2.mono ?_; rintro e w' ⟨rfl, n, rfl⟩) | (go_at_call 99; fail))
  refine (k3 _).mono ?_
  rintro e w1 ⟨rfl, hb⟩
  obtain ⟨hblk, hb1, hz1⟩ := first_block w _ w1 hb
  clear hb
  obtain ⟨⟨z0, z1, z2, z3⟩, ⟨f0, f1, f2, f3⟩⟩ := cells4 hblk
  clear hblk
  have k4 := k4 (w1.alloc (.cells #[.int .i64 a, .int .i64 b, .int .i64 c] 131)) (hb1.alloc (by omega) _)
  go_wp2_with (go_at_call 100; refine k4.mono ?_; rintro e w' ⟨rfl, rfl⟩)
  exact bodyPost_ret (v := .tuple #[.agg #[.int .i64 0, .int .i64 0, .int .i64 0, .slice none 0 0], .bool false]) (by simp [results, Tryz.results71, go_sem, z0, z1, z2, z3, hz1]) rfl ⟨rfl, (((((hb1.setCell (Nat.le_refl _) _).setCell (Nat.le_refl _) _).setCell (Nat.le_refl _) _).setCell (Nat.le_refl _) _).alloc (by simp [World.setCell]; omega) _).alloc (by simp [World.setCell]; omega) _⟩

theorem old_cell (w1 : World) (o o2 : Obj) (q b i : Nat) (hb : b < w1.heap.size) : (((w1.alloc o).alloc o2).drewN q).cell? ⟨b, i, none⟩ = w1.cell? ⟨b, i, none⟩ :=
  (below_drewN' (((Below.refl w1.heap.size w1).alloc (Nat.le_refl _) o).alloc (by simp) o2) q).cell (p := ⟨b, i, none⟩) hb

set_option maxHeartbeats 1000000 in
theorem parseVersion_a6 (s rest front back : ByteArray) (l : List ByteArray) (a b c : Int) (w : World) (hl : (s.size : Int) ≤ 40) (h4 : (l.length : Int) ≤ 4)
    (k1 : ∀ W, Calls Tryz.prog 97 #[.string s, .string ⟨#[118]⟩] W fun e w' => e = .returned (.tuple #[.string rest, .bool true]) ∧ w' = W)
    (k2 : ∀ W, Below w.heap.size w W → Calls Tryz.prog 98 #[.string rest, .string ⟨#[45]⟩] W fun e w' => e = .returned (.tuple #[.string front, .string back, .bool true]) ∧ ∃ n, w' = W.drewN n)
    (k3 : ∀ W, Below w.heap.size w W → Calls Tryz.prog 99 #[.string front] W fun e w' => e = .returned (.tuple #[.agg #[.int .i64 a, .int .i64 b, .int .i64 c], .bool true]) ∧ Below W.heap.size W w')
    (k4 : ∀ W, Below w.heap.size w W → Calls Tryz.prog 100 #[.string back, .string ⟨#[46]⟩] W fun e w' => e = .returned (.slice (some ⟨W.heap.size, 0, none⟩) l.length l.length) ∧ w' = W.alloc (.cells (l.map Value.string).toArray 9))
    (k5 : ∀ W b, (∀ j, j < l.length → W.cell? ⟨b, j, none⟩ = some (.string l[j]!)) → Calls Tryz.prog 76 #[.slice (some ⟨b, 0, none⟩) l.length l.length, .func (.func 101) #[] #[]] W fun e w' => e = .returned (.bool true) ∧ ∃ q, w' = W.drewN q) :
    Calls Tryz.prog 71 #[.string s] w fun e w' => e = .returned (.tuple #[.agg #[.int .i64 0, .int .i64 0, .int .i64 0, .slice none 0 0], .bool false]) ∧ Below w.heap.size w w' := by
  have k2 := k2 (w.alloc (.cells #[.int .i64 0, .int .i64 0, .int .i64 0, .slice none 0 0] 133)) ((Below.refl _ _).alloc (Nat.le_refl _) _)
  have k3 := fun n => k3 ((w.alloc (.cells #[.int .i64 0, .int .i64 0, .int .i64 0, .slice none 0 0] 133)).drewN n) (below_drewN' ((Below.refl _ _).alloc (Nat.le_refl _) _) n)
  go_enter Tryz.func71, Tryz.ntmps71
  go_wp2_with (first | (go_at_call 97; refine (k1 _).mono ?_; rintro e w' ⟨rfl, rfl⟩) | (go_at_call 98; refine k2.mono ?_; rintro e w' ⟨rfl, n, rfl⟩) | (go_at_call 99; fail))
  refine (k3 _).mono ?_
  rintro e w1 ⟨rfl, hb⟩
  obtain ⟨hblk, hb1, hz1⟩ := first_block w _ w1 hb
  clear hb
  obtain ⟨⟨z0, z1, z2, z3⟩, ⟨f0, f1, f2, f3⟩⟩ := cells4 hblk
  clear hblk
  have k4 := k4 (w1.alloc (.cells #[.int .i64 a, .int .i64 b, .int .i64 c] 131)) (hb1.alloc (by omega) _)
  have k5 := k5 ((w1.alloc (.cells #[.int .i64 a, .int .i64 b, .int .i64 c] 131)).alloc (.cells (l.map Value.string).toArray 9)) (w1.heap.size + 1) (fun j hj => cells_new w1 _ l j hj)
  go_wp2_with (first | (go_at_call 100; refine k4.mono ?_; rintro e w' ⟨rfl, rfl⟩) | (go_at_call 76; refine k5.mono ?_; rintro e w' ⟨rfl, q, rfl⟩))
  have y0 := (old_cell w1 (.cells #[.int .i64 a, .int .i64 b, .int .i64 c] 131) (.cells (l.map Value.string).toArray 9) q w.heap.size 0 hz1).trans z0
  have y1 := (old_cell w1 (.cells #[.int .i64 a, .int .i64 b, .int .i64 c] 131) (.cells (l.map Value.string).toArray 9) q w.heap.size 1 hz1).trans z1
  have y2 := (old_cell w1 (.cells #[.int .i64 a, .int .i64 b, .int .i64 c] 131) (.cells (l.map Value.string).toArray 9) q w.heap.size 2 hz1).trans z2
  have y3 := (old_cell w1 (.cells #[.int .i64 a, .int .i64 b, .int .i64 c] 131) (.cells (l.map Value.string).toArray 9) q w.heap.size 3 hz1).trans z3
  have HB := below_drewN' ((hb1.alloc (by omega) (.cells #[.int .i64 a, .int .i64 b, .int .i64 c] 131)).alloc (by simp; omega) (.cells (l.map Value.string).toArray 9)) q
  generalize (((w1.alloc (.cells #[.int .i64 a, .int .i64 b, .int .i64 c] 131)).alloc (.cells (l.map Value.string).toArray 9)).drewN q) = Y at y0 y1 y2 y3 HB ⊢
  exact bodyPost_ret (v := .tuple #[.agg #[.int .i64 0, .int .i64 0, .int .i64 0, .slice none 0 0], .bool false]) (by simp [results, Tryz.results71, go_sem, y0, y1, y2, y3]) rfl ⟨rfl, (((HB.setCell (Nat.le_refl _) _).setCell (Nat.le_refl _) _).setCell (Nat.le_refl _) _).setCell (Nat.le_refl _) _⟩

theorem slOf_end (w w1 : World) (o : Obj) (l : List ByteArray) (hne : l ≠ []) (q : Nat) (hz : w.heap.size < w1.heap.size) (v0 v1 v2 v3 : Value) :
    SlOf (((((((w1.alloc o).alloc (.cells (l.map Value.string).toArray 9)).drewN q).setCell ⟨w.heap.size, 0, none⟩ v0).setCell ⟨w.heap.size, 1, none⟩ v1).setCell ⟨w.heap.size, 2, none⟩ v2).setCell ⟨w.heap.size, 3, none⟩ v3) (.slice (some ⟨w1.heap.size + 1, 0, none⟩) l.length l.length) l := by
  refine Or.inr ⟨_, _, rfl, hne, ?_, fun j hj => ?_⟩
  · simp [World.setCell]
  · rw [← cells_new w1 o l j hj]
    apply World.cell?_of_block
    have hd : w1.heap.size + 1 ≠ w.heap.size := by omega
    show (World.setCell _ _ _).heap[w1.heap.size + 1]? = _
    rw [Below.heap_setCell _ _ _ _ hd, Below.heap_setCell _ _ _ _ hd, Below.heap_setCell _ _ _ _ hd, Below.heap_setCell _ _ _ _ hd]
    rfl

set_option maxHeartbeats 1000000 in
theorem parseVersion_a7 (s rest front back : ByteArray) (l : List ByteArray) (a b c : Int) (w : World) (hl : (s.size : Int) ≤ 40) (h4 : (l.length : Int) ≤ 4) (hne : l ≠ [])
    (k1 : ∀ W, Calls Tryz.prog 97 #[.string s, .string ⟨#[118]⟩] W fun e w' => e = .returned (.tuple #[.string rest, .bool true]) ∧ w' = W)
    (k2 : ∀ W, Below w.heap.size w W → Calls Tryz.prog 98 #[.string rest, .string ⟨#[45]⟩] W fun e w' => e = .returned (.tuple #[.string front, .string back, .bool true]) ∧ ∃ n, w' = W.drewN n)
    (k3 : ∀ W, Below w.heap.size w W → Calls Tryz.prog 99 #[.string front] W fun e w' => e = .returned (.tuple #[.agg #[.int .i64 a, .int .i64 b, .int .i64 c], .bool true]) ∧ Below W.heap.size W w')
    (k4 : ∀ W, Below w.heap.size w W → Calls Tryz.prog 100 #[.string back, .string ⟨#[46]⟩] W fun e w' => e = .returned (.slice (some ⟨W.heap.size, 0, none⟩) l.length l.length) ∧ w' = W.alloc (.cells (l.map Value.string).toArray 9))
    (k5 : ∀ W b, (∀ j, j < l.length → W.cell? ⟨b, j, none⟩ = some (.string l[j]!)) → Calls Tryz.prog 76 #[.slice (some ⟨b, 0, none⟩) l.length l.length, .func (.func 101) #[] #[]] W fun e w' => e = .returned (.bool false) ∧ ∃ q, w' = W.drewN q) :
    Calls Tryz.prog 71 #[.string s] w fun e w' => ∃ sl, e = .returned (.tuple #[.agg #[.int .i64 a, .int .i64 b, .int .i64 c, sl], .bool true]) ∧ Below w.heap.size w w' ∧ SlOf w' sl l := by
  have HN : Hid (l ≠ []) := hne
  clear hne
  have k2 := k2 (w.alloc (.cells #[.int .i64 0, .int .i64 0, .int .i64 0, .slice none 0 0] 133)) ((Below.refl _ _).alloc (Nat.le_refl _) _)
  have k3 := fun n => k3 ((w.alloc (.cells #[.int .i64 0, .int .i64 0, .int .i64 0, .slice none 0 0] 133)).drewN n) (below_drewN' ((Below.refl _ _).alloc (Nat.le_refl _) _) n)
  go_enter Tryz.func71, Tryz.ntmps71
  go_wp2_with (first | (go_at_call 97; refine (k1 _).mono ?_; rintro e w' ⟨rfl, rfl⟩) | (go_at_call 98; refine k2.mono ?_; rintro e w' ⟨rfl, n, rfl⟩) | (go_at_call 99; fail))
  refine (k3 _).mono ?_
  rintro e w1 ⟨rfl, hb⟩
  obtain ⟨hblk, hb1, hz1⟩ := first_block w _ w1 hb
  clear hb
  obtain ⟨⟨z0, z1, z2, z3⟩, ⟨f0, f1, f2, f3⟩⟩ := cells4 hblk
  clear hblk
  have k4 := k4 (w1.alloc (.cells #[.int .i64 a, .int .i64 b, .int .i64 c] 131)) (hb1.alloc (by omega) _)
  have k5 := k5 ((w1.alloc (.cells #[.int .i64 a, .int .i64 b, .int .i64 c] 131)).alloc (.cells (l.map Value.string).toArray 9)) (w1.heap.size + 1) (fun j hj => cells_new w1 _ l j hj)
  go_wp2_with (first | (go_at_call 100; refine k4.mono ?_; rintro e w' ⟨rfl, rfl⟩) | (go_at_call 76; refine k5.mono ?_; rintro e w' ⟨rfl, q, rfl⟩))
  have y0 := (old_cell w1 (.cells #[.int .i64 a, .int .i64 b, .int .i64 c] 131) (.cells (l.map Value.string).toArray 9) q w.heap.size 0 hz1).trans z0
  have y1 := (old_cell w1 (.cells #[.int .i64 a, .int .i64 b, .int .i64 c] 131) (.cells (l.map Value.string).toArray 9) q w.heap.size 1 hz1).trans z1
  have y2 := (old_cell w1 (.cells #[.int .i64 a, .int .i64 b, .int .i64 c] 131) (.cells (l.map Value.string).toArray 9) q w.heap.size 2 hz1).trans z2
  have y3 := (old_cell w1 (.cells #[.int .i64 a, .int .i64 b, .int .i64 c] 131) (.cells (l.map Value.string).toArray 9) q w.heap.size 3 hz1).trans z3
  have HB := below_drewN' ((hb1.alloc (by omega) (.cells #[.int .i64 a, .int .i64 b, .int .i64 c] 131)).alloc (by simp; omega) (.cells (l.map Value.string).toArray 9)) q
  have HS := slOf_end w w1 (.cells #[.int .i64 a, .int .i64 b, .int .i64 c] 131) l HN.out q hz1 (.int .i64 a) (.int .i64 b) (.int .i64 c) (.slice (some ⟨w1.heap.size + 1, 0, none⟩) l.length l.length)
  generalize (((w1.alloc (.cells #[.int .i64 a, .int .i64 b, .int .i64 c] 131)).alloc (.cells (l.map Value.string).toArray 9)).drewN q) = Y at y0 y1 y2 y3 HB HS ⊢
  exact bodyPost_ret (v := .tuple #[.agg #[.int .i64 a, .int .i64 b, .int .i64 c, .slice (some ⟨w1.heap.size + 1, 0, none⟩) l.length l.length], .bool true]) (by simp [results, Tryz.results71, go_sem, y0, y1, y2, y3]) rfl ⟨_, rfl, (((HB.setCell (Nat.le_refl _) _).setCell (Nat.le_refl _) _).setCell (Nat.le_refl _) _).setCell (Nat.le_refl _) _, HS⟩

end Go.Proofs.YtiamomiafekihaaGreatDoor.Dr
