/-
  With the draws counted.   The walk of the reading of three numbers: where one is none.
-/
import Derived.Test.YtiamomiafekihaaGreatDoorD7
namespace Go.Proofs.YtiamomiafekihaaGreatDoor.Dr
open Go.RowKit

set_option maxHeartbeats 1000000 in
theorem parseNumbers_no0len (s x0 x1 x2 : ByteArray) (w : World)
    (k : ∀ W : World, Below w.heap.size w W → Calls Tryz.prog 100 #[.string s, .string ⟨#[46]⟩] W fun e w' => e = .returned (.slice (some ⟨W.heap.size, 0, none⟩) 3 3) ∧ w' = W.alloc (.cells #[.string x0, .string x1, .string x2] 9))
    (h0 : (6 : Int) < (x0.size : Int)) :
    Calls Tryz.prog 99 #[.string s] w fun e w' => e = .returned (.tuple #[.agg #[.int .i64 0, .int .i64 0, .int .i64 0], .bool false]) ∧ Below w.heap.size w w' := by
  have k := k ((w.alloc (.cells #[.int .i64 0, .int .i64 0, .int .i64 0] 131)).alloc (.cells #[.int .i64 0, .int .i64 0, .int .i64 0] 131)) (((Below.refl _ _).alloc (Nat.le_refl _) _).alloc (by simp) _)
  go_enter Tryz.func99, Tryz.ntmps99
  go_wp2_with (go_at_call 100; refine k.mono ?_; rintro e w' ⟨rfl, rfl⟩)
  have S : Hid (St w _ x0 x1 x2 0 0 0) := St.start w x0 x1 x2
  refine wp_loop_rounds 4 ?_
  rw [rounds_succ]
  go_wp2
  exact bodyPost_ret (v := .tuple #[.agg #[.int .i64 0, .int .i64 0, .int .i64 0], .bool false]) (by simp [results, Tryz.results99, go_sem]) rfl ⟨rfl, S.out.1⟩

set_option maxHeartbeats 1000000 in
theorem parseNumbers_no0num (s x0 x1 x2 : ByteArray) (w : World)
    (k : ∀ W : World, Below w.heap.size w W → Calls Tryz.prog 100 #[.string s, .string ⟨#[46]⟩] W fun e w' => e = .returned (.slice (some ⟨W.heap.size, 0, none⟩) 3 3) ∧ w' = W.alloc (.cells #[.string x0, .string x1, .string x2] 9))
    (h0 : (x0.size : Int) ≤ 6) (i0 : ∀ W, Calls Tryz.prog 126 #[.string x0] W fun e w' => e = .returned (.bool false) ∧ w' = W) :
    Calls Tryz.prog 99 #[.string s] w fun e w' => e = .returned (.tuple #[.agg #[.int .i64 0, .int .i64 0, .int .i64 0], .bool false]) ∧ Below w.heap.size w w' := by
  have k := k ((w.alloc (.cells #[.int .i64 0, .int .i64 0, .int .i64 0] 131)).alloc (.cells #[.int .i64 0, .int .i64 0, .int .i64 0] 131)) (((Below.refl _ _).alloc (Nat.le_refl _) _).alloc (by simp) _)
  go_enter Tryz.func99, Tryz.ntmps99
  go_wp2_with (go_at_call 100; refine k.mono ?_; rintro e w' ⟨rfl, rfl⟩)
  have S : Hid (St w _ x0 x1 x2 0 0 0) := St.start w x0 x1 x2
  refine wp_loop_rounds 4 ?_
  rw [rounds_succ]
  go_wp2_with (go_at_call_of 126 x0; refine (i0 _).mono ?_; rintro e w' ⟨rfl, rfl⟩)
  exact bodyPost_ret (v := .tuple #[.agg #[.int .i64 0, .int .i64 0, .int .i64 0], .bool false]) (by simp [results, Tryz.results99, go_sem]) rfl ⟨rfl, S.out.1⟩

set_option maxHeartbeats 1000000 in
theorem parseNumbers_no1len (s x0 x1 x2 : ByteArray) (v0 : Int) (w : World)
    (k : ∀ W : World, Below w.heap.size w W → Calls Tryz.prog 100 #[.string s, .string ⟨#[46]⟩] W fun e w' => e = .returned (.slice (some ⟨W.heap.size, 0, none⟩) 3 3) ∧ w' = W.alloc (.cells #[.string x0, .string x1, .string x2] 9))
    (h0 : x0.size ≤ 6) (i0 : ∀ W, Calls Tryz.prog 126 #[.string x0] W fun e w' => e = .returned (.bool true) ∧ w' = W) (n0 : ∀ W, Calls Tryz.prog 127 #[.string x0] W fun e w' => e = .returned (.int .i64 v0) ∧ Below W.heap.size W w')
    (h1 : (6 : Int) < (x1.size : Int)) :
    Calls Tryz.prog 99 #[.string s] w fun e w' => e = .returned (.tuple #[.agg #[.int .i64 0, .int .i64 0, .int .i64 0], .bool false]) ∧ Below w.heap.size w w' := by
  have k := k ((w.alloc (.cells #[.int .i64 0, .int .i64 0, .int .i64 0] 131)).alloc (.cells #[.int .i64 0, .int .i64 0, .int .i64 0] 131)) (((Below.refl _ _).alloc (Nat.le_refl _) _).alloc (by simp) _)
  go_enter Tryz.func99, Tryz.ntmps99
  go_wp2_with (go_at_call 100; refine k.mono ?_; rintro e w' ⟨rfl, rfl⟩)
  have S : Hid (St w _ x0 x1 x2 0 0 0) := St.start w x0 x1 x2
  refine wp_loop_rounds 4 ?_
  rw [rounds_succ]
  go_wp2_with (first | (go_at_call_of 126 x0; refine (i0 _).mono ?_; rintro e w' ⟨rfl, rfl⟩) | (go_at_call_of 127 x0; fail))
  refine (n0 _).mono ?_
  rintro e w1 ⟨rfl, hb⟩
  have S' := S.out.below hb
  clear hb S
  obtain ⟨⟨p0, p1, p2⟩, ⟨q0, q1, q2⟩⟩ := cells3 S'.2.2.2.1
  obtain ⟨⟨y0, y1, y2⟩, _⟩ := cells3 S'.2.2.2.2
  obtain ⟨⟨z0, z1, z2⟩, ⟨f0, f1, f2⟩⟩ := cells3 S'.2.2.1
  have S : Hid (St w _ x0 x1 x2 v0 0 0) := (S'.set v0).1
  clear S'
  go_wp2
  clear p0 p1 p2 q0 q1 q2
  rw [rounds_succ]
  go_wp2
  exact bodyPost_ret (v := .tuple #[.agg #[.int .i64 0, .int .i64 0, .int .i64 0], .bool false]) (by simp [results, Tryz.results99, go_sem, z0, z1, z2]) rfl ⟨rfl, ((S.out.1.setCell (Nat.le_refl _) _).setCell (Nat.le_refl _) _).setCell (Nat.le_refl _) _⟩

set_option maxHeartbeats 1000000 in
theorem parseNumbers_no1num (s x0 x1 x2 : ByteArray) (v0 : Int) (w : World)
    (k : ∀ W : World, Below w.heap.size w W → Calls Tryz.prog 100 #[.string s, .string ⟨#[46]⟩] W fun e w' => e = .returned (.slice (some ⟨W.heap.size, 0, none⟩) 3 3) ∧ w' = W.alloc (.cells #[.string x0, .string x1, .string x2] 9))
    (h0 : x0.size ≤ 6) (i0 : ∀ W, Calls Tryz.prog 126 #[.string x0] W fun e w' => e = .returned (.bool true) ∧ w' = W) (n0 : ∀ W, Calls Tryz.prog 127 #[.string x0] W fun e w' => e = .returned (.int .i64 v0) ∧ Below W.heap.size W w')
    (h1 : (x1.size : Int) ≤ 6) (i1 : ∀ W, Calls Tryz.prog 126 #[.string x1] W fun e w' => e = .returned (.bool false) ∧ w' = W) :
    Calls Tryz.prog 99 #[.string s] w fun e w' => e = .returned (.tuple #[.agg #[.int .i64 0, .int .i64 0, .int .i64 0], .bool false]) ∧ Below w.heap.size w w' := by
  have k := k ((w.alloc (.cells #[.int .i64 0, .int .i64 0, .int .i64 0] 131)).alloc (.cells #[.int .i64 0, .int .i64 0, .int .i64 0] 131)) (((Below.refl _ _).alloc (Nat.le_refl _) _).alloc (by simp) _)
  go_enter Tryz.func99, Tryz.ntmps99
  go_wp2_with (go_at_call 100; refine k.mono ?_; rintro e w' ⟨rfl, rfl⟩)
  have S : Hid (St w _ x0 x1 x2 0 0 0) := St.start w x0 x1 x2
  refine wp_loop_rounds 4 ?_
  rw [rounds_succ]
  go_wp2_with (first | (go_at_call_of 126 x0; refine (i0 _).mono ?_; rintro e w' ⟨rfl, rfl⟩) | (go_at_call_of 127 x0; fail))
  refine (n0 _).mono ?_
  rintro e w1 ⟨rfl, hb⟩
  have S' := S.out.below hb
  clear hb S
  obtain ⟨⟨p0, p1, p2⟩, ⟨q0, q1, q2⟩⟩ := cells3 S'.2.2.2.1
  obtain ⟨⟨y0, y1, y2⟩, _⟩ := cells3 S'.2.2.2.2
  obtain ⟨⟨z0, z1, z2⟩, ⟨f0, f1, f2⟩⟩ := cells3 S'.2.2.1
  have S : Hid (St w _ x0 x1 x2 v0 0 0) := (S'.set v0).1
  clear S'
  go_wp2
  clear p0 p1 p2 q0 q1 q2
  rw [rounds_succ]
  go_wp2_with (go_at_call_of 126 x1; refine (i1 _).mono ?_; rintro e w' ⟨rfl, rfl⟩)
  exact bodyPost_ret (v := .tuple #[.agg #[.int .i64 0, .int .i64 0, .int .i64 0], .bool false]) (by simp [results, Tryz.results99, go_sem, z0, z1, z2]) rfl ⟨rfl, ((S.out.1.setCell (Nat.le_refl _) _).setCell (Nat.le_refl _) _).setCell (Nat.le_refl _) _⟩

set_option maxHeartbeats 1000000 in
theorem parseNumbers_no2len (s x0 x1 x2 : ByteArray) (v0 : Int) (v1 : Int) (w : World)
    (k : ∀ W : World, Below w.heap.size w W → Calls Tryz.prog 100 #[.string s, .string ⟨#[46]⟩] W fun e w' => e = .returned (.slice (some ⟨W.heap.size, 0, none⟩) 3 3) ∧ w' = W.alloc (.cells #[.string x0, .string x1, .string x2] 9))
    (h0 : x0.size ≤ 6) (i0 : ∀ W, Calls Tryz.prog 126 #[.string x0] W fun e w' => e = .returned (.bool true) ∧ w' = W) (n0 : ∀ W, Calls Tryz.prog 127 #[.string x0] W fun e w' => e = .returned (.int .i64 v0) ∧ Below W.heap.size W w')
    (h1 : x1.size ≤ 6) (i1 : ∀ W, Calls Tryz.prog 126 #[.string x1] W fun e w' => e = .returned (.bool true) ∧ w' = W) (n1 : ∀ W, Calls Tryz.prog 127 #[.string x1] W fun e w' => e = .returned (.int .i64 v1) ∧ Below W.heap.size W w')
    (h2 : (6 : Int) < (x2.size : Int)) :
    Calls Tryz.prog 99 #[.string s] w fun e w' => e = .returned (.tuple #[.agg #[.int .i64 0, .int .i64 0, .int .i64 0], .bool false]) ∧ Below w.heap.size w w' := by
  have k := k ((w.alloc (.cells #[.int .i64 0, .int .i64 0, .int .i64 0] 131)).alloc (.cells #[.int .i64 0, .int .i64 0, .int .i64 0] 131)) (((Below.refl _ _).alloc (Nat.le_refl _) _).alloc (by simp) _)
  go_enter Tryz.func99, Tryz.ntmps99
  go_wp2_with (go_at_call 100; refine k.mono ?_; rintro e w' ⟨rfl, rfl⟩)
  have S : Hid (St w _ x0 x1 x2 0 0 0) := St.start w x0 x1 x2
  refine wp_loop_rounds 4 ?_
  rw [rounds_succ]
  go_wp2_with (first | (go_at_call_of 126 x0; refine (i0 _).mono ?_; rintro e w' ⟨rfl, rfl⟩) | (go_at_call_of 127 x0; fail))
  refine (n0 _).mono ?_
  rintro e w1 ⟨rfl, hb⟩
  have S' := S.out.below hb
  clear hb S
  obtain ⟨⟨p0, p1, p2⟩, ⟨q0, q1, q2⟩⟩ := cells3 S'.2.2.2.1
  obtain ⟨⟨y0, y1, y2⟩, _⟩ := cells3 S'.2.2.2.2
  obtain ⟨⟨z0, z1, z2⟩, ⟨f0, f1, f2⟩⟩ := cells3 S'.2.2.1
  have S : Hid (St w _ x0 x1 x2 v0 0 0) := (S'.set v0).1
  clear S'
  go_wp2
  clear p0 p1 p2 q0 q1 q2
  rw [rounds_succ]
  go_wp2_with (first | (go_at_call_of 126 x1; refine (i1 _).mono ?_; rintro e w' ⟨rfl, rfl⟩) | (go_at_call_of 127 x1; fail))
  refine (n1 _).mono ?_
  rintro e w2 ⟨rfl, hb⟩
  have S' := S.out.below hb
  clear hb S
  clear y0 y1 y2 z0 z1 z2 f0 f1 f2
  obtain ⟨⟨p0, p1, p2⟩, ⟨q0, q1, q2⟩⟩ := cells3 S'.2.2.2.1
  obtain ⟨⟨y0, y1, y2⟩, _⟩ := cells3 S'.2.2.2.2
  obtain ⟨⟨z0, z1, z2⟩, ⟨f0, f1, f2⟩⟩ := cells3 S'.2.2.1
  have S : Hid (St w _ x0 x1 x2 v0 v1 0) := (S'.set v1).2.1
  clear S'
  go_wp2
  clear p0 p1 p2 q0 q1 q2
  rw [rounds_succ]
  go_wp2
  exact bodyPost_ret (v := .tuple #[.agg #[.int .i64 0, .int .i64 0, .int .i64 0], .bool false]) (by simp [results, Tryz.results99, go_sem, z0, z1, z2]) rfl ⟨rfl, ((S.out.1.setCell (Nat.le_refl _) _).setCell (Nat.le_refl _) _).setCell (Nat.le_refl _) _⟩

set_option maxHeartbeats 1000000 in
theorem parseNumbers_no2num (s x0 x1 x2 : ByteArray) (v0 : Int) (v1 : Int) (w : World)
    (k : ∀ W : World, Below w.heap.size w W → Calls Tryz.prog 100 #[.string s, .string ⟨#[46]⟩] W fun e w' => e = .returned (.slice (some ⟨W.heap.size, 0, none⟩) 3 3) ∧ w' = W.alloc (.cells #[.string x0, .string x1, .string x2] 9))
    (h0 : x0.size ≤ 6) (i0 : ∀ W, Calls Tryz.prog 126 #[.string x0] W fun e w' => e = .returned (.bool true) ∧ w' = W) (n0 : ∀ W, Calls Tryz.prog 127 #[.string x0] W fun e w' => e = .returned (.int .i64 v0) ∧ Below W.heap.size W w')
    (h1 : x1.size ≤ 6) (i1 : ∀ W, Calls Tryz.prog 126 #[.string x1] W fun e w' => e = .returned (.bool true) ∧ w' = W) (n1 : ∀ W, Calls Tryz.prog 127 #[.string x1] W fun e w' => e = .returned (.int .i64 v1) ∧ Below W.heap.size W w')
    (h2 : (x2.size : Int) ≤ 6) (i2 : ∀ W, Calls Tryz.prog 126 #[.string x2] W fun e w' => e = .returned (.bool false) ∧ w' = W) :
    Calls Tryz.prog 99 #[.string s] w fun e w' => e = .returned (.tuple #[.agg #[.int .i64 0, .int .i64 0, .int .i64 0], .bool false]) ∧ Below w.heap.size w w' := by
  have k := k ((w.alloc (.cells #[.int .i64 0, .int .i64 0, .int .i64 0] 131)).alloc (.cells #[.int .i64 0, .int .i64 0, .int .i64 0] 131)) (((Below.refl _ _).alloc (Nat.le_refl _) _).alloc (by simp) _)
  go_enter Tryz.func99, Tryz.ntmps99
  go_wp2_with (go_at_call 100; refine k.mono ?_; rintro e w' ⟨rfl, rfl⟩)
  have S : Hid (St w _ x0 x1 x2 0 0 0) := St.start w x0 x1 x2
  refine wp_loop_rounds 4 ?_
  rw [rounds_succ]
  go_wp2_with (first | (go_at_call_of 126 x0; refine (i0 _).mono ?_; rintro e w' ⟨rfl, rfl⟩) | (go_at_call_of 127 x0; fail))
  refine (n0 _).mono ?_
  rintro e w1 ⟨rfl, hb⟩
  have S' := S.out.below hb
  clear hb S
  obtain ⟨⟨p0, p1, p2⟩, ⟨q0, q1, q2⟩⟩ := cells3 S'.2.2.2.1
  obtain ⟨⟨y0, y1, y2⟩, _⟩ := cells3 S'.2.2.2.2
  obtain ⟨⟨z0, z1, z2⟩, ⟨f0, f1, f2⟩⟩ := cells3 S'.2.2.1
  have S : Hid (St w _ x0 x1 x2 v0 0 0) := (S'.set v0).1
  clear S'
  go_wp2
  clear p0 p1 p2 q0 q1 q2
  rw [rounds_succ]
  go_wp2_with (first | (go_at_call_of 126 x1; refine (i1 _).mono ?_; rintro e w' ⟨rfl, rfl⟩) | (go_at_call_of 127 x1; fail))
  refine (n1 _).mono ?_
  rintro e w2 ⟨rfl, hb⟩
  have S' := S.out.below hb
  clear hb S
  clear y0 y1 y2 z0 z1 z2 f0 f1 f2
  obtain ⟨⟨p0, p1, p2⟩, ⟨q0, q1, q2⟩⟩ := cells3 S'.2.2.2.1
  obtain ⟨⟨y0, y1, y2⟩, _⟩ := cells3 S'.2.2.2.2
  obtain ⟨⟨z0, z1, z2⟩, ⟨f0, f1, f2⟩⟩ := cells3 S'.2.2.1
  have S : Hid (St w _ x0 x1 x2 v0 v1 0) := (S'.set v1).2.1
  clear S'
  go_wp2
  clear p0 p1 p2 q0 q1 q2
  rw [rounds_succ]
  go_wp2_with (go_at_call_of 126 x2; refine (i2 _).mono ?_; rintro e w' ⟨rfl, rfl⟩)
  exact bodyPost_ret (v := .tuple #[.agg #[.int .i64 0, .int .i64 0, .int .i64 0], .bool false]) (by simp [results, Tryz.results99, go_sem, z0, z1, z2]) rfl ⟨rfl, ((S.out.1.setCell (Nat.le_refl _) _).setCell (Nat.le_refl _) _).setCell (Nat.le_refl _) _⟩

end Go.Proofs.YtiamomiafekihaaGreatDoor.Dr
