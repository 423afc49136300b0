/-
  The walks of the comparisons of numbers, identifiers and lists.
  The comparison of two versions, all cases together.
  The walk of the reading of three numbers.
  The walk of the reading of three numbers: where one is none.
  The reading of three numbers, all cases together; and the walk of the reading of a version.
  The walk of the reading of a version, way by way.
  The reading of a version, all ways together; and the program's Compare.
-/
import Derived.Test.YtelmkfkgpnadnaaGreatDoorKWA
import Derived.Deep.LoopGhost
import Derived.Deep.QuietTactic
import Derived.BigQuiet
import Derived.Lib.AtoiErrMem
import Derived.Deep.RegionWith
import Derived.LoopN
namespace Go.Proofs.YtelmkfkgpnadnaaGreatDoor
open Go.RowKit

set_option maxHeartbeats 400000 in
theorem numberOf_any (s : ByteArray) (w : World) (h : Pv.isNum s.data.toList = true) (hs : s.size ≤ 8) :
    Calls Tryz.prog 243 #[.string s] w fun e w' => e = .returned (.int .i64 (Pv.val s.data.toList)) ∧ Below w.heap.size w w' := by
  have k := Tryz.strconv_Atoi s (Pv.val s.data.toList) (by omega) (Pv.atoi_val h) w
  generalize (Pv.val s.data.toList : Int) = v at k
  clear h
  go_enter Tryz.func243, Tryz.ntmps243
  go_wp2_with (go_at_call 291; refine k.mono ?_; rintro e w' ⟨rfl, t, hw⟩; have hb : Below w.heap.size w w' := (by rw [hw]; exact Lib.bytesWorld_below _ _ _); clear hw)
  go_ret
  exact ⟨rfl, hb⟩

end Go.Proofs.YtelmkfkgpnadnaaGreatDoor

namespace Go.Proofs.YtelmkfkgpnadnaaGreatDoor
open Go.RowKit

/-- A slice of identifiers, as a version holds it. -/
def SlOf (w : World) (v : Value) (ids : List ByteArray) : Prop :=
  (ids = [] ∧ v = .slice none 0 0) ∨ ∃ b c, v = .slice (some ⟨b, 0, none⟩) ids.length c ∧ ids ≠ [] ∧ b < w.heap.size ∧ ∀ j, j < ids.length → w.cell? ⟨b, j, none⟩ = some (.string ids[j]!)

end Go.Proofs.YtelmkfkgpnadnaaGreatDoor

namespace Go.Proofs.YtelmkfkgpnadnaaGreatDoor
open Go.RowKit

/-- The library's variable internal/bytealg.MaxLen holds an int, whichever. -/
def Ml (w : World) : Prop := ∃ m, w.cell? ⟨0, 0, none⟩ = some (.int .i64 m)
theorem Ml.pos {w : World} (h : Ml w) : 0 < w.heap.size := by
  obtain ⟨m, h⟩ := h
  apply Classical.byContradiction
  intro hc
  have : w.heap[0]? = none := Array.getElem?_eq_none (by omega)
  simp [World.cell?, this] at h
theorem Ml.below {w w' : World} (h : Ml w) (hb : Below w.heap.size w w') : Ml w' := by
  have hp := h.pos
  obtain ⟨m, h⟩ := h
  exact ⟨m, by rw [hb.cell (p := ⟨0, 0, none⟩) hp]; exact h⟩

theorem spl_len (c : UInt8) : ∀ (l : List UInt8), ∀ x ∈ Pv.spl c l, x.length ≤ l.length
  | [], x, h => by simp [Pv.spl] at h; simp [h]
  | b :: t, x, h => by
    have ih := spl_len c t
    unfold Pv.spl at h
    split at h
    · rcases List.mem_cons.1 h with rfl | h
      · simp
      · have := ih x h; simp; omega
    · split at h
      · simp at h; simp [h]
      · rename_i p ps e
        rw [e] at ih
        rcases List.mem_cons.1 h with rfl | h
        · have := ih p (by simp); simp; omega
        · have := ih x (by simp [h]); simp; omega

/-- What Split lays, at a dot. -/
theorem split_any (s : ByteArray) (hs : s.size < 4294967281) : ∃ l : List ByteArray, l.map (·.data.toList) = Pv.spl 46 s.data.toList ∧ (∀ x ∈ l, x.size ≤ s.size) ∧
    ∀ w : World, Ml w → Calls Tryz.prog 122 #[.string s, .string ⟨#[46]⟩] w fun e w' => e = .returned (.slice (some ⟨w.heap.size, 0, none⟩) l.length l.length) ∧ w' = w.alloc (.cells (l.map Value.string).toArray 9) := by
  have h1 : 1 ≤ (⟨#[46]⟩ : ByteArray).size := by decide
  refine ⟨Lib.splitB ⟨#[46]⟩ 0 (Lib.countB s ⟨#[46]⟩) s, Pv.splitB_spl s ⟨#[46]⟩ 46 rfl, ?_, ?_⟩
  · intro x hx
    have hm : x.data.toList ∈ Pv.spl 46 s.data.toList := by
      rw [← Pv.splitB_spl s ⟨#[46]⟩ 46 rfl]; exact List.mem_map_of_mem hx
    have := spl_len 46 _ _ hm
    rw [← Lib.size_eq, ← Lib.size_eq] at this
    exact this
  · rintro w ⟨m, hm⟩
    have k := Tryz.strings_Split s ⟨#[46]⟩ m w hs hm h1
    rw [Lib.splitB_all ⟨#[46]⟩ h1 0 _ s rfl]
    exact k

set_option maxHeartbeats 1000000 in
theorem parseNumbers_len (s : ByteArray) (l : List ByteArray) (w : World) (hl : ((l.length : Int) != 3) = true)
    (k : ∀ W : World, Below w.heap.size w W → Calls Tryz.prog 122 #[.string s, .string ⟨#[46]⟩] W fun e w' => e = .returned (.slice (some ⟨W.heap.size, 0, none⟩) l.length l.length) ∧ w' = W.alloc (.cells (l.map Value.string).toArray 9)) :
    Calls Tryz.prog 198 #[.string s] w fun e w' => e = .returned (.tuple #[.agg #[.int .i64 0, .int .i64 0, .int .i64 0], .bool false]) ∧ Below w.heap.size w w' := by
  have k := k ((w.alloc (.cells #[.int .i64 0, .int .i64 0, .int .i64 0] 249)).alloc (.cells #[.int .i64 0, .int .i64 0, .int .i64 0] 249)) (((Below.refl _ _).alloc (Nat.le_refl _) _).alloc (by simp) _)
  go_enter Tryz.func198, Tryz.ntmps198
  go_wp2_with (go_at_call 122; refine k.mono ?_; rintro e w' ⟨rfl, rfl⟩)
  exact bodyPost_ret (v := .tuple #[.agg #[.int .i64 0, .int .i64 0, .int .i64 0], .bool false]) (by simp [results, Tryz.results198, go_sem]) rfl ⟨rfl, (((Below.refl _ _).alloc (Nat.le_refl _) _).alloc (by simp) _).alloc (by simp; omega) _⟩

theorem cells3 {w : World} {b : Nat} {a0 a1 a2 : Value} {t : TypeId} (h : w.heap[b]? = some (.cells #[a0, a1, a2] t)) : (w.cell? ⟨b, 0, none⟩ = some a0 ∧ w.cell? ⟨b, 1, none⟩ = some a1 ∧ w.cell? ⟨b, 2, none⟩ = some a2) ∧ (w.frozen? ⟨b, 0, none⟩ = false ∧ w.frozen? ⟨b, 1, none⟩ = false ∧ w.frozen? ⟨b, 2, none⟩ = false) := by
  simp [World.cell?, World.frozen?, h]

/-- The three blocks of the call: its result, its numbers, the parts. -/
def St (w wr : World) (x0 x1 x2 : ByteArray) (a0 a1 a2 : Int) : Prop :=
  Below w.heap.size w wr ∧ w.heap.size + 2 < wr.heap.size ∧ wr.heap[w.heap.size]? = some (.cells #[.int .i64 0, .int .i64 0, .int .i64 0] 249) ∧ wr.heap[w.heap.size + 1]? = some (.cells #[.int .i64 a0, .int .i64 a1, .int .i64 a2] 249) ∧ wr.heap[w.heap.size + 2]? = some (.cells #[.string x0, .string x1, .string x2] 9)

theorem St.start (w : World) (x0 x1 x2 : ByteArray) : St w (((w.alloc (.cells #[.int .i64 0, .int .i64 0, .int .i64 0] 249)).alloc (.cells #[.int .i64 0, .int .i64 0, .int .i64 0] 249)).alloc (.cells #[.string x0, .string x1, .string x2] 9)) x0 x1 x2 0 0 0 := by
  refine ⟨(((Below.refl _ _).alloc (Nat.le_refl _) _).alloc (by simp) _).alloc (by simp; omega) _, by simp, ?_, ?_, ?_⟩
  all_goals
    show (((w.heap.push _).push _).push _)[_]? = _
    rw [Array.getElem?_push, Array.getElem?_push, Array.getElem?_push]
    simp only [Array.size_push]
  · rw [if_neg (by omega), if_neg (by omega), if_pos trivial]
  · rw [if_neg (by omega), if_pos trivial]
  · rw [if_pos trivial]

theorem St.below {w wr w' : World} {x0 x1 x2 : ByteArray} {a0 a1 a2 : Int} (h : St w wr x0 x1 x2 a0 a1 a2) (hb : Below wr.heap.size wr w') : St w w' x0 x1 x2 a0 a1 a2 := by
  obtain ⟨h1, h2, h3, h4, h5⟩ := h
  have := hb.size
  exact ⟨h1.trans (hb.mono h1.size), by omega, by rw [hb.block _ (by omega)]; exact h3, by rw [hb.block _ (by omega)]; exact h4, by rw [hb.block _ (by omega)]; exact h5⟩

theorem St.set {w wr : World} {x0 x1 x2 : ByteArray} {a0 a1 a2 : Int} (h : St w wr x0 x1 x2 a0 a1 a2) (v : Int) :
    St w (wr.setCell ⟨w.heap.size + 1, 0, none⟩ (.int .i64 v)) x0 x1 x2 v a1 a2 ∧ St w (wr.setCell ⟨w.heap.size + 1, 1, none⟩ (.int .i64 v)) x0 x1 x2 a0 v a2 ∧ St w (wr.setCell ⟨w.heap.size + 1, 2, none⟩ (.int .i64 v)) x0 x1 x2 a0 a1 v := by
  obtain ⟨h1, h2, h3, h4, h5⟩ := h
  refine ⟨?_, ?_, ?_⟩
  all_goals
    refine ⟨h1.setCell (by simp) _, by simpa [World.setCell] using h2, ?_, ?_, ?_⟩
    · rw [Below.heap_setCell _ _ _ _ (by simp)]; exact h3
    · simp [World.setCell, Array.getElem?_modify, h4]
    · rw [Below.heap_setCell _ _ _ _ (by simp)]; exact h5

set_option maxHeartbeats 1000000 in
theorem parseNumbers_ok (s x0 x1 x2 : ByteArray) (v0 v1 v2 : Int) (w : World)
    (k : ∀ W : World, Below w.heap.size w W → Calls Tryz.prog 122 #[.string s, .string ⟨#[46]⟩] W fun e w' => e = .returned (.slice (some ⟨W.heap.size, 0, none⟩) 3 3) ∧ w' = W.alloc (.cells #[.string x0, .string x1, .string x2] 9))
    (h0 : x0.size ≤ 6) (h1 : x1.size ≤ 6) (h2 : x2.size ≤ 6)
    (i0 : ∀ W, Calls Tryz.prog 242 #[.string x0] W fun e w' => e = .returned (.bool true) ∧ w' = W) (i1 : ∀ W, Calls Tryz.prog 242 #[.string x1] W fun e w' => e = .returned (.bool true) ∧ w' = W) (i2 : ∀ W, Calls Tryz.prog 242 #[.string x2] W fun e w' => e = .returned (.bool true) ∧ w' = W)
    (n0 : ∀ W, Calls Tryz.prog 243 #[.string x0] W fun e w' => e = .returned (.int .i64 v0) ∧ Below W.heap.size W w') (n1 : ∀ W, Calls Tryz.prog 243 #[.string x1] W fun e w' => e = .returned (.int .i64 v1) ∧ Below W.heap.size W w') (n2 : ∀ W, Calls Tryz.prog 243 #[.string x2] W fun e w' => e = .returned (.int .i64 v2) ∧ Below W.heap.size W w') :
    Calls Tryz.prog 198 #[.string s] w fun e w' => e = .returned (.tuple #[.agg #[.int .i64 v0, .int .i64 v1, .int .i64 v2], .bool true]) ∧ Below w.heap.size w w' := by
  have k := k ((w.alloc (.cells #[.int .i64 0, .int .i64 0, .int .i64 0] 249)).alloc (.cells #[.int .i64 0, .int .i64 0, .int .i64 0] 249)) (((Below.refl _ _).alloc (Nat.le_refl _) _).alloc (by simp) _)
  go_enter Tryz.func198, Tryz.ntmps198
  go_wp2_with (go_at_call 122; refine k.mono ?_; rintro e w' ⟨rfl, rfl⟩)
  have S0 : Hid (St w _ x0 x1 x2 0 0 0) := St.start w x0 x1 x2
  refine wp_loop_rounds 4 ?_
  rw [rounds_succ]
  go_wp2_with (first | (go_at_call_of 242 x0; refine (i0 _).mono ?_; rintro e w' ⟨rfl, rfl⟩) | (go_at_call_of 243 x0; fail))
  refine (n0 _).mono ?_
  rintro e w1 ⟨rfl, hb1⟩
  have S1 := S0.out.below hb1
  clear hb1 S0
  obtain ⟨⟨p0, p1, p2⟩, ⟨q0, q1, q2⟩⟩ := cells3 S1.2.2.2.1
  obtain ⟨⟨y0, y1, y2⟩, _⟩ := cells3 S1.2.2.2.2
  have S1' : Hid (St w _ x0 x1 x2 v0 0 0) := (S1.set v0).1
  clear S1
  go_wp2
  clear p0 p1 p2 q0 q1 q2
  rw [rounds_succ]
  go_wp2_with (first | (go_at_call_of 242 x1; refine (i1 _).mono ?_; rintro e w' ⟨rfl, rfl⟩) | (go_at_call_of 243 x1; fail))
  refine (n1 _).mono ?_
  rintro e w2 ⟨rfl, hb2⟩
  have S2 := S1'.out.below hb2
  clear hb2 S1' y0 y1 y2
  obtain ⟨⟨p0, p1, p2⟩, ⟨q0, q1, q2⟩⟩ := cells3 S2.2.2.2.1
  obtain ⟨⟨y0, y1, y2⟩, _⟩ := cells3 S2.2.2.2.2
  have S2' : Hid (St w _ x0 x1 x2 v0 v1 0) := (S2.set v1).2.1
  clear S2
  go_wp2
  clear p0 p1 p2 q0 q1 q2
  rw [rounds_succ]
  go_wp2_with (first | (go_at_call_of 242 x2; refine (i2 _).mono ?_; rintro e w' ⟨rfl, rfl⟩) | (go_at_call_of 243 x2; fail))
  refine (n2 _).mono ?_
  rintro e w3 ⟨rfl, hb3⟩
  have S3 := S2'.out.below hb3
  clear hb3 S2' y0 y1 y2
  obtain ⟨⟨p0, p1, p2⟩, ⟨q0, q1, q2⟩⟩ := cells3 S3.2.2.2.1
  obtain ⟨⟨z0, z1, z2⟩, ⟨f0, f1, f2⟩⟩ := cells3 S3.2.2.1
  have S3' : Hid (St w _ x0 x1 x2 v0 v1 v2) := (S3.set v2).2.2
  clear S3
  go_wp2
  rw [rounds_succ]
  go_wp2
  exact bodyPost_ret (v := .tuple #[.agg #[.int .i64 v0, .int .i64 v1, .int .i64 v2], .bool true]) (by simp [results, Tryz.results198, go_sem, z0, z1, z2]) rfl ⟨rfl, ((S3'.out.1.setCell (Nat.le_refl _) _).setCell (Nat.le_refl _) _).setCell (Nat.le_refl _) _⟩

end Go.Proofs.YtelmkfkgpnadnaaGreatDoor

namespace Go.Proofs.YtelmkfkgpnadnaaGreatDoor
open Go.RowKit

set_option maxHeartbeats 1000000 in
theorem parseNumbers_no0len (s x0 x1 x2 : ByteArray) (w : World)
    (k : ∀ W : World, Below w.heap.size w W → Calls Tryz.prog 122 #[.string s, .string ⟨#[46]⟩] W fun e w' => e = .returned (.slice (some ⟨W.heap.size, 0, none⟩) 3 3) ∧ w' = W.alloc (.cells #[.string x0, .string x1, .string x2] 9))
    (h0 : (6 : Int) < (x0.size : Int)) :
    Calls Tryz.prog 198 #[.string s] w fun e w' => e = .returned (.tuple #[.agg #[.int .i64 0, .int .i64 0, .int .i64 0], .bool false]) ∧ Below w.heap.size w w' := by
  have k := k ((w.alloc (.cells #[.int .i64 0, .int .i64 0, .int .i64 0] 249)).alloc (.cells #[.int .i64 0, .int .i64 0, .int .i64 0] 249)) (((Below.refl _ _).alloc (Nat.le_refl _) _).alloc (by simp) _)
  go_enter Tryz.func198, Tryz.ntmps198
  go_wp2_with (go_at_call 122; refine k.mono ?_; rintro e w' ⟨rfl, rfl⟩)
  have S : Hid (St w _ x0 x1 x2 0 0 0) := St.start w x0 x1 x2
  refine wp_loop_rounds 4 ?_
  rw [rounds_succ]
  go_wp2
  exact bodyPost_ret (v := .tuple #[.agg #[.int .i64 0, .int .i64 0, .int .i64 0], .bool false]) (by simp [results, Tryz.results198, go_sem]) rfl ⟨rfl, S.out.1⟩

set_option maxHeartbeats 1000000 in
theorem parseNumbers_no0num (s x0 x1 x2 : ByteArray) (w : World)
    (k : ∀ W : World, Below w.heap.size w W → Calls Tryz.prog 122 #[.string s, .string ⟨#[46]⟩] W fun e w' => e = .returned (.slice (some ⟨W.heap.size, 0, none⟩) 3 3) ∧ w' = W.alloc (.cells #[.string x0, .string x1, .string x2] 9))
    (h0 : (x0.size : Int) ≤ 6) (i0 : ∀ W, Calls Tryz.prog 242 #[.string x0] W fun e w' => e = .returned (.bool false) ∧ w' = W) :
    Calls Tryz.prog 198 #[.string s] w fun e w' => e = .returned (.tuple #[.agg #[.int .i64 0, .int .i64 0, .int .i64 0], .bool false]) ∧ Below w.heap.size w w' := by
  have k := k ((w.alloc (.cells #[.int .i64 0, .int .i64 0, .int .i64 0] 249)).alloc (.cells #[.int .i64 0, .int .i64 0, .int .i64 0] 249)) (((Below.refl _ _).alloc (Nat.le_refl _) _).alloc (by simp) _)
  go_enter Tryz.func198, Tryz.ntmps198
  go_wp2_with (go_at_call 122; refine k.mono ?_; rintro e w' ⟨rfl, rfl⟩)
  have S : Hid (St w _ x0 x1 x2 0 0 0) := St.start w x0 x1 x2
  refine wp_loop_rounds 4 ?_
  rw [rounds_succ]
  go_wp2_with (go_at_call_of 242 x0; refine (i0 _).mono ?_; rintro e w' ⟨rfl, rfl⟩)
  exact bodyPost_ret (v := .tuple #[.agg #[.int .i64 0, .int .i64 0, .int .i64 0], .bool false]) (by simp [results, Tryz.results198, go_sem]) rfl ⟨rfl, S.out.1⟩

set_option maxHeartbeats 1000000 in
theorem parseNumbers_no1len (s x0 x1 x2 : ByteArray) (v0 : Int) (w : World)
    (k : ∀ W : World, Below w.heap.size w W → Calls Tryz.prog 122 #[.string s, .string ⟨#[46]⟩] W fun e w' => e = .returned (.slice (some ⟨W.heap.size, 0, none⟩) 3 3) ∧ w' = W.alloc (.cells #[.string x0, .string x1, .string x2] 9))
    (h0 : x0.size ≤ 6) (i0 : ∀ W, Calls Tryz.prog 242 #[.string x0] W fun e w' => e = .returned (.bool true) ∧ w' = W) (n0 : ∀ W, Calls Tryz.prog 243 #[.string x0] W fun e w' => e = .returned (.int .i64 v0) ∧ Below W.heap.size W w')
    (h1 : (6 : Int) < (x1.size : Int)) :
    Calls Tryz.prog 198 #[.string s] w fun e w' => e = .returned (.tuple #[.agg #[.int .i64 0, .int .i64 0, .int .i64 0], .bool false]) ∧ Below w.heap.size w w' := by
  have k := k ((w.alloc (.cells #[.int .i64 0, .int .i64 0, .int .i64 0] 249)).alloc (.cells #[.int .i64 0, .int .i64 0, .int .i64 0] 249)) (((Below.refl _ _).alloc (Nat.le_refl _) _).alloc (by simp) _)
  go_enter Tryz.func198, Tryz.ntmps198
  go_wp2_with (go_at_call 122; refine k.mono ?_; rintro e w' ⟨rfl, rfl⟩)
  have S : Hid (St w _ x0 x1 x2 0 0 0) := St.start w x0 x1 x2
  refine wp_loop_rounds 4 ?_
  rw [rounds_succ]
  go_wp2_with (first | (go_at_call_of 242 x0; refine (i0 _).mono ?_; rintro e w' ⟨rfl, rfl⟩) | (go_at_call_of 243 x0; fail))
  refine (n0 _).mono ?_
  rintro e w1 ⟨rfl, hb⟩
  have S' := S.out.below hb
  clear hb S
  obtain ⟨⟨p0, p1, p2⟩, ⟨q0, q1, q2⟩⟩ := cells3 S'.2.2.2.1
  obtain ⟨⟨y0, y1, y2⟩, _⟩ := cells3 S'.2.2.2.2
  obtain ⟨⟨z0, z1, z2⟩, ⟨f0, f1, f2⟩⟩ := cells3 S'.2.2.1
  have S : Hid (St w _ x0 x1 x2 v0 0 0) := (S'.set v0).1
  clear S'
  go_wp2
  clear p0 p1 p2 q0 q1 q2
  rw [rounds_succ]
  go_wp2
  exact bodyPost_ret (v := .tuple #[.agg #[.int .i64 0, .int .i64 0, .int .i64 0], .bool false]) (by simp [results, Tryz.results198, go_sem, z0, z1, z2]) rfl ⟨rfl, ((S.out.1.setCell (Nat.le_refl _) _).setCell (Nat.le_refl _) _).setCell (Nat.le_refl _) _⟩

set_option maxHeartbeats 1000000 in
theorem parseNumbers_no1num (s x0 x1 x2 : ByteArray) (v0 : Int) (w : World)
    (k : ∀ W : World, Below w.heap.size w W → Calls Tryz.prog 122 #[.string s, .string ⟨#[46]⟩] W fun e w' => e = .returned (.slice (some ⟨W.heap.size, 0, none⟩) 3 3) ∧ w' = W.alloc (.cells #[.string x0, .string x1, .string x2] 9))
    (h0 : x0.size ≤ 6) (i0 : ∀ W, Calls Tryz.prog 242 #[.string x0] W fun e w' => e = .returned (.bool true) ∧ w' = W) (n0 : ∀ W, Calls Tryz.prog 243 #[.string x0] W fun e w' => e = .returned (.int .i64 v0) ∧ Below W.heap.size W w')
    (h1 : (x1.size : Int) ≤ 6) (i1 : ∀ W, Calls Tryz.prog 242 #[.string x1] W fun e w' => e = .returned (.bool false) ∧ w' = W) :
    Calls Tryz.prog 198 #[.string s] w fun e w' => e = .returned (.tuple #[.agg #[.int .i64 0, .int .i64 0, .int .i64 0], .bool false]) ∧ Below w.heap.size w w' := by
  have k := k ((w.alloc (.cells #[.int .i64 0, .int .i64 0, .int .i64 0] 249)).alloc (.cells #[.int .i64 0, .int .i64 0, .int .i64 0] 249)) (((Below.refl _ _).alloc (Nat.le_refl _) _).alloc (by simp) _)
  go_enter Tryz.func198, Tryz.ntmps198
  go_wp2_with (go_at_call 122; refine k.mono ?_; rintro e w' ⟨rfl, rfl⟩)
  have S : Hid (St w _ x0 x1 x2 0 0 0) := St.start w x0 x1 x2
  refine wp_loop_rounds 4 ?_
  rw [rounds_succ]
  go_wp2_with (first | (go_at_call_of 242 x0; refine (i0 _).mono ?_; rintro e w' ⟨rfl, rfl⟩) | (go_at_call_of 243 x0; fail))
  refine (n0 _).mono ?_
  rintro e w1 ⟨rfl, hb⟩
  have S' := S.out.below hb
  clear hb S
  obtain ⟨⟨p0, p1, p2⟩, ⟨q0, q1, q2⟩⟩ := cells3 S'.2.2.2.1
  obtain ⟨⟨y0, y1, y2⟩, _⟩ := cells3 S'.2.2.2.2
  obtain ⟨⟨z0, z1, z2⟩, ⟨f0, f1, f2⟩⟩ := cells3 S'.2.2.1
  have S : Hid (St w _ x0 x1 x2 v0 0 0) := (S'.set v0).1
  clear S'
  go_wp2
  clear p0 p1 p2 q0 q1 q2
  rw [rounds_succ]
  go_wp2_with (go_at_call_of 242 x1; refine (i1 _).mono ?_; rintro e w' ⟨rfl, rfl⟩)
  exact bodyPost_ret (v := .tuple #[.agg #[.int .i64 0, .int .i64 0, .int .i64 0], .bool false]) (by simp [results, Tryz.results198, go_sem, z0, z1, z2]) rfl ⟨rfl, ((S.out.1.setCell (Nat.le_refl _) _).setCell (Nat.le_refl _) _).setCell (Nat.le_refl _) _⟩

set_option maxHeartbeats 1000000 in
theorem parseNumbers_no2len (s x0 x1 x2 : ByteArray) (v0 : Int) (v1 : Int) (w : World)
    (k : ∀ W : World, Below w.heap.size w W → Calls Tryz.prog 122 #[.string s, .string ⟨#[46]⟩] W fun e w' => e = .returned (.slice (some ⟨W.heap.size, 0, none⟩) 3 3) ∧ w' = W.alloc (.cells #[.string x0, .string x1, .string x2] 9))
    (h0 : x0.size ≤ 6) (i0 : ∀ W, Calls Tryz.prog 242 #[.string x0] W fun e w' => e = .returned (.bool true) ∧ w' = W) (n0 : ∀ W, Calls Tryz.prog 243 #[.string x0] W fun e w' => e = .returned (.int .i64 v0) ∧ Below W.heap.size W w')
    (h1 : x1.size ≤ 6) (i1 : ∀ W, Calls Tryz.prog 242 #[.string x1] W fun e w' => e = .returned (.bool true) ∧ w' = W) (n1 : ∀ W, Calls Tryz.prog 243 #[.string x1] W fun e w' => e = .returned (.int .i64 v1) ∧ Below W.heap.size W w')
    (h2 : (6 : Int) < (x2.size : Int)) :
    Calls Tryz.prog 198 #[.string s] w fun e w' => e = .returned (.tuple #[.agg #[.int .i64 0, .int .i64 0, .int .i64 0], .bool false]) ∧ Below w.heap.size w w' := by
  have k := k ((w.alloc (.cells #[.int .i64 0, .int .i64 0, .int .i64 0] 249)).alloc (.cells #[.int .i64 0, .int .i64 0, .int .i64 0] 249)) (((Below.refl _ _).alloc (Nat.le_refl _) _).alloc (by simp) _)
  go_enter Tryz.func198, Tryz.ntmps198
  go_wp2_with (go_at_call 122; refine k.mono ?_; rintro e w' ⟨rfl, rfl⟩)
  have S : Hid (St w _ x0 x1 x2 0 0 0) := St.start w x0 x1 x2
  refine wp_loop_rounds 4 ?_
  rw [rounds_succ]
  go_wp2_with (first | (go_at_call_of 242 x0; refine (i0 _).mono ?_; rintro e w' ⟨rfl, rfl⟩) | (go_at_call_of 243 x0; fail))
  refine (n0 _).mono ?_
  rintro e w1 ⟨rfl, hb⟩
  have S' := S.out.below hb
  clear hb S
  obtain ⟨⟨p0, p1, p2⟩, ⟨q0, q1, q2⟩⟩ := cells3 S'.2.2.2.1
  obtain ⟨⟨y0, y1, y2⟩, _⟩ := cells3 S'.2.2.2.2
  obtain ⟨⟨z0, z1, z2⟩, ⟨f0, f1, f2⟩⟩ := cells3 S'.2.2.1
  have S : Hid (St w _ x0 x1 x2 v0 0 0) := (S'.set v0).1
  clear S'
  go_wp2
  clear p0 p1 p2 q0 q1 q2
  rw [rounds_succ]
  go_wp2_with (first | (go_at_call_of 242 x1; refine (i1 _).mono ?_; rintro e w' ⟨rfl, rfl⟩) | (go_at_call_of 243 x1; fail))
  refine (n1 _).mono ?_
  rintro e w2 ⟨rfl, hb⟩
  have S' := S.out.below hb
  clear hb S
  clear y0 y1 y2 z0 z1 z2 f0 f1 f2
  obtain ⟨⟨p0, p1, p2⟩, ⟨q0, q1, q2⟩⟩ := cells3 S'.2.2.2.1
  obtain ⟨⟨y0, y1, y2⟩, _⟩ := cells3 S'.2.2.2.2
  obtain ⟨⟨z0, z1, z2⟩, ⟨f0, f1, f2⟩⟩ := cells3 S'.2.2.1
  have S : Hid (St w _ x0 x1 x2 v0 v1 0) := (S'.set v1).2.1
  clear S'
  go_wp2
  clear p0 p1 p2 q0 q1 q2
  rw [rounds_succ]
  go_wp2
  exact bodyPost_ret (v := .tuple #[.agg #[.int .i64 0, .int .i64 0, .int .i64 0], .bool false]) (by simp [results, Tryz.results198, go_sem, z0, z1, z2]) rfl ⟨rfl, ((S.out.1.setCell (Nat.le_refl _) _).setCell (Nat.le_refl _) _).setCell (Nat.le_refl _) _⟩

set_option maxHeartbeats 1000000 in
theorem parseNumbers_no2num (s x0 x1 x2 : ByteArray) (v0 : Int) (v1 : Int) (w : World)
    (k : ∀ W : World, Below w.heap.size w W → Calls Tryz.prog 122 #[.string s, .string ⟨#[46]⟩] W fun e w' => e = .returned (.slice (some ⟨W.heap.size, 0, none⟩) 3 3) ∧ w' = W.alloc (.cells #[.string x0, .string x1, .string x2] 9))
    (h0 : x0.size ≤ 6) (i0 : ∀ W, Calls Tryz.prog 242 #[.string x0] W fun e w' => e = .returned (.bool true) ∧ w' = W) (n0 : ∀ W, Calls Tryz.prog 243 #[.string x0] W fun e w' => e = .returned (.int .i64 v0) ∧ Below W.heap.size W w')
    (h1 : x1.size ≤ 6) (i1 : ∀ W, Calls Tryz.prog 242 #[.string x1] W fun e w' => e = .returned (.bool true) ∧ w' = W) (n1 : ∀ W, Calls Tryz.prog 243 #[.string x1] W fun e w' => e = .returned (.int .i64 v1) ∧ Below W.heap.size W w')
    (h2 : (x2.size : Int) ≤ 6) (i2 : ∀ W, Calls Tryz.prog 242 #[.string x2] W fun e w' => e = .returned (.bool false) ∧ w' = W) :
    Calls Tryz.prog 198 #[.string s] w fun e w' => e = .returned (.tuple #[.agg #[.int .i64 0, .int .i64 0, .int .i64 0], .bool false]) ∧ Below w.heap.size w w' := by
  have k := k ((w.alloc (.cells #[.int .i64 0, .int .i64 0, .int .i64 0] 249)).alloc (.cells #[.int .i64 0, .int .i64 0, .int .i64 0] 249)) (((Below.refl _ _).alloc (Nat.le_refl _) _).alloc (by simp) _)
  go_enter Tryz.func198, Tryz.ntmps198
  go_wp2_with (go_at_call 122; refine k.mono ?_; rintro e w' ⟨rfl, rfl⟩)
  have S : Hid (St w _ x0 x1 x2 0 0 0) := St.start w x0 x1 x2
  refine wp_loop_rounds 4 ?_
  rw [rounds_succ]
  go_wp2_with (first | (go_at_call_of 242 x0; refine (i0 _).mono ?_; rintro e w' ⟨rfl, rfl⟩) | (go_at_call_of 243 x0; fail))
  refine (n0 _).mono ?_
  rintro e w1 ⟨rfl, hb⟩
  have S' := S.out.below hb
  clear hb S
  obtain ⟨⟨p0, p1, p2⟩, ⟨q0, q1, q2⟩⟩ := cells3 S'.2.2.2.1
  obtain ⟨⟨y0, y1, y2⟩, _⟩ := cells3 S'.2.2.2.2
  obtain ⟨⟨z0, z1, z2⟩, ⟨f0, f1, f2⟩⟩ := cells3 S'.2.2.1
  have S : Hid (St w _ x0 x1 x2 v0 0 0) := (S'.set v0).1
  clear S'
  go_wp2
  clear p0 p1 p2 q0 q1 q2
  rw [rounds_succ]
  go_wp2_with (first | (go_at_call_of 242 x1; refine (i1 _).mono ?_; rintro e w' ⟨rfl, rfl⟩) | (go_at_call_of 243 x1; fail))
  refine (n1 _).mono ?_
  rintro e w2 ⟨rfl, hb⟩
  have S' := S.out.below hb
  clear hb S
  clear y0 y1 y2 z0 z1 z2 f0 f1 f2
  obtain ⟨⟨p0, p1, p2⟩, ⟨q0, q1, q2⟩⟩ := cells3 S'.2.2.2.1
  obtain ⟨⟨y0, y1, y2⟩, _⟩ := cells3 S'.2.2.2.2
  obtain ⟨⟨z0, z1, z2⟩, ⟨f0, f1, f2⟩⟩ := cells3 S'.2.2.1
  have S : Hid (St w _ x0 x1 x2 v0 v1 0) := (S'.set v1).2.1
  clear S'
  go_wp2
  clear p0 p1 p2 q0 q1 q2
  rw [rounds_succ]
  go_wp2_with (go_at_call_of 242 x2; refine (i2 _).mono ?_; rintro e w' ⟨rfl, rfl⟩)
  exact bodyPost_ret (v := .tuple #[.agg #[.int .i64 0, .int .i64 0, .int .i64 0], .bool false]) (by simp [results, Tryz.results198, go_sem, z0, z1, z2]) rfl ⟨rfl, ((S.out.1.setCell (Nat.le_refl _) _).setCell (Nat.le_refl _) _).setCell (Nat.le_refl _) _⟩

end Go.Proofs.YtelmkfkgpnadnaaGreatDoor

namespace Go.Proofs.YtelmkfkgpnadnaaGreatDoor
open Go.RowKit

theorem okNum_cases (x : ByteArray) (h : Pv.okNum x.data.toList = false) : (6 : Int) < (x.size : Int) ∨ ((x.size : Int) ≤ 6 ∧ Pv.isNum x.data.toList = false) := by
  unfold Pv.okNum at h
  rw [← Lib.size_eq] at h
  by_cases h6 : x.size ≤ 6
  · right
    rw [decide_eq_true h6] at h
    exact ⟨by omega, by simpa using h⟩
  · left; omega
theorem okNum_yes (x : ByteArray) (h : Pv.okNum x.data.toList = true) : x.size ≤ 6 ∧ Pv.isNum x.data.toList = true := by
  unfold Pv.okNum at h
  rw [← Lib.size_eq] at h
  simpa using h

theorem parseNumbers_none (s : ByteArray) (w : World) (hm : Ml w) (hs : s.size ≤ 40) (h : Pv.parseN s.data.toList = none) :
    Calls Tryz.prog 198 #[.string s] w fun e w' => e = .returned (.tuple #[.agg #[.int .i64 0, .int .i64 0, .int .i64 0], .bool false]) ∧ Below w.heap.size w w' := by
  obtain ⟨l, hl, hz, k⟩ := split_any s (by omega)
  have k : ∀ W : World, Below w.heap.size w W → Calls Tryz.prog 122 #[.string s, .string ⟨#[46]⟩] W fun e w' => e = .returned (.slice (some ⟨W.heap.size, 0, none⟩) l.length l.length) ∧ w' = W.alloc (.cells (l.map Value.string).toArray 9) := fun W hb => k W (hm.below hb)
  by_cases h3 : l.length = 3
  · match l, h3 with
    | [x0, x1, x2], _ =>
      have isn : ∀ x ∈ [x0, x1, x2], ∀ W, Calls Tryz.prog 242 #[.string x] W fun e w' => e = .returned (.bool (Pv.isNum x.data.toList)) ∧ w' = W := fun x hx W => isNumber_any x W (by have := hz x hx; unfold maxLen; omega)
      have j0 := isn x0 (by simp)
      have j1 := isn x1 (by simp)
      have j2 := isn x2 (by simp)
      cases h0 : Pv.okNum x0.data.toList with
      | false =>
        rcases okNum_cases x0 h0 with hh | ⟨hh, hn⟩
        · exact parseNumbers_no0len s x0 x1 x2 w k hh
        · rw [hn] at j0
          exact parseNumbers_no0num s x0 x1 x2 w k hh j0
      | true =>
        obtain ⟨a0, b0⟩ := okNum_yes x0 h0
        have n0 := fun W => numberOf_any x0 W b0 (by omega)
        rw [b0] at j0
        cases h1 : Pv.okNum x1.data.toList with
        | false =>
          rcases okNum_cases x1 h1 with hh | ⟨hh, hn⟩
          · exact parseNumbers_no1len s x0 x1 x2 _ w k a0 j0 n0 hh
          · rw [hn] at j1
            exact parseNumbers_no1num s x0 x1 x2 _ w k a0 j0 n0 hh j1
        | true =>
          obtain ⟨a1, b1⟩ := okNum_yes x1 h1
          have n1 := fun W => numberOf_any x1 W b1 (by omega)
          rw [b1] at j1
          cases h2 : Pv.okNum x2.data.toList with
          | false =>
            rcases okNum_cases x2 h2 with hh | ⟨hh, hn⟩
            · exact parseNumbers_no2len s x0 x1 x2 _ _ w k a0 j0 n0 a1 j1 n1 hh
            · rw [hn] at j2
              exact parseNumbers_no2num s x0 x1 x2 _ _ w k a0 j0 n0 a1 j1 n1 hh j2
          | true =>
            exfalso
            unfold Pv.parseN at h
            rw [← hl] at h
            simp [h0, h1, h2] at h
  · exact parseNumbers_len s l w (by simp; omega) k

theorem parseNumbers_some (s : ByteArray) (w : World) (hm : Ml w) (hs : s.size ≤ 40) (p q r : List UInt8) (h : Pv.parseN s.data.toList = some [p, q, r]) :
    Calls Tryz.prog 198 #[.string s] w fun e w' => e = .returned (.tuple #[.agg #[.int .i64 (Pv.val p), .int .i64 (Pv.val q), .int .i64 (Pv.val r)], .bool true]) ∧ Below w.heap.size w w' := by
  obtain ⟨l, hl, hz, k⟩ := split_any s (by omega)
  have k : ∀ W : World, Below w.heap.size w W → Calls Tryz.prog 122 #[.string s, .string ⟨#[46]⟩] W fun e w' => e = .returned (.slice (some ⟨W.heap.size, 0, none⟩) l.length l.length) ∧ w' = W.alloc (.cells (l.map Value.string).toArray 9) := fun W hb => k W (hm.below hb)
  unfold Pv.parseN at h
  rw [← hl] at h
  split at h
  · rename_i hc
    simp only [Option.some.injEq] at h
    match l, h, hc, k with
    | [x0, x1, x2], h, hc, k =>
      simp only [List.map_cons, List.map_nil, List.cons.injEq, and_true] at h
      obtain ⟨rfl, rfl, rfl⟩ := h
      simp only [List.map_cons, List.map_nil, List.all_cons, List.all_nil, Bool.and_true, Bool.and_eq_true] at hc
      obtain ⟨_, h0, h1, h2⟩ := hc
      obtain ⟨a0, b0⟩ := okNum_yes x0 h0
      obtain ⟨a1, b1⟩ := okNum_yes x1 h1
      obtain ⟨a2, b2⟩ := okNum_yes x2 h2
      have j0 := fun W => isNumber_any x0 W (by unfold maxLen; omega)
      have j1 := fun W => isNumber_any x1 W (by unfold maxLen; omega)
      have j2 := fun W => isNumber_any x2 W (by unfold maxLen; omega)
      rw [b0] at j0
      rw [b1] at j1
      rw [b2] at j2
      exact parseNumbers_ok s x0 x1 x2 _ _ _ w k a0 a1 a2 j0 j1 j2 (fun W => numberOf_any x0 W b0 (by omega)) (fun W => numberOf_any x1 W b1 (by omega)) (fun W => numberOf_any x2 W b2 (by omega))
  · simp at h

end Go.Proofs.YtelmkfkgpnadnaaGreatDoor

namespace Go.Proofs.YtelmkfkgpnadnaaGreatDoor
open Go.RowKit

theorem cells4 {w : World} {b : Nat} {a0 a1 a2 a3 : Value} {t : TypeId} (h : w.heap[b]? = some (.cells #[a0, a1, a2, a3] t)) : (w.cell? ⟨b, 0, none⟩ = some a0 ∧ w.cell? ⟨b, 1, none⟩ = some a1 ∧ w.cell? ⟨b, 2, none⟩ = some a2 ∧ w.cell? ⟨b, 3, none⟩ = some a3) ∧ (w.frozen? ⟨b, 0, none⟩ = false ∧ w.frozen? ⟨b, 1, none⟩ = false ∧ w.frozen? ⟨b, 2, none⟩ = false ∧ w.frozen? ⟨b, 3, none⟩ = false) := by
  simp [World.cell?, World.frozen?, h]

set_option maxHeartbeats 1000000 in
theorem parseVersion_a1 (s rest : ByteArray) (w : World)
    (k1 : ∀ W, Calls Tryz.prog 197 #[.string s, .string ⟨#[118]⟩] W fun e w' => e = .returned (.tuple #[.string rest, .bool false]) ∧ w' = W) :
    Calls Tryz.prog 153 #[.string s] w fun e w' => e = .returned (.tuple #[.agg #[.int .i64 0, .int .i64 0, .int .i64 0, .slice none 0 0], .bool false]) ∧ Below w.heap.size w w' := by
  go_enter Tryz.func153, Tryz.ntmps153
  go_wp2_with (go_at_call 197; refine (k1 _).mono ?_; rintro e w' ⟨rfl, rfl⟩)
  exact bodyPost_ret (v := .tuple #[.agg #[.int .i64 0, .int .i64 0, .int .i64 0, .slice none 0 0], .bool false]) (by simp [results, Tryz.results153, go_sem]) rfl ⟨rfl, (Below.refl _ _).alloc (Nat.le_refl _) _⟩

set_option maxHeartbeats 1000000 in
theorem parseVersion_a2 (s rest : ByteArray) (w : World) (hl : (40 : Int) < (s.size : Int))
    (k1 : ∀ W, Calls Tryz.prog 197 #[.string s, .string ⟨#[118]⟩] W fun e w' => e = .returned (.tuple #[.string rest, .bool true]) ∧ w' = W) :
    Calls Tryz.prog 153 #[.string s] w fun e w' => e = .returned (.tuple #[.agg #[.int .i64 0, .int .i64 0, .int .i64 0, .slice none 0 0], .bool false]) ∧ Below w.heap.size w w' := by
  go_enter Tryz.func153, Tryz.ntmps153
  go_wp2_with (go_at_call 197; refine (k1 _).mono ?_; rintro e w' ⟨rfl, rfl⟩)
  exact bodyPost_ret (v := .tuple #[.agg #[.int .i64 0, .int .i64 0, .int .i64 0, .slice none 0 0], .bool false]) (by simp [results, Tryz.results153, go_sem]) rfl ⟨rfl, (Below.refl _ _).alloc (Nat.le_refl _) _⟩

theorem first_block (w : World) (n : Nat) (w1 : World) (hb : Below ((w.alloc (.cells #[.int .i64 0, .int .i64 0, .int .i64 0, .slice none 0 0] 251)).drewN n).heap.size ((w.alloc (.cells #[.int .i64 0, .int .i64 0, .int .i64 0, .slice none 0 0] 251)).drewN n) w1) :
    w1.heap[w.heap.size]? = some (.cells #[.int .i64 0, .int .i64 0, .int .i64 0, .slice none 0 0] 251) ∧ Below w.heap.size w w1 ∧ w.heap.size < w1.heap.size := by
  have hs : ((w.alloc (.cells #[.int .i64 0, .int .i64 0, .int .i64 0, .slice none 0 0] 251)).drewN n).heap.size = w.heap.size + 1 := by show (w.heap.push _).size = _; simp
  have hz := hb.size
  rw [hs] at hb hz
  refine ⟨?_, ?_, by omega⟩
  · rw [hb.block _ (by omega)]
    show (w.heap.push _)[w.heap.size]? = _
    rw [Array.getElem?_push, if_pos rfl]
  · exact (((Below.refl _ _).alloc (Nat.le_refl _) _).trans (below_drewN' (Below.refl _ _) n)).trans (hb.mono (by omega))

set_option maxHeartbeats 1000000 in
theorem parseVersion_a3 (s rest front back : ByteArray) (pre : Bool) (w : World) (hl : (s.size : Int) ≤ 40)
    (k1 : ∀ W, Calls Tryz.prog 197 #[.string s, .string ⟨#[118]⟩] W fun e w' => e = .returned (.tuple #[.string rest, .bool true]) ∧ w' = W)
    (k2 : ∀ W, Below w.heap.size w W → Calls Tryz.prog 169 #[.string rest, .string ⟨#[45]⟩] W fun e w' => e = .returned (.tuple #[.string front, .string back, .bool pre]) ∧ ∃ n, w' = W.drewN n)
    (k3 : ∀ W, Below w.heap.size w W → Calls Tryz.prog 198 #[.string front] W fun e w' => e = .returned (.tuple #[.agg #[.int .i64 0, .int .i64 0, .int .i64 0], .bool false]) ∧ Below W.heap.size W w') :
    Calls Tryz.prog 153 #[.string s] w fun e w' => e = .returned (.tuple #[.agg #[.int .i64 0, .int .i64 0, .int .i64 0, .slice none 0 0], .bool false]) ∧ Below w.heap.size w w' := by
  have k2 := k2 (w.alloc (.cells #[.int .i64 0, .int .i64 0, .int .i64 0, .slice none 0 0] 251)) ((Below.refl _ _).alloc (Nat.le_refl _) _)
  have k3 := fun n => k3 ((w.alloc (.cells #[.int .i64 0, .int .i64 0, .int .i64 0, .slice none 0 0] 251)).drewN n) (below_drewN' ((Below.refl _ _).alloc (Nat.le_refl _) _) n)
  go_enter Tryz.func153, Tryz.ntmps153
  go_wp2_with (first | (go_at_call 197; refine (k1 _).mono ?_; rintro e w' ⟨rfl, rfl⟩) | (go_at_call 169; refine k2.mono ?_; rintro e w' ⟨rfl, n, rfl⟩) | (go_at_call 198; fail))
  refine (k3 _).mono ?_
  rintro e w1 ⟨rfl, hb⟩
  obtain ⟨hblk, hb1, hz1⟩ := first_block w _ w1 hb
  clear hb
  obtain ⟨⟨z0, z1, z2, z3⟩, ⟨f0, f1, f2, f3⟩⟩ := cells4 hblk
  clear hblk
  go_wp2
  exact bodyPost_ret (v := .tuple #[.agg #[.int .i64 0, .int .i64 0, .int .i64 0, .slice none 0 0], .bool false]) (by simp [results, Tryz.results153, go_sem, z0, z1, z2, z3, hz1]) rfl ⟨rfl, ((((hb1.setCell (Nat.le_refl _) _).setCell (Nat.le_refl _) _).setCell (Nat.le_refl _) _).setCell (Nat.le_refl _) _).alloc (by simp [World.setCell]; omega) _⟩

set_option maxHeartbeats 1000000 in
theorem parseVersion_a4 (s rest front back : ByteArray) (a b c : Int) (w : World) (hl : (s.size : Int) ≤ 40)
    (k1 : ∀ W, Calls Tryz.prog 197 #[.string s, .string ⟨#[118]⟩] W fun e w' => e = .returned (.tuple #[.string rest, .bool true]) ∧ w' = W)
    (k2 : ∀ W, Below w.heap.size w W → Calls Tryz.prog 169 #[.string rest, .string ⟨#[45]⟩] W fun e w' => e = .returned (.tuple #[.string front, .string back, .bool false]) ∧ ∃ n, w' = W.drewN n)
    (k3 : ∀ W, Below w.heap.size w W → Calls Tryz.prog 198 #[.string front] W fun e w' => e = .returned (.tuple #[.agg #[.int .i64 a, .int .i64 b, .int .i64 c], .bool true]) ∧ Below W.heap.size W w') :
    Calls Tryz.prog 153 #[.string s] w fun e w' => e = .returned (.tuple #[.agg #[.int .i64 a, .int .i64 b, .int .i64 c, .slice none 0 0], .bool true]) ∧ Below w.heap.size w w' := by
  have k2 := k2 (w.alloc (.cells #[.int .i64 0, .int .i64 0, .int .i64 0, .slice none 0 0] 251)) ((Below.refl _ _).alloc (Nat.le_refl _) _)
  have k3 := fun n => k3 ((w.alloc (.cells #[.int .i64 0, .int .i64 0, .int .i64 0, .slice none 0 0] 251)).drewN n) (below_drewN' ((Below.refl _ _).alloc (Nat.le_refl _) _) n)
  go_enter Tryz.func153, Tryz.ntmps153
  go_wp2_with (first | (go_at_call 197; refine (k1 _).mono ?_; rintro e w' ⟨rfl, rfl⟩) | (go_at_call 169; refine k2.mono ?_; rintro e w' ⟨rfl, n, rfl⟩) | (go_at_call 198; fail))
  refine (k3 _).mono ?_
  rintro e w1 ⟨rfl, hb⟩
  obtain ⟨hblk, hb1, hz1⟩ := first_block w _ w1 hb
  clear hb
  obtain ⟨⟨z0, z1, z2, z3⟩, ⟨f0, f1, f2, f3⟩⟩ := cells4 hblk
  clear hblk
  go_wp2
  exact bodyPost_ret (v := .tuple #[.agg #[.int .i64 a, .int .i64 b, .int .i64 c, .slice none 0 0], .bool true]) (by simp [results, Tryz.results153, go_sem, z0, z1, z2, z3, hz1]) rfl ⟨rfl, ((((hb1.setCell (Nat.le_refl _) _).setCell (Nat.le_refl _) _).setCell (Nat.le_refl _) _).setCell (Nat.le_refl _) _).alloc (by simp [World.setCell]; omega) _⟩

theorem cells_new (w1 : World) (o : Obj) (l : List ByteArray) (j : Nat) (hj : j < l.length) : ((w1.alloc o).alloc (.cells (l.map Value.string).toArray 9)).cell? ⟨w1.heap.size + 1, j, none⟩ = some (.string l[j]!) := by
  have hb : ((w1.alloc o).alloc (.cells (l.map Value.string).toArray 9)).heap[w1.heap.size + 1]? = some (.cells (l.map Value.string).toArray 9) := by
    show ((w1.heap.push o).push _)[w1.heap.size + 1]? = _
    rw [Array.getElem?_push, if_pos (by simp)]
  rw [World.cell?]
  dsimp only
  rw [hb]
  simp [hj]

set_option maxHeartbeats 1000000 in
theorem parseVersion_a5 (s rest front back : ByteArray) (l : List ByteArray) (a b c : Int) (w : World) (hl : (s.size : Int) ≤ 40) (h4 : (4 : Int) < (l.length : Int))
    (k1 : ∀ W, Calls Tryz.prog 197 #[.string s, .string ⟨#[118]⟩] W fun e w' => e = .returned (.tuple #[.string rest, .bool true]) ∧ w' = W)
    (k2 : ∀ W, Below w.heap.size w W → Calls Tryz.prog 169 #[.string rest, .string ⟨#[45]⟩] W fun e w' => e = .returned (.tuple #[.string front, .string back, .bool true]) ∧ ∃ n, w' = W.drewN n)
    (k3 : ∀ W, Below w.heap.size w W → Calls Tryz.prog 198 #[.string front] W fun e w' => e = .returned (.tuple #[.agg #[.int .i64 a, .int .i64 b, .int .i64 c], .bool true]) ∧ Below W.heap.size W w')
    (k4 : ∀ W, Below w.heap.size w W → Calls Tryz.prog 122 #[.string back, .string ⟨#[46]⟩] W fun e w' => e = .returned (.slice (some ⟨W.heap.size, 0, none⟩) l.length l.length) ∧ w' = W.alloc (.cells (l.map Value.string).toArray 9)) :
    Calls Tryz.prog 153 #[.string s] w fun e w' => e = .returned (.tuple #[.agg #[.int .i64 0, .int .i64 0, .int .i64 0, .slice none 0 0], .bool false]) ∧ Below w.heap.size w w' := by
  have k2 := k2 (w.alloc (.cells #[.int .i64 0, .int .i64 0, .int .i64 0, .slice none 0 0] 251)) ((Below.refl _ _).alloc (Nat.le_refl _) _)
  have k3 := fun n => k3 ((w.alloc (.cells #[.int .i64 0, .int .i64 0, .int .i64 0, .slice none 0 0] 251)).drewN n) (below_drewN' ((Below.refl _ _).alloc (Nat.le_refl _) _) n)
  go_enter Tryz.func153, Tryz.ntmps153
  go_wp2_with (first | (go_at_call 197; refine (k1 _).mono ?_; rintro e w' ⟨rfl, rfl⟩) | (go_at_call 169; refine k2.mono ?_; rintro e w' ⟨rfl, n, rfl⟩) | (go_at_call 198; fail))
  refine (k3 _).mono ?_
  rintro e w1 ⟨rfl, hb⟩
  obtain ⟨hblk, hb1, hz1⟩ := first_block w _ w1 hb
  clear hb
  obtain ⟨⟨z0, z1, z2, z3⟩, ⟨f0, f1, f2, f3⟩⟩ := cells4 hblk
  clear hblk
  have k4 := k4 (w1.alloc (.cells #[.int .i64 a, .int .i64 b, .int .i64 c] 249)) (hb1.alloc (by omega) _)
  go_wp2_with (go_at_call 122; refine k4.mono ?_; rintro e w' ⟨rfl, rfl⟩)
  exact bodyPost_ret (v := .tuple #[.agg #[.int .i64 0, .int .i64 0, .int .i64 0, .slice none 0 0], .bool false]) (by simp [results, Tryz.results153, go_sem, z0, z1, z2, z3, hz1]) rfl ⟨rfl, (((((hb1.setCell (Nat.le_refl _) _).setCell (Nat.le_refl _) _).setCell (Nat.le_refl _) _).setCell (Nat.le_refl _) _).alloc (by simp [World.setCell]; omega) _).alloc (by simp [World.setCell]; omega) _⟩

theorem old_cell (w1 : World) (o o2 : Obj) (q b i : Nat) (hb : b < w1.heap.size) : (((w1.alloc o).alloc o2).drewN q).cell? ⟨b, i, none⟩ = w1.cell? ⟨b, i, none⟩ :=
  (below_drewN' (((Below.refl w1.heap.size w1).alloc (Nat.le_refl _) o).alloc (by simp) o2) q).cell (p := ⟨b, i, none⟩) hb

set_option maxHeartbeats 1000000 in
theorem parseVersion_a6 (s rest front back : ByteArray) (l : List ByteArray) (a b c : Int) (w : World) (hl : (s.size : Int) ≤ 40) (h4 : (l.length : Int) ≤ 4)
    (k1 : ∀ W, Calls Tryz.prog 197 #[.string s, .string ⟨#[118]⟩] W fun e w' => e = .returned (.tuple #[.string rest, .bool true]) ∧ w' = W)
    (k2 : ∀ W, Below w.heap.size w W → Calls Tryz.prog 169 #[.string rest, .string ⟨#[45]⟩] W fun e w' => e = .returned (.tuple #[.string front, .string back, .bool true]) ∧ ∃ n, w' = W.drewN n)
    (k3 : ∀ W, Below w.heap.size w W → Calls Tryz.prog 198 #[.string front] W fun e w' => e = .returned (.tuple #[.agg #[.int .i64 a, .int .i64 b, .int .i64 c], .bool true]) ∧ Below W.heap.size W w')
    (k4 : ∀ W, Below w.heap.size w W → Calls Tryz.prog 122 #[.string back, .string ⟨#[46]⟩] W fun e w' => e = .returned (.slice (some ⟨W.heap.size, 0, none⟩) l.length l.length) ∧ w' = W.alloc (.cells (l.map Value.string).toArray 9))
    (k5 : ∀ W b, (∀ j, j < l.length → W.cell? ⟨b, j, none⟩ = some (.string l[j]!)) → Calls Tryz.prog 190 #[.slice (some ⟨b, 0, none⟩) l.length l.length, .func (.func 199) #[] #[]] W fun e w' => e = .returned (.bool true) ∧ ∃ q, w' = W.drewN q) :
    Calls Tryz.prog 153 #[.string s] w fun e w' => e = .returned (.tuple #[.agg #[.int .i64 0, .int .i64 0, .int .i64 0, .slice none 0 0], .bool false]) ∧ Below w.heap.size w w' := by
  have k2 := k2 (w.alloc (.cells #[.int .i64 0, .int .i64 0, .int .i64 0, .slice none 0 0] 251)) ((Below.refl _ _).alloc (Nat.le_refl _) _)
  have k3 := fun n => k3 ((w.alloc (.cells #[.int .i64 0, .int .i64 0, .int .i64 0, .slice none 0 0] 251)).drewN n) (below_drewN' ((Below.refl _ _).alloc (Nat.le_refl _) _) n)
  go_enter Tryz.func153, Tryz.ntmps153
  go_wp2_with (first | (go_at_call 197; refine (k1 _).mono ?_; rintro e w' ⟨rfl, rfl⟩) | (go_at_call 169; refine k2.mono ?_; rintro e w' ⟨rfl, n, rfl⟩) | (go_at_call 198; fail))
  refine (k3 _).mono ?_
  rintro e w1 ⟨rfl, hb⟩
  obtain ⟨hblk, hb1, hz1⟩ := first_block w _ w1 hb
  clear hb
  obtain ⟨⟨z0, z1, z2, z3⟩, ⟨f0, f1, f2, f3⟩⟩ := cells4 hblk
  clear hblk
  have k4 := k4 (w1.alloc (.cells #[.int .i64 a, .int .i64 b, .int .i64 c] 249)) (hb1.alloc (by omega) _)
  have k5 := k5 ((w1.alloc (.cells #[.int .i64 a, .int .i64 b, .int .i64 c] 249)).alloc (.cells (l.map Value.string).toArray 9)) (w1.heap.size + 1) (fun j hj => cells_new w1 _ l j hj)
  go_wp2_with (first | (go_at_call 122; refine k4.mono ?_; rintro e w' ⟨rfl, rfl⟩) | (go_at_call 190; refine k5.mono ?_; rintro e w' ⟨rfl, q, rfl⟩))
  have y0 := (old_cell w1 (.cells #[.int .i64 a, .int .i64 b, .int .i64 c] 249) (.cells (l.map Value.string).toArray 9) q w.heap.size 0 hz1).trans z0
  have y1 := (old_cell w1 (.cells #[.int .i64 a, .int .i64 b, .int .i64 c] 249) (.cells (l.map Value.string).toArray 9) q w.heap.size 1 hz1).trans z1
  have y2 := (old_cell w1 (.cells #[.int .i64 a, .int .i64 b, .int .i64 c] 249) (.cells (l.map Value.string).toArray 9) q w.heap.size 2 hz1).trans z2
  have y3 := (old_cell w1 (.cells #[.int .i64 a, .int .i64 b, .int .i64 c] 249) (.cells (l.map Value.string).toArray 9) q w.heap.size 3 hz1).trans z3
  have HB := below_drewN' ((hb1.alloc (by omega) (.cells #[.int .i64 a, .int .i64 b, .int .i64 c] 249)).alloc (by simp; omega) (.cells (l.map Value.string).toArray 9)) q
  generalize (((w1.alloc (.cells #[.int .i64 a, .int .i64 b, .int .i64 c] 249)).alloc (.cells (l.map Value.string).toArray 9)).drewN q) = Y at y0 y1 y2 y3 HB ⊢
  exact bodyPost_ret (v := .tuple #[.agg #[.int .i64 0, .int .i64 0, .int .i64 0, .slice none 0 0], .bool false]) (by simp [results, Tryz.results153, go_sem, y0, y1, y2, y3]) rfl ⟨rfl, (((HB.setCell (Nat.le_refl _) _).setCell (Nat.le_refl _) _).setCell (Nat.le_refl _) _).setCell (Nat.le_refl _) _⟩

theorem slOf_end (w w1 : World) (o : Obj) (l : List ByteArray) (hne : l ≠ []) (q : Nat) (hz : w.heap.size < w1.heap.size) (v0 v1 v2 v3 : Value) :
    SlOf (((((((w1.alloc o).alloc (.cells (l.map Value.string).toArray 9)).drewN q).setCell ⟨w.heap.size, 0, none⟩ v0).setCell ⟨w.heap.size, 1, none⟩ v1).setCell ⟨w.heap.size, 2, none⟩ v2).setCell ⟨w.heap.size, 3, none⟩ v3) (.slice (some ⟨w1.heap.size + 1, 0, none⟩) l.length l.length) l := by
  refine Or.inr ⟨_, _, rfl, hne, ?_, fun j hj => ?_⟩
  · simp [World.setCell]
  · rw [← cells_new w1 o l j hj]
    apply World.cell?_of_block
    have hd : w1.heap.size + 1 ≠ w.heap.size := by omega
    show (World.setCell _ _ _).heap[w1.heap.size + 1]? = _
    rw [Below.heap_setCell _ _ _ _ hd, Below.heap_setCell _ _ _ _ hd, Below.heap_setCell _ _ _ _ hd, Below.heap_setCell _ _ _ _ hd]
    rfl

set_option maxHeartbeats 1000000 in
theorem parseVersion_a7 (s rest front back : ByteArray) (l : List ByteArray) (a b c : Int) (w : World) (hl : (s.size : Int) ≤ 40) (h4 : (l.length : Int) ≤ 4) (hne : l ≠ [])
    (k1 : ∀ W, Calls Tryz.prog 197 #[.string s, .string ⟨#[118]⟩] W fun e w' => e = .returned (.tuple #[.string rest, .bool true]) ∧ w' = W)
    (k2 : ∀ W, Below w.heap.size w W → Calls Tryz.prog 169 #[.string rest, .string ⟨#[45]⟩] W fun e w' => e = .returned (.tuple #[.string front, .string back, .bool true]) ∧ ∃ n, w' = W.drewN n)
    (k3 : ∀ W, Below w.heap.size w W → Calls Tryz.prog 198 #[.string front] W fun e w' => e = .returned (.tuple #[.agg #[.int .i64 a, .int .i64 b, .int .i64 c], .bool true]) ∧ Below W.heap.size W w')
    (k4 : ∀ W, Below w.heap.size w W → Calls Tryz.prog 122 #[.string back, .string ⟨#[46]⟩] W fun e w' => e = .returned (.slice (some ⟨W.heap.size, 0, none⟩) l.length l.length) ∧ w' = W.alloc (.cells (l.map Value.string).toArray 9))
    (k5 : ∀ W b, (∀ j, j < l.length → W.cell? ⟨b, j, none⟩ = some (.string l[j]!)) → Calls Tryz.prog 190 #[.slice (some ⟨b, 0, none⟩) l.length l.length, .func (.func 199) #[] #[]] W fun e w' => e = .returned (.bool false) ∧ ∃ q, w' = W.drewN q) :
    Calls Tryz.prog 153 #[.string s] w fun e w' => ∃ sl, e = .returned (.tuple #[.agg #[.int .i64 a, .int .i64 b, .int .i64 c, sl], .bool true]) ∧ Below w.heap.size w w' ∧ SlOf w' sl l := by
  have HN : Hid (l ≠ []) := hne
  clear hne
  have k2 := k2 (w.alloc (.cells #[.int .i64 0, .int .i64 0, .int .i64 0, .slice none 0 0] 251)) ((Below.refl _ _).alloc (Nat.le_refl _) _)
  have k3 := fun n => k3 ((w.alloc (.cells #[.int .i64 0, .int .i64 0, .int .i64 0, .slice none 0 0] 251)).drewN n) (below_drewN' ((Below.refl _ _).alloc (Nat.le_refl _) _) n)
  go_enter Tryz.func153, Tryz.ntmps153
  go_wp2_with (first | (go_at_call 197; refine (k1 _).mono ?_; rintro e w' ⟨rfl, rfl⟩) | (go_at_call 169; refine k2.mono ?_; rintro e w' ⟨rfl, n, rfl⟩) | (go_at_call 198; fail))
  refine (k3 _).mono ?_
  rintro e w1 ⟨rfl, hb⟩
  obtain ⟨hblk, hb1, hz1⟩ := first_block w _ w1 hb
  clear hb
  obtain ⟨⟨z0, z1, z2, z3⟩, ⟨f0, f1, f2, f3⟩⟩ := cells4 hblk
  clear hblk
  have k4 := k4 (w1.alloc (.cells #[.int .i64 a, .int .i64 b, .int .i64 c] 249)) (hb1.alloc (by omega) _)
  have k5 := k5 ((w1.alloc (.cells #[.int .i64 a, .int .i64 b, .int .i64 c] 249)).alloc (.cells (l.map Value.string).toArray 9)) (w1.heap.size + 1) (fun j hj => cells_new w1 _ l j hj)
  go_wp2_with (first | (go_at_call 122; refine k4.mono ?_; rintro e w' ⟨rfl, rfl⟩) | (go_at_call 190; refine k5.mono ?_; rintro e w' ⟨rfl, q, rfl⟩))
  have y0 := (old_cell w1 (.cells #[.int .i64 a, .int .i64 b, .int .i64 c] 249) (.cells (l.map Value.string).toArray 9) q w.heap.size 0 hz1).trans z0
  have y1 := (old_cell w1 (.cells #[.int .i64 a, .int .i64 b, .int .i64 c] 249) (.cells (l.map Value.string).toArray 9) q w.heap.size 1 hz1).trans z1
  have y2 := (old_cell w1 (.cells #[.int .i64 a, .int .i64 b, .int .i64 c] 249) (.cells (l.map Value.string).toArray 9) q w.heap.size 2 hz1).trans z2
  have y3 := (old_cell w1 (.cells #[.int .i64 a, .int .i64 b, .int .i64 c] 249) (.cells (l.map Value.string).toArray 9) q w.heap.size 3 hz1).trans z3
  have HB := below_drewN' ((hb1.alloc (by omega) (.cells #[.int .i64 a, .int .i64 b, .int .i64 c] 249)).alloc (by simp; omega) (.cells (l.map Value.string).toArray 9)) q
  have HS := slOf_end w w1 (.cells #[.int .i64 a, .int .i64 b, .int .i64 c] 249) l HN.out q hz1 (.int .i64 a) (.int .i64 b) (.int .i64 c) (.slice (some ⟨w1.heap.size + 1, 0, none⟩) l.length l.length)
  generalize (((w1.alloc (.cells #[.int .i64 a, .int .i64 b, .int .i64 c] 249)).alloc (.cells (l.map Value.string).toArray 9)).drewN q) = Y at y0 y1 y2 y3 HB HS ⊢
  exact bodyPost_ret (v := .tuple #[.agg #[.int .i64 a, .int .i64 b, .int .i64 c, .slice (some ⟨w1.heap.size + 1, 0, none⟩) l.length l.length], .bool true]) (by simp [results, Tryz.results153, go_sem, y0, y1, y2, y3]) rfl ⟨_, rfl, (((HB.setCell (Nat.le_refl _) _).setCell (Nat.le_refl _) _).setCell (Nat.le_refl _) _).setCell (Nat.le_refl _) _, HS⟩

end Go.Proofs.YtelmkfkgpnadnaaGreatDoor

namespace Go.Proofs.YtelmkfkgpnadnaaGreatDoor
open Go.RowKit

/-- Strings that are short. -/
structure Short where
  val : ByteArray
  property : val.size ≤ 40

theorem short_list : ∀ (l : List ByteArray), (∀ x ∈ l, x.size ≤ 40) → ∃ z : List Short, z.map Short.val = l
  | [], _ => ⟨[], rfl⟩
  | x :: t, h => by
    obtain ⟨z, hz⟩ := short_list t (fun y hy => h y (by simp [hy]))
    exact ⟨⟨x, h x (by simp)⟩ :: z, by simp [hz]⟩

theorem containsFunc_any (l : List ByteArray) (hl : ∀ x ∈ l, x.size ≤ 40) (hn : l.length ≤ 40) (b c : Nat) (W : World) (hc : ∀ j, j < l.length → W.cell? ⟨b, j, none⟩ = some (.string l[j]!)) :
    Calls Tryz.prog 190 #[.slice (some ⟨b, 0, none⟩) l.length c, .func (.func 199) #[] #[]] W fun e w' => e = .returned (.bool ((l.map (·.data.toList)).any Pv.noId)) ∧ ∃ q, w' = W.drewN q := by
  letI : Inhabited Short := ⟨⟨ByteArray.empty, by decide⟩⟩
  obtain ⟨z, rfl⟩ := short_list l hl
  have hp : PredAt Tryz.prog 199 #[] (fun x : Short => Value.string x.val) (fun x => Pv.noId x.val.data.toList) W := by
    intro W' x _
    refine (isNoIdentifier_any x.val W' (by have := x.property; unfold maxLen; omega)).mono ?_
    rintro e w' ⟨rfl, rfl⟩
    exact ⟨rfl, 0, rfl⟩
  have k := Tryz.slices_ContainsFunc (fun x : Short => Value.string x.val) (fun x => Pv.noId x.val.data.toList) 199 #[] enters23 b 0 z.length c z W hp (Nat.le_refl _) (by simp at hn; omega) (by
    intro j hj
    have := hc j (by simpa using hj)
    rw [Nat.zero_add, this, getElem!_pos _ j (by simpa using hj), getElem!_pos z j hj]
    simp)
  rw [List.take_length] at k
  rw [List.length_map, List.map_map, List.any_map]
  exact k

theorem hasPrefix_v (l : List UInt8) : Lib.hasPrefix l [118] = decide (l.head? = some 118) := by
  cases l with
  | nil => rfl
  | cons c t =>
    unfold Lib.hasPrefix
    by_cases h : c = 118
    · subst h; simp [List.isPrefixOf]
    · have : ¬ (118 = c) := fun e => h e.symm
      simp [List.isPrefixOf, h, this]
theorem trimPrefix_v (l : List UInt8) (h : l.head? = some 118) : Lib.trimPrefix l [118] = l.tail := by
  unfold Lib.trimPrefix
  rw [hasPrefix_v, decide_eq_true h]
  cases l <;> simp

theorem spl_len_count (c : UInt8) : ∀ l : List UInt8, (Pv.spl c l).length ≤ l.length + 1
  | [] => by simp [Pv.spl]
  | b :: t => by
    have := spl_len_count c t
    unfold Pv.spl
    split
    · simp; exact this
    · split
      · simp
      · rename_i p ps e
        rw [e] at this
        simp at this ⊢; omega

theorem cutc_len (c : UInt8) : ∀ l : List UInt8, (Pv.cutc c l).1.length ≤ l.length ∧ ∀ b, (Pv.cutc c l).2 = some b → b.length ≤ l.length
  | [] => by simp [Pv.cutc]
  | x :: t => by
    have := cutc_len c t
    unfold Pv.cutc
    split
    · simp
    · simp
      refine ⟨this.1, fun b hb => ?_⟩
      have := this.2 b hb
      omega

/-- All that the reading of a version calls, at one string. -/
theorem reading (s : ByteArray) (w : World) (hm : Ml w) (h118 : s.data.toList.head? = some 118) (h40 : s.size ≤ 40) :
    ∃ rest front back : ByteArray, front.data.toList = (Pv.cutc 45 s.data.toList.tail).1 ∧ (∀ b, (Pv.cutc 45 s.data.toList.tail).2 = some b → back.data.toList = b) ∧ front.size ≤ 40 ∧ back.size ≤ 40 ∧
      (∀ W, Calls Tryz.prog 197 #[.string s, .string ⟨#[118]⟩] W fun e w' => e = .returned (.tuple #[.string rest, .bool true]) ∧ w' = W) ∧
      (∀ W, Below w.heap.size w W → Calls Tryz.prog 169 #[.string rest, .string ⟨#[45]⟩] W fun e w' => e = .returned (.tuple #[.string front, .string back, .bool (Pv.cutc 45 s.data.toList.tail).2.isSome]) ∧ ∃ n, w' = W.drewN n) := by
  have hsz := Lib.size_eq s
  have htl : s.data.toList.tail.length ≤ 40 := by rw [List.length_tail]; omega
  have hcl := cutc_len 45 s.data.toList.tail
  have e1 : (⟨s.data.toList.tail.toArray⟩ : ByteArray).data.toList = s.data.toList.tail := rfl
  have hcut := Pv.cut_cutc 45 s.data.toList.tail
  refine ⟨⟨s.data.toList.tail.toArray⟩, ⟨(Pv.cutc 45 s.data.toList.tail).1.toArray⟩, ⟨((Pv.cutc 45 s.data.toList.tail).2.getD []).toArray⟩, rfl, ?_, ?_, ?_, ?_, ?_⟩
  · intro b hb
    show (Pv.cutc 45 s.data.toList.tail).2.getD [] = b
    rw [hb]; rfl
  · rw [Lib.size_eq]
    show (Pv.cutc 45 s.data.toList.tail).1.length ≤ 40
    omega
  · rw [Lib.size_eq]
    show ((Pv.cutc 45 s.data.toList.tail).2.getD []).length ≤ 40
    cases hb : (Pv.cutc 45 s.data.toList.tail).2 with
    | none => simp
    | some b => have := hcl.2 b hb; simp; omega
  · intro W
    have k := Tryz.strings_CutPrefix s ⟨#[118]⟩ W
    rw [show (⟨#[118]⟩ : ByteArray).data.toList = [118] from rfl, hasPrefix_v, decide_eq_true h118, trimPrefix_v _ h118] at k
    exact k
  · intro W hb
    obtain ⟨m, hmm⟩ := hm.below hb
    have k := Tryz.strings_Cut ⟨s.data.toList.tail.toArray⟩ ⟨#[45]⟩ m W (by rw [Lib.size_eq, e1]; omega) hmm
    rw [show (⟨#[45]⟩ : ByteArray).data.toList = [45] from rfl, e1, hcut] at k
    exact k

theorem parseN_three {l : List UInt8} {ns : List (List UInt8)} (h : Pv.parseN l = some ns) : ∃ p q r, ns = [p, q, r] := by
  unfold Pv.parseN at h
  split at h
  · rename_i hc
    simp only [Option.some.injEq] at h
    rw [h] at hc
    match ns, hc.1 with
    | [p, q, r], _ => exact ⟨p, q, r, rfl⟩
  · simp at h

theorem parseVersion_none (s : ByteArray) (w : World) (hm : Ml w) (h : Pv.parse s.data.toList = none) :
    Calls Tryz.prog 153 #[.string s] w fun e w' => e = .returned (.tuple #[.agg #[.int .i64 0, .int .i64 0, .int .i64 0, .slice none 0 0], .bool false]) ∧ Below w.heap.size w w' := by
  by_cases h118 : s.data.toList.head? = some 118
  · by_cases h40 : s.size ≤ 40
    · obtain ⟨rest, front, back, hf, hbk, hfs, hbs, k1, k2⟩ := reading s w hm h118 h40
      unfold Pv.parse at h
      rw [if_pos ⟨h118, by rw [← Lib.size_eq]; exact h40⟩, ← hf] at h
      cases hN : Pv.parseN front.data.toList with
      | none =>
        exact parseVersion_a3 s rest front back _ w (by omega) k1 k2 (fun W hb => parseNumbers_none front W (hm.below hb) hfs hN)
      | some ns =>
        rw [hN] at h
        obtain ⟨p, q, r, rfl⟩ := parseN_three hN
        have k3 := fun W (hb : Below w.heap.size w W) => parseNumbers_some front W (hm.below hb) hfs p q r hN
        cases hb : (Pv.cutc 45 s.data.toList.tail).2 with
        | none => rw [hb] at h; simp at h
        | some b =>
          rw [hb] at h k2
          simp only [Option.map_eq_none_iff] at h
          have hbe := hbk b hb
          obtain ⟨l, hl, hz, k4⟩ := split_any back (by omega)
          rw [hbe] at hl
          have k4 := fun W (hb : Below w.heap.size w W) => k4 W (hm.below hb)
          unfold Pv.parseI at h
          rw [← hl] at h
          by_cases h4 : l.length ≤ 4
          · have hany : (l.map (·.data.toList)).any Pv.noId = true := by
              cases ha : (l.map (·.data.toList)).any Pv.noId with
              | true => rfl
              | false => rw [if_pos ⟨by simpa using h4, ha⟩] at h; simp at h
            have k5 := fun W b (hc : ∀ j, j < l.length → W.cell? ⟨b, j, none⟩ = some (.string l[j]!)) => containsFunc_any l (fun x hx => by have := hz x hx; omega) (by omega) b l.length W hc
            rw [hany] at k5
            exact parseVersion_a6 s rest front back l _ _ _ w (by omega) (by omega) k1 k2 k3 k4 k5
          · exact parseVersion_a5 s rest front back l _ _ _ w (by omega) (by omega) k1 k2 k3 k4
    · have k1 := fun W => Tryz.strings_CutPrefix s ⟨#[118]⟩ W
      rw [show (⟨#[118]⟩ : ByteArray).data.toList = [118] from rfl, hasPrefix_v, decide_eq_true h118] at k1
      exact parseVersion_a2 s _ w (by omega) k1
  · have k1 := fun W => Tryz.strings_CutPrefix s ⟨#[118]⟩ W
    rw [show (⟨#[118]⟩ : ByteArray).data.toList = [118] from rfl, hasPrefix_v, decide_eq_false h118] at k1
    exact parseVersion_a1 s _ w k1

theorem parseVersion_some (s : ByteArray) (w : World) (hm : Ml w) (v : List (List UInt8) × List (List UInt8)) (h : Pv.parse s.data.toList = some v) :
    ∃ (p q r : List UInt8) (l : List ByteArray), v = ([p, q, r], l.map (·.data.toList)) ∧ l.length ≤ 4 ∧ (∀ x ∈ l, x.size ≤ 8) ∧
      Calls Tryz.prog 153 #[.string s] w fun e w' => ∃ sl, e = .returned (.tuple #[.agg #[.int .i64 (Pv.val p), .int .i64 (Pv.val q), .int .i64 (Pv.val r), sl], .bool true]) ∧ Below w.heap.size w w' ∧ SlOf w' sl l := by
  unfold Pv.parse at h
  split at h
  · rename_i hc
    obtain ⟨h118, h40⟩ := hc
    rw [← Lib.size_eq] at h40
    obtain ⟨rest, front, back, hf, hbk, hfs, hbs, k1, k2⟩ := reading s w hm h118 h40
    rw [← hf] at h
    cases hN : Pv.parseN front.data.toList with
    | none => rw [hN] at h; simp at h
    | some ns =>
      rw [hN] at h
      obtain ⟨p, q, r, rfl⟩ := parseN_three hN
      have k3 := fun W (hb : Below w.heap.size w W) => parseNumbers_some front W (hm.below hb) hfs p q r hN
      cases hb : (Pv.cutc 45 s.data.toList.tail).2 with
      | none =>
        rw [hb] at h k2
        simp only [Option.some.injEq] at h
        refine ⟨p, q, r, [], by rw [← h]; rfl, by simp, by simp, ?_⟩
        refine (parseVersion_a4 s rest front back _ _ _ w (by omega) k1 k2 k3).mono ?_
        rintro e w' ⟨rfl, hb'⟩
        exact ⟨_, rfl, hb', Or.inl ⟨rfl, rfl⟩⟩
      | some b =>
        rw [hb] at h k2
        have hbe := hbk b hb
        obtain ⟨l, hl, hz, k4⟩ := split_any back (by omega)
        rw [hbe] at hl
        have k4 := fun W (hb : Below w.heap.size w W) => k4 W (hm.below hb)
        dsimp only at h
        unfold Pv.parseI at h
        rw [← hl] at h
        split at h
        · rename_i hc
          obtain ⟨h4, hany⟩ := hc
          simp only [Option.map_some, Option.some.injEq] at h
          have h4' : l.length ≤ 4 := by simpa using h4
          have k5 := fun W b (hc : ∀ j, j < l.length → W.cell? ⟨b, j, none⟩ = some (.string l[j]!)) => containsFunc_any l (fun x hx => by have := hz x hx; omega) (by omega) b l.length W hc
          rw [hany] at k5
          refine ⟨p, q, r, l, h.symm, h4', ?_, ?_⟩
          · intro x hx
            have := List.any_eq_false.1 hany x.data.toList (List.mem_map_of_mem hx)
            simp only [Bool.not_eq_true] at this
            unfold Pv.noId at this
            simp only [Bool.or_eq_false_iff, decide_eq_false_iff_not] at this
            rw [Lib.size_eq]; omega
          · have hne : l ≠ [] := by
              intro e
              rw [e] at hl
              exact Pv.spl_ne 46 b hl.symm
            exact parseVersion_a7 s rest front back l _ _ _ w (by omega) (by omega) hne k1 k2 k3 k4 k5
        · simp at h
  · simp at h

end Go.Proofs.YtelmkfkgpnadnaaGreatDoor
