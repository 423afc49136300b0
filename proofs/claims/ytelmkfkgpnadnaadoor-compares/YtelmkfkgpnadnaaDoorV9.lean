/-
  The document's Compare; that the program's is the same; the law.
-/
import Derived.Test.YtelmkfkgpnadnaaDoorV8
namespace Go.Proofs.YtelmkfkgpnadnaaDoor
open Go.RowKit

theorem parse_lens {l : List UInt8} {v : List (List UInt8) × List (List UInt8)} (h : Pv.parse l = some v) : v.1.length = 3 ∧ v.2.length ≤ 4 := by
  unfold Pv.parse at h
  split at h
  · split at h
    · simp at h
    · rename_i ns hN
      obtain ⟨p, q, r, rfl⟩ := parseN_three hN
      split at h
      · simp at h; rw [← h]; simp
      · unfold Pv.parseI at h
        split at h
        · rename_i hc
          simp at h; rw [← h]
          exact ⟨rfl, hc.1⟩
        · simp at h
  · simp at h

theorem ids_back (ids : List (List UInt8)) : (ids.map fun x => (⟨x.toArray⟩ : ByteArray)).map (·.data.toList) = ids := by
  rw [List.map_map]
  conv => rhs; rw [← List.map_id ids]
  rfl

theorem words_any (a b : ByteArray) (w : World) (va vb : List (List UInt8) × List (List UInt8)) (ha : Pv.parse a.data.toList = some va) (hb : Pv.parse b.data.toList = some vb) :
    Calls Tryd.prog 17 #[.string a, .string b] w fun e w' => e = .returned (.int .i64 (Pv.cmpV va vb)) ∧ Below w.heap.size w w' := by
  rw [← Pv.refV_cmpV (Pv.parse_ids ha) (Pv.parse_ids hb)]
  obtain ⟨ns, is⟩ := va
  obtain ⟨ms, js⟩ := vb
  have la := parse_lens ha
  have lb := parse_lens hb
  have ia := Pv.parse_ids ha
  have ib := Pv.parse_ids hb
  have k1 := fun w => version_any a w
  have k2 := fun w => version_any b w
  rw [ha] at k1
  rw [hb] at k2
  have e1 := ids_back is
  have e2 := ids_back js
  have sz : ∀ (ids : List (List UInt8)), ids.any Pv.noId = false → ∀ x ∈ ids.map (fun x => (⟨x.toArray⟩ : ByteArray)), x.size ≤ 8 := by
    intro ids h x hx
    obtain ⟨y, hy, rfl⟩ := List.mem_map.1 hx
    have := List.any_eq_false.1 h y hy
    simp only [Bool.not_eq_true] at this
    unfold Pv.noId at this
    simp only [Bool.or_eq_false_iff, decide_eq_false_iff_not] at this
    rw [Lib.size_eq]
    show y.length ≤ 8
    omega
  refine words_core a b w ns ms (is.map fun x => ⟨x.toArray⟩) (js.map fun x => ⟨x.toArray⟩) _ ?_ ?_ la.1 lb.1 (by simpa using la.2) (by simpa using lb.2) (sz is ia) (sz js ib) ?_ ?_ ?_
  · intro W
    refine (k1 W).mono ?_
    rintro e w' ⟨v1, v2, ok, rfl, hbw, hok, hN, _, l, hl, _, hS⟩
    have : l = is.map fun x => (⟨x.toArray⟩ : ByteArray) := map_data_inj _ _ (by rw [hl, e1])
    rw [← this]
    exact ⟨_, _, _, rfl, hbw, hok, hN, hS⟩
  · intro W
    refine (k2 W).mono ?_
    rintro e w' ⟨v1, v2, ok, rfl, hbw, hok, hN, _, l, hl, _, hS⟩
    have : l = js.map fun x => (⟨x.toArray⟩ : ByteArray) := map_data_inj _ _ (by rw [hl, e2])
    rw [← this]
    exact ⟨_, _, _, rfl, hbw, hok, hN, hS⟩
  · intro h
    unfold Pv.refV
    rw [if_neg h]
  · intro h h0
    unfold Pv.refV
    rw [if_pos h]
    simp only [List.length_map] at h0
    rw [if_pos h0, List.length_map, List.length_map]
  · intro h h1 h2
    unfold Pv.refV
    simp only [List.length_map] at h1 h2
    rw [if_pos h, if_neg (by rintro (h | h); exact h1 h; exact h2 h), e1, e2]

set_option maxHeartbeats 1000000 in
theorem refCompare_no (a b : ByteArray) (p q : Bool) (w : World) (hpq : (p && q) = false)
    (k1 : ∀ W, Calls Tryd.prog 16 #[.string a] W fun e w' => e = .returned (.bool p) ∧ Below W.heap.size W w')
    (k2 : ∀ W, Calls Tryd.prog 16 #[.string b] W fun e w' => e = .returned (.bool q) ∧ Below W.heap.size W w') :
    Calls Tryd.prog 10 #[.string a, .string b] w fun e w' => e = .returned (.tuple #[.int .i64 0, .int .i64 3]) ∧ Below w.heap.size w w' := by
  cases p
  · clear hpq
    go_enter Tryd.func10, Tryd.ntmps10
    go_wp2_with (go_at_call 16; fail)
    refine (k1 _).mono ?_
    rintro e w1 ⟨rfl, hb1⟩
    go_wp2_with (go_at_call 16; refine (k2 _).mono ?_; rintro e w2 ⟨rfl, hb2⟩)
    go_ret2
    exact ⟨rfl, hb1.trans (hb2.mono hb1.size)⟩
  · have hq : q = false := by simpa using hpq
    rw [hq] at k2
    clear hpq hq
    go_enter Tryd.func10, Tryd.ntmps10
    go_wp2_with (go_at_call 16; fail)
    refine (k1 _).mono ?_
    rintro e w1 ⟨rfl, hb1⟩
    go_wp2_with (go_at_call 16; refine (k2 _).mono ?_; rintro e w2 ⟨rfl, hb2⟩)
    go_ret2
    exact ⟨rfl, hb1.trans (hb2.mono hb1.size)⟩

set_option maxHeartbeats 1000000 in
theorem refCompare_yes (a b : ByteArray) (r : Int) (w : World)
    (k1 : ∀ W, Calls Tryd.prog 16 #[.string a] W fun e w' => e = .returned (.bool true) ∧ Below W.heap.size W w')
    (k2 : ∀ W, Calls Tryd.prog 16 #[.string b] W fun e w' => e = .returned (.bool true) ∧ Below W.heap.size W w')
    (k3 : ∀ W, Calls Tryd.prog 17 #[.string a, .string b] W fun e w' => e = .returned (.int .i64 r) ∧ Below W.heap.size W w') :
    Calls Tryd.prog 10 #[.string a, .string b] w fun e w' => e = .returned (.tuple #[.int .i64 r, .int .i64 0]) ∧ Below w.heap.size w w' := by
  go_enter Tryd.func10, Tryd.ntmps10
  go_wp2_with (go_at_call 16; fail)
  refine (k1 _).mono ?_
  rintro e w1 ⟨rfl, hb1⟩
  go_wp2_with (first | (go_at_call 16; refine (k2 _).mono ?_; rintro e w2 ⟨rfl, hb2⟩) | (go_at_call 17; refine (k3 _).mono ?_; rintro e w3 ⟨rfl, hb3⟩))
  go_ret2
  have h12 := hb1.trans (hb2.mono hb1.size)
  exact ⟨rfl, h12.trans (hb3.mono h12.size)⟩

/-- The document's Compare: its two results: those of the program. -/
theorem refCompare_any (a b : ByteArray) (w : World) :
    Calls Tryd.prog 10 #[.string a, .string b] w fun e w' => e = .returned (.tuple #[.int .i64 (Pv.cmpR a.data.toList b.data.toList).1, .int .i64 (Pv.cmpR a.data.toList b.data.toList).2]) ∧ Below w.heap.size w w' := by
  have k1 := fun W => isVersion_any a W
  have k2 := fun W => isVersion_any b W
  unfold Pv.cmpR
  cases ha : Pv.parse a.data.toList with
  | none =>
    rw [ha] at k1
    exact refCompare_no a b false _ w rfl k1 k2
  | some va =>
    rw [ha] at k1
    cases hb : Pv.parse b.data.toList with
    | none =>
      rw [hb] at k2
      exact refCompare_no a b true false w rfl k1 k2
    | some vb =>
      rw [hb] at k2
      exact refCompare_yes a b _ w k1 k2 (fun W => words_any a b W va vb ha hb)

set_option maxHeartbeats 400000 in
theorem num_any (x : Int) (w : World) : Calls Tryd.prog 11 #[.int .i64 x] w fun e w' => e = .returned (.int .i64 x) ∧ w' = w := by
  go_enter Tryd.func11, Tryd.ntmps11
  go_wp2
  go_ret
  exact ⟨rfl, rfl⟩

set_option maxHeartbeats 1000000 in
theorem compared_any (a b : ByteArray) (w : World) (hm : Ml w) :
    Calls Tryd.prog 5 #[.string a, .string b] w fun e w' => e = .returned (.bool true) ∧ Below w.heap.size w w' := by
  have k1 := compare_any a b w hm
  have k2 := fun W => refCompare_any a b W
  generalize (Pv.cmpR a.data.toList b.data.toList).1 = x at k1 k2
  generalize (Pv.cmpR a.data.toList b.data.toList).2 = y at k1 k2
  have hx : (x == x) = true := by simp
  have hy : (y == y) = true := by simp
  clear hm
  go_enter Tryd.func5, Tryd.ntmps5
  go_wp2_with (first | (go_at_call 7; refine k1.mono ?_; rintro e w1 ⟨rfl, hb1⟩) | (go_at_call 10; refine (k2 _).mono ?_; rintro e w2 ⟨rfl, hb2⟩) | (go_at_call 11; refine (num_any _ _).mono ?_; rintro e w3 ⟨rfl, rfl⟩))
  go_ret
  exact ⟨rfl, hb1.trans (hb2.mono hb1.size)⟩

set_option maxHeartbeats 1000000 in
theorem compares_any (a b : ByteArray) (w : World) (hm : Ml w) :
    Calls Tryd.prog 3 #[.string a, .string b] w fun e w' => e = .returned (.bool true) ∧ Below w.heap.size w w' := by
  have k := fun x y W (hb : Below w.heap.size w W) => compared_any x y W (hm.below hb)
  clear hm
  go_enter Tryd.func3, Tryd.ntmps3
  go_wp2_with (go_at_call 5; fail)
  refine (k _ _ _ (Below.refl _ _)).mono ?_
  rintro e w1 ⟨rfl, hb1⟩
  go_wp2_with (go_at_call 5; fail)
  refine (k _ _ _ hb1).mono ?_
  rintro e w2 ⟨rfl, hb2⟩
  have hc2 := hb1.trans (hb2.mono hb1.size)
  clear hb2
  go_wp2_with (go_at_call 5; fail)
  refine (k _ _ _ hc2).mono ?_
  rintro e w3 ⟨rfl, hb3⟩
  have hc3 := hc2.trans (hb3.mono hc2.size)
  clear hb3
  go_wp2_with (go_at_call 5; fail)
  refine (k _ _ _ hc3).mono ?_
  rintro e w4 ⟨rfl, hb4⟩
  have hc4 := hc3.trans (hb4.mono hc3.size)
  clear hb4
  go_wp2_with (go_at_call 5; fail)
  refine (k _ _ _ hc4).mono ?_
  rintro e w5 ⟨rfl, hb5⟩
  have hc5 := hc4.trans (hb5.mono hc4.size)
  clear hb5
  go_wp2
  go_ret
  exact ⟨rfl, hc5⟩

end Go.Proofs.YtelmkfkgpnadnaaDoor
