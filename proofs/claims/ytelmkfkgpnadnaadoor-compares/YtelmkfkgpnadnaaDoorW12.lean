/-
  The program's Compare.
-/
import Derived.Test.YtelmkfkgpnadnaaDoorW11
namespace Go.Proofs.YtelmkfkgpnadnaaDoor
open Go.RowKit

theorem SlOf.shape {w : World} {v : Value} {ids : List ByteArray} (h : SlOf w v ids) : ∃ ad n k, v = .slice ad n k := by
  rcases h with ⟨_, h⟩ | ⟨b, c, h, _⟩
  · exact ⟨_, _, _, h⟩
  · exact ⟨_, _, _, h⟩

set_option maxHeartbeats 1000000 in
theorem compare_no1 (a b : ByteArray) (q : Bool) (w : World)
    (k1 : ∀ W, Below w.heap.size w W → Calls Tryd.prog 14 #[.string a] W fun e w' => e = .returned (.tuple #[.agg #[.int .i64 0, .int .i64 0, .int .i64 0, .slice none 0 0], .bool false]) ∧ Below W.heap.size W w')
    (k2 : ∀ W, Below w.heap.size w W → Calls Tryd.prog 14 #[.string b] W fun e w' => ∃ (i0 i1 i2 : Int) (ad : Option Addr) (n k : Nat), e = .returned (.tuple #[.agg #[.int .i64 i0, .int .i64 i1, .int .i64 i2, .slice ad n k], .bool q]) ∧ Below W.heap.size W w') :
    Calls Tryd.prog 7 #[.string a, .string b] w fun e w' => e = .returned (.tuple #[.int .i64 0, .int .i64 3]) ∧ Below w.heap.size w w' := by
  go_enter Tryd.func7, Tryd.ntmps7
  go_wp2_with (go_at_call 14; fail)
  refine (k1 _ (Below.refl _ _)).mono ?_
  rintro e w1 ⟨rfl, hb1⟩
  go_wp2_with (go_at_call 14; fail)
  refine (k2 _ (hb1.alloc hb1.size _)).mono ?_
  rintro e w2 ⟨i0, i1, i2, ad, n, k, rfl, hb2⟩
  have hz1 := hb1.size
  have hz2 : w1.heap.size + 1 ≤ w2.heap.size := by have := hb2.size; simpa using this
  have HB : Below w.heap.size w w2 := (hb1.alloc hz1 _).trans (hb2.mono (by simp; omega))
  clear hb1 hb2
  go_wp2
  go_ret2
  exact ⟨rfl, HB.alloc (by omega) _⟩

set_option maxHeartbeats 1000000 in
theorem compare_no2 (a b : ByteArray) (w : World)
    (k1 : ∀ W, Below w.heap.size w W → Calls Tryd.prog 14 #[.string a] W fun e w' => ∃ (i0 i1 i2 : Int) (ad : Option Addr) (n k : Nat), e = .returned (.tuple #[.agg #[.int .i64 i0, .int .i64 i1, .int .i64 i2, .slice ad n k], .bool true]) ∧ Below W.heap.size W w')
    (k2 : ∀ W, Below w.heap.size w W → Calls Tryd.prog 14 #[.string b] W fun e w' => e = .returned (.tuple #[.agg #[.int .i64 0, .int .i64 0, .int .i64 0, .slice none 0 0], .bool false]) ∧ Below W.heap.size W w') :
    Calls Tryd.prog 7 #[.string a, .string b] w fun e w' => e = .returned (.tuple #[.int .i64 0, .int .i64 3]) ∧ Below w.heap.size w w' := by
  go_enter Tryd.func7, Tryd.ntmps7
  go_wp2_with (go_at_call 14; fail)
  refine (k1 _ (Below.refl _ _)).mono ?_
  rintro e w1 ⟨i0, i1, i2, ad, n, k, rfl, hb1⟩
  go_wp2_with (go_at_call 14; fail)
  refine (k2 _ (hb1.alloc hb1.size _)).mono ?_
  rintro e w2 ⟨rfl, hb2⟩
  have hz1 := hb1.size
  have hz2 : w1.heap.size + 1 ≤ w2.heap.size := by have := hb2.size; simpa using this
  have HB : Below w.heap.size w w2 := (hb1.alloc hz1 _).trans (hb2.mono (by simp; omega))
  clear hb1 hb2
  go_wp2
  go_ret2
  exact ⟨rfl, HB.alloc (by omega) _⟩

set_option maxHeartbeats 1000000 in
theorem compare_yes (a b : ByteArray) (x0 x1 x2 y0 y1 y2 r : Int) (l m : List ByteArray) (w : World)
    (k1 : ∀ W, Below w.heap.size w W → Calls Tryd.prog 14 #[.string a] W fun e w' => ∃ sl, e = .returned (.tuple #[.agg #[.int .i64 x0, .int .i64 x1, .int .i64 x2, sl], .bool true]) ∧ Below W.heap.size W w' ∧ SlOf w' sl l)
    (k2 : ∀ W, Below w.heap.size w W → Calls Tryd.prog 14 #[.string b] W fun e w' => ∃ sl, e = .returned (.tuple #[.agg #[.int .i64 y0, .int .i64 y1, .int .i64 y2, sl], .bool true]) ∧ Below W.heap.size W w' ∧ SlOf w' sl m)
    (k3 : ∀ W sl sl', SlOf W sl l → SlOf W sl' m → Calls Tryd.prog 15 #[.agg #[.int .i64 x0, .int .i64 x1, .int .i64 x2, sl], .agg #[.int .i64 y0, .int .i64 y1, .int .i64 y2, sl']] W fun e w' => e = .returned (.int .i64 r) ∧ Below W.heap.size W w') :
    Calls Tryd.prog 7 #[.string a, .string b] w fun e w' => e = .returned (.tuple #[.int .i64 r, .int .i64 0]) ∧ Below w.heap.size w w' := by
  go_enter Tryd.func7, Tryd.ntmps7
  go_wp2_with (go_at_call 14; fail)
  refine (k1 _ (Below.refl _ _)).mono ?_
  rintro e w1 ⟨sl, rfl, hb1, s1⟩
  obtain ⟨ad, n, k, hsl⟩ := s1.shape
  rw [hsl] at s1 ⊢
  clear hsl
  have S1 : Hid (SlOf w1 (.slice ad n k) l) := s1
  clear s1
  go_wp2_with (go_at_call 14; fail)
  refine (k2 _ (hb1.alloc hb1.size _)).mono ?_
  rintro e w2 ⟨sl', rfl, hb2, s2⟩
  obtain ⟨ad', n', k', hsl'⟩ := s2.shape
  rw [hsl'] at s2 ⊢
  clear hsl'
  have hz1 := hb1.size
  have hz2 : w1.heap.size < w2.heap.size := by have := hb2.size; simp at this; omega
  have hblk : w2.heap[w1.heap.size]? = some (.cells #[.int .i64 x0, .int .i64 x1, .int .i64 x2, .slice ad n k] 39) := by
    rw [hb2.block _ (by simp)]
    show (w1.heap.push _)[w1.heap.size]? = _
    rw [Array.getElem?_push, if_pos rfl]
  obtain ⟨⟨z0, z1, z2, z3⟩, _⟩ := cells4 hblk
  clear hblk
  have hbB : Below w1.heap.size w1 w2 := ((Below.refl w1.heap.size w1).alloc (Nat.le_refl _) _).trans (hb2.mono (by simp))
  have S1' : Hid (SlOf (w2.alloc (.cells #[.int .i64 y0, .int .i64 y1, .int .i64 y2, .slice ad' n' k'] 39)) (.slice ad n k) l) := S1.out.below (hbB.alloc (by omega) _)
  have S2' : Hid (SlOf (w2.alloc (.cells #[.int .i64 y0, .int .i64 y1, .int .i64 y2, .slice ad' n' k'] 39)) (.slice ad' n' k') m) := s2.below ((Below.refl _ _).alloc (Nat.le_refl _) _)
  have HB : Below w.heap.size w w2 := (hb1.alloc hz1 _).trans (hb2.mono (by simp; omega))
  clear hb1 hb2 s2 S1 hbB
  have k3 := k3 _ _ _ S1'.out S2'.out
  clear S1' S2'
  go_wp2_with (go_at_call 15; refine k3.mono ?_; rintro e w3 ⟨rfl, hb3⟩)
  go_ret2
  exact ⟨rfl, (HB.alloc (by omega) _).trans (hb3.mono (by simp; omega))⟩

theorem map_data_inj : ∀ l l' : List ByteArray, l.map (·.data.toList) = l'.map (·.data.toList) → l = l'
  | [], [], _ => rfl
  | [], _ :: _, h => by simp at h
  | _ :: _, [], h => by simp at h
  | x :: t, y :: u, h => by
    simp only [List.map_cons, List.cons.injEq] at h
    have e : x = y := by
      obtain ⟨⟨a⟩⟩ := x
      obtain ⟨⟨b⟩⟩ := y
      have : a = b := h.1
      rw [this]
    rw [e, map_data_inj t u h.2]

theorem SlOf.zero (w : World) : SlOf w (.slice none 0 0) [] := Or.inl ⟨rfl, rfl⟩

/-- The program's Compare: its two results. -/
theorem compare_any (a b : ByteArray) (w : World) (hm : Ml w) :
    Calls Tryd.prog 7 #[.string a, .string b] w fun e w' => e = .returned (.tuple #[.int .i64 (Pv.cmpR a.data.toList b.data.toList).1, .int .i64 (Pv.cmpR a.data.toList b.data.toList).2]) ∧ Below w.heap.size w w' := by
  unfold Pv.cmpR
  cases ha : Pv.parse a.data.toList with
  | none =>
    have k1 := fun W (hb : Below w.heap.size w W) => parseVersion_none a W (hm.below hb) ha
    cases hb : Pv.parse b.data.toList with
    | none =>
      refine compare_no1 a b false w k1 (fun W hbw => (parseVersion_none b W (hm.below hbw) hb).mono ?_)
      rintro e w' ⟨rfl, h⟩
      exact ⟨_, _, _, _, _, _, rfl, h⟩
    | some v =>
      obtain ⟨p, q, r, l, rfl, _, _, _⟩ := parseVersion_some b w hm v hb
      refine compare_no1 a b true w k1 (fun W hbw => ?_)
      obtain ⟨p, q, r, l, _, _, _, k⟩ := parseVersion_some b W (hm.below hbw) _ hb
      refine k.mono ?_
      rintro e w' ⟨sl, rfl, h, hs⟩
      obtain ⟨ad, n, k, rfl⟩ := hs.shape
      exact ⟨_, _, _, _, _, _, rfl, h⟩
  | some u =>
    cases hb : Pv.parse b.data.toList with
    | none =>
      refine compare_no2 a b w (fun W hbw => ?_) (fun W hbw => parseVersion_none b W (hm.below hbw) hb)
      obtain ⟨p, q, r, l, _, _, _, k⟩ := parseVersion_some a W (hm.below hbw) _ ha
      refine k.mono ?_
      rintro e w' ⟨sl, rfl, h, hs⟩
      obtain ⟨ad, n, k, rfl⟩ := hs.shape
      exact ⟨_, _, _, _, _, _, rfl, h⟩
    | some v =>
      obtain ⟨p, q, r, l, rfl, hl4, hl8, _⟩ := parseVersion_some a w hm u ha
      obtain ⟨p', q', r', m, rfl, hm4, hm8, _⟩ := parseVersion_some b w hm v hb
      refine compare_yes a b (Pv.val p) (Pv.val q) (Pv.val r) (Pv.val p') (Pv.val q') (Pv.val r') _ l m w (fun W hbw => ?_) (fun W hbw => ?_) (fun W sl sl' h1 h2 => verCompare_any p q r p' q' r' l m sl sl' W h1 h2 hl4 hm4 hl8 hm8)
      · obtain ⟨p1, q1, r1, l1, e1, _, _, k⟩ := parseVersion_some a W (hm.below hbw) _ ha
        simp only [Prod.mk.injEq, List.cons.injEq, and_true] at e1
        obtain ⟨⟨rfl, rfl, rfl⟩, e2⟩ := e1
        rw [map_data_inj _ _ e2]
        exact k
      · obtain ⟨p1, q1, r1, l1, e1, _, _, k⟩ := parseVersion_some b W (hm.below hbw) _ hb
        simp only [Prod.mk.injEq, List.cons.injEq, and_true] at e1
        obtain ⟨⟨rfl, rfl, rfl⟩, e2⟩ := e1
        rw [map_data_inj _ _ e2]
        exact k

end Go.Proofs.YtelmkfkgpnadnaaDoor
