/-
  The program's comparisons of words, of modules and of replacements, with the draws counted.
-/
import Derived.Test.YtelmkfkgpnadnaaGreatDoorKX1
import Derived.Test.YtelmkfkgpnadnaaGreatDoorKCA
namespace Go.Proofs.YtelmkfkgpnadnaaGreatDoor.Dr
open Go.RowKit

set_option maxHeartbeats 1000000 in
theorem compareWords_split (a b : ByteArray) (oa ob : Bool) (r : Int) (w : World)
    (k1 : ∀ W, Below w.heap.size w W → Calls Tryz.prog 153 #[.string a] W fun e w' => ∃ x0 x1 x2 ad n k, e = .returned (.tuple #[.agg #[.int .i64 x0, .int .i64 x1, .int .i64 x2, .slice ad n k], .bool oa]) ∧ Below W.heap.size W w')
    (k2 : ∀ W, Below w.heap.size w W → Calls Tryz.prog 153 #[.string b] W fun e w' => ∃ x0 x1 x2 ad n k, e = .returned (.tuple #[.agg #[.int .i64 x0, .int .i64 x1, .int .i64 x2, .slice ad n k], .bool ob]) ∧ Below W.heap.size W w')
    (hr : (oa = true ∧ ob = false ∧ r = 1) ∨ (oa = false ∧ ob = true ∧ r = -1) ∨ (oa = false ∧ ob = false ∧ r = Lib.compareBytes a.data.toList b.data.toList)) :
    Calls Tryz.prog 167 #[.string a, .string b] w fun e w' => e = .returned (.int .i64 r) ∧ Below w.heap.size w w' := by
  have k5 := Tryz.strings_Compare a b
  go_enter Tryz.func167, Tryz.ntmps167
  go_wp2_with (go_at_call 153; fail)
  refine (k1 _ (Below.refl _ _)).mono ?_
  rintro e w1 ⟨x0, x1, x2, ad, n, k, rfl, hb1⟩
  go_wp2_with (go_at_call 153; fail)
  refine (k2 _ (hb1.alloc hb1.size _)).mono ?_
  rintro e w2 ⟨y0, y1, y2, ad', n', k', rfl, hb2⟩
  have hz1 := hb1.size
  have HB : Hid (Below w.heap.size w w2) := (hb1.alloc hz1 _).trans (hb2.mono (by simp; omega))
  have HZ : Hid (w.heap.size ≤ w2.heap.size) := HB.out.size
  clear hb1 hb2 k1 k2 hz1
  rcases hr with ⟨rfl, rfl, rfl⟩ | ⟨rfl, rfl, rfl⟩ | ⟨rfl, rfl, rfl⟩
  · go_wp2
    go_ret
    exact ⟨rfl, HB.out.alloc HZ.out _⟩
  · go_wp2
    go_ret
    exact ⟨rfl, HB.out.alloc HZ.out _⟩
  · go_wp2_with (go_at_call 176; refine (k5 _).mono ?_; rintro e w' ⟨rfl, rfl⟩)
    go_ret
    exact ⟨rfl, HB.out.alloc HZ.out _⟩

theorem parse_no (a : ByteArray) (w : World) (hm : Ml w) (h : Pv.parse a.data.toList = none) : ∀ W, Below w.heap.size w W → Calls Tryz.prog 153 #[.string a] W fun e w' => ∃ x0 x1 x2 ad n k, e = .returned (.tuple #[.agg #[.int .i64 x0, .int .i64 x1, .int .i64 x2, .slice ad n k], .bool false]) ∧ Below W.heap.size W w' := fun W hb => by
  refine (parseVersion_none a W (hm.below hb) h).mono ?_
  rintro e w' ⟨rfl, hb'⟩
  exact ⟨0, 0, 0, none, 0, 0, rfl, hb'⟩

theorem parse_yes (a : ByteArray) (w : World) (hm : Ml w) {v : List (List UInt8) × List (List UInt8)} (h : Pv.parse a.data.toList = some v) : ∀ W, Below w.heap.size w W → Calls Tryz.prog 153 #[.string a] W fun e w' => ∃ x0 x1 x2 ad n k, e = .returned (.tuple #[.agg #[.int .i64 x0, .int .i64 x1, .int .i64 x2, .slice ad n k], .bool true]) ∧ Below W.heap.size W w' := fun W hb => by
  obtain ⟨p, q, r, l, e1, hl, hz, k⟩ := parseVersion_some a W (hm.below hb) _ h
  refine k.mono ?_
  rintro e w' ⟨sl, rfl, hb', hs⟩
  obtain ⟨ad, n, k, rfl⟩ := hs.shape
  exact ⟨_, _, _, ad, n, k, rfl, hb'⟩

/-- CompareWords, of any words. -/
theorem compareWords_all (a b : ByteArray) (w : World) (hm : Ml w) : Calls Tryz.prog 167 #[.string a, .string b] w fun e w' => e = .returned (.int .i64 (cmpWord a b)) ∧ Below w.heap.size w w' := by
  unfold cmpWord
  cases ha : Pv.parse a.data.toList with
  | none =>
    cases hb : Pv.parse b.data.toList with
    | none =>
      rw [Pv.cmpW_nn ha hb]
      exact compareWords_split a b false false _ w (parse_no a w hm ha) (parse_no b w hm hb) (Or.inr (Or.inr ⟨rfl, rfl, rfl⟩))
    | some y =>
      rw [Pv.cmpW_ns ha hb]
      exact compareWords_split a b false true _ w (parse_no a w hm ha) (parse_yes b w hm hb) (Or.inr (Or.inl ⟨rfl, rfl, rfl⟩))
  | some x =>
    cases hb : Pv.parse b.data.toList with
    | none =>
      rw [Pv.cmpW_sn ha hb]
      exact compareWords_split a b true false _ w (parse_yes a w hm ha) (parse_no b w hm hb) (Or.inl ⟨rfl, rfl, rfl⟩)
    | some y =>
      have va : IsV a := by unfold IsV; rw [ha]; rfl
      have vb : IsV b := by unfold IsV; rw [hb]; rfl
      have h1 := pv_of va
      have h2 := pv_of vb
      rw [Pv.cmpW_ss h1 h2]
      exact compareWords_any a b w hm va vb

/-- comparePaths -/
theorem comparePaths_any (p v q u : ByteArray) (w : World) : Calls Tryz.prog 127 #[.agg #[.string p, .string v], .agg #[.string q, .string u]] w fun e w' => e = .returned (.int .i64 (cmpPath p q)) ∧ Below w.heap.size w w' := by
  have k5 := Tryz.strings_Compare p q
  have HB : Hid (∀ o1 o2, Below w.heap.size w ((w.alloc o1).alloc o2)) := fun o1 o2 => ((Below.refl _ _).alloc (Nat.le_refl _) _).alloc (by simp) _
  go_enter Tryz.func127, Tryz.ntmps127
  go_wp2_with (go_at_call 176; refine (k5 _).mono ?_; rintro e w' ⟨rfl, rfl⟩)
  go_ret
  exact ⟨rfl, HB.out _ _⟩

set_option maxHeartbeats 1000000 in
/-- CompareModules -/
theorem compareModules_any (p v q u : ByteArray) (w : World) (hm : Ml w) : Calls Tryz.prog 128 #[.agg #[.string p, .string v], .agg #[.string q, .string u]] w fun e w' => e = .returned (.int .i64 (cmpMod (p, v) (q, u))) ∧ Below w.heap.size w w' := by
  have k5 : ∀ W, Calls Tryz.prog 176 #[.string p, .string q] W fun e w' => e = .returned (.int .i64 (cmpPath p q)) ∧ w' = W := Tryz.strings_Compare p q
  have HB : Hid (∀ o1 o2, Below w.heap.size w ((w.alloc o1).alloc o2)) := fun o1 o2 => ((Below.refl _ _).alloc (Nat.le_refl _) _).alloc (by simp) _
  have kw : Aside (∀ W, Below w.heap.size w W → Calls Tryz.prog 167 #[.string v, .string u] W fun e w' => e = .returned (.int .i64 (cmpWord v u)) ∧ Below W.heap.size W w') := fun W hb => compareWords_all v u W (hm.below hb)
  unfold cmpMod
  show Calls _ _ _ _ fun e w' => e = .returned (.int .i64 (if cmpPath p q = 0 then cmpWord v u else cmpPath p q)) ∧ Below w.heap.size w w'
  generalize cmpPath p q = c at k5 ⊢
  generalize cmpWord v u = r at kw ⊢
  clear hm
  by_cases hc : c = 0
  · subst hc
    rw [if_pos rfl]
    go_enter Tryz.func128, Tryz.ntmps128
    go_wp2_with (first | (go_at_call 176; refine (k5 _).mono ?_; rintro e w' ⟨rfl, rfl⟩) | (go_at_call 167; fail))
    go_at_call 167
    refine (kw.out _ (HB.out _ _)).mono ?_
    rintro e w1 ⟨rfl, hb1⟩
    have hb : Below w.heap.size w w1 := (HB.out _ _).trans (hb1.mono (by simp; omega))
    clear hb1
    go_wp2
    go_ret
    exact ⟨rfl, hb⟩
  · rw [if_neg hc]
    have hq : (c != 0) = true := by simp [hc]
    go_enter Tryz.func128, Tryz.ntmps128
    go_wp2_with (first | (go_at_call 176; refine (k5 _).mono ?_; rintro e w' ⟨rfl, rfl⟩) | (go_at_call 167; fail))
    go_ret
    exact ⟨rfl, HB.out _ _⟩

/-- compareSwaps -/
theorem compareSwaps_any (p v x q u y : ByteArray) (w : World) (hm : Ml w) : Calls Tryz.prog 130 #[.agg #[.string p, .string v, .string x], .agg #[.string q, .string u, .string y]] w fun e w' => e = .returned (.int .i64 (cmpMod (p, v) (q, u))) ∧ Below w.heap.size w w' := by
  have HB : Hid (∀ o1 o2, Below w.heap.size w ((w.alloc o1).alloc o2)) := fun o1 o2 => ((Below.refl _ _).alloc (Nat.le_refl _) _).alloc (by simp) _
  have kw : Aside (∀ W, Below w.heap.size w W → Calls Tryz.prog 128 #[.agg #[.string p, .string v], .agg #[.string q, .string u]] W fun e w' => e = .returned (.int .i64 (cmpMod (p, v) (q, u))) ∧ Below W.heap.size W w') := fun W hb => compareModules_any p v q u W (hm.below hb)
  generalize cmpMod (p, v) (q, u) = r at kw ⊢
  clear hm
  go_enter Tryz.func130, Tryz.ntmps130
  go_wp2_with (go_at_call 128; fail)
  go_at_call 128
  refine (kw.out _ (HB.out _ _)).mono ?_
  rintro e w1 ⟨rfl, hb1⟩
  have hb : Below w.heap.size w w1 := (HB.out _ _).trans (hb1.mono (by simp; omega))
  clear hb1
  go_wp2
  go_ret
  exact ⟨rfl, hb⟩

end Go.Proofs.YtelmkfkgpnadnaaGreatDoor.Dr
