/-
  Calls at numbers that are none, of both orders; a cycle told twice.
-/
import Derived.Test.YtelmkfkgpnadnaaK28
import Derived.Test.YtelmkfkgpnadnaaK25
import Derived.Test.YtelmkfkgpnadnaaK14
namespace Go.Proofs.Ytelmkfkgpnadnaa
open Go.RowKit

variable {w w' : World} {b n : Nat} {A Pl : Nat → Nat} {E : Nat → Nat → Bool}

set_option maxHeartbeats 400000 in
theorem topoAdd_bad (x y : Int) (h : RowAt w b n A Pl E) (hb : ¬ ((0 ≤ x ∧ x < (n : Int)) ∧ (0 ≤ y ∧ y < (n : Int)))) :
    Calls Try.prog 12 #[.pointer (some ⟨b, 0, none⟩), .int .i64 x, .int .i64 y] w fun e w' => e = .returned (.tuple #[.int .i64 1, .slice none 0 0]) ∧ w' = w := by
  have hc := h.cnt
  have k := rowAdd_bad x y h hb
  clear h hb
  go_enter Try.func12, Try.ntmps12
  go_wp2_with (go_at_call 19; fail)
  go_at_call 19
  refine k.mono ?_
  rintro e w' ⟨rfl, rfl⟩
  clear k
  go_wp2
  go_ret2
  exact ⟨rfl, rfl⟩

set_option maxHeartbeats 400000 in
theorem remove_bad (x y : Int) (h : RowAt w b n A Pl E) (hb : ¬ ((0 ≤ x ∧ x < (n : Int)) ∧ (0 ≤ y ∧ y < (n : Int)))) :
    Calls Try.prog 11 #[.pointer (some ⟨b, 0, none⟩), .int .i64 x, .int .i64 y] w fun e w' => e = .returned (.bool false) ∧ w' = w := by
  have hc := h.cnt
  have k := rowRemove_bad x y h hb
  clear h hb
  go_enter Try.func11, Try.ntmps11
  go_wp2_with (go_at_call 18; fail)
  go_at_call 18
  refine k.mono ?_
  rintro e w' ⟨rfl, rfl⟩
  clear k
  go_wp2
  go_ret
  exact ⟨rfl, rfl⟩

set_option maxHeartbeats 1000000 in
theorem refRemove_bad (x y : Int) (tb cn : Nat) (a : Option Addr) (w : World) (h : w.cell? ⟨tb, 0, none⟩ = some (.slice a n cn)) (hb : ¬ ((0 ≤ x ∧ x < (n : Int)) ∧ (0 ≤ y ∧ y < (n : Int)))) :
    Calls Try.prog 26 #[.pointer (some ⟨tb, 0, none⟩), .int .i64 x, .int .i64 y] w fun e w' => e = .returned (.bool false) ∧ w' = w := by
  have kx := is_any x tb cn a w h
  have ky := is_any y tb cn a w h
  by_cases hx : 0 ≤ x ∧ x < (n : Int)
  · rw [decide_eq_true hx] at kx
    rw [decide_eq_false (fun hy => hb ⟨hx, hy⟩)] at ky
    clear h hb hx
    go_enter Try.func26, Try.ntmps26
    go_wp2_with (go_at_call 33; fail)
    go_at_call 33
    refine kx.mono ?_
    intro e w1 hq
    rw [hq.1, hq.2]
    go_wp2_with (go_at_call 33; fail)
    go_at_call 33
    refine ky.mono ?_
    intro e w2 hq
    rw [hq.1, hq.2]
    clear kx ky hq
    go_wp2
    go_ret
    exact ⟨rfl, rfl⟩
  · rw [decide_eq_false hx] at kx
    generalize decide (0 ≤ y ∧ y < (n : Int)) = q at ky
    clear h hb hx
    go_enter Try.func26, Try.ntmps26
    go_wp2_with (go_at_call 33; fail)
    go_at_call 33
    refine kx.mono ?_
    intro e w1 hq
    rw [hq.1, hq.2]
    go_wp2_with (go_at_call 33; fail)
    go_at_call 33
    refine ky.mono ?_
    intro e w2 hq
    rw [hq.1, hq.2]
    clear kx ky hq
    go_wp2
    go_ret
    exact ⟨rfl, rfl⟩

/-- The way that is told, as a list. -/
theorem topoAdd_cycle {x y : Nat} (h : RowAt w b n A Pl E) (O : Kp.Ok n A Pl E) (hn : n ≤ 40) (hx : x < n) (hy : y < n) (hc : Kp.Way E y x ∨ x = y) (L : List Nat) (hL : ∀ S, (∀ v, v < 40 → (S v = true ↔ Kp.SrcI E Pl x (Pl y) v)) → Kp.tell E A Pl S x 40 y = L) (hL0 : 0 < L.length) :
    Calls Try.prog 12 #[.pointer (some ⟨b, 0, none⟩), .int .i64 x, .int .i64 y] w fun e w' => ∃ a v, e = .returned (.tuple #[a, v]) ∧ (a = .int .i64 5 ∧ (∃ g cap, v = .slice (some ⟨g, 0, none⟩) L.length cap ∧ w.heap.size ≤ g ∧ w'.ownsRow 0 3 1 v L.length (ints L)) ∧ Below w.heap.size w w') := by
  refine topoAdd_of x y _ h ((rowAdd_cycle x y h O hn hx hy (closes_le O hc) hc).mono ?_)
  rintro e w' ⟨v, S, rfl, hS, hown, hb⟩
  rw [hL S hS] at hown
  obtain ⟨g, cap, rfl, hg, _⟩ := own_shape hown hL0
  refine ⟨_, _, rfl, rfl, ⟨g, cap, rfl, by omega, ?_⟩, hb⟩
  refine ⟨hown.1, ?_⟩
  rcases hown.2 with hn | ⟨g', cap', cur, hv, hg', rest⟩
  · exact .inl hn
  · exact .inr ⟨g', cap', cur, hv, Nat.zero_le _, rest⟩

theorem told_any {x y : Nat} (O : Kp.Ok n A Pl E) (hn : n ≤ 40) (hx : x < n) (hy : y < n) (hc : Kp.Way E y x ∨ x = y) : ∃ L : List Nat, (∀ S, (∀ v, v < 40 → (S v = true ↔ Kp.SrcI E Pl x (Pl y) v)) → Kp.tell E A Pl S x 40 y = L) ∧ Kp.Trail E Pl n x y L ∧ L.length ≤ 40 := by
  classical
  let S0 : Nat → Bool := fun v => decide (Kp.SrcI E Pl x (Pl y) v)
  have hS0 : ∀ v, v < 40 → (S0 v = true ↔ Kp.SrcI E Pl x (Pl y) v) := fun v _ => by show decide _ = true ↔ _; exact decide_eq_true_iff
  have hy0 : S0 y = true := (hS0 y (by omega)).2 (by
    rcases hc with h | h
    · exact Or.inr ⟨Nat.le_refl _, (O.way h).2.2, h⟩
    · exact Or.inl h.symm)
  have hp := O.plLt x hx
  refine ⟨Kp.tell E A Pl S0 x 40 y, fun S hS => Kp.tell_ext O hn hx (fun v hv => ?_) 40 y, Kp.tell_trail O hn hx hS0 40 y hy hy0 (by omega), Kp.tell_len _ _ _ _ _ _ _⟩
  rw [Bool.eq_iff_iff, hS v hv, hS0 v hv]

theorem ints_at {w : World} {B g cap : Nat} {L : List Nat} (h : w.ownsRow B 3 1 (.slice (some ⟨g, 0, none⟩) L.length cap) L.length (ints L)) : ValsAt w g L.length (fun i => .int .i64 (L.getD i 0)) := by
  refine ⟨fun j hj => ?_, fun j _ => h.frozenAt j⟩
  rw [h.cellAt j (by omega)]
  simp [ints, hj, List.getD]

end Go.Proofs.Ytelmkfkgpnadnaa
