/-
  Numbers that are none of a node's; orders without nodes.
-/
import Derived.Test.YtelmkfkgpnadnaaK9
namespace Go.Proofs.Ytelmkfkgpnadnaa
open Go.RowKit

variable {w w' : World} {b n : Nat} {A Pl : Nat → Nat} {E : Nat → Nat → Bool}

set_option maxHeartbeats 400000 in
theorem has_any (c : Int) (h : RowAt w b n A Pl E) :
    Calls Try.prog 28 #[.pointer (some ⟨b, 0, none⟩), .int .i64 c] w fun e w' => e = .returned (.bool (decide (0 ≤ c ∧ c < (n : Int)))) ∧ w' = w := by
  have hc := h.cnt
  clear h
  by_cases h0 : 0 ≤ c
  · by_cases h1 : c < (n : Int)
    · go_enter Try.func28, Try.ntmps28
      go_wp2
      go_ret
      exact ⟨by simp [h0, h1], rfl⟩
    · have h1' : decide (c < (n : Int)) = false := by simp; omega
      go_enter Try.func28, Try.ntmps28
      go_wp2
      go_ret
      exact ⟨by simp, rfl⟩
  · go_enter Try.func28, Try.ntmps28
    go_wp2
    go_ret
    exact ⟨by simp; omega, rfl⟩

theorem has_none (c : Int) (h : RowAt w b n A Pl E) (hc : ¬ (0 ≤ c ∧ c < (n : Int))) :
    Calls Try.prog 28 #[.pointer (some ⟨b, 0, none⟩), .int .i64 c] w fun e w' => e = .returned (.bool false) ∧ w' = w := by
  have k := has_any c h
  rw [decide_eq_false hc] at k
  exact k

theorem has_some (c : Int) (h : RowAt w b n A Pl E) (hc : 0 ≤ c ∧ c < (n : Int)) :
    Calls Try.prog 28 #[.pointer (some ⟨b, 0, none⟩), .int .i64 c] w fun e w' => e = .returned (.bool true) ∧ w' = w := by
  have k := has_any c h
  rw [decide_eq_true hc] at k
  exact k

set_option maxHeartbeats 1000000 in
theorem rowAdd_bad (x y : Int) (h : RowAt w b n A Pl E) (hb : ¬ ((0 ≤ x ∧ x < (n : Int)) ∧ (0 ≤ y ∧ y < (n : Int)))) :
    Calls Try.prog 19 #[.pointer (some ⟨b, 0, none⟩), .int .i64 x, .int .i64 y] w fun e w' => e = .returned (.tuple #[.int .i64 1, .slice none 0 0]) ∧ w' = w := by
  by_cases hx : 0 ≤ x ∧ x < (n : Int)
  · have kx := has_some x h hx
    have ky := has_none y h (fun hy => hb ⟨hx, hy⟩)
    clear h hb hx
    go_enter Try.func19, Try.ntmps19
    go_wp2_with (go_at_call 28; fail)
    go_at_call 28
    refine kx.mono ?_
    rintro e w1 ⟨rfl, rfl⟩
    go_wp2_with (go_at_call 28; fail)
    go_at_call 28
    refine ky.mono ?_
    rintro e w2 ⟨rfl, rfl⟩
    clear kx ky
    go_wp2
    go_ret2
    exact ⟨rfl, rfl⟩
  · have kx := has_none x h hx
    clear h hb hx
    go_enter Try.func19, Try.ntmps19
    go_wp2_with (go_at_call 28; fail)
    go_at_call 28
    refine kx.mono ?_
    rintro e w1 ⟨rfl, rfl⟩
    clear kx
    go_wp2
    go_ret2
    exact ⟨rfl, rfl⟩

set_option maxHeartbeats 1000000 in
theorem rowRemove_bad (x y : Int) (h : RowAt w b n A Pl E) (hb : ¬ ((0 ≤ x ∧ x < (n : Int)) ∧ (0 ≤ y ∧ y < (n : Int)))) :
    Calls Try.prog 18 #[.pointer (some ⟨b, 0, none⟩), .int .i64 x, .int .i64 y] w fun e w' => e = .returned (.bool false) ∧ w' = w := by
  by_cases hx : 0 ≤ x ∧ x < (n : Int)
  · have kx := has_some x h hx
    have ky := has_none y h (fun hy => hb ⟨hx, hy⟩)
    clear h hb hx
    go_enter Try.func18, Try.ntmps18
    go_wp2_with (go_at_call 28; fail)
    go_at_call 28
    refine kx.mono ?_
    rintro e w1 ⟨rfl, rfl⟩
    go_wp2_with (go_at_call 28; fail)
    go_at_call 28
    refine ky.mono ?_
    rintro e w2 ⟨rfl, rfl⟩
    clear kx ky
    go_wp2
    go_ret
    exact ⟨rfl, rfl⟩
  · have kx := has_none x h hx
    clear h hb hx
    go_enter Try.func18, Try.ntmps18
    go_wp2_with (go_at_call 28; fail)
    go_at_call 28
    refine kx.mono ?_
    rintro e w1 ⟨rfl, rfl⟩
    clear kx
    go_wp2
    go_ret
    exact ⟨rfl, rfl⟩

set_option maxHeartbeats 400000 in
theorem newTopo_bad (c : Int) (w : World) (hc : ¬ (0 ≤ c ∧ c ≤ 40)) :
    Calls Try.prog 7 #[.int .i64 c] w fun e w' => e = .returned (.tuple #[.pointer none, .int .i64 1]) ∧ w' = w := by
  by_cases h0 : c < 0
  · go_enter Try.func7, Try.ntmps7
    go_wp2
    go_ret2
    exact ⟨rfl, rfl⟩
  · have h1 : 40 < c := by omega
    go_enter Try.func7, Try.ntmps7
    go_wp2
    go_ret2
    exact ⟨rfl, rfl⟩

end Go.Proofs.Ytelmkfkgpnadnaa
