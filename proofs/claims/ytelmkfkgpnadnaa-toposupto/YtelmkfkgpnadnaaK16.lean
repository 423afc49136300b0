/-
  The plain mathematics of all pairs, over and over (the document's answer's way to know where edges lead). No model's run in this text.
-/
import Derived.Test.YtelmkfkgpnadnaaK0
namespace Go.Proofs.Ytelmkfkgpnadnaa
namespace Kp

/-- By way of nodes below k. -/
def WK (E : Nat → Nat → Bool) : Nat → Nat → Nat → Bool
  | 0, x, y => E x y
  | k + 1, x, y => WK E k x y || (WK E k x k && WK E k k y)

inductive WayB (E : Nat → Nat → Bool) (k : Nat) : Nat → Nat → Prop
  | one {x y : Nat} : E x y = true → WayB E k x y
  | more {x y z : Nat} : E x y = true → y < k → WayB E k y z → WayB E k x z

variable {E : Nat → Nat → Bool} {n : Nat}

theorem wayB_split {k x y : Nat} (h : WayB E (k + 1) x y) : WayB E k x y ∨ (WayB E k x k ∧ WayB E k k y) := by
  induction h with
  | one e => exact Or.inl (.one e)
  | @more x z y e hz _ ih =>
    by_cases hk : z < k
    · rcases ih with h | ⟨h1, h2⟩
      · exact Or.inl (.more e hk h)
      · exact Or.inr ⟨.more e hk h1, h2⟩
    · have : z = k := by omega
      subst this
      rcases ih with h | ⟨_, h2⟩
      · exact Or.inr ⟨.one e, h⟩
      · exact Or.inr ⟨.one e, h2⟩

theorem wk_of_wayB : ∀ (k x y : Nat), WayB E k x y → WK E k x y = true
  | 0, x, y, h => by
    cases h with
    | one e => exact e
    | more _ h _ => omega
  | k + 1, x, y, h => by
    rw [WK]
    rcases wayB_split h with h | ⟨h1, h2⟩
    · simp [wk_of_wayB k x y h]
    · simp [wk_of_wayB k x k h1, wk_of_wayB k k y h2]

theorem way_of_wk : ∀ (k x y : Nat), WK E k x y = true → Way E x y
  | 0, x, y, h => .one h
  | k + 1, x, y, h => by
    rw [WK, Bool.or_eq_true, Bool.and_eq_true] at h
    rcases h with h | ⟨h1, h2⟩
    · exact way_of_wk k x y h
    · exact (way_of_wk k x k h1).trans (way_of_wk k k y h2)

theorem wayB_of_way (hd : ∀ a b, E a b = true → a < n ∧ b < n) {x y : Nat} (h : Way E x y) : WayB E n x y := by
  induction h with
  | one e => exact .one e
  | more e _ ih => exact .more e (hd _ _ e).2 ih

theorem wk_iff (hd : ∀ a b, E a b = true → a < n ∧ b < n) (x y : Nat) : WK E n x y = true ↔ Way E x y :=
  ⟨way_of_wk n x y, fun h => wk_of_wayB n x y (wayB_of_way hd h)⟩

/-- A round of all pairs, in place: those ahead of (i, j) are done. -/
def part (E : Nat → Nat → Bool) (k i j x y : Nat) : Bool := if x < i ∨ (x = i ∧ y < j) then WK E (k + 1) x y else WK E k x y

theorem wk_col (E : Nat → Nat → Bool) (k x : Nat) : WK E (k + 1) x k = WK E k x k := by
  rw [WK]; cases WK E k x k <;> simp

theorem wk_row (E : Nat → Nat → Bool) (k y : Nat) : WK E (k + 1) k y = WK E k k y := by
  rw [WK]; cases WK E k k y <;> simp

theorem part_col (E : Nat → Nat → Bool) (k i j x : Nat) : part E k i j x k = WK E k x k := by
  unfold part; split
  · exact wk_col E k x
  · rfl

theorem part_row (E : Nat → Nat → Bool) (k i j y : Nat) : part E k i j k y = WK E k k y := by
  unfold part; split
  · exact wk_row E k y
  · rfl

/-- What is stored at (i, j). -/
theorem part_now (E : Nat → Nat → Bool) (k i j : Nat) : (part E k i j i j || (part E k i j i k && part E k i j k j)) = WK E (k + 1) i j := by
  rw [part_col, part_row]
  have : part E k i j i j = WK E k i j := by unfold part; rw [if_neg (by omega)]
  rw [this, WK]

theorem part_next (E : Nat → Nat → Bool) (k i j x y : Nat) : part E k i (j + 1) x y = if x = i ∧ y = j then WK E (k + 1) i j else part E k i j x y := by
  unfold part
  by_cases h : x = i ∧ y = j
  · obtain ⟨rfl, rfl⟩ := h
    rw [if_pos (by omega), if_pos ⟨rfl, rfl⟩]
  · rw [if_neg h]
    by_cases h2 : x < i ∨ (x = i ∧ y < j)
    · rw [if_pos h2, if_pos (by omega)]
    · rw [if_neg h2, if_neg (by omega)]

theorem part_line (E : Nat → Nat → Bool) (k i x y : Nat) (hy : y < n) : part E k i n x y = part E k (i + 1) 0 x y := by
  unfold part
  by_cases h : x < i + 1
  · rw [if_pos (by omega), if_pos (by omega)]
  · rw [if_neg (by omega), if_neg (by omega)]

theorem part_done (E : Nat → Nat → Bool) (k x y : Nat) (hx : x < n) : part E k n 0 x y = WK E (k + 1) x y := by
  unfold part; rw [if_pos (by omega)]

theorem part_start (E : Nat → Nat → Bool) (k x y : Nat) : part E k 0 0 x y = WK E k x y := by
  unfold part; rw [if_neg (by omega)]

end Kp
end Go.Proofs.Ytelmkfkgpnadnaa
