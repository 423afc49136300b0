/-
  The document's answer, an order: which nodes move (the plain mathematics, against the program's).
-/
import Derived.Test.YtelmkfkgpnadnaaK18
namespace Go.Proofs.Ytelmkfkgpnadnaa
namespace Kp
variable {E : Nat → Nat → Bool} {n : Nat} {A Pl : Nat → Nat} {x y : Nat}

/-- Of G, as the document's answer asks it. -/
def dG (E : Nat → Nat → Bool) (Pl : Nat → Nat) (n x y v : Nat) : Bool := v == x || (decide (Pl y < Pl v) && WK E n v x)
/-- Of F. -/
def dF (E : Nat → Nat → Bool) (Pl : Nat → Nat) (n x y v : Nat) : Bool := v == y || (decide (Pl v < Pl x) && WK E n y v)

theorem dG_iff (O : Ok n A Pl E) (hno : ¬ (Way E y x ∨ x = y)) (hle : Pl y ≤ Pl x) (hy : y < n) (v : Nat) : dG E Pl n x y v = true ↔ SrcI E Pl x (Pl y) v := by
  unfold dG SrcI
  rw [Bool.or_eq_true, Bool.and_eq_true, beq_iff_eq, decide_eq_true_eq, wk_iff O.dom]
  constructor
  · rintro (h | ⟨h1, h2⟩)
    · exact Or.inl h
    · exact Or.inr ⟨by omega, (O.way h2).2.2, h2⟩
  · rintro (h | ⟨h1, h2, h3⟩)
    · exact Or.inl h
    · refine Or.inr ⟨?_, h3⟩
      by_cases e : Pl v = Pl y
      · exfalso
        have := O.inj (O.way h3).1 hy e
        subst this
        exact hno (Or.inl h3)
      · omega

theorem dF_iff (O : Ok n A Pl E) (v : Nat) : dF E Pl n x y v = true ↔ (v = y ∨ (Pl v < Pl x ∧ Way E y v)) := by
  unfold dF
  rw [Bool.or_eq_true, Bool.and_eq_true, beq_iff_eq, decide_eq_true_eq, wk_iff O.dom]

theorem dFG_apart (O : Ok n A Pl E) (hno : ¬ (Way E y x ∨ x = y)) (v : Nat) (h1 : dG E Pl n x y v = true) (h2 : dF E Pl n x y v = true) : False := by
  unfold dG at h1
  rw [Bool.or_eq_true, Bool.and_eq_true, beq_iff_eq, decide_eq_true_eq, wk_iff O.dom] at h1
  rw [dF_iff O] at h2
  rcases h1 with rfl | ⟨_, h1⟩
  · rcases h2 with h | ⟨h, _⟩
    · exact hno (Or.inr h)
    · omega
  · rcases h2 with rfl | ⟨_, h⟩
    · exact hno (Or.inl h1)
    · exact hno (Or.inl (h.trans h1))

/-- Outside the places from y's to x's nothing is of F or G. -/
theorem dFG_in (O : Ok n A Pl E) (hle : Pl y ≤ Pl x) (p : Nat) (hp : p < n) (h : dG E Pl n x y (A p) = true ∨ dF E Pl n x y (A p) = true) : Pl y ≤ p ∧ p ≤ Pl x := by
  have hP := O.plAt p hp
  rcases h with h | h
  · unfold dG at h
    rw [Bool.or_eq_true, Bool.and_eq_true, beq_iff_eq, decide_eq_true_eq, wk_iff O.dom, hP] at h
    rcases h with h | ⟨h1, h2⟩
    · rw [← h, hP] at hle; rw [← h, hP]; omega
    · have := (O.way h2).2.2; omega
  · rw [dF_iff O, hP] at h
    rcases h with h | ⟨h1, h2⟩
    · rw [← h, hP] at hle; rw [← h, hP]; omega
    · have := (O.way h2).2.2; omega

theorem filter_reg (g : Nat → Bool) (n f l : Nat) (hl : l < n) (h : ∀ p, p < n → g p = true → f ≤ p ∧ p ≤ l) (hfl : f ≤ l) : (List.range n).filter g = (reg f l).filter g := by
  have e : List.range n = List.range' 0 f ++ (reg f l ++ List.range' (l + 1) (n - (l + 1))) := by
    unfold reg
    rw [List.range_eq_range']
    have h1 : List.range' 0 f ++ List.range' f (n - f) = List.range' 0 n := by
      have := List.range'_append (s := 0) (m := f) (n := n - f) (step := 1)
      simp at this
      rw [this]; congr 1; omega
    have h2 : List.range' f (l + 1 - f) ++ List.range' (l + 1) (n - (l + 1)) = List.range' f (n - f) := by
      have := List.range'_append (s := f) (m := l + 1 - f) (n := n - (l + 1)) (step := 1)
      rw [show f + 1 * (l + 1 - f) = l + 1 by omega] at this
      rw [this]; congr 1; omega
    rw [h2, h1]
  have out : ∀ r : List Nat, (∀ p, p ∈ r → p < n ∧ ¬ (f ≤ p ∧ p ≤ l)) → r.filter g = [] := fun r hr => by
    rw [List.filter_eq_nil_iff]
    intro p hp hg
    exact (hr p hp).2 (h p (hr p hp).1 hg)
  rw [e, List.filter_append, List.filter_append, out _ (fun p hp => by rw [List.mem_range'_1] at hp; omega), out (List.range' (l + 1) _) (fun p hp => by rw [List.mem_range'_1] at hp; omega)]
  simp

end Kp
end Go.Proofs.Ytelmkfkgpnadnaa
