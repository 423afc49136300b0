/-
  The way that is told is a way.
-/
import Derived.Test.YtelmkfkgpnadnaaK6
namespace Go.Proofs.Ytelmkfkgpnadnaa
namespace Kp

variable {n x f : Nat} {A Pl : Nat → Nat} {E : Nat → Nat → Bool} {S S2 : Nat → Bool}

theorem down_spec (g : Nat → Bool) : ∀ m p, p ≤ m → g p = true → g (down g m) = true ∧ down g m ≤ m
  | 0, p, hp, h => by
    have : p = 0 := by omega
    subst this
    exact ⟨h, Nat.le_refl _⟩
  | m + 1, p, hp, h => by
    unfold down
    by_cases e : g (m + 1) = true
    · rw [if_pos e]; exact ⟨e, Nat.le_refl _⟩
    · rw [if_neg e]
      have : p ≠ m + 1 := fun e' => e (e' ▸ h)
      have := down_spec g m p (by omega) h
      exact ⟨this.1, by omega⟩

theorem down_ext (g h : Nat → Bool) : ∀ m, (∀ p, p ≤ m → g p = h p) → down g m = down h m
  | 0, _ => rfl
  | m + 1, e => by
    unfold down
    rw [e (m + 1) (Nat.le_refl _), down_ext g h m fun p hp => e p (by omega)]

theorem tell_ext (O : Ok n A Pl E) (hn : n ≤ 40) (hx : x < n) (hS : ∀ v, v < 40 → S v = S2 v) : ∀ k u, tell E A Pl S x k u = tell E A Pl S2 x k u
  | 0, _ => rfl
  | k + 1, u => by
    have hp := O.plLt x hx
    have e : down (fun p => E u (A p) && S (A p)) (Pl x) = down (fun p => E u (A p) && S2 (A p)) (Pl x) := down_ext _ _ _ fun p hpx => by
      have := O.atLt p (by omega)
      show (E u (A p) && S (A p)) = (E u (A p) && S2 (A p))
      rw [hS (A p) (by omega)]
    unfold tell
    rw [e, tell_ext O hn hx hS k]

/-- A list of nodes, each an edge further. -/
inductive Trail (E : Nat → Nat → Bool) (Pl : Nat → Nat) (n x : Nat) : Nat → List Nat → Prop
  | last : x < n → Trail E Pl n x x [x]
  | step {u v : Nat} {L : List Nat} : u < n → u ≠ x → E u v = true → Pl u < Pl v → Trail E Pl n x v L → Trail E Pl n x u (u :: L)

theorem tell_trail (O : Ok n A Pl E) (hn : n ≤ 40) (hx : x < n) (hS : ∀ v, v < 40 → (S v = true ↔ SrcI E Pl x f v)) : ∀ k u, u < n → S u = true → Pl x - Pl u < k → Trail E Pl n x u (tell E A Pl S x k u)
  | 0, _, _, _, h => by omega
  | k + 1, u, hu, hs, hk => by
    unfold tell
    by_cases e : u = x
    · rw [if_pos e, e]; exact Trail.last hx
    · rw [if_neg e]
      rcases (hS u (by omega)).1 hs with h | ⟨h1, h2, h3⟩
      · exact absurd h e
      · have hnx : ∃ v, E u v = true ∧ S v = true ∧ Pl v ≤ Pl x ∧ v < n := by
          cases h3 with
          | one h => exact ⟨x, h, (hS x (by omega)).2 (Or.inl rfl), Nat.le_refl _, hx⟩
          | @more _ v _ h h' =>
            have hv := (O.dom _ _ h).2
            have hf := O.fwd _ _ h
            have hw := (O.way h').2.2
            exact ⟨v, h, (hS v (by omega)).2 (Or.inr ⟨by omega, hw, h'⟩), Nat.le_of_lt hw, hv⟩
        obtain ⟨v, hv1, hv2, hv3, hv4⟩ := hnx
        have hd := down_spec (fun p => E u (A p) && S (A p)) (Pl x) (Pl v) hv3 (by
          show (E u (A (Pl v)) && S (A (Pl v))) = true
          rw [O.atPl v hv4, hv1, hv2]; rfl)
        generalize down (fun p => E u (A p) && S (A p)) (Pl x) = p at hd
        have hpx := O.plLt x hx
        have hpn : p < n := by omega
        have hd1 : E u (A p) = true ∧ S (A p) = true := by simpa using hd.1
        have hat := O.plAt p hpn
        have hfw := O.fwd _ _ hd1.1
        exact Trail.step hu e hd1.1 hfw (tell_trail O hn hx hS k (A p) (O.atLt p hpn) hd1.2 (by omega))

theorem Trail.len {u : Nat} {L : List Nat} (h : Trail E Pl n x u L) : 0 < L.length := by cases h <;> simp

theorem Trail.head {u : Nat} {L : List Nat} (h : Trail E Pl n x u L) : L.getD 0 0 = u := by cases h <;> simp

theorem Trail.end' {u : Nat} {L : List Nat} (h : Trail E Pl n x u L) : L.getD (L.length - 1) 0 = x := by
  induction h with
  | last _ => simp
  | @step u v L _ _ _ _ h ih =>
    have := h.len
    obtain ⟨k, hk⟩ : ∃ k, L.length = k + 1 := ⟨L.length - 1, by omega⟩
    rw [hk] at ih
    simpa [hk] using ih

theorem Trail.one {L : List Nat} (h : Trail E Pl n x x L) : L.length = 1 := by
  cases h with
  | last _ => rfl
  | step _ h _ _ _ => exact absurd rfl h

theorem Trail.in' {u : Nat} {L : List Nat} (h : Trail E Pl n x u L) : ∀ i, i < L.length → L.getD i 0 < n := by
  induction h with
  | last h => intro i hi; have : i = 0 := by simpa using hi
              subst this; simpa using h
  | @step u v L hu _ _ _ h ih =>
    intro i hi
    match i with
    | 0 => simpa using hu
    | i + 1 =>
      have := ih i (by simpa using hi)
      simpa using this

theorem Trail.edge {u : Nat} {L : List Nat} (h : Trail E Pl n x u L) : ∀ i, i + 1 < L.length → E (L.getD i 0) (L.getD (i + 1) 0) = true := by
  induction h with
  | last h => intro i hi; exact absurd hi (by simp)
  | @step u v L hu _ he _ h ih =>
    intro i hi
    match i with
    | 0 =>
      have := h.head
      simp only [List.getD_cons_zero, List.getD_cons_succ]
      rw [this]; exact he
    | i + 1 =>
      have := ih i (by simpa using hi)
      simpa using this

theorem Trail.low {u : Nat} {L : List Nat} (h : Trail E Pl n x u L) : ∀ i, i < L.length → Pl u ≤ Pl (L.getD i 0) := by
  induction h with
  | last h => intro i hi; have : i = 0 := by simpa using hi
              subst this; simp
  | @step u v L hu _ he hl h ih =>
    intro i hi
    match i with
    | 0 => simp
    | i + 1 =>
      have := ih i (by simpa using hi)
      simp only [List.getD_cons_succ]
      omega

theorem Trail.up {u : Nat} {L : List Nat} (h : Trail E Pl n x u L) : ∀ i j, j < i → i < L.length → Pl (L.getD j 0) < Pl (L.getD i 0) := by
  induction h with
  | last h => intro i j hj hi; have : i = 0 := by simpa using hi
              omega
  | @step u v L hu _ he hl h ih =>
    intro i j hj hi
    match i, j with
    | 0, _ => omega
    | i + 1, 0 =>
      have := h.low i (by simpa using hi)
      simp only [List.getD_cons_succ, List.getD_cons_zero]
      omega
    | i + 1, j + 1 =>
      have := ih i j (by omega) (by simpa using hi)
      simpa using this

theorem tell_len (E : Nat → Nat → Bool) (A Pl : Nat → Nat) (S : Nat → Bool) (x : Nat) : ∀ j u, (tell E A Pl S x j u).length ≤ j := fun j => by
  induction j with
  | zero => intro u; simp [tell]
  | succ j ih => intro u; rw [tell]; split <;> simp [ih]

end Kp
end Go.Proofs.Ytelmkfkgpnadnaa
