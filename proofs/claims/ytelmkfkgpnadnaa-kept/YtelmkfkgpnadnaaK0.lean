/-
  The plain mathematics of an order that is kept: nodes in a row, edges that lead to later ones; those that lead to x, those to which y leads, the moving of both; a search. No model's run in this text.
-/
namespace Go.Proofs.Ytelmkfkgpnadnaa
namespace Kp

/-- One or more edges, one behind the other. -/
inductive Way (E : Nat → Nat → Bool) : Nat → Nat → Prop
  | one {x y : Nat} : E x y = true → Way E x y
  | more {x y z : Nat} : E x y = true → Way E y z → Way E x z

variable {E : Nat → Nat → Bool} {n : Nat} {A Pl : Nat → Nat} {x y : Nat}

theorem Way.trans {x y z : Nat} (h : Way E x y) (h' : Way E y z) : Way E x z := by
  induction h with
  | one e => exact .more e h'
  | more e _ ih => exact .more e (ih h')

theorem Way.snoc {x y z : Nat} (h : Way E x y) (h' : E y z = true) : Way E x z := h.trans (.one h')

theorem Way.last {x z : Nat} (h : Way E x z) : E x z = true ∨ ∃ y, Way E x y ∧ E y z = true := by
  induction h with
  | one e => exact Or.inl e
  | more e _ ih =>
    rcases ih with h | ⟨y, h1, h2⟩
    · exact Or.inr ⟨_, .one e, h⟩
    · exact Or.inr ⟨y, .more e h1, h2⟩

theorem Way.mono {E' : Nat → Nat → Bool} (hm : ∀ a b, E a b = true → E' a b = true) {x y : Nat} (h : Way E x y) : Way E' x y := by
  induction h with
  | one e => exact .one (hm _ _ e)
  | more e _ ih => exact .more (hm _ _ e) ih

/-- The nodes stand in a row, edges lead to later ones. -/
structure Ok (n : Nat) (A Pl : Nat → Nat) (E : Nat → Nat → Bool) : Prop where
  atLt : ∀ p, p < n → A p < n
  plLt : ∀ v, v < n → Pl v < n
  plAt : ∀ p, p < n → Pl (A p) = p
  atPl : ∀ v, v < n → A (Pl v) = v
  dom : ∀ a b, E a b = true → a < n ∧ b < n
  fwd : ∀ a b, E a b = true → Pl a < Pl b

theorem Ok.way (O : Ok n A Pl E) {x y : Nat} (h : Way E x y) : x < n ∧ y < n ∧ Pl x < Pl y := by
  induction h with
  | one e => exact ⟨(O.dom _ _ e).1, (O.dom _ _ e).2, O.fwd _ _ e⟩
  | more e _ ih => exact ⟨(O.dom _ _ e).1, ih.2.1, Nat.lt_trans (O.fwd _ _ e) ih.2.2⟩

theorem Ok.inj (O : Ok n A Pl E) {u v : Nat} (hu : u < n) (hv : v < n) (h : Pl u = Pl v) : u = v := by
  rw [← O.atPl u hu, ← O.atPl v hv, h]

/-! ### Those that lead to x -/
def SrcI (E : Nat → Nat → Bool) (Pl : Nat → Nat) (x k v : Nat) : Prop := v = x ∨ (k ≤ Pl v ∧ Pl v < Pl x ∧ Way E v x)

theorem src_start (v x : Nat) : v = x ↔ SrcI E Pl x (Pl x) v := by
  constructor
  · exact Or.inl
  · rintro (h | ⟨h1, h2, _⟩)
    · exact h
    · omega

theorem src_step (O : Ok n A Pl E) {x k : Nat} (hx : x < n) (hk : k < Pl x) (S S' : Nat → Bool) (hS : ∀ v, v < 40 → (S v = true ↔ SrcI E Pl x (k + 1) v)) (hn : n ≤ 40)
    (hS' : ∀ v, v < 40 → (S' v = true ↔ S v = true ∨ (v = A k ∧ ∃ j, j < 40 ∧ E (A k) j = true ∧ S j = true))) : ∀ v, v < 40 → (S' v = true ↔ SrcI E Pl x k v) := by
  intro v hv
  have hkn : k < n := Nat.lt_trans hk (O.plLt x hx)
  have hP := O.plAt k hkn
  rw [hS' v hv, hS v hv]
  constructor
  · rintro ((h | ⟨h1, h2, h3⟩) | ⟨rfl, j, hj, he, hs⟩)
    · exact Or.inl h
    · exact Or.inr ⟨by omega, h2, h3⟩
    · rcases (hS j hj).1 hs with rfl | ⟨h1, h2, h3⟩
      · exact Or.inr ⟨by omega, by omega, .one he⟩
      · exact Or.inr ⟨by omega, by omega, .more he h3⟩
  · rintro (h | ⟨h1, h2, h3⟩)
    · exact Or.inl (Or.inl h)
    · by_cases hk1 : k + 1 ≤ Pl v
      · exact Or.inl (Or.inr ⟨hk1, h2, h3⟩)
      · have hvn := (O.way h3).1
        have hva : v = A k := O.inj hvn (O.atLt k hkn) (by omega)
        refine Or.inr ⟨hva, ?_⟩
        subst hva
        cases h3 with
        | one e => exact ⟨x, by omega, e, (hS x (by omega)).2 (Or.inl rfl)⟩
        | more e hw =>
          rename_i j
          have hb := O.way hw
          have hf := O.fwd _ _ e
          exact ⟨j, by omega, e, (hS j (by omega)).2 (Or.inr ⟨by omega, hb.2.2, hw⟩)⟩

/-! ### Those to which y leads -/
def TgtI (E : Nat → Nat → Bool) (Pl : Nat → Nat) (y e k v : Nat) : Prop := v = y ∨ (Pl v < e ∧ ∃ u, Pl u < k ∧ (u = y ∨ Way E y u) ∧ E u v = true)

theorem tgt_start (O : Ok n A Pl E) (y e v : Nat) : v = y ↔ TgtI E Pl y e (Pl y) v := by
  constructor
  · exact Or.inl
  · rintro (h | ⟨_, u, hu, rfl | hw, _⟩)
    · exact h
    · omega
    · have := (O.way hw).2.2; omega

theorem tgt_reach (O : Ok n A Pl E) {y e k u : Nat} (hu : Pl u = k) (hk : k < e) : TgtI E Pl y e k u ↔ (u = y ∨ Way E y u) := by
  constructor
  · rintro (h | ⟨_, u', _, h | hw, he⟩)
    · exact Or.inl h
    · subst h; exact Or.inr (.one he)
    · exact Or.inr (hw.snoc he)
  · rintro (h | h)
    · exact Or.inl h
    · refine Or.inr ⟨by omega, ?_⟩
      rcases h.last with h1 | ⟨z, h1, h2⟩
      · exact ⟨y, by have := O.fwd _ _ h1; omega, Or.inl rfl, h1⟩
      · exact ⟨z, by have := O.fwd _ _ h2; omega, Or.inr h1, h2⟩

theorem tgt_step_no (O : Ok n A Pl E) {y e k : Nat} (hkn : k < n) (hk : k < e) (T : Nat → Bool) (hn : n ≤ 40) (hT : ∀ v, v < 40 → (T v = true ↔ TgtI E Pl y e k v)) (hu : T (A k) = false) :
    ∀ v, v < 40 → (T v = true ↔ TgtI E Pl y e (k + 1) v) := by
  intro v hv
  have ha := O.atLt k hkn
  have hno : ¬ (A k = y ∨ Way E y (A k)) := by
    intro h
    have := (hT (A k) (by omega)).2 ((tgt_reach O (O.plAt k hkn) hk).2 h)
    simp [hu] at this
  rw [hT v hv]
  constructor
  · rintro (h | ⟨h1, u, h2, h3, h4⟩)
    · exact Or.inl h
    · exact Or.inr ⟨h1, u, by omega, h3, h4⟩
  · rintro (h | ⟨h1, u, h2, h3, h4⟩)
    · exact Or.inl h
    · by_cases hz : Pl u < k
      · exact Or.inr ⟨h1, u, hz, h3, h4⟩
      · exfalso
        have : u = A k := O.inj (O.dom _ _ h4).1 ha (by rw [O.plAt k hkn]; omega)
        subst this
        exact hno h3

theorem tgt_step_yes (O : Ok n A Pl E) {y e k : Nat} (hkn : k < n) (hk : k < e) (T T' : Nat → Bool) (hn : n ≤ 40) (hT : ∀ v, v < 40 → (T v = true ↔ TgtI E Pl y e k v)) (hu : T (A k) = true)
    (hT' : ∀ v, v < 40 → (T' v = true ↔ T v = true ∨ (E (A k) v = true ∧ Pl v < e))) :
    ∀ v, v < 40 → (T' v = true ↔ TgtI E Pl y e (k + 1) v) := by
  intro v hv
  have ha := O.atLt k hkn
  have hyes : A k = y ∨ Way E y (A k) := (tgt_reach O (O.plAt k hkn) hk).1 ((hT (A k) (by omega)).1 hu)
  rw [hT' v hv, hT v hv]
  constructor
  · rintro ((h | ⟨h1, u, h2, h3, h4⟩) | ⟨h1, h2⟩)
    · exact Or.inl h
    · exact Or.inr ⟨h1, u, by omega, h3, h4⟩
    · exact Or.inr ⟨h2, A k, by rw [O.plAt k hkn]; omega, hyes, h1⟩
  · rintro (h | ⟨h1, u, h2, h3, h4⟩)
    · exact Or.inl (Or.inl h)
    · by_cases hz : Pl u < k
      · exact Or.inl (Or.inr ⟨h1, u, hz, h3, h4⟩)
      · have : u = A k := O.inj (O.dom _ _ h4).1 ha (by rw [O.plAt k hkn]; omega)
        subst this
        exact Or.inr ⟨h4, h1⟩

theorem tgt_end (O : Ok n A Pl E) {y e v : Nat} : TgtI E Pl y e e v ↔ (v = y ∨ (Pl v < e ∧ Way E y v)) := by
  constructor
  · rintro (h | ⟨h1, u, _, rfl | h3, h4⟩)
    · exact Or.inl h
    · exact Or.inr ⟨h1, .one h4⟩
    · exact Or.inr ⟨h1, h3.snoc h4⟩
  · rintro (h | ⟨h1, h2⟩)
    · exact Or.inl h
    · refine Or.inr ⟨h1, ?_⟩
      rcases h2.last with h3 | ⟨z, h3, h4⟩
      · exact ⟨y, by have := O.fwd _ _ h3; omega, Or.inl rfl, h3⟩
      · exact ⟨z, by have := O.fwd _ _ h4; omega, Or.inr h3, h4⟩

/-! ### Moving -/
theorem sub_ge {l1 l2 : List Nat} (h : List.Sublist l1 l2) : l2.Pairwise (· < ·) → ∀ (k a b : Nat), l1[k]? = some a → l2[k]? = some b → b ≤ a := by
  induction h with
  | slnil => intro _ k a b h; simp at h
  | @cons l1 l2 c h ih =>
    intro hp k a b h1 h2
    rw [List.pairwise_cons] at hp
    cases k with
    | zero =>
      simp at h2; subst h2
      have ha : a ∈ l2 := h.subset (List.mem_of_getElem? h1)
      exact Nat.le_of_lt (hp.1 a ha)
    | succ k =>
      rw [List.getElem?_cons_succ] at h2
      have hlen : k + 1 < l1.length := (List.getElem?_eq_some_iff.1 h1).1
      have hlen2 : k + 1 < l2.length := Nat.lt_of_lt_of_le hlen h.length_le
      have h3 := ih hp.2 (k + 1) a l2[k + 1] h1 (List.getElem?_eq_getElem hlen2)
      have h4 := (List.getElem?_eq_some_iff.1 h2)
      obtain ⟨h5, h6⟩ := h4
      have := List.pairwise_iff_getElem.1 hp.2 k (k + 1) h5 hlen2 (by omega)
      omega
  | @cons_cons l1 l2 c h ih =>
    intro hp k a b h1 h2
    rw [List.pairwise_cons] at hp
    cases k with
    | zero => simp at h1 h2; omega
    | succ k => exact ih hp.2 k a b (by simpa using h1) (by simpa using h2)

theorem sub_le {l1 l2 : List Nat} (h : List.Sublist l1 l2) : l2.Pairwise (· < ·) → ∀ (k a b : Nat), l1[k]? = some a → l2[l2.length - l1.length + k]? = some b → a ≤ b := by
  induction h with
  | slnil => intro _ k a b h; simp at h
  | @cons l1 l2 c h ih =>
    intro hp k a b h1 h2
    rw [List.pairwise_cons] at hp
    have hl := h.length_le
    refine ih hp.2 k a b h1 ?_
    rw [List.length_cons, show l2.length + 1 - l1.length + k = (l2.length - l1.length + k) + 1 by omega, List.getElem?_cons_succ] at h2
    exact h2
  | @cons_cons l1 l2 c h ih =>
    intro hp k a b h1 h2
    have hl := h.length_le
    cases k with
    | zero =>
      simp at h1; subst h1
      have hm := List.mem_of_getElem? h2
      rw [List.pairwise_cons] at hp
      rcases List.mem_cons.1 hm with h | h
      · omega
      · exact Nat.le_of_lt (hp.1 b h)
    | succ k =>
      rw [List.pairwise_cons] at hp
      refine ih hp.2 k a b (by simpa using h1) ?_
      rw [List.length_cons, List.length_cons, show l2.length + 1 - (l1.length + 1) + (k + 1) = (l2.length - l1.length + k) + 1 by omega, List.getElem?_cons_succ] at h2
      exact h2

theorem up_lt {l : List Nat} (hp : l.Pairwise (· < ·)) {i j a b : Nat} (h : i < j) (h1 : l[i]? = some a) (h2 : l[j]? = some b) : a < b := by
  obtain ⟨h3, rfl⟩ := List.getElem?_eq_some_iff.1 h1
  obtain ⟨h4, rfl⟩ := List.getElem?_eq_some_iff.1 h2
  exact List.pairwise_iff_getElem.1 hp i j h3 h4 h

theorem up_ix {l : List Nat} (hp : l.Pairwise (· < ·)) {i j a b : Nat} (h : a < b) (h1 : l[i]? = some a) (h2 : l[j]? = some b) : i < j := by
  rcases Nat.lt_trichotomy i j with h3 | h3 | h3
  · exact h3
  · subst h3; rw [h1] at h2; simp at h2; omega
  · have := up_lt hp h3 h2 h1; omega

theorem filter_split (f g : Nat → Bool) : ∀ l : List Nat, (l.filter fun p => f p || g p).length = (l.filter f).length + (l.filter fun p => !f p && g p).length
  | [] => rfl
  | a :: l => by
    have := filter_split f g l
    simp only [List.filter_cons]
    cases f a <;> cases g a <;> simp [this] <;> omega

def reg (first last : Nat) : List Nat := List.range' first (last + 1 - first)
def PF (S : Nat → Bool) (A : Nat → Nat) (r : List Nat) : List Nat := r.filter fun p => S (A p)
def PB (S T : Nat → Bool) (A : Nat → Nat) (r : List Nat) : List Nat := r.filter fun p => !S (A p) && T (A p)
def PR (S T : Nat → Bool) (A : Nat → Nat) (r : List Nat) : List Nat := r.filter fun p => S (A p) || T (A p)
def sq (S T : Nat → Bool) (A : Nat → Nat) (r : List Nat) : List Nat := (PF S A r).map A ++ (PB S T A r).map A

theorem sq_length (S T : Nat → Bool) (A : Nat → Nat) (r : List Nat) : (sq S T A r).length = (PR S T A r).length := by
  simp only [sq, PR, PF, PB, List.length_append, List.length_map]
  exact (filter_split (fun p => S (A p)) (fun p => T (A p)) r).symm

/-- What a row has become, i nodes having been put. -/
structure Put (R Q : List Nat) (i : Nat) (A Pl A' Pl' : Nat → Nat) : Prop where
  hit : ∀ j a r, j < i → Q[j]? = some a → R[j]? = some r → A' r = a ∧ Pl' a = r
  atOff : ∀ p, (∀ j, j < i → R[j]? ≠ some p) → A' p = A p
  plOff : ∀ v, (∀ j, j < i → Q[j]? ≠ some v) → Pl' v = Pl v

def upd (f : Nat → Nat) (i v : Nat) : Nat → Nat := fun j => if j = i then v else f j

theorem put_start (R Q : List Nat) (A Pl : Nat → Nat) : Put R Q 0 A Pl A Pl := ⟨fun _ _ _ h => by omega, fun _ _ => rfl, fun _ _ => rfl⟩

theorem nodup_ix {l : List Nat} (h : l.Nodup) {i j a : Nat} (h1 : l[i]? = some a) (h2 : l[j]? = some a) : i = j := by
  obtain ⟨h3, e1⟩ := List.getElem?_eq_some_iff.1 h1
  obtain ⟨h4, e2⟩ := List.getElem?_eq_some_iff.1 h2
  rcases Nat.lt_trichotomy i j with h5 | h5 | h5
  · exact absurd (e1.trans e2.symm) (List.pairwise_iff_getElem.1 h i j h3 h4 h5)
  · exact h5
  · exact absurd (e2.trans e1.symm) (List.pairwise_iff_getElem.1 h j i h4 h3 h5)

theorem put_step {R Q : List Nat} (hR : R.Nodup) (hQ : Q.Nodup) {i a r : Nat} {A Pl A' Pl' : Nat → Nat} (h : Put R Q i A Pl A' Pl') (ha : Q[i]? = some a) (hr : R[i]? = some r) :
    Put R Q (i + 1) A Pl (upd A' r a) (upd Pl' a r) := by
  refine ⟨fun j b s hj hb hs => ?_, fun p hp => ?_, fun v hv => ?_⟩
  · by_cases e : j = i
    · subst e
      rw [ha] at hb; rw [hr] at hs
      simp at hb hs; subst hb; subst hs
      simp [upd]
    · have h1 : s ≠ r := fun e' => e (nodup_ix hR hs (e' ▸ hr))
      have h2 : b ≠ a := fun e' => e (nodup_ix hQ hb (e' ▸ ha))
      have := h.hit j b s (by omega) hb hs
      simp [upd, h1, h2, this]
  · have h1 : p ≠ r := fun e => hp i (by omega) (e ▸ hr)
    simp only [upd, if_neg h1]
    exact h.atOff p fun j hj => hp j (by omega)
  · have h1 : v ≠ a := fun e => hv i (by omega) (e ▸ ha)
    simp only [upd, if_neg h1]
    exact h.plOff v fun j hj => hv j (by omega)


theorem reg_mem (first last p : Nat) : p ∈ reg first last ↔ first ≤ p ∧ p ≤ last := by
  unfold reg; rw [List.mem_range'_1]; omega

theorem reg_up (first last : Nat) : (reg first last).Pairwise (· < ·) := List.pairwise_lt_range'

theorem up_nodup {l : List Nat} (h : l.Pairwise (· < ·)) : l.Nodup := h.imp fun h => Nat.ne_of_lt h

theorem PF_sub (S T : Nat → Bool) (A : Nat → Nat) (r : List Nat) : (PF S A r).Sublist (PR S T A r) := by
  have : PF S A r = (PR S T A r).filter fun p => S (A p) := by
    simp only [PF, PR, List.filter_filter]
    congr 1; funext p; cases S (A p) <;> simp
  rw [this]; exact List.filter_sublist

theorem PB_sub (S T : Nat → Bool) (A : Nat → Nat) (r : List Nat) : (PB S T A r).Sublist (PR S T A r) := by
  have : PB S T A r = (PR S T A r).filter fun p => !S (A p) && T (A p) := by
    simp only [PB, PR, List.filter_filter]
    congr 1; funext p; cases S (A p) <;> cases T (A p) <;> simp
  rw [this]; exact List.filter_sublist

theorem PR_up (S T : Nat → Bool) (A : Nat → Nat) (f l : Nat) : (PR S T A (reg f l)).Pairwise (· < ·) := (reg_up f l).filter _

theorem PR_mem (S T : Nat → Bool) (A : Nat → Nat) (r : List Nat) (p : Nat) : p ∈ PR S T A r ↔ p ∈ r ∧ (S (A p) = true ∨ T (A p) = true) := by simp [PR]

theorem PR_len (S T : Nat → Bool) (A : Nat → Nat) (r : List Nat) : (PR S T A r).length = (PF S A r).length + (PB S T A r).length := filter_split (fun p => S (A p)) (fun p => T (A p)) r

theorem sq_nodup (O : Ok n A Pl E) (S T : Nat → Bool) (f l : Nat) (hl : l < n) : (sq S T A (reg f l)).Nodup := by
  have hA : ∀ p q, p ∈ reg f l → q ∈ reg f l → A p = A q → p = q := fun p q hp hq e => by
    have h1 := (reg_mem f l p).1 hp
    have h2 := (reg_mem f l q).1 hq
    rw [← O.plAt p (by omega), ← O.plAt q (by omega), e]
  have hm : ∀ (t : Nat → Bool), (((reg f l).filter t).map A).Nodup := fun t => by
    have hu : ((reg f l).filter t).Nodup := up_nodup ((reg_up f l).filter _)
    rw [List.Nodup, List.pairwise_map]
    refine List.Pairwise.imp_of_mem ?_ hu
    intro p q hp hq hne e
    exact hne (hA p q (List.mem_filter.1 hp).1 (List.mem_filter.1 hq).1 e)
  unfold sq PF PB
  rw [List.nodup_append]
  refine ⟨hm _, hm _, ?_⟩
  intro a ha b hb e
  subst e
  obtain ⟨p, hp, rfl⟩ := List.mem_map.1 ha
  obtain ⟨q, hq, e⟩ := List.mem_map.1 hb
  have h1 := List.mem_filter.1 hp
  have h2 := List.mem_filter.1 hq
  have := hA q p h2.1 h1.1 e
  subst this
  simp at h1 h2
  simp [h1.2] at h2

def edge (E : Nat → Nat → Bool) (x y : Nat) (c : Bool) : Nat → Nat → Bool := fun a b => if a = x ∧ b = y then c else E a b

section
variable {S T : Nat → Bool} {A' Pl' : Nat → Nat}

/-- A node of the front's: its new place. -/
theorem place_front (O : Ok n A Pl E) {f l : Nat} (M : Put (PR S T A (reg f l)) (sq S T A (reg f l)) (PR S T A (reg f l)).length A Pl A' Pl') {u : Nat} (hu : u < n) (h1 : f ≤ Pl u) (h2 : Pl u ≤ l) (hS : S u = true) :
    ∃ k, k < (PF S A (reg f l)).length ∧ (PF S A (reg f l))[k]? = some (Pl u) ∧ (PR S T A (reg f l))[k]? = some (Pl' u) ∧ Pl' u ≤ Pl u ∧ A' (Pl' u) = u := by
  have hm : Pl u ∈ PF S A (reg f l) := by
    unfold PF; rw [List.mem_filter, reg_mem]; exact ⟨⟨h1, h2⟩, by rw [O.atPl u hu]; exact hS⟩
  obtain ⟨k, hk⟩ := List.getElem?_of_mem hm
  have hkl : k < (PF S A (reg f l)).length := (List.getElem?_eq_some_iff.1 hk).1
  have hR := PR_len S T A (reg f l)
  have hq : (sq S T A (reg f l))[k]? = some u := by
    unfold sq
    rw [List.getElem?_append_left (by simpa using hkl), List.getElem?_map, hk]; simp [O.atPl u hu]
  have hkr : k < (PR S T A (reg f l)).length := by omega
  have hr := List.getElem?_eq_getElem hkr
  have hh := M.hit k u _ hkr hq hr
  refine ⟨k, hkl, hk, by rw [hh.2]; exact hr, ?_, by rw [hh.2]; exact hh.1⟩
  rw [hh.2]
  exact sub_ge (PF_sub S T A _) (PR_up S T A f l) k _ _ hk hr

theorem place_back (O : Ok n A Pl E) {f l : Nat} (M : Put (PR S T A (reg f l)) (sq S T A (reg f l)) (PR S T A (reg f l)).length A Pl A' Pl') {u : Nat} (hu : u < n) (h1 : f ≤ Pl u) (h2 : Pl u ≤ l) (hS : S u = false) (hT : T u = true) :
    ∃ k, (PB S T A (reg f l))[k]? = some (Pl u) ∧ (PR S T A (reg f l))[(PF S A (reg f l)).length + k]? = some (Pl' u) ∧ Pl u ≤ Pl' u ∧ A' (Pl' u) = u := by
  have hm : Pl u ∈ PB S T A (reg f l) := by
    unfold PB; rw [List.mem_filter, reg_mem]; exact ⟨⟨h1, h2⟩, by rw [O.atPl u hu]; simp [hS, hT]⟩
  obtain ⟨k, hk⟩ := List.getElem?_of_mem hm
  have hkl : k < (PB S T A (reg f l)).length := (List.getElem?_eq_some_iff.1 hk).1
  have hR := PR_len S T A (reg f l)
  have hq : (sq S T A (reg f l))[(PF S A (reg f l)).length + k]? = some u := by
    unfold sq
    rw [List.getElem?_append_right (by simp), List.length_map, Nat.add_sub_cancel_left, List.getElem?_map, hk]; simp [O.atPl u hu]
  have hkr : (PF S A (reg f l)).length + k < (PR S T A (reg f l)).length := by omega
  have hr := List.getElem?_eq_getElem hkr
  have hh := M.hit _ u _ hkr hq hr
  refine ⟨k, hk, by rw [hh.2]; exact hr, ?_, by rw [hh.2]; exact hh.1⟩
  rw [hh.2]
  have e : (PF S A (reg f l)).length = (PR S T A (reg f l)).length - (PB S T A (reg f l)).length := by omega
  simp only [e] at hr ⊢
  exact sub_le (PB_sub S T A _) (PR_up S T A f l) k _ _ hk hr

theorem place_off (O : Ok n A Pl E) {f l : Nat} (hl : l < n) (M : Put (PR S T A (reg f l)) (sq S T A (reg f l)) (PR S T A (reg f l)).length A Pl A' Pl') {u : Nat} (hu : u < n) (h : ¬ (f ≤ Pl u ∧ Pl u ≤ l ∧ (S u = true ∨ T u = true))) :
    Pl' u = Pl u ∧ A' (Pl u) = u := by
  refine ⟨M.plOff u fun j _ hq => h ?_, ?_⟩
  · have hm := List.mem_of_getElem? hq
    unfold sq PF PB at hm
    rcases List.mem_append.1 hm with hm | hm
    all_goals
      obtain ⟨p, hp, rfl⟩ := List.mem_map.1 hm
      have h3 := List.mem_filter.1 hp
      have h4 := (reg_mem f l p).1 h3.1
      rw [O.plAt p (by omega)]
      exact ⟨h4.1, h4.2, by have := h3.2; revert this; cases S (A p) <;> cases T (A p) <;> simp⟩
  · rw [M.atOff (Pl u) fun j _ hr => h ?_, O.atPl u hu]
    have hm := (PR_mem S T A _ _).1 (List.mem_of_getElem? hr)
    rw [O.atPl u hu, reg_mem] at hm
    exact ⟨hm.1.1, hm.1.2, hm.2⟩

theorem moved (O : Ok n A Pl E) (hn : n ≤ 40) (hx : x < n) (hy : y < n) (hxy : Pl y ≤ Pl x)
    (hS : ∀ v, v < 40 → (S v = true ↔ SrcI E Pl x (Pl y) v)) (hT : ∀ v, v < 40 → (T v = true ↔ (v = y ∨ (Pl v < Pl x ∧ Way E y v)))) (hSy : S y = false)
    (M : Put (PR S T A (reg (Pl y) (Pl x))) (sq S T A (reg (Pl y) (Pl x))) (PR S T A (reg (Pl y) (Pl x))).length A Pl A' Pl') :
    Ok n A' Pl' (edge E x y true) ∧ ∀ v, v < n → S v = false → T v = false → Pl' v = Pl v := by
  have hl := O.plLt x hx
  have hup := PR_up S T A (Pl y) (Pl x)
  have sIn : ∀ u, u < n → S u = true → Pl y ≤ Pl u ∧ Pl u ≤ Pl x := fun u hu h => by
    rcases (hS u (by omega)).1 h with rfl | ⟨h1, h2, _⟩
    · exact ⟨hxy, Nat.le_refl _⟩
    · exact ⟨h1, by omega⟩
  have hSx : S x = true := (hS x (by omega)).2 (Or.inl rfl)
  have hne : x ≠ y := fun e => by rw [e, hSy] at hSx; cases hSx
  have hnw : ¬ Way E y x := fun h => by
    have := (hS y (by omega)).2 (Or.inr ⟨Nat.le_refl _, (O.way h).2.2, h⟩)
    rw [hSy] at this; cases this
  have hTy : T y = true := (hT y (by omega)).2 (Or.inl rfl)
  have tIn : ∀ u, u < n → T u = true → Pl y ≤ Pl u ∧ Pl u < Pl x := fun u hu h => by
    rcases (hT u (by omega)).1 h with rfl | ⟨h1, h2⟩
    · refine ⟨Nat.le_refl _, ?_⟩
      rcases Nat.lt_or_ge (Pl u) (Pl x) with h | h
      · exact h
      · exact absurd (O.inj hx hy (by omega)) hne
    · exact ⟨Nat.le_of_lt (O.way h2).2.2, h1⟩
  have sWay : ∀ u, u < n → S u = true → u = x ∨ Way E u x := fun u hu h => by
    rcases (hS u (by omega)).1 h with rfl | ⟨_, _, h2⟩
    · exact Or.inl rfl
    · exact Or.inr h2
  have tWay : ∀ u, u < n → T u = true → u = y ∨ Way E y u := fun u hu h => by
    rcases (hT u (by omega)).1 h with rfl | ⟨_, h2⟩
    · exact Or.inl rfl
    · exact Or.inr h2
  have front := fun (u : Nat) (hu : u < n) (h : S u = true) => place_front O M hu (sIn u hu h).1 (sIn u hu h).2 h
  have back := fun (u : Nat) (hu : u < n) (h : S u = false) (h' : T u = true) => place_back O M hu (tIn u hu h').1 (Nat.le_of_lt (tIn u hu h').2) h h'
  have off := fun (u : Nat) (hu : u < n) (h : S u = false) (h' : T u = false) => place_off (S := S) (T := T) O hl M hu (by simp [h, h'])
  have inR : ∀ (k r : Nat), (PR S T A (reg (Pl y) (Pl x)))[k]? = some r → Pl y ≤ r ∧ r ≤ Pl x := fun k r h => by
    have := (PR_mem S T A _ _).1 (List.mem_of_getElem? h)
    rw [reg_mem] at this; exact this.1
  have both : ∀ v, v < n → Pl' v < n ∧ A' (Pl' v) = v := fun v hv => by
    cases h : S v with
    | true => obtain ⟨k, _, _, h1, _, h2⟩ := front v hv h; exact ⟨by have := inR k _ h1; omega, h2⟩
    | false => cases h' : T v with
      | true => obtain ⟨k, _, h1, _, h2⟩ := back v hv h h'; exact ⟨by have := inR _ _ h1; omega, h2⟩
      | false => obtain ⟨h1, h2⟩ := off v hv h h'; rw [h1]; exact ⟨O.plLt v hv, h2⟩
  have ofAt : ∀ p, p < n → A' p < n ∧ Pl' (A' p) = p := fun p hp => by
    by_cases hm : p ∈ PR S T A (reg (Pl y) (Pl x))
    · obtain ⟨k, hk⟩ := List.getElem?_of_mem hm
      have hkl : k < (PR S T A (reg (Pl y) (Pl x))).length := (List.getElem?_eq_some_iff.1 hk).1
      have hkq : k < (sq S T A (reg (Pl y) (Pl x))).length := by rw [sq_length]; exact hkl
      have hq := List.getElem?_eq_getElem hkq
      have hh := M.hit k _ p hkl hq hk
      refine ⟨?_, by rw [hh.1]; exact hh.2⟩
      rw [hh.1]
      have hmem : (sq S T A (reg (Pl y) (Pl x)))[k] ∈ sq S T A (reg (Pl y) (Pl x)) := List.getElem_mem hkq
      generalize (sq S T A (reg (Pl y) (Pl x)))[k] = z at hmem
      unfold sq PF PB at hmem
      rcases List.mem_append.1 hmem with hmem | hmem
      all_goals
        obtain ⟨q, hq, rfl⟩ := List.mem_map.1 hmem
        have h4 := (reg_mem _ _ q).1 (List.mem_filter.1 hq).1
        exact O.atLt q (by omega)
    · have h1 : A' p = A p := M.atOff p fun j _ hr => hm (List.mem_of_getElem? hr)
      have hap := O.atLt p hp
      have h2 := place_off (S := S) (T := T) O hl M hap (by
        rw [O.plAt p hp]
        rintro ⟨h3, h4, h5⟩
        exact hm ((PR_mem S T A _ _).2 ⟨(reg_mem _ _ _).2 ⟨h3, h4⟩, h5⟩))
      rw [h1, h2.1, O.plAt p hp]
      exact ⟨hap, rfl⟩
  refine ⟨⟨fun p hp => (ofAt p hp).1, fun v hv => (both v hv).1, fun p hp => (ofAt p hp).2, fun v hv => (both v hv).2, ?_, ?_⟩, fun v hv h h' => (off v hv h h').1⟩
  · intro a b h
    unfold edge at h
    split at h
    · rename_i hab; rw [hab.1, hab.2]; exact ⟨hx, hy⟩
    · exact O.dom a b h
  · intro u v h
    have key : E u v = true → Pl' u < Pl' v := by
      clear h
      intro h
      obtain ⟨hu, hv⟩ := O.dom u v h
      have hlt := O.fwd u v h
      cases h1 : S u with
      | true =>
        obtain ⟨k, hkl, hk, hk2, hle, _⟩ := front u hu h1
        cases h2 : S v with
        | true =>
          obtain ⟨k', _, hk', hk2', _, _⟩ := front v hv h2
          have := up_ix ((reg_up _ _).filter _) hlt hk hk'
          exact up_lt hup this hk2 hk2'
        | false => cases h3 : T v with
          | true =>
            obtain ⟨k', _, hk2', _, _⟩ := back v hv h2 h3
            exact up_lt hup (by omega) hk2 hk2'
          | false => rw [(off v hv h2 h3).1]; omega
      | false => cases h1' : T u with
        | true =>
          obtain ⟨k, hk, hk2, hle, _⟩ := back u hu h1 h1'
          have hw := tWay u hu h1'
          have hyv : Way E y v := by
            rcases hw with rfl | hw
            · exact .one h
            · exact hw.snoc h
          cases h2 : S v with
          | true =>
            exfalso
            rcases sWay v hv h2 with rfl | h4
            · exact hnw hyv
            · exact hnw (hyv.trans h4)
          | false => cases h3 : T v with
            | true =>
              obtain ⟨k', hk', hk2', _, _⟩ := back v hv h2 h3
              have := up_ix ((reg_up _ _).filter _) hlt hk hk'
              exact up_lt hup (by omega) hk2 hk2'
            | false =>
              rw [(off v hv h2 h3).1]
              have h4 := (inR _ _ hk2).2
              have h5 : ¬ Pl v < Pl x := fun h6 => by
                have := (hT v (by omega)).2 (Or.inr ⟨h6, hyv⟩)
                rw [h3] at this; cases this
              have h6 : Pl v ≠ Pl x := fun e => by
                have := O.inj hv hx e; subst this; rw [hSx] at h2; cases h2
              omega
        | false =>
          rw [(off u hu h1 h1').1]
          cases h2 : S v with
          | true =>
            obtain ⟨k', _, _, hk2', _, _⟩ := front v hv h2
            have h4 := (inR _ _ hk2').1
            have h5 := sIn v hv h2
            have hux : Way E u x := by
              rcases sWay v hv h2 with rfl | h6
              · exact .one h
              · exact .more h h6
            have h6 : ¬ Pl y ≤ Pl u := fun h7 => by
              have := (hS u (by omega)).2 (Or.inr ⟨h7, (O.way hux).2.2, hux⟩)
              rw [h1] at this; cases this
            omega
          | false => cases h3 : T v with
            | true =>
              obtain ⟨k', _, _, hle, _⟩ := back v hv h2 h3
              omega
            | false => rw [(off v hv h2 h3).1]; exact hlt
    unfold edge at h
    split at h
    · rename_i hab
      obtain ⟨rfl, rfl⟩ := hab
      obtain ⟨k, hkl, _, hk2, _, _⟩ := front u hx hSx
      obtain ⟨k', _, hk2', _, _⟩ := back v hy hSy hTy
      exact up_lt hup (by omega) hk2 hk2'
    · exact key h

end

/-- An edge whose ends stand right. -/
theorem Ok.edge (O : Ok n A Pl E) (hx : x < n) (hy : y < n) (h : Pl x < Pl y) : Ok n A Pl (edge E x y true) :=
  ⟨O.atLt, O.plLt, O.plAt, O.atPl, fun a b hab => by
    unfold Kp.edge at hab
    split at hab
    · rename_i e; rw [e.1, e.2]; exact ⟨hx, hy⟩
    · exact O.dom a b hab, fun a b hab => by
    unfold Kp.edge at hab
    split at hab
    · rename_i e; rw [e.1, e.2]; exact h
    · exact O.fwd a b hab⟩

theorem Ok.drop (O : Ok n A Pl E) (x y : Nat) : Ok n A Pl (Kp.edge E x y false) :=
  ⟨O.atLt, O.plLt, O.plAt, O.atPl, fun a b hab => by
    unfold Kp.edge at hab
    split at hab
    · cases hab
    · exact O.dom a b hab, fun a b hab => by
    unfold Kp.edge at hab
    split at hab
    · cases hab
    · exact O.fwd a b hab⟩

/-- Does an edge from x to y close a cycle? -/
theorem closes_iff (O : Ok n A Pl E) (hn : n ≤ 40) (hy : y < n) (S : Nat → Bool) (hS : ∀ v, v < 40 → (S v = true ↔ SrcI E Pl x (Pl y) v)) :
    S y = true ↔ (Way E y x ∨ x = y) := by
  rw [hS y (by omega)]
  constructor
  · rintro (h | ⟨_, _, h⟩)
    · exact Or.inr h.symm
    · exact Or.inl h
  · rintro (h | h)
    · exact Or.inr ⟨Nat.le_refl _, (O.way h).2.2, h⟩
    · exact Or.inl h.symm

theorem no_cycle (O : Ok n A Pl E) (h : Pl x < Pl y) : ¬ (Way E y x ∨ x = y) := by
  rintro (h1 | rfl)
  · have := (O.way h1).2.2; omega
  · omega


/-- On the way to x: the next one. -/
theorem way_next (O : Ok n A Pl E) (hn : n ≤ 40) (hx : x < n) {f u : Nat} (S : Nat → Bool) (hS : ∀ v, v < 40 → (S v = true ↔ SrcI E Pl x f v)) (hu : u < n) (hu' : S u = true) (hne : u ≠ x) :
    ∃ v, v < n ∧ E u v = true ∧ S v = true ∧ Pl u < Pl v ∧ Pl v ≤ Pl x := by
  rcases (hS u (by omega)).1 hu' with h | ⟨h1, h2, h3⟩
  · exact absurd h hne
  · cases h3 with
    | one e => exact ⟨x, hx, e, (hS x (by omega)).2 (Or.inl rfl), O.fwd _ _ e, Nat.le_refl _⟩
    | more e hw =>
      rename_i v
      have hb := O.way hw
      have hf := O.fwd _ _ e
      exact ⟨v, hb.1, e, (hS v (by omega)).2 (Or.inr ⟨by omega, hb.2.2, hw⟩), hf, Nat.le_of_lt hb.2.2⟩

theorem src_le {f u : Nat} (S : Nat → Bool) (hS : ∀ v, v < 40 → (S v = true ↔ SrcI E Pl x f v)) (hu : u < 40) (h : S u = true) (hf : f ≤ Pl x) : f ≤ Pl u ∧ Pl u ≤ Pl x := by
  rcases (hS u hu).1 h with rfl | ⟨h1, h2, _⟩
  · exact ⟨hf, Nat.le_refl _⟩
  · exact ⟨h1, Nat.le_of_lt h2⟩

/-! ### A search, node by node -/
structure Bfs (E : Nat → Nat → Bool) (n x : Nat) (seen : Nat → Bool) (tl : List Nat) (i z : Nat) : Prop where
  nd : tl.Nodup
  mem : ∀ v, v ∈ tl ↔ (v < n ∧ seen v = true)
  way : ∀ v, v ∈ tl → Way E x v
  done : ∀ j, j < i → ∀ u, (x :: tl)[j]? = some u → ∀ v, v < n → E u v = true → seen v = true
  now : ∀ u, (x :: tl)[i]? = some u → ∀ v, v < z → E u v = true → seen v = true

theorem bfs_start (E : Nat → Nat → Bool) (n x : Nat) : Bfs E n x (fun _ => false) [] 0 0 :=
  ⟨List.nodup_nil, by simp, by simp, fun j h => by omega, fun u _ v h => by omega⟩

theorem nodup_le : ∀ (n : Nat) (l : List Nat), l.Nodup → (∀ a, a ∈ l → a < n) → l.length ≤ n
  | 0, l, _, h => by
    cases l with
    | nil => simp
    | cons a l => have := h a (by simp); omega
  | n + 1, l, hd, h => by
    have := nodup_le n (l.erase n) (hd.erase n) (fun a ha => by
      have := (hd.mem_erase_iff).1 ha
      have := h a this.2
      omega)
    rw [List.length_erase] at this
    split at this <;> omega

theorem Bfs.len {seen : Nat → Bool} {tl : List Nat} {i z : Nat} (B : Bfs E n x seen tl i z) : tl.length ≤ n :=
  nodup_le n tl B.nd fun a ha => ((B.mem a).1 ha).1

theorem Bfs.skip {seen : Nat → Bool} {tl : List Nat} {i z u : Nat} (B : Bfs E n x seen tl i z) (hu : (x :: tl)[i]? = some u) (h : E u z = true → seen z = true) : Bfs E n x seen tl i (z + 1) :=
  ⟨B.nd, B.mem, B.way, B.done, fun u' hu' v hv he => by
    by_cases e : v = z
    · subst e
      rw [hu] at hu'; simp at hu'; subst hu'
      exact h he
    · exact B.now u' hu' v (by omega) he⟩

def on (f : Nat → Bool) (i : Nat) : Nat → Bool := fun j => if j = i then true else f j

theorem on_of (f : Nat → Bool) (i v : Nat) (h : f v = true) : on f i v = true := by unfold on; split <;> simp [h]

theorem Bfs.take {seen : Nat → Bool} {tl : List Nat} {i z u : Nat} (B : Bfs E n x seen tl i z) (hu : (x :: tl)[i]? = some u) (hz : z < n) (he : E u z = true) (hs : seen z = false) : Bfs E n x (on seen z) (tl ++ [z]) i (z + 1) := by
  have hil : i < (x :: tl).length := (List.getElem?_eq_some_iff.1 hu).1
  have hw : Way E x z := by
    cases i with
    | zero => simp at hu; subst hu; exact .one he
    | succ i => exact (B.way u (List.mem_of_getElem? (by simpa using hu))).snoc he
  have hsame : ∀ j, j ≤ i → (x :: (tl ++ [z]))[j]? = (x :: tl)[j]? := fun j hj => by
    rw [← List.cons_append, List.getElem?_append_left (by omega)]
  refine ⟨?_, fun v => ?_, fun v hv => ?_, fun j hj u' hu' v hv he' => ?_, fun u' hu' v hv he' => ?_⟩
  · rw [List.nodup_append]
    refine ⟨B.nd, by simp, ?_⟩
    intro a ha b hb e
    simp at hb; subst hb; subst e
    have := ((B.mem a).1 ha).2
    rw [hs] at this; cases this
  · rw [List.mem_append, B.mem v]
    unfold on
    constructor
    · rintro (⟨h1, h2⟩ | h)
      · exact ⟨h1, by split <;> simp [h2]⟩
      · simp at h; subst h; exact ⟨hz, by simp⟩
    · rintro ⟨h1, h2⟩
      split at h2
      · rename_i e; subst e; exact Or.inr (by simp)
      · exact Or.inl ⟨h1, h2⟩
  · rcases List.mem_append.1 hv with h | h
    · exact B.way v h
    · simp at h; subst h; exact hw
  · rw [hsame j (by omega)] at hu'
    exact on_of _ _ _ (B.done j hj u' hu' v hv he')
  · rw [hsame i (Nat.le_refl _)] at hu'
    by_cases e : v = z
    · subst e; simp [on]
    · exact on_of _ _ _ (B.now u' hu' v (by omega) he')

theorem Bfs.next {seen : Nat → Bool} {tl : List Nat} {i : Nat} (B : Bfs E n x seen tl i n) : Bfs E n x seen tl (i + 1) 0 :=
  ⟨B.nd, B.mem, B.way, fun j hj u hu v hv he => by
    by_cases e : j = i
    · subst e; exact B.now u hu v hv he
    · exact B.done j (by omega) u hu v hv he, fun _ _ v hv => by omega⟩

theorem Bfs.fin {seen : Nat → Bool} {tl : List Nat} {z : Nat} (B : Bfs E n x seen tl (tl.length + 1) z) (hd : ∀ a b, E a b = true → a < n ∧ b < n) (hy : y < n) : seen y = true ↔ Way E x y := by
  have out : ∀ u v, Way E u v → u ∈ x :: tl → seen v = true := by
    intro u v h
    induction h with
    | one e =>
      intro hm
      obtain ⟨j, hj⟩ := List.getElem?_of_mem hm
      have hjl := (List.getElem?_eq_some_iff.1 hj).1
      exact B.done j (by simpa using hjl) _ hj _ (hd _ _ e).2 e
    | more e _ ih =>
      intro hm
      obtain ⟨j, hj⟩ := List.getElem?_of_mem hm
      have hjl := (List.getElem?_eq_some_iff.1 hj).1
      have := B.done j (by simpa using hjl) _ hj _ (hd _ _ e).2 e
      exact ih (List.mem_cons_of_mem _ ((B.mem _).2 ⟨(hd _ _ e).2, this⟩))
  constructor
  · intro h
    exact B.way y ((B.mem y).2 ⟨hy, h⟩)
  · intro h
    exact out x y h (by simp)

end Kp

end Go.Proofs.Ytelmkfkgpnadnaa
