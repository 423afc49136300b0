/-
  A stable sort, plain: rows that are swapped, rotated, merged; equal elements keep their order.
  A stable sort, plain: the order in which equal elements keep their places; insertion, merging.
  A stable sort, plain: what the search for the middle finds.
  The library's stable sort: rows of one length, each in order; plain mathematics.
-/
import Derived.Sort.LotA
namespace Go.Proofs.YtelmkfkgpnadnaaGreatDoor
open Go.Sort
namespace Ss

theorem range_map_split {β : Type} (f : Nat → β) (a n k : Nat) : (List.range' a (n + k)).map f = (List.range' a n).map f ++ (List.range' (a + n) k).map f := by
  rw [← List.map_append]
  have h := List.range'_append (s := a) (m := n) (n := k) (step := 1)
  rw [Nat.one_mul] at h
  rw [h]

variable {α : Type} [Inhabited α]

/-! ### two rows exchanged, a row rotated -/

/-- The rows of n from a and from b on are exchanged. -/
def SwpR (a b n : Nat) (d e : Array α) : Prop := e.size = d.size ∧ ∀ p, e[p]! = if a ≤ p ∧ p < a + n then d[p - a + b]! else if b ≤ p ∧ p < b + n then d[p - b + a]! else d[p]!

theorem SwpR.zero (a b : Nat) (d : Array α) : SwpR a b 0 d d := ⟨rfl, fun p => by rw [if_neg (by omega), if_neg (by omega)]⟩

theorem SwpR.step {a b n : Nat} {d e : Array α} (h : SwpR a b n d e) (hd : a + n < b ∨ b + n < a) (ha : a + n < d.size) (hb : b + n < d.size) : SwpR a b (n + 1) d (swp e (a + n) (b + n)) := by
  refine ⟨by rw [swp_size]; exact h.1, fun p => ?_⟩
  rw [swp_get e (by rw [h.1]; exact ha) (by rw [h.1]; exact hb) p]
  simp only [h.2]
  repeat' split
  all_goals first
    | omega
    | rfl
    | (congr 1; omega)

/-- The row from m on comes ahead of the one from a on. -/
def Rot (a m b : Nat) (d e : Array α) : Prop := e.size = d.size ∧ ∀ p, e[p]! = if a ≤ p ∧ p < a + (b - m) then d[p - a + m]! else if a + (b - m) ≤ p ∧ p < b then d[p - (b - m)]! else d[p]!

theorem rot_even {m i : Nat} {d e : Array α} (hi : i ≤ m) (h : SwpR (m - i) m i d e) : Rot (m - i) m (m + i) d e := by
  refine ⟨h.1, fun p => ?_⟩
  simp only [h.2]
  repeat' split
  all_goals first
    | omega
    | rfl
    | (congr 1; omega)

theorem rot_left {m i j : Nat} {d e f : Array α} (hi : i ≤ m) (hij : j < i) (h : SwpR (m - i) m j d e) (hr : Rot (m - (i - j)) m (m + j) e f) : Rot (m - i) m (m + j) d f := by
  refine ⟨hr.1.trans h.1, fun p => ?_⟩
  simp only [hr.2, h.2]
  repeat' split
  all_goals first
    | omega
    | rfl
    | (congr 1; omega)

theorem rot_right {m i j : Nat} {d e f : Array α} (hi : i ≤ m) (hij : i < j) (h : SwpR (m - i) (m + j - i) i d e) (hr : Rot (m - i) m (m + (j - i)) e f) : Rot (m - i) m (m + j) d f := by
  refine ⟨hr.1.trans h.1, fun p => ?_⟩
  simp only [hr.2, h.2]
  repeat' split
  all_goals first
    | omega
    | rfl
    | (congr 1; omega)

theorem Rot.perm {a m b : Nat} {d e : Array α} (h : Rot a m b d e) (h1 : a ≤ m) (h2 : m ≤ b) (hb : b ≤ d.size) : PermIn a b d e := by
  refine ⟨h.1, fun i hi => by rw [h.2, if_neg (by omega), if_neg (by omega)], ?_⟩
  rw [extract_toList d a b hb, extract_toList e a b (by rw [h.1]; exact hb)]
  have e1 : b - a = (b - m) + (m - a) := by omega
  have e2 : b - a = (m - a) + (b - m) := by omega
  have l1 : (List.range' a (b - m)).map (fun i => e[i]!) = (List.range' m (b - m)).map (fun i => d[i]!) := by
    apply List.ext_getElem
    · simp
    · intro n h1 h2
      simp only [List.getElem_map, List.getElem_range', Nat.one_mul]
      simp at h1
      rw [h.2, if_pos (by omega)]
      congr 1; omega
  have l2 : (List.range' (a + (b - m)) (m - a)).map (fun i => e[i]!) = (List.range' a (m - a)).map (fun i => d[i]!) := by
    apply List.ext_getElem
    · simp
    · intro n h1 h2
      simp only [List.getElem_map, List.getElem_range', Nat.one_mul]
      simp at h1
      rw [h.2, if_neg (by omega), if_pos (by omega)]
      congr 1; omega
  conv => lhs; rw [e1, range_map_split, l1, l2]
  conv => rhs; rw [e2, range_map_split]
  have e3 : a + (m - a) = m := by omega
  rw [e3]
  exact List.perm_append_comm

end Ss
end Go.Proofs.YtelmkfkgpnadnaaGreatDoor

namespace Go.Proofs.YtelmkfkgpnadnaaGreatDoor
open Go.Sort
namespace Ss
section
variable {α : Type} {lt : α → α → Bool} {tag : α → Nat}

/-- By lt, equal ones by their tags. -/
def rl (lt : α → α → Bool) (tag : α → Nat) (x y : α) : Bool := lt x y || (!lt y x && decide (tag x < tag y))

theorem rl_false (x y : α) : rl lt tag x y = false ↔ lt x y = false ∧ (lt y x = true ∨ tag y ≤ tag x) := by
  unfold rl
  cases h1 : lt x y <;> cases h2 : lt y x <;> simp

theorem rl_true (x y : α) : rl lt tag x y = true ↔ lt x y = true ∨ (lt y x = false ∧ tag x < tag y) := by
  unfold rl
  cases h1 : lt x y <;> cases h2 : lt y x <;> simp

/-- What a strict order gives. -/
theorem lt_of_lt_of_not (h : SWO lt) {x y z : α} (h1 : lt x y = true) (h2 : lt z y = false) : lt x z = true := by
  cases h3 : lt x z
  · rw [h.ntrans x z y h3 h2] at h1; cases h1
  · rfl

theorem lt_of_not_of_lt (h : SWO lt) {x y z : α} (h1 : lt y x = false) (h2 : lt y z = true) : lt x z = true := by
  cases h3 : lt x z
  · rw [h.ntrans y x z h1 h3] at h2; cases h2
  · rfl

theorem rl_swo (h : SWO lt) : SWO (rl lt tag) where
  irrefl x := by rw [rl_false]; exact ⟨h.irrefl x, Or.inr (Nat.le_refl _)⟩
  trans x y z h1 h2 := by
    rw [rl_true] at *
    rcases h1 with a | ⟨a1, a2⟩
    · rcases h2 with b | ⟨b1, b2⟩
      · exact Or.inl (h.trans x y z a b)
      · exact Or.inl (lt_of_lt_of_not h a b1)
    · rcases h2 with b | ⟨b1, b2⟩
      · exact Or.inl (lt_of_not_of_lt h a1 b)
      · exact Or.inr ⟨h.ntrans z y x b1 a1, by omega⟩
  ntrans x y z h1 h2 := by
    rw [rl_false] at *
    obtain ⟨a1, a2⟩ := h1
    obtain ⟨b1, b2⟩ := h2
    refine ⟨h.ntrans x y z a1 b1, ?_⟩
    rcases a2 with a | a
    · exact Or.inl (lt_of_not_of_lt h b1 a)
    · rcases b2 with b | b
      · exact Or.inl (lt_of_lt_of_not h b a1)
      · exact Or.inr (by omega)

end

variable {α : Type} [Inhabited α] {lt : α → α → Bool} {tag : α → Nat}

/-- The tags rise. -/
def TagInc (tag : α → Nat) (a b : Nat) (d : Array α) : Prop := ∀ i j, a ≤ i → i < j → j < b → tag d[i]! < tag d[j]!

theorem insInner_eq (a : Nat) : ∀ (j : Nat) (d : Array α), (∀ p, a ≤ p → p < j → tag d[p]! < tag d[j]!) → j < d.size → insInner lt a j d = insInner (rl lt tag) a j d
  | 0, d, _, _ => rfl
  | j + 1, d, h, hs => by
    unfold insInner
    by_cases ha : j + 1 > a
    · have e : rl lt tag d[j + 1]! d[j]! = lt d[j + 1]! d[j]! := by
        have h1 := h j (by omega) (by omega)
        unfold rl
        have h2 : decide (tag d[j + 1]! < tag d[j]!) = false := decide_eq_false (by omega)
        rw [h2]
        simp
      rw [e]
      have ih := insInner_eq a j (swp d (j + 1) j) (fun p hp hj => by
        rw [swp_get d hs (by omega), swp_get d hs (by omega), if_neg (by omega), if_neg (by omega), if_pos rfl]
        exact h p hp (by omega)) (by rw [swp_size]; omega)
      rw [ih]
    · have : decide (j + 1 > a) = false := decide_eq_false ha
      rw [this]
      simp

theorem ins_step (hS : SWO lt) (a i : Nat) (d : Array α) (ha : a ≤ i) (hs : i + 1 ≤ d.size) (hso : SortedIn (rl lt tag) a i d) : PermIn a (i + 1) d (insInner (rl lt tag) a i d) ∧ SortedIn (rl lt tag) a (i + 1) (insInner (rl lt tag) a i d) :=
  insInner_spec (rl_swo hS) swp_permIn permIn_refl permIn_trans a (i + 1) i (by omega) i d ha (Nat.le_refl _) hs ⟨fun p q hap hpq hqi _ hq => hso p q hap hpq (by omega), fun q h1 h2 => by omega⟩

theorem insOuter_eq (hS : SWO lt) (a b : Nat) : ∀ (n i : Nat) (d : Array α), b - i ≤ n → a ≤ i → (∀ p q, a ≤ p → p < i → i ≤ q → q < b → tag d[p]! < tag d[q]!) → TagInc tag i b d → b ≤ d.size → SortedIn (rl lt tag) a i d → insOuter lt a b i d = insOuter (rl lt tag) a b i d := by
  intro n
  induction n with
  | zero =>
    intro i d hn _ _ _ _ _
    unfold insOuter
    rw [if_neg (by omega), if_neg (by omega)]
  | succ n ih =>
    intro i d hn ha ht hi hb hso
    unfold insOuter
    by_cases hlt : i < b
    · rw [if_pos hlt, if_pos hlt]
      rw [insInner_eq (lt := lt) a i d (fun p hp hpi => ht p i hp hpi (Nat.le_refl _) hlt) (by omega)]
      obtain ⟨hP, hS2⟩ : PermIn a (i + 1) d (insInner (rl lt tag) a i d) ∧ SortedIn (rl lt tag) a (i + 1) (insInner (rl lt tag) a i d) := ins_step hS a i d ha (by omega) hso
      refine ih (i + 1) _ (by omega) (by omega) (fun p q hp hpi hq hqb => ?_) (fun p q hp hpq hqb => ?_) (by rw [hP.1]; exact hb) hS2
      · rw [hP.2.1 q (Or.inr hq)]
        refine permIn_all d _ a (i + 1) (fun x => tag x < tag d[q]!) (by omega) hP (fun r hr hri => ?_) p hp hpi
        by_cases e : r = i
        · rw [e]; exact hi i q (Nat.le_refl _) (by omega) hqb
        · exact ht r q hr (by omega) (by omega) hqb
      · rw [hP.2.1 p (Or.inr hp), hP.2.1 q (Or.inr (by omega))]
        exact hi p q (by omega) hpq hqb
    · rw [if_neg hlt, if_neg hlt]

/-- Insertion keeps equal ones in their order. -/
theorem ins_stable (hS : SWO lt) (d : Array α) (a b : Nat) (hab : a ≤ b) (hb : b ≤ d.size) (ht : TagInc tag a b d) : PermIn a b d (insertionSort lt d a b) ∧ SortedIn (rl lt tag) a b (insertionSort lt d a b) := by
  have e : insertionSort lt d a b = insertionSort (rl lt tag) d a b := by
    unfold insertionSort
    exact insOuter_eq hS a b _ (a + 1) d (Nat.le_refl _) (by omega) (fun p q hp hpi hq hqb => ht p q hp (by omega) hqb) (fun i j hi hij hj => ht i j (by omega) hij hj) hb (fun i j h1 h2 h3 => by omega)
  rw [e]
  exact insertionSort_holds (rl_swo hS) d a b hab hb

/-! ### merging -/

/-- Two rows that are sorted, the tags of the first lower. -/
structure MPre (lt : α → α → Bool) (tag : α → Nat) (a m b : Nat) (d : Array α) : Prop where
  s1 : SortedIn (rl lt tag) a m d
  s2 : SortedIn (rl lt tag) m b d
  tg : ∀ i j, a ≤ i → i < m → m ≤ j → j < b → tag d[i]! < tag d[j]!

/-- They are one. -/
def MPost (lt : α → α → Bool) (tag : α → Nat) (a b : Nat) (d e : Array α) : Prop := PermIn a b d e ∧ SortedIn (rl lt tag) a b e

theorem le1 {a m b i j : Nat} {d : Array α} (h : MPre lt tag a m b d) (h1 : a ≤ i) (h2 : i ≤ j) (h3 : j < m) (hS : SWO lt) : lt d[j]! d[i]! = false := by
  by_cases e : i = j
  · rw [e]; exact hS.irrefl _
  · exact ((rl_false _ _).1 (h.s1 i j h1 (by omega) h3)).1

theorem le2 {a m b i j : Nat} {d : Array α} (h : MPre lt tag a m b d) (h1 : m ≤ i) (h2 : i ≤ j) (h3 : j < b) (hS : SWO lt) : lt d[j]! d[i]! = false := by
  by_cases e : i = j
  · rw [e]; exact hS.irrefl _
  · exact ((rl_false _ _).1 (h.s2 i j h1 (by omega) h3)).1

theorem rot_same_left (m e : Nat) (d : Array α) : Rot m m e d d := ⟨rfl, fun p => by
  repeat' split
  all_goals first
    | omega
    | rfl
    | (congr 1; omega)⟩

theorem rot_same_right (s m : Nat) (d : Array α) : Rot s m m d d := ⟨rfl, fun p => by
  repeat' split
  all_goals first
    | omega
    | rfl
    | (congr 1; omega)⟩

section
variable {a m b s e : Nat} {d d1 : Array α}

theorem Rot.at0 (h : Rot s m e d d1) {i : Nat} (hi : i < s) : d1[i]! = d[i]! := by rw [h.2, if_neg (by omega), if_neg (by omega)]
theorem Rot.at1 (h : Rot s m e d d1) {i : Nat} (h1 : s ≤ i) (h2 : i < s + (e - m)) : d1[i]! = d[i - s + m]! := by rw [h.2, if_pos (by omega)]
theorem Rot.at2 (h : Rot s m e d d1) {i : Nat} (h1 : s + (e - m) ≤ i) (h2 : i < e) : d1[i]! = d[i - (e - m)]! := by rw [h.2, if_neg (by omega), if_pos (by omega)]
theorem Rot.at3 (h : Rot s m e d d1) {i : Nat} (h1 : e ≤ i) (hs : s ≤ m) (he : m ≤ e) : d1[i]! = d[i]! := by rw [h.2, if_neg (by omega), if_neg (by omega)]

theorem low_sorted (h : MPre lt tag a m b d) (r : Rot s m e d d1) (h2 : s ≤ m) (h3 : m ≤ e) (h4 : e ≤ b) : MPre lt tag a s (s + (e - m)) d1 := by
  refine ⟨fun i j hi hij hj => ?_, fun i j hi hij hj => ?_, fun i j hi his hj hjc => ?_⟩
  · rw [r.at0 (i := i) (by omega), r.at0 (i := j) hj]; exact h.s1 i j hi hij (by omega)
  · rw [r.at1 hi (by omega), r.at1 (by omega) hj]; exact h.s2 _ _ (by omega) (by omega) (by omega)
  · rw [r.at0 his, r.at1 hj hjc]; exact h.tg _ _ hi (by omega) (by omega) (by omega)

theorem high_sorted (h : MPre lt tag a m b d) (r : Rot s m e d d1) (h1 : a ≤ s) (h2 : s ≤ m) (h3 : m ≤ e) : MPre lt tag (s + (e - m)) e b d1 := by
  refine ⟨fun i j hi hij hj => ?_, fun i j hi hij hj => ?_, fun i j hi his hj hjc => ?_⟩
  · rw [r.at2 hi (by omega), r.at2 (by omega) hj]; exact h.s1 _ _ (by omega) (by omega) (by omega)
  · rw [r.at3 hi h2 h3, r.at3 (by omega) h2 h3]; exact h.s2 _ _ (by omega) (by omega) hj
  · rw [r.at2 hi his, r.at3 hj h2 h3]; exact h.tg _ _ (by omega) (by omega) (by omega) hjc

/-- What the search finds: those behind are not ahead of those in front; those that come forward are ahead of those that go back. -/
structure Found (lt : α → α → Bool) (a m b s e : Nat) (d : Array α) : Prop where
  c1 : ∀ x y, a ≤ x → x < s → e ≤ y → y < b → lt d[y]! d[x]! = false
  c2 : ∀ x y, m ≤ x → x < e → s ≤ y → y < m → lt d[x]! d[y]! = true

theorem across (hS : SWO lt) (h : MPre lt tag a m b d) (f : Found lt a m b s e d) (r : Rot s m e d d1) (h2 : s ≤ m) (h3 : m ≤ e) {i j : Nat} (hi : a ≤ i) (hic : i < s + (e - m)) (hjc : s + (e - m) ≤ j) (hj : j < b) : rl lt tag d1[j]! d1[i]! = false := by
  by_cases c1 : i < s
  · rw [r.at0 c1]
    by_cases c2 : j < e
    · rw [r.at2 hjc c2]; exact h.s1 _ _ hi (by omega) (by omega)
    · rw [r.at3 (by omega) h2 h3, rl_false]
      exact ⟨f.c1 _ _ hi c1 (by omega) hj, Or.inr (Nat.le_of_lt (h.tg _ _ hi (by omega) (by omega) hj))⟩
  · rw [r.at1 (by omega) hic]
    by_cases c2 : j < e
    · rw [r.at2 hjc c2, rl_false]
      have k := f.c2 (i - s + m) (j - (e - m)) (by omega) (by omega) (by omega) (by omega)
      exact ⟨hS.asymmA k, Or.inl k⟩
    · rw [r.at3 (by omega) h2 h3]; exact h.s2 _ _ (by omega) (by omega) hj

/-- Both halves merged: all of it is. -/
theorem merged {d2 d3 : Array α} {c : Nat} (hS : SWO lt) (h : MPre lt tag a m b d) (f : Found lt a m b s e d) (r : Rot s m e d d1) (h1 : a ≤ s) (h2 : s ≤ m) (h3 : m ≤ e) (h4 : e ≤ b) (hb : b ≤ d.size) (hc : c = s + (e - m))
    (p1 : MPost lt tag a c d1 d2) (p2 : MPost lt tag c b d2 d3) : MPost lt tag a b d d3 := by
  subst hc
  have z1 := r.1
  have z2 := p1.1.1
  refine ⟨permIn_trans _ _ _ a b (permIn_mono _ _ s e a b h1 h4 hb (r.perm h2 h3 (by omega))) (permIn_trans _ _ _ a b (permIn_mono _ _ a _ a b (Nat.le_refl _) (by omega) (by omega) p1.1) (permIn_mono _ _ _ b a b (by omega) (Nat.le_refl _) (by omega) p2.1)), fun i j hi hij hj => ?_⟩
  by_cases c1 : j < s + (e - m)
  · rw [p2.1.2.1 i (Or.inl (by omega)), p2.1.2.1 j (Or.inl c1)]
    exact p1.2 i j hi hij c1
  · by_cases c2 : s + (e - m) ≤ i
    · exact p2.2 i j c2 hij hj
    · rw [p2.1.2.1 i (Or.inl (by omega))]
      have k : ∀ y, s + (e - m) ≤ y → y < b → ∀ x, a ≤ x → x < s + (e - m) → rl lt tag d1[y]! d2[x]! = false := fun y hy hyb =>
        permIn_all d1 d2 a (s + (e - m)) (fun v => rl lt tag d1[y]! v = false) (by omega) p1.1 (fun x hx hxc => across hS h f r h2 h3 hx hxc hy hyb)
      have k2 : ∀ y, s + (e - m) ≤ y → y < b → rl lt tag d2[y]! d2[i]! = false := fun y hy hyb => by
        rw [p1.1.2.1 y (Or.inr hy)]
        exact k y hy hyb i hi (by omega)
      exact permIn_all d2 d3 (s + (e - m)) b (fun v => rl lt tag v d2[i]! = false) (by omega) p2.1 k2 j (by omega) hj

theorem MPost.refl_of (h : SortedIn (rl lt tag) a b d) : MPost lt tag a b d d := ⟨permIn_refl d a b, h⟩

/-- One half is empty. -/
theorem sorted_left (h : MPre lt tag a m b d) (e1 : m = a) : SortedIn (rl lt tag) a b d := by subst e1; exact h.s2
theorem sorted_right (h : MPre lt tag a m b d) (e1 : m = b) : SortedIn (rl lt tag) a b d := by subst e1; exact h.s1

/-- One element alone goes to its place. -/
theorem up_done (hS : SWO lt) (h : MPre lt tag a (a + 1) b d) (r : Rot a (a + 1) e d d1) (h3 : a + 1 ≤ e) (h4 : e ≤ b) (hb : b ≤ d.size) (q1 : ∀ x, a + 1 ≤ x → x < e → lt d[x]! d[a]! = true) (q2 : ∀ x, e ≤ x → x < b → lt d[x]! d[a]! = false) : MPost lt tag a b d d1 := by
  have f : Found lt a (a + 1) b a e d := ⟨fun x y h1 h2 => by omega, fun x y h1 h2 h3 h4 => by
    obtain rfl : y = a := by omega
    exact q1 x h1 h2⟩
  have L := low_sorted h r (by omega) h3 h4
  have H := high_sorted h r (Nat.le_refl _) (by omega) h3
  refine merged hS h f r (Nat.le_refl _) (by omega) h3 h4 hb rfl (MPost.refl_of (sorted_left L rfl)) (MPost.refl_of fun i j hi hij hj => ?_)
  by_cases c1 : j < e
  · exact H.s1 i j hi hij c1
  · by_cases c2 : e ≤ i
    · exact H.s2 i j c2 hij hj
    · rw [rl_false]
      refine ⟨?_, Or.inr (Nat.le_of_lt (H.tg i j hi (by omega) (by omega) hj))⟩
      rw [r.at3 (by omega) (by omega) h3, r.at2 hi (by omega)]
      have e1 : i - (e - (a + 1)) = a := by omega
      rw [e1]
      exact q2 j (by omega) hj

theorem down_done (hS : SWO lt) (h : MPre lt tag a m (m + 1) d) (r : Rot s m (m + 1) d d1) (h1 : a ≤ s) (h2 : s ≤ m) (hb : m + 1 ≤ d.size) (q1 : ∀ x, a ≤ x → x < s → lt d[m]! d[x]! = false) (q2 : ∀ x, s ≤ x → x < m → lt d[m]! d[x]! = true) : MPost lt tag a (m + 1) d d1 := by
  have f : Found lt a m (m + 1) s (m + 1) d := ⟨fun x y h1 h2 h3 h4 => by omega, fun x y h1 h2 h3 h4 => by
    obtain rfl : x = m := by omega
    exact q2 y h3 h4⟩
  have L := low_sorted h r h2 (by omega) (Nat.le_refl _)
  have H := high_sorted h r h1 h2 (by omega)
  refine merged hS h f r h1 h2 (by omega) (Nat.le_refl _) hb rfl (MPost.refl_of fun i j hi hij hj => ?_) (MPost.refl_of (sorted_right H rfl))
  by_cases c1 : j < s
  · exact L.s1 i j hi hij c1
  · by_cases c2 : s ≤ i
    · exact L.s2 i j c2 hij hj
    · rw [rl_false]
      refine ⟨?_, Or.inr (Nat.le_of_lt (L.tg i j hi (by omega) (by omega) hj))⟩
      rw [r.at0 (i := i) (by omega), r.at1 (i := j) (by omega) hj]
      have e1 : j - s + m = m := by omega
      rw [e1]
      exact q1 i hi (by omega)

theorem rot_up {k : Nat} (h : Rot a (a + 1) (k + 1) d d1) (hk : a ≤ k) (hs : k + 1 < d.size) : Rot a (a + 1) (k + 2) d (swp d1 k (k + 1)) := by
  refine ⟨by rw [swp_size]; exact h.1, fun p => ?_⟩
  rw [swp_get d1 (by rw [h.1]; omega) (by rw [h.1]; omega) p]
  simp only [h.2]
  repeat' split
  all_goals first
    | omega
    | rfl
    | (congr 1; omega)

theorem rot_down {k : Nat} (h : Rot k m (m + 1) d d1) (hk : k ≤ m) (h0 : 0 < k) (hs : m < d.size) : Rot (k - 1) m (m + 1) d (swp d1 k (k - 1)) := by
  refine ⟨by rw [swp_size]; exact h.1, fun p => ?_⟩
  rw [swp_get d1 (by rw [h.1]; omega) (by rw [h.1]; omega) p]
  simp only [h.2]
  repeat' split
  all_goals first
    | omega
    | rfl
    | (congr 1; omega)

end

end Ss
end Go.Proofs.YtelmkfkgpnadnaaGreatDoor

namespace Go.Proofs.YtelmkfkgpnadnaaGreatDoor
open Go.Sort
namespace Ss
variable {α : Type} [Inhabited α] {lt : α → α → Bool} {tag : α → Nat} {a m b nn st s0 r0 : Nat} {d : Array α}

theorem found_of (hS : SWO lt) (h : MPre lt tag a m b d) (e0 : s0 = a ∨ s0 + b = nn) (e1 : r0 = m ∨ r0 + m = nn) (h1 : s0 ≤ st) (h2 : st ≤ r0) (ha : a ≤ s0) (hr : r0 ≤ m) (hb : nn ≤ s0 + b) (hm : r0 + m ≤ nn)
    (q1 : ∀ x, s0 ≤ x → x < st → lt d[nn - 1 - x]! d[x]! = false) (q2 : ∀ x, st ≤ x → x < r0 → lt d[nn - 1 - x]! d[x]! = true) : Found lt a m b st (nn - st) d := by
  refine ⟨fun x y hx hxs hy hyb => ?_, fun x y hx hxe hy hym => ?_⟩
  · by_cases c : s0 = st
    · rcases e0 with e | e <;> omega
    · have k := q1 (st - 1) (by omega) (by omega)
      have e2 : nn - 1 - (st - 1) = nn - st := by omega
      rw [e2] at k
      have k1 := le2 h (i := nn - st) (j := y) (by omega) hy hyb hS
      have k2 := le1 h (i := x) (j := st - 1) hx (by omega) (by omega) hS
      exact hS.ntrans _ _ _ (hS.ntrans _ _ _ k1 k) k2
  · by_cases c : st = r0
    · rcases e1 with e | e <;> omega
    · have k := q2 st (Nat.le_refl _) (by omega)
      have e2 : nn - 1 - st = nn - st - 1 := by omega
      rw [e2] at k
      have k1 := le2 h (i := x) (j := nn - st - 1) hx (by omega) (by omega) hS
      have k2 := le1 h (i := st) (j := y) (by omega) hy hym hS
      exact lt_of_lt_of_not hS (lt_of_not_of_lt hS k1 k) k2

/-- What is not ahead stays so further to the front. -/
theorem down_to (hS : SWO lt) (h : MPre lt tag a m b d) (ha : a ≤ s0) (hr : r0 ≤ m) (hb : nn ≤ s0 + b) (hm : r0 + m ≤ nn) {c x : Nat} (hx : s0 ≤ x) (hxc : x ≤ c) (hc : c < r0) (k : lt d[nn - 1 - c]! d[c]! = false) : lt d[nn - 1 - x]! d[x]! = false := by
  have k1 := le2 h (i := nn - 1 - c) (j := nn - 1 - x) (by omega) (by omega) (by omega) hS
  have k2 := le1 h (i := x) (j := c) (by omega) hxc (by omega) hS
  exact hS.ntrans _ _ _ (hS.ntrans _ _ _ k1 k) k2

theorem up_from (hS : SWO lt) (h : MPre lt tag a m b d) (ha : a ≤ s0) (hr : r0 ≤ m) (hb : nn ≤ s0 + b) (hm : r0 + m ≤ nn) {c x : Nat} (hc : s0 ≤ c) (hxc : c ≤ x) (hx : x < r0) (k : lt d[nn - 1 - c]! d[c]! = true) : lt d[nn - 1 - x]! d[x]! = true := by
  have k1 := le2 h (i := nn - 1 - x) (j := nn - 1 - c) (by omega) (by omega) (by omega) hS
  have k2 := le1 h (i := c) (j := x) (by omega) hxc (by omega) hS
  exact lt_of_lt_of_not hS (lt_of_not_of_lt hS k1 k) k2

theorem MPre.congr {e : Array α} (h : MPre lt tag a m b d) (he : ∀ i, a ≤ i → i < b → e[i]! = d[i]!) (h1 : a ≤ m) (h2 : m ≤ b) : MPre lt tag a m b e :=
  ⟨fun i j hi hij hj => by rw [he i hi (by omega), he j (by omega) (by omega)]; exact h.s1 i j hi hij hj,
   fun i j hi hij hj => by rw [he i (by omega) (by omega), he j (by omega) hj]; exact h.s2 i j hi hij hj,
   fun i j hi him hj hjb => by rw [he i hi (by omega), he j (by omega) hjb]; exact h.tg i j hi him hj hjb⟩

/-- What was not rotated was so. -/
theorem rot_none {s e : Nat} (h1 : s ≤ m) (h2 : m ≤ e) (h : ¬ (s < m ∧ m < e)) : Rot s m e d d := by
  by_cases c : s = m
  · subst c; exact rot_same_left s e d
  · obtain rfl : e = m := by omega
    exact rot_same_right s e d

/-- What was not merged was merged. -/
theorem post_none (h : MPre lt tag a m b d) (h1 : a ≤ m) (h2 : m ≤ b) (hn : ¬ (a < m ∧ m < b)) : MPost lt tag a b d d := by
  by_cases c : m = a
  · exact MPost.refl_of (sorted_left h c)
  · exact MPost.refl_of (sorted_right h (by omega))

end Ss
end Go.Proofs.YtelmkfkgpnadnaaGreatDoor

namespace Go.Proofs.YtelmkfkgpnadnaaGreatDoor
open Go.Sort
namespace Ss
variable {α : Type} [Inhabited α] {lt : α → α → Bool} {tag : α → Nat}

/-- Every tag ahead of a place is lower than every one behind it. -/
def Cutt (tag : α → Nat) (n c : Nat) (d : Array α) : Prop := ∀ i l, i < c → c ≤ l → l < n → tag d[i]! < tag d[l]!

theorem Cutt.perm {n c a b : Nat} {d e : Array α} (h : Cutt tag n c d) (hp : PermIn a b d e) (hn : b ≤ n) (hb : b ≤ d.size) (hc : c ≤ a ∨ b ≤ c) : Cutt tag n c e := by
  intro i l h1 h2 h3
  have step : ∀ i, i < c → ∀ l, c ≤ l → l < n → tag e[i]! < tag d[l]! := by
    intro i h1 l h2 h3
    by_cases hi : a ≤ i ∧ i < b
    · exact permIn_all d e a b (fun x => tag x < tag d[l]!) hb hp (fun q q1 q2 => h q l (by omega) h2 h3) i hi.1 hi.2
    · rw [hp.2.1 i (by omega)]; exact h i l h1 h2 h3
  by_cases hl : a ≤ l ∧ l < b
  · exact permIn_all d e a b (fun x => tag e[i]! < tag x) hb hp (fun q q1 q2 => step i h1 q (by omega) (by omega)) l hl.1 hl.2
  · rw [hp.2.1 l (by omega)]; exact step i h1 l h2 h3

theorem SortedIn.far {f : α → α → Bool} {a b x y : Nat} {d e : Array α} (h : SortedIn f x y d) (hp : PermIn a b d e) (hc : y ≤ a ∨ b ≤ x) : SortedIn f x y e := by
  intro i j h1 h2 h3
  rw [hp.2.1 i (by omega), hp.2.1 j (by omega)]
  exact h i j h1 h2 h3

theorem SortedIn.less {f : α → α → Bool} {x y x' y' : Nat} {d : Array α} (h : SortedIn f x y d) (h1 : x ≤ x') (h2 : y' ≤ y) : SortedIn f x' y' d := fun i j a b c => h i j (by omega) b (by omega)

/-- From p on: rows of s, each in order. -/
structure Bs (lt : α → α → Bool) (tag : α → Nat) (s p n : Nat) (d : Array α) : Prop where
  so : ∀ j, p ≤ j * s → SortedIn (rl lt tag) (j * s) (min (j * s + s) n) d
  bd : ∀ j, p ≤ j * s → Cutt tag n (j * s) d

/-- Up to p: rows of s, each in order. -/
structure Bl (lt : α → α → Bool) (tag : α → Nat) (s p n : Nat) (d : Array α) : Prop where
  so : ∀ j, j * s + s ≤ p → SortedIn (rl lt tag) (j * s) (j * s + s) d
  bd : ∀ j, j * s ≤ p → Cutt tag n (j * s) d

theorem Bl.none (s n : Nat) (hs : 0 < s) (d : Array α) : Bl lt tag s 0 n d :=
  ⟨fun j hj => by omega, fun j hj i l h1 => by omega⟩

theorem next_mul {j k s : Nat} (h : k * s < j * s) : k * s + s ≤ j * s := by
  have : k < j := Nat.lt_of_mul_lt_mul_right h
  have h2 := Nat.mul_le_mul_right s (show k + 1 ≤ j from this)
  rwa [Nat.add_mul, Nat.one_mul] at h2

/-- One more row of s is in order. -/
theorem Bl.step {s k n : Nat} {d e : Array α} (h : Bl lt tag s (k * s) n d) (hp : PermIn (k * s) (k * s + s) d e) (hso : SortedIn (rl lt tag) (k * s) (k * s + s) e) (hcut : Cutt tag n (k * s + s) d) (hn : k * s + s ≤ n) (hsz : n ≤ d.size) : Bl lt tag s (k * s + s) n e := by
  refine ⟨fun j hj => ?_, fun j hj => ?_⟩
  · by_cases hjk : j * s < k * s
    · have := next_mul hjk
      exact SortedIn.far (h.so j this) hp (Or.inl this)
    · by_cases hkj : k * s < j * s
      · have := next_mul hkj
        intro i q h1 h2 h3
        omega
      · have e1 : j * s = k * s := by omega
        rw [e1]; exact hso
  · by_cases hjk : j * s ≤ k * s
    · exact (h.bd j hjk).perm hp hn (by omega) (Or.inl hjk)
    · have := next_mul (show k * s < j * s by omega)
      have e1 : j * s = k * s + s := by omega
      rw [e1]
      exact hcut.perm hp hn (by omega) (Or.inr (Nat.le_refl _))

/-- The rest is one shorter row. -/
theorem Bl.last {s k n : Nat} {d e : Array α} (h : Bl lt tag s (k * s) n d) (hp : PermIn (k * s) n d e) (hso : SortedIn (rl lt tag) (k * s) n e) (hn : n < k * s + s) (hsz : n ≤ d.size) : Bs lt tag s 0 n e := by
  refine ⟨fun j _ => ?_, fun j _ => ?_⟩
  · by_cases hjk : j * s < k * s
    · have := next_mul hjk
      exact SortedIn.less (SortedIn.far (h.so j this) hp (Or.inl this)) (Nat.le_refl _) (Nat.min_le_left _ _)
    · exact SortedIn.less hso (by omega) (Nat.min_le_right _ _)
  · by_cases hjk : j * s ≤ k * s
    · exact (h.bd j hjk).perm hp (Nat.le_refl _) hsz (Or.inl hjk)
    · have := next_mul (show k * s < j * s by omega)
      intro i l h1 h2 h3
      omega

/-! ### rows of twice the length -/

theorem Bs.pre {s k n p : Nat} {d : Array α} (h : Bs lt tag s p n d) (hp : p = (k + k) * s) (m : Nat) (hm : m ≤ p + s + s) (hmn : m ≤ n) (hs : p + s ≤ m) : MPre lt tag p (p + s) m d := by
  have e1 : (k + k) * s + s = (k + k + 1) * s := by rw [Nat.add_mul (k + k) 1, Nat.one_mul]
  refine ⟨?_, ?_, ?_⟩
  · have := h.so (k + k) (by omega)
    rw [← hp] at this
    exact SortedIn.less this (Nat.le_refl _) (by omega)
  · have := h.so (k + k + 1) (by omega)
    rw [← e1, ← hp] at this
    exact SortedIn.less this (Nat.le_refl _) (by omega)
  · have := h.bd (k + k + 1) (by omega)
    rw [← e1, ← hp] at this
    exact fun i j _ h2 h3 h4 => this i j h2 h3 (by omega)

theorem Bs.rest {s p n m : Nat} {d e : Array α} (h : Bs lt tag s p n d) (hp : PermIn p m d e) (hm : p ≤ m) (hn : m ≤ n) (hsz : n ≤ d.size) : Bs lt tag s m n e :=
  ⟨fun j hj => SortedIn.far (h.so j (by omega)) hp (Or.inr hj), fun j hj => (h.bd j (by omega)).perm hp hn (by omega) (Or.inr hj)⟩

theorem Bs.cut_at {s k n p : Nat} {d : Array α} (h : Bs lt tag s p n d) (hp : p = (k + k) * s) : Cutt tag n (p + s + s) d := by
  have e1 : (k + k) * s + s = (k + k + 1) * s := by rw [Nat.add_mul (k + k) 1, Nat.one_mul]
  have e2 : (k + k + 1) * s + s = (k + k + 1 + 1) * s := by rw [Nat.add_mul (k + k + 1), Nat.one_mul]
  have := h.bd (k + k + 1 + 1) (by omega)
  rw [← e2, ← e1, ← hp] at this
  exact this

theorem two_mul_row (k s : Nat) : (k + k) * s = k * (s + s) := by rw [Nat.add_mul, Nat.mul_add]

/-- Two rows of s become one of twice the length. -/
theorem twice_step {s k n p : Nat} {d e : Array α} (hp : p = k * (s + s)) (h : Bs lt tag s p n d) (hl : Bl lt tag (s + s) p n d) (hn : p + (s + s) ≤ n) (hsz : n ≤ d.size) (hM : MPost lt tag p (p + (s + s)) d e) :
    Bs lt tag s (p + (s + s)) n e ∧ Bl lt tag (s + s) (p + (s + s)) n e := by
  refine ⟨h.rest hM.1 (by omega) hn hsz, ?_⟩
  have c := h.cut_at (k := k) (by rw [two_mul_row]; exact hp)
  subst hp
  exact hl.step hM.1 hM.2 (by rw [← Nat.add_assoc]; exact c) hn hsz

/-- The rest: one row and a shorter one. -/
theorem twice_last {s k n p : Nat} {d e : Array α} (hp : p = k * (s + s)) (hl : Bl lt tag (s + s) p n d) (hn : n < p + (s + s)) (hsz : n ≤ d.size) (hM : MPost lt tag p n d e) : Bs lt tag (s + s) 0 n e := by
  subst hp
  exact hl.last hM.1 hM.2 hn hsz

/-- The rest: one row at most. -/
theorem twice_none {s k n p : Nat} {d : Array α} (hp : p = k * (s + s)) (h : Bs lt tag s p n d) (hl : Bl lt tag (s + s) p n d) (hn : n ≤ p + s) (h0 : 0 < s) (hsz : n ≤ d.size) : Bs lt tag (s + s) 0 n d := by
  refine twice_last hp hl (by omega) hsz ⟨permIn_refl d p n, ?_⟩
  have := h.so (k + k) (by rw [two_mul_row]; omega)
  rw [two_mul_row, ← hp] at this
  exact SortedIn.less this (Nat.le_refl _) (by omega)

/-- Rows of n or more: one row. -/
theorem Bs.whole {s n : Nat} {d : Array α} (h : Bs lt tag s 0 n d) (hn : n ≤ s) : SortedIn (rl lt tag) 0 n d := by
  have := h.so 0 (by omega)
  rw [Nat.zero_mul] at this
  exact SortedIn.less this (Nat.le_refl _) (by omega)

/-! ### the first rows -/

theorem Cutt.of_inc {a n c : Nat} {d : Array α} (h : Cutt tag n a d) (ht : TagInc tag a n d) (hc : a ≤ c) : Cutt tag n c d := by
  intro i l h1 h2 h3
  by_cases hi : i < a
  · exact h i l hi (by omega) h3
  · exact ht i l (by omega) (by omega) h3

theorem TagInc.less {a a' b b' : Nat} {d : Array α} (h : TagInc tag a b d) (h1 : a ≤ a') (h2 : b' ≤ b) : TagInc tag a' b' d := fun i j x y z => h i j (by omega) y (by omega)

theorem TagInc.far {a b x y : Nat} {d e : Array α} (h : TagInc tag x y d) (hp : PermIn a b d e) (hc : b ≤ x) : TagInc tag x y e := by
  intro i j h1 h2 h3
  rw [hp.2.1 i (by omega), hp.2.1 j (by omega)]
  exact h i j h1 h2 h3

/-- A row of s more is sorted by insertion. -/
theorem first_step {s k n p : Nat} {d : Array α} (hS : SWO lt) (hp : p = k * s) (hl : Bl lt tag s p n d) (ht : TagInc tag p n d) (hn : p + s ≤ n) (hsz : n ≤ d.size) :
    PermIn p (p + s) d (insertionSort lt d p (p + s)) ∧ Bl lt tag s (p + s) n (insertionSort lt d p (p + s)) ∧ TagInc tag (p + s) n (insertionSort lt d p (p + s)) := by
  obtain ⟨h1, h2⟩ := ins_stable (tag := tag) hS d p (p + s) (by omega) (by omega) (ht.less (Nat.le_refl _) hn)
  refine ⟨h1, ?_, (ht.less (by omega) (Nat.le_refl _)).far h1 (Nat.le_refl _)⟩
  have hc : Cutt tag n (p + s) d := Cutt.of_inc (a := p) (by rw [hp]; exact hl.bd k (by omega)) ht (by omega)
  subst hp
  exact hl.step h1 h2 hc hn hsz

theorem first_last {s k n p : Nat} {d : Array α} (hS : SWO lt) (hp : p = k * s) (hl : Bl lt tag s p n d) (ht : TagInc tag p n d) (hpn : p ≤ n) (hn : n < p + s) (hsz : n ≤ d.size) :
    PermIn p n d (insertionSort lt d p n) ∧ Bs lt tag s 0 n (insertionSort lt d p n) := by
  obtain ⟨h1, h2⟩ := ins_stable (tag := tag) hS d p n hpn hsz ht
  subst hp
  exact ⟨h1, hl.last h1 h2 hn hsz⟩

end Ss
end Go.Proofs.YtelmkfkgpnadnaaGreatDoor
