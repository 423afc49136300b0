/-
  The plain mathematics of the order of versions: it is one, and words that stand at one place are one. No model's run in this text.
  The plain mathematics of sorted lists of versions: there is one.
-/
import Derived.Test.YtelmkfkgpnadnaaGreatDoorKPure
import Derived.Test.YtelmkfkgpnadnaaGreatDoorKAA
import Derived.Deep.RegionHeld3
import Derived.Sort.LotA
import Derived.Shelf.SlSortCmp.Insertion
namespace Go.Proofs.YtelmkfkgpnadnaaGreatDoor
namespace Pv

/-- A comparison that orders those of which p holds. -/
structure Cmp {α : Type} (p : α → Prop) (f : α → α → Int) : Prop where
  anti : ∀ a b, p a → p b → f b a = - f a b
  zero : ∀ a b, p a → p b → f a b = 0 → a = b
  trans : ∀ a b c, p a → p b → p c → f a b ≤ 0 → f b c ≤ 0 → f a c ≤ 0

theorem Cmp.self {α : Type} {p : α → Prop} {f : α → α → Int} (h : Cmp p f) {a : α} (ha : p a) : f a a = 0 := by
  have := h.anti a a ha ha
  omega

theorem Cmp.lt_trans {α : Type} {p : α → Prop} {f : α → α → Int} (h : Cmp p f) {a b c : α} (ha : p a) (hb : p b) (hc : p c) (h1 : f a b < 0) (h2 : f b c < 0) : f a c < 0 := by
  have h3 := h.trans a b c ha hb hc (by omega) (by omega)
  rcases Int.lt_or_eq_of_le h3 with h4 | h4
  · exact h4
  · have e := h.zero a c ha hc h4
    subst e
    have := h.anti a b ha hb
    omega

theorem Cmp.list {p : List UInt8 → Prop} {f : List UInt8 → List UInt8 → Int} (h : Cmp p f) : Cmp (fun l : List (List UInt8) => ∀ x ∈ l, p x) (cmpL f) := by
  refine ⟨?_, ?_, ?_⟩
  · intro a
    induction a with
    | nil => intro b _ _; cases b <;> simp [cmpL]
    | cons x xs ih =>
      intro b ha hb
      cases b with
      | nil => simp [cmpL]
      | cons y ys =>
        have hx := ha x (by simp)
        have hy := hb y (by simp)
        have ha' : ∀ z ∈ xs, p z := fun z hz => ha z (by simp [hz])
        have hb' : ∀ z ∈ ys, p z := fun z hz => hb z (by simp [hz])
        have hxy := h.anti x y hx hy
        by_cases e : f x y = 0
        · have e' : f y x = 0 := by omega
          rw [cmpL, cmpL, if_pos e, if_pos e']; exact ih ys ha' hb'
        · have e' : ¬ f y x = 0 := by omega
          rw [cmpL, cmpL, if_neg e, if_neg e']; exact hxy
  · intro a
    induction a with
    | nil => intro b _ _ h0; cases b with
      | nil => rfl
      | cons y ys => simp [cmpL] at h0
    | cons x xs ih =>
      intro b ha hb h0
      cases b with
      | nil => simp [cmpL] at h0
      | cons y ys =>
        have hx := ha x (by simp)
        have hy := hb y (by simp)
        have ha' : ∀ z ∈ xs, p z := fun z hz => ha z (by simp [hz])
        have hb' : ∀ z ∈ ys, p z := fun z hz => hb z (by simp [hz])
        rw [cmpL] at h0
        by_cases e : f x y = 0
        · rw [if_pos e] at h0
          rw [h.zero x y hx hy e, ih ys ha' hb' h0]
        · rw [if_neg e] at h0; exact absurd h0 e
  · intro a
    induction a with
    | nil => intro b c _ _ _ _ _; cases c <;> simp [cmpL]
    | cons x xs ih =>
      intro b c ha hb hc h1 h2
      cases b with
      | nil => simp [cmpL] at h1
      | cons y ys =>
        cases c with
        | nil => simp [cmpL] at h2
        | cons z zs =>
          have hx := ha x (by simp)
          have hy := hb y (by simp)
          have hz := hc z (by simp)
          rw [cmpL] at h1 h2 ⊢
          by_cases e1 : f x y = 0
          · have exy := h.zero x y hx hy e1
            subst exy
            rw [if_pos e1] at h1
            by_cases e2 : f x z = 0
            · rw [if_pos e2] at h2 ⊢
              exact ih ys zs (fun u hu => ha u (by simp [hu])) (fun u hu => hb u (by simp [hu])) (fun u hu => hc u (by simp [hu])) h1 h2
            · rw [if_neg e2] at h2 ⊢; exact h2
          · rw [if_neg e1] at h1
            by_cases e2 : f y z = 0
            · have eyz := h.zero y z hy hz e2
              subst eyz
              rw [if_neg e1]; exact h1
            · rw [if_neg e2] at h2
              have h3 := h.lt_trans hx hy hz (by omega) (by omega)
              rw [if_neg (by omega)]; omega

theorem cmp_int : Cmp (fun _ : Int => True) Lib.compareInt := by
  refine ⟨fun a b _ _ => ?_, fun a b _ _ h => ?_, fun a b c _ _ _ h1 h2 => ?_⟩
  · unfold Lib.compareInt; split <;> split <;> (try split) <;> omega
  · unfold Lib.compareInt at h; split at h <;> (try split at h) <;> omega
  · unfold Lib.compareInt at h1 h2 ⊢; split at h1 <;> split at h2 <;> (try split at h1) <;> (try split at h2) <;> split <;> (try split) <;> omega

theorem lt_irrefl (a : List UInt8) : ¬ a < a := by
  induction a with
  | nil => simp
  | cons x xs ih =>
    rw [List.cons_lt_cons_iff]
    rintro (h | ⟨_, h⟩)
    · exact absurd h (UInt8.lt_irrefl x)
    · exact ih h

theorem cmpB_cases (a b : List UInt8) : (Lib.compareBytes a b = -1 ∧ a < b) ∨ (Lib.compareBytes a b = 1 ∧ b < a) ∨ (Lib.compareBytes a b = 0 ∧ ¬ a < b ∧ ¬ b < a) := by
  rw [compareBytes_lt]
  by_cases h : a < b
  · rw [if_pos h]; exact Or.inl ⟨rfl, h⟩
  · rw [if_neg h]
    by_cases h2 : b < a
    · rw [if_pos h2]; exact Or.inr (Or.inl ⟨rfl, h2⟩)
    · rw [if_neg h2]; exact Or.inr (Or.inr ⟨rfl, h, h2⟩)

theorem lt_trans' {a b c : List UInt8} (h : a < b) (k : b < c) : a < c := List.lt_trans h k

theorem lt_asymm' {a b : List UInt8} (h : a < b) : ¬ b < a := fun k => lt_irrefl a (lt_trans' h k)

theorem lt_total : ∀ (a b : List UInt8), ¬ a < b → ¬ b < a → a = b
  | [], [], _, _ => rfl
  | [], y :: ys, h, _ => absurd (by simp) h
  | x :: xs, [], _, h => absurd (by simp) h
  | x :: xs, y :: ys, h, k => by
    rw [List.cons_lt_cons_iff] at h k
    have e : x = y := by
      have h1 : ¬ x.toNat < y.toNat := fun e => h (Or.inl e)
      have h3 : ¬ y.toNat < x.toNat := fun e => k (Or.inl e)
      exact UInt8.toNat.inj (by omega)
    subst e
    rw [lt_total xs ys (fun e => h (Or.inr ⟨rfl, e⟩)) (fun e => k (Or.inr ⟨rfl, e⟩))]

theorem cmp_bytes : Cmp (fun _ : List UInt8 => True) Lib.compareBytes := by
  refine ⟨fun a b _ _ => ?_, fun a b _ _ h => ?_, fun a b c _ _ _ h1 h2 => ?_⟩
  · rcases cmpB_cases a b with ⟨e, h⟩ | ⟨e, h⟩ | ⟨e, h, k⟩
    · rw [e, compareBytes_lt, if_neg (lt_asymm' h), if_pos h]; rfl
    · rw [e, compareBytes_lt, if_pos h]
    · rw [e, compareBytes_lt, if_neg k, if_neg h]; rfl
  · rcases cmpB_cases a b with ⟨e, _⟩ | ⟨e, _⟩ | ⟨_, h', k⟩
    · rw [h] at e; exact absurd e (by decide)
    · rw [h] at e; exact absurd e (by decide)
    · exact lt_total a b h' k
  · have e1 : a = b ∨ a < b := by
      rcases cmpB_cases a b with ⟨_, h⟩ | ⟨e, _⟩ | ⟨_, h', k⟩
      · exact Or.inr h
      · rw [e] at h1; exact absurd h1 (by decide)
      · exact Or.inl (lt_total a b h' k)
    have e2 : b = c ∨ b < c := by
      rcases cmpB_cases b c with ⟨_, h⟩ | ⟨e, _⟩ | ⟨_, h', k⟩
      · exact Or.inr h
      · rw [e] at h2; exact absurd h2 (by decide)
      · exact Or.inl (lt_total b c h' k)
    have e3 : a = c ∨ a < c := by
      rcases e1 with rfl | e1
      · exact e2
      · rcases e2 with rfl | e2
        · exact Or.inr e1
        · exact Or.inr (lt_trans' e1 e2)
    rcases e3 with rfl | e3
    · rw [compareBytes_lt, if_neg (lt_irrefl a), if_neg (lt_irrefl a)]; decide
    · rw [compareBytes_lt, if_pos e3]; decide

theorem val_inj {a b : List UInt8} (ha : isNum a = true) (hb : isNum b = true) (h : val a = val b) : a = b := by
  rcases Nat.lt_trichotomy a.length b.length with hl | hl | hl
  · have := val_shorter ha hb hl; omega
  · have ha' := ((isNum_iff a).1 ha).2.1
    have hb' := ((isNum_iff b).1 hb).2.1
    have h1 := cmp_same_length a b ha' hb' hl
    rw [h] at h1
    have h2 : Lib.compareInt (val b) (val b) = 0 := cmp_int.self trivial
    rw [h2] at h1
    exact cmp_bytes.zero a b trivial trivial h1
  · have := val_shorter hb ha hl; omega

theorem cmp_num : Cmp (fun a : List UInt8 => isNum a = true) cmpN := by
  refine ⟨fun a b _ _ => cmp_int.anti _ _ trivial trivial, fun a b ha hb h => ?_, fun a b c _ _ _ h1 h2 => cmp_int.trans _ _ _ trivial trivial trivial h1 h2⟩
  have := cmp_int.zero _ _ trivial trivial h
  exact val_inj ha hb (by omega)

theorem cmpId_cases (a b : List UInt8) : cmpId a b = if isNum a = true then (if isNum b = true then cmpN a b else -1) else (if isNum b = true then 1 else Lib.compareBytes a b) := by
  unfold cmpId cmpN
  cases isNum a <;> cases isNum b <;> simp

theorem cmp_id : Cmp (fun _ : List UInt8 => True) cmpId := by
  refine ⟨fun a b _ _ => ?_, fun a b _ _ h => ?_, fun a b c _ _ _ h1 h2 => ?_⟩
  · rw [cmpId_cases, cmpId_cases]
    by_cases ha : isNum a = true <;> by_cases hb : isNum b = true <;> simp only [ha, hb, if_true, Bool.false_eq_true, if_false]
    all_goals first | rfl | exact cmp_num.anti a b ha hb | exact cmp_bytes.anti a b trivial trivial
  · rw [cmpId_cases] at h
    by_cases ha : isNum a = true <;> by_cases hb : isNum b = true <;> simp only [ha, hb, if_true, Bool.false_eq_true, if_false] at h
    · exact cmp_num.zero a b ha hb h
    · exact absurd h (by decide)
    · exact absurd h (by decide)
    · exact cmp_bytes.zero a b trivial trivial h
  · rw [cmpId_cases] at h1 h2 ⊢
    by_cases ha : isNum a = true <;> by_cases hb : isNum b = true <;> by_cases hc : isNum c = true <;> simp only [ha, hb, hc, if_true, Bool.false_eq_true, if_false] at h1 h2 ⊢
    · exact cmp_num.trans a b c ha hb hc h1 h2
    · decide
    · exact absurd h2 (by decide)
    · decide
    · exact absurd h1 (by decide)
    · exact absurd h1 (by decide)
    · exact absurd h2 (by decide)
    · exact cmp_bytes.trans a b c trivial trivial trivial h1 h2

/-- Two lists of identifiers: none goes behind all. -/
def cmpP (v w : List (List UInt8)) : Int := if decide (0 < v.length) = decide (0 < w.length) then cmpL cmpId v w else if 0 < v.length then -1 else 1

theorem cmp_p : Cmp (fun _ : List (List UInt8) => True) cmpP := by
  have hl := cmp_id.list
  have tr : ∀ l : List (List UInt8), ∀ x ∈ l, True := fun _ _ _ => trivial
  have c0 : ∀ v w : List (List UInt8), cmpP v w = if v = [] then (if w = [] then 0 else 1) else (if w = [] then -1 else cmpL cmpId v w) := by
    intro v w
    cases v <;> cases w <;> simp [cmpP, cmpL]
  refine ⟨fun a b _ _ => ?_, fun a b _ _ h => ?_, fun a b c _ _ _ h1 h2 => ?_⟩
  · rw [c0, c0]
    by_cases ha : a = [] <;> by_cases hb : b = [] <;> simp only [ha, hb, if_true, if_false]
    all_goals first | rfl | exact hl.anti a b (tr a) (tr b)
  · rw [c0] at h
    by_cases ha : a = [] <;> by_cases hb : b = [] <;> simp only [ha, hb, if_true, if_false] at h
    · rw [ha, hb]
    · exact absurd h (by decide)
    · exact absurd h (by decide)
    · exact hl.zero a b (tr a) (tr b) h
  · rw [c0] at h1 h2 ⊢
    by_cases ha : a = [] <;> by_cases hb : b = [] <;> by_cases hc : c = [] <;> simp only [ha, hb, hc, if_true, if_false] at h1 h2 ⊢
    · decide
    · exact absurd h2 (by decide)
    · exact absurd h1 (by decide)
    · exact absurd h1 (by decide)
    · decide
    · exact absurd h2 (by decide)
    · decide
    · exact hl.trans a b c (tr a) (tr b) (tr c) h1 h2

/-- The order of versions. -/
theorem cmp_v : Cmp (fun v : List (List UInt8) × List (List UInt8) => ∀ x ∈ v.1, isNum x = true) cmpV := by
  have hn := cmp_num.list
  have c0 : ∀ v w, cmpV v w = if cmpL cmpN v.1 w.1 = 0 then cmpP v.2 w.2 else cmpL cmpN v.1 w.1 := fun v w => rfl
  refine ⟨fun a b ha hb => ?_, fun a b ha hb h => ?_, fun a b c ha hb hc h1 h2 => ?_⟩
  · have h1 := hn.anti a.1 b.1 ha hb
    rw [c0, c0]
    by_cases e : cmpL cmpN a.1 b.1 = 0
    · rw [if_pos e, if_pos (by omega)]; exact cmp_p.anti _ _ trivial trivial
    · rw [if_neg e, if_neg (by omega)]; exact h1
  · rw [c0] at h
    by_cases e : cmpL cmpN a.1 b.1 = 0
    · rw [if_pos e] at h
      exact Prod.ext (hn.zero _ _ ha hb e) (cmp_p.zero _ _ trivial trivial h)
    · rw [if_neg e] at h; exact absurd h e
  · rw [c0] at h1 h2 ⊢
    by_cases e1 : cmpL cmpN a.1 b.1 = 0
    · have e := hn.zero _ _ ha hb e1
      rw [if_pos e1] at h1
      rw [e]
      by_cases e2 : cmpL cmpN b.1 c.1 = 0
      · rw [if_pos e2] at h2 ⊢
        exact cmp_p.trans _ _ _ trivial trivial trivial h1 h2
      · rw [if_neg e2] at h2 ⊢; exact h2
    · rw [if_neg e1] at h1
      by_cases e2 : cmpL cmpN b.1 c.1 = 0
      · have e := hn.zero _ _ hb hc e2
        rw [← e, if_neg e1]; exact h1
      · rw [if_neg e2] at h2
        have h3 := hn.lt_trans ha hb hc (by omega) (by omega)
        rw [if_neg (by omega)]; omega

/-- Pieces, put together again. -/
def joinc (c : UInt8) : List (List UInt8) → List UInt8
  | [] => []
  | [p] => p
  | p :: q :: ps => p ++ c :: joinc c (q :: ps)

theorem joinc_spl (c : UInt8) : ∀ l, joinc c (spl c l) = l
  | [] => rfl
  | b :: l => by
    have ih := joinc_spl c l
    have hne := spl_ne c l
    unfold spl
    by_cases hb : b = c
    · rw [if_pos hb]
      cases h : spl c l with
      | nil => exact absurd h hne
      | cons p ps => rw [h] at ih; rw [joinc, ih, hb]; rfl
    · rw [if_neg hb]
      cases h : spl c l with
      | nil => exact absurd h hne
      | cons p ps =>
        rw [h] at ih
        cases ps with
        | nil => simp only [joinc] at ih ⊢; rw [ih]
        | cons q qs => simp only [joinc] at ih ⊢; rw [← ih]; rfl

theorem parse_form {l : List UInt8} {v : List (List UInt8) × List (List UInt8)} (h : parse l = some v) : l = 118 :: (joinc 46 v.1 ++ (if v.2 = [] then [] else 45 :: joinc 46 v.2)) ∧ ∀ x ∈ v.1, isNum x = true := by
  unfold parse at h
  split at h
  · rename_i hc
    have hl : l = 118 :: l.tail := by
      cases l with
      | nil => simp at hc
      | cons a t => simp at hc; rw [hc.1]; rfl
    have hj := cutc_join 45 l.tail
    split at h
    · simp at h
    · rename_i ns hns
      unfold parseN at hns
      split at hns
      · rename_i hn
        have hns' : spl 46 (cutc 45 l.tail).1 = ns := by injection hns
        have e1 : joinc 46 ns = (cutc 45 l.tail).1 := by rw [← hns', joinc_spl]
        have e2 : ∀ x ∈ ns, isNum x = true := fun x hx => by
          rw [← hns'] at hx
          have h3 := List.all_eq_true.1 hn.2 x hx
          unfold okNum at h3
          simp only [Bool.and_eq_true] at h3
          exact h3.2
        split at h
        · rename_i hb
          rw [hb] at hj
          have hv : v = (ns, []) := by injection h with h; exact h.symm
          subst hv
          refine ⟨?_, e2⟩
          rw [hl, if_pos rfl, e1]
          conv => lhs; rw [hj]
        · rename_i b hb
          rw [hb] at hj
          unfold parseI at h
          split at h
          · have hv : v = (ns, spl 46 b) := by simp at h; exact h.symm
            subst hv
            refine ⟨?_, e2⟩
            rw [if_neg (spl_ne 46 b), e1, joinc_spl]
            conv => lhs; rw [hl, hj]
          · simp at h
      · simp at hns
  · simp at h

theorem parse_inj {a b : List UInt8} {v : List (List UInt8) × List (List UInt8)} (ha : parse a = some v) (hb : parse b = some v) : a = b := by
  rw [(parse_form ha).1, (parse_form hb).1]

end Pv
end Go.Proofs.YtelmkfkgpnadnaaGreatDoor

namespace Go.Proofs.YtelmkfkgpnadnaaGreatDoor
open Go.RowKit

def pv (a : ByteArray) : List (List UInt8) × List (List UInt8) := (Pv.parse a.data.toList).getD ([], [])

theorem pv_of {a : ByteArray} (h : IsV a) : Pv.parse a.data.toList = some (pv a) := by
  obtain ⟨v, hv⟩ := Option.isSome_iff_exists.1 h
  unfold pv
  rw [hv]; rfl

/-- A version. -/
structure Ver where
  val : ByteArray
  ok : IsV val

instance : Inhabited Ver := ⟨⟨⟨#[118, 48, 46, 48, 46, 48]⟩, by unfold IsV; decide⟩⟩

end Go.Proofs.YtelmkfkgpnadnaaGreatDoor
