/-
  The document's answer: where the reading of a version's numbers stands.
-/
import Derived.Test.YtiamomiafekihaaGreatDoorPure
namespace Go.Proofs.YtiamomiafekihaaGreatDoor

/-- k numbers are read, the next byte is l[i]. -/
def ScAt (l : List UInt8) (k i : Nat) (ns : List (List UInt8)) : Prop := Pv.scan k l.tail = some (ns, l.drop i) ∧ 1 ≤ i ∧ i ≤ l.length ∧ ns.length = k

theorem ScAt.start {l : List UInt8} (h : 0 < l.length) : ScAt l 0 1 [] := by
  refine ⟨?_, by omega, by omega, rfl⟩
  cases l with
  | nil => simp at h
  | cons c t => simp [Pv.scan]

theorem scan_stays (r : List UInt8) : ∀ (k j : Nat), Pv.scan k r = none → Pv.scan (k + j) r = none
  | k, 0, h => h
  | k, j + 1, h => by
    have := scan_stays r k j h
    rw [show k + (j + 1) = (k + j) + 1 by omega, Pv.scan, this]

/-- A number is to be read at l[i]. -/
def Mid (l : List UInt8) (k i : Nat) (ns : List (List UInt8)) : Prop := Pv.scan (k + 1) l.tail = (match Pv.num1 (l.drop i) with | none => none | some (d, v) => some (ns ++ [d], v)) ∧ 1 ≤ i ∧ i ≤ l.length ∧ ns.length = k

theorem ScAt.first {l : List UInt8} {i : Nat} {ns : List (List UInt8)} (h : ScAt l 0 i ns) : Mid l 0 i ns := by
  obtain ⟨h1, h2, h3, h4⟩ := h
  exact ⟨by rw [Pv.scan, h1]; rfl, h2, h3, h4⟩

theorem ScAt.dot {l : List UInt8} {k i : Nat} {ns : List (List UInt8)} (h : ScAt l k i ns) (hk : 0 < k) (hi : i < l.length) (hd : l[i] = 46) : Mid l k (i + 1) ns := by
  obtain ⟨h1, h2, h3, h4⟩ := h
  refine ⟨?_, by omega, by omega, h4⟩
  rw [Pv.scan, h1]
  dsimp only
  rw [if_neg (by omega), List.drop_eq_getElem_cons hi, Pv.dot, if_pos hd]
  rfl

theorem ScAt.nodot {l : List UInt8} {k i : Nat} {ns : List (List UInt8)} (h : ScAt l k i ns) (hk : 0 < k) (hi : ∀ h : i < l.length, l[i] ≠ 46) : Pv.scan (k + 1) l.tail = none := by
  obtain ⟨h1, h2, h3, h4⟩ := h
  rw [Pv.scan, h1]
  dsimp only
  rw [if_neg (by omega)]
  by_cases hlt : i < l.length
  · rw [List.drop_eq_getElem_cons hlt, Pv.dot, if_neg (hi hlt)]
  · rw [List.drop_of_length_le (by omega)]; rfl

theorem Mid.bad {l : List UInt8} {k i : Nat} {ns : List (List UInt8)} (h : Mid l k i ns) (hb : ((l.drop i).takeWhile Pv.dg).length = 0 ∨ 6 < ((l.drop i).takeWhile Pv.dg).length ∨ (1 < ((l.drop i).takeWhile Pv.dg).length ∧ ∃ hi : i < l.length, l[i] = 48)) : Pv.scan (k + 1) l.tail = none := by
  obtain ⟨h1, h2, h3, h4⟩ := h
  rw [h1]
  unfold Pv.num1
  rw [if_pos]
  rcases hb with h | h | ⟨h, hi, e⟩
  · exact Or.inl h
  · exact Or.inr (Or.inl h)
  · exact Or.inr (Or.inr ⟨h, by rw [List.head?_drop, List.getElem?_eq_getElem hi, e]⟩)

theorem Mid.good {l : List UInt8} {k i : Nat} {ns : List (List UInt8)} (h : Mid l k i ns) (h0 : ((l.drop i).takeWhile Pv.dg).length ≠ 0) (h6 : ((l.drop i).takeWhile Pv.dg).length ≤ 6) (hz : 1 < ((l.drop i).takeWhile Pv.dg).length → ∀ hi : i < l.length, l[i] ≠ 48) :
    ScAt l (k + 1) (i + ((l.drop i).takeWhile Pv.dg).length) (ns ++ [(l.drop i).takeWhile Pv.dg]) := by
  obtain ⟨h1, h2, h3, h4⟩ := h
  have hd : (l.drop i).dropWhile Pv.dg = l.drop (i + ((l.drop i).takeWhile Pv.dg).length) := by
    rw [← List.drop_drop]
    have := List.takeWhile_append_dropWhile (p := Pv.dg) (l := l.drop i)
    conv => rhs; rw [← this]
    rw [List.drop_left']
    rw [this]
  have hle : ((l.drop i).takeWhile Pv.dg).length ≤ l.length - i := by
    have := (List.takeWhile_prefix (p := Pv.dg) (l := l.drop i)).length_le
    rwa [List.length_drop] at this
  refine ⟨?_, by omega, by omega, by simp [h4]⟩
  rw [h1]
  unfold Pv.num1
  rw [if_neg]
  · rw [hd]
  · rintro (h | h | ⟨h, e⟩)
    · exact h0 h
    · omega
    · rw [List.head?_drop] at e
      obtain ⟨hi, e'⟩ := List.getElem?_eq_some_iff.1 e
      exact hz h hi e'

/-- The digits that are read, and their value so far. -/
theorem val_take_step (d : List UInt8) (j : Nat) (h : j < d.length) : Pv.val (d.take (j + 1)) = Pv.val (d.take j) * 10 + (d[j].toNat - 48) := by
  rw [List.take_succ_eq_append_getElem h]
  unfold Pv.val
  rw [List.foldl_append]
  rfl

theorem tw_get (l : List UInt8) (i j : Nat) (h : j < ((l.drop i).takeWhile Pv.dg).length) : ∃ h' : i + j < l.length, ((l.drop i).takeWhile Pv.dg)[j] = l[i + j] ∧ Pv.dg l[i + j] = true := by
  have hp := List.takeWhile_prefix (p := Pv.dg) (l := l.drop i)
  have hle := hp.length_le
  rw [List.length_drop] at hle
  refine ⟨by omega, ?_⟩
  have e : ((l.drop i).takeWhile Pv.dg)[j] = (l.drop i)[j]'(by rw [List.length_drop]; omega) := hp.getElem h
  rw [List.getElem_drop] at e
  refine ⟨e, ?_⟩
  rw [← e]
  exact List.all_eq_true.1 (List.all_takeWhile (p := Pv.dg) (l := l.drop i)) _ (List.getElem_mem h)

end Go.Proofs.YtiamomiafekihaaGreatDoor
