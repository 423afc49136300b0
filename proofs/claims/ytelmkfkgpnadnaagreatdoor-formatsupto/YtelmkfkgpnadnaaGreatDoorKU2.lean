/-
  The plain mathematics of sorted lists of versions: there is one.
-/
import Derived.Test.YtelmkfkgpnadnaaGreatDoorKU1
import Derived.Test.YtelmkfkgpnadnaaGreatDoorKAA
import Derived.Sort.LotA
import Derived.Shelf.SlSortCmp.Insertion
namespace Go.Proofs.YtelmkfkgpnadnaaGreatDoor
open Go.RowKit

def pv (a : ByteArray) : List (List UInt8) × List (List UInt8) := (Pv.parse a.data.toList).getD ([], [])

theorem pv_of {a : ByteArray} (h : IsV a) : Pv.parse a.data.toList = some (pv a) := by
  obtain ⟨v, hv⟩ := Option.isSome_iff_exists.1 h
  unfold pv
  rw [hv]; rfl

theorem pv_num {a : ByteArray} (h : IsV a) : ∀ x ∈ (pv a).1, Pv.isNum x = true := (Pv.parse_form (pv_of h)).2

theorem pv_inj {a b : ByteArray} (ha : IsV a) (hb : IsV b) (h : pv a = pv b) : a = b := by
  have h1 := pv_of ha
  have h2 := pv_of hb
  rw [h] at h1
  have h3 := Pv.parse_inj h1 h2
  exact ByteArray.ext (Array.toList_inj.1 h3)

theorem vlt_eq {a b : ByteArray} (ha : IsV a) (hb : IsV b) : vlt a b = decide (Pv.cmpV (pv a) (pv b) < 0) := by
  unfold vlt
  rw [pv_of ha, pv_of hb]

/-- A version. -/
structure Ver where
  val : ByteArray
  ok : IsV val

theorem ver_ext {x y : Ver} (h : x.val = y.val) : x = y := by cases x; cases y; simp at h; simp [h]

instance : Inhabited Ver := ⟨⟨⟨#[118, 48, 46, 48, 46, 48]⟩, by unfold IsV; decide⟩⟩

def cfV (x y : Ver) : Int := Pv.cmpV (pv x.val) (pv y.val)

theorem swoV : Sort.SWO (Go.Proofs.ltOf cfV) := by
  have h := Pv.cmp_v
  refine ⟨fun x => ?_, fun x y z h1 h2 => ?_, fun x y z h1 h2 => ?_⟩
  · have h0 := h.self (a := pv x.val) (pv_num x.ok)
    exact decide_eq_false (by show ¬ Pv.cmpV (pv x.val) (pv x.val) < 0; omega)
  · have h1 : Pv.cmpV (pv x.val) (pv y.val) < 0 := of_decide_eq_true h1
    have h2 : Pv.cmpV (pv y.val) (pv z.val) < 0 := of_decide_eq_true h2
    exact decide_eq_true (h.lt_trans (pv_num x.ok) (pv_num y.ok) (pv_num z.ok) h1 h2)
  · have h1 : ¬ Pv.cmpV (pv x.val) (pv y.val) < 0 := of_decide_eq_false h1
    have h2 : ¬ Pv.cmpV (pv y.val) (pv z.val) < 0 := of_decide_eq_false h2
    refine decide_eq_false ?_
    show ¬ Pv.cmpV (pv x.val) (pv z.val) < 0
    have a1 := h.anti _ _ (pv_num x.ok) (pv_num y.ok)
    have a2 := h.anti _ _ (pv_num y.ok) (pv_num z.ok)
    have a3 := h.anti _ _ (pv_num x.ok) (pv_num z.ok)
    have := h.trans _ _ _ (pv_num z.ok) (pv_num y.ok) (pv_num x.ok) (by omega) (by omega)
    omega

theorem oneV (x y : Ver) (h1 : Go.Proofs.ltOf cfV x y = false) (h2 : Go.Proofs.ltOf cfV y x = false) : x = y := by
  have h := Pv.cmp_v
  have h1 : ¬ Pv.cmpV (pv x.val) (pv y.val) < 0 := of_decide_eq_false h1
  have h2 : ¬ Pv.cmpV (pv y.val) (pv x.val) < 0 := of_decide_eq_false h2
  have a1 := h.anti _ _ (pv_num x.ok) (pv_num y.ok)
  exact ver_ext (pv_inj x.ok y.ok (h.zero _ _ (pv_num x.ok) (pv_num y.ok) (by omega)))

theorem insV_perm (v : ByteArray) (L : List ByteArray) : (insV v L).Perm (v :: L) := by
  have h : L = (L.reverse.dropWhile (vlt v)).reverse ++ (L.reverse.takeWhile (vlt v)).reverse := by
    rw [← List.reverse_append, List.takeWhile_append_dropWhile, List.reverse_reverse]
  unfold insV
  conv => rhs; rw [h]
  rw [List.append_assoc]
  exact List.perm_middle

theorem insAll_perm (L : List OLn) : (insAll L).Perm (L.map word1) := by
  rw [← List.reverse_reverse L]
  induction L.reverse with
  | nil => exact List.Perm.refl _
  | cons a r ih =>
    rw [List.reverse_cons, insAll_snoc, List.map_append]
    refine (insV_perm _ _).trans ?_
    refine (List.Perm.cons _ ih).trans ?_
    exact (List.perm_append_comm (l₁ := [word1 a]) (l₂ := r.reverse.map word1))

abbrev Srt (L : List ByteArray) : Prop := L.Pairwise fun a b => vlt b a = false

theorem insV_sorted {v : ByteArray} {L : List ByteArray} (hv : IsV v) (hL : ∀ x ∈ L, IsV x) (hs : Srt L) : Srt (insV v L) := by
  have h := Pv.cmp_v
  have e : L = (L.reverse.dropWhile (vlt v)).reverse ++ (L.reverse.takeWhile (vlt v)).reverse := by
    rw [← List.reverse_append, List.takeWhile_append_dropWhile, List.reverse_reverse]
  have hT : ∀ y ∈ L.reverse.takeWhile (vlt v), vlt v y = true := fun y hy => by
    have := List.all_takeWhile (p := vlt v) (l := L.reverse)
    exact List.all_eq_true.1 this y hy
  have hTm : ∀ y ∈ L.reverse.takeWhile (vlt v), y ∈ L := fun y hy => List.mem_reverse.1 ((List.takeWhile_sublist _).subset hy)
  have hDm : ∀ y ∈ L.reverse.dropWhile (vlt v), y ∈ L := fun y hy => List.mem_reverse.1 ((List.dropWhile_sublist _).subset hy)
  have hh : ∀ a r, L.reverse.dropWhile (vlt v) = a :: r → vlt v a = false := fun a r hr => by
    have := List.head?_dropWhile_not (vlt v) L.reverse
    rw [hr] at this
    simpa using this
  unfold Srt at hs ⊢
  rw [e] at hs
  unfold insV
  generalize L.reverse.takeWhile (vlt v) = T at *
  generalize L.reverse.dropWhile (vlt v) = D at *
  rw [List.pairwise_append] at hs
  obtain ⟨s1, s2, s3⟩ := hs
  have hD : ∀ x ∈ D, vlt v x = false := fun x hx => by
    cases D with
    | nil => cases hx
    | cons a r =>
      have h1 := hh a r rfl
      rcases List.mem_cons.1 hx with e2 | hx'
      · rw [e2]; exact h1
      · have h2 : vlt a x = false := by
          rw [List.reverse_cons, List.pairwise_append] at s1
          exact s1.2.2 x (by simpa using hx') a (by simp)
        have va := hL a (hDm a (by simp))
        have vx := hL x (hDm x hx)
        rw [vlt_eq hv va, decide_eq_false_iff_not] at h1
        rw [vlt_eq va vx, decide_eq_false_iff_not] at h2
        rw [vlt_eq hv vx, decide_eq_false_iff_not]
        have a1 := h.anti _ _ (pv_num hv) (pv_num va)
        have a2 := h.anti _ _ (pv_num va) (pv_num vx)
        have a3 := h.anti _ _ (pv_num hv) (pv_num vx)
        have := h.trans _ _ _ (pv_num vx) (pv_num va) (pv_num hv) (by omega) (by omega)
        omega
  rw [List.append_assoc, List.pairwise_append]
  refine ⟨s1, ?_, ?_⟩
  · rw [List.singleton_append, List.pairwise_cons]
    refine ⟨fun y hy => ?_, s2⟩
    have hy' := List.mem_reverse.1 hy
    have h1 := hT y hy'
    have vy := hL y (hTm y hy')
    rw [vlt_eq hv vy, decide_eq_true_eq] at h1
    rw [vlt_eq vy hv, decide_eq_false_iff_not]
    have a1 := h.anti _ _ (pv_num hv) (pv_num vy)
    omega
  · intro x hx y hy
    rcases List.mem_append.1 hy with hy | hy
    · rw [List.mem_singleton.1 hy]; exact hD x (List.mem_reverse.1 hx)
    · exact s3 x hx y hy

theorem insAll_sorted {L : List OLn} (h : ∀ g ∈ L, TwoV g) : Srt (insAll L) := by
  rw [← List.reverse_reverse L] at h ⊢
  revert h
  induction L.reverse with
  | nil => intro _; exact List.Pairwise.nil
  | cons a r ih =>
    intro h
    rw [List.reverse_cons] at h ⊢
    rw [insAll_snoc]
    have h' : ∀ g ∈ r.reverse, TwoV g := fun g hg => h g (List.mem_append.2 (Or.inl hg))
    exact insV_sorted (h a (by simp)).2.2 (insAll_isV h') (ih h')

/-- What a permutation of images is an image of. -/
theorem perm_map {α β : Type} {f : α → β} {L K : List β} (h : L.Perm K) : ∀ l : List α, l.map f = K → ∃ m : List α, m.Perm l ∧ m.map f = L := by
  induction h with
  | nil => intro l e; exact ⟨[], by rw [List.map_eq_nil_iff] at e; rw [e], rfl⟩
  | cons x _ ih =>
    intro l e
    cases l with
    | nil => simp at e
    | cons a r =>
      simp only [List.map_cons, List.cons.injEq] at e
      obtain ⟨m, h1, h2⟩ := ih r e.2
      exact ⟨a :: m, h1.cons a, by rw [List.map_cons, h2, e.1]⟩
  | swap x y t =>
    intro l e
    match l, e with
    | a :: b :: r, e =>
      simp only [List.map_cons, List.cons.injEq] at e
      exact ⟨b :: a :: r, List.Perm.swap a b r, by simp [e.1, e.2.1, e.2.2]⟩
  | trans _ _ ih1 ih2 =>
    intro l e
    obtain ⟨m, h1, h2⟩ := ih2 l e
    obtain ⟨k, h3, h4⟩ := ih1 m h2
    exact ⟨k, h3.trans h1, h4⟩

/-- There is one sorted list. -/
theorem sorted_one (d d' : Array Ver) (L : List ByteArray) (hP : Sort.PermIn 0 d.size d d') (hS : Sort.SortedIn (Go.Proofs.ltOf cfV) 0 d.size d') (hL : L.Perm (d.toList.map Ver.val)) (hs : Srt L) : d'.toList.map Ver.val = L := by
  obtain ⟨m, h1, h2⟩ := perm_map hL d.toList rfl
  have hsz : m.length = d.size := by rw [h1.length_eq]; simp
  have e1 := Sort.sorted_unique_holds swoV oneV d d' hP hS
  have e2 := Sort.sorted_unique_holds swoV oneV d m.toArray (by
    refine ⟨by simpa using hsz, fun i hi => ?_, ?_⟩
    · have hi' : d.size ≤ i := by omega
      rw [getElem!_neg _ _ (by simp; omega), getElem!_neg _ _ (by omega)]
    · have e1 : d.extract 0 d.size = d := Array.extract_size
      have e2 : m.toArray.extract 0 d.size = m.toArray := by
        have : d.size = m.toArray.size := by simpa using hsz.symm
        rw [this]; exact Array.extract_size
      rw [e1, e2]
      exact h1) (by
    intro i j _ hij hj
    have hj' : j < m.length := by omega
    rw [getElem!_pos _ j (by simpa using hj'), getElem!_pos _ i (by simp; omega)]
    simp only [List.getElem_toArray]
    have hp := hs
    rw [← h2] at hp
    unfold Srt at hp
    rw [List.pairwise_map] at hp
    have h3 := (List.pairwise_iff_getElem.1 hp) i j (by omega) hj' hij
    rw [vlt_eq (m[j]).ok (m[i]).ok] at h3
    exact h3)
  rw [e1, ← e2]
  simpa using h2

end Go.Proofs.YtelmkfkgpnadnaaGreatDoor
