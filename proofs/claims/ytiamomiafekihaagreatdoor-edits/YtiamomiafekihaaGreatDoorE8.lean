/-
  Edits: what the program's shelf holds, in the document's words.
-/
import Derived.Test.YtiamomiafekihaaGreatDoorE6
namespace Go.Proofs.YtiamomiafekihaaGreatDoor
open Go.RowKit
namespace Ed

theorem toList_inj {a b : ByteArray} (h : (a.toList == b.toList) = true) : a = b := by
  have h1 := eq_of_beq h
  rw [Lib.toList_data, Lib.toList_data] at h1
  cases a; cases b
  simp at h1
  simp [h1]

theorem hit_iff {p v : ByteArray} {x : Tt} : hit p v x = true ↔ x.path = p ∧ x.ver = v := by
  unfold hit
  rw [Bool.and_eq_true]
  constructor
  · rintro ⟨h1, h2⟩; exact ⟨toList_inj h1, toList_inj h2⟩
  · rintro ⟨rfl, rfl⟩; simp

/-- A text as the program has it. -/
def ent (k : Int) (t : Tt) : Value × Value := (plc k t.path t.ver, txt t.s)

/-- The root as the program has it. -/
def rootEnt (root : ByteArray) : List (Value × Value) := if root.size = 0 then [] else [(plc 2 ⟨#[]⟩ ⟨#[]⟩, txt root)]

/-- All of it. -/
def ents (ms ix : List Tt) (root : ByteArray) : List (Value × Value) := ms.map (ent 0) ++ (ix.map (ent 1) ++ rootEnt root)

/-- A text is laid down: what comes out, by how much the revision rises, what is there then. -/
inductive PutSpec (L : List (Value × Value)) (K : Value) (k : Int) (s : ByteArray) (most : Nat) : Int → Nat → List (Value × Value) → Prop
  | same : (K, txt s) ∈ L → PutSpec L K k s most 0 0 L
  | other (old : ByteArray) (L0 : List (Value × Value)) : L.Perm ((K, txt old) :: L0) → (old.toList == s.toList) = false → PutSpec L K k s most 0 1 ((K, txt s) :: L0)
  | many : (∀ x ∈ L, x.1 ≠ K) → most ≤ L.countP (ofKind k) → PutSpec L K k s most 4 0 L
  | fresh : (∀ x ∈ L, x.1 ≠ K) → L.countP (ofKind k) < most → PutSpec L K k s most 0 1 ((K, txt s) :: L)

/-- A text is taken away. -/
inductive DropSpec (L : List (Value × Value)) (K : Value) : Nat → List (Value × Value) → Prop
  | none : (∀ x ∈ L, x.1 ≠ K) → DropSpec L K 0 L
  | there (old : ByteArray) (L0 : List (Value × Value)) : L.Perm ((K, txt old) :: L0) → DropSpec L K 1 L0

/-- None of it is of this kind. -/
def Off (k : Int) (A : List (Value × Value)) : Prop := ∀ x ∈ A, ofKind k x = false

variable {k : Int} {A C : List (Value × Value)}

theorem Off.ne (h : Off k A) {x : Value × Value} (hx : x ∈ A) (p v : ByteArray) : x.1 ≠ plc k p v := fun e => by
  have h1 := h x hx
  obtain ⟨a, b⟩ := x
  have e1 : a = plc k p v := e
  subst e1
  have h2 : (k == k) = false := h1
  simp at h2

theorem Off.count (h : Off k A) : A.countP (ofKind k) = 0 := by
  rw [List.countP_eq_zero]
  intro x hx
  rw [h x hx]
  decide

theorem ent_kind (k : Int) (t : Tt) : ofKind k (ent k t) = true := by
  show (k == k) = true
  simp

theorem ent_count (k : Int) (l : List Tt) : (l.map (ent k)).countP (ofKind k) = l.length := by
  rw [List.countP_map]
  rw [show (ofKind k ∘ ent k) = fun _ => true from funext fun t => ent_kind k t]
  simp

theorem ent_off {k q : Int} (hne : q ≠ k) (l : List Tt) : Off k (l.map (ent q)) := fun x hx => by
  obtain ⟨t, _, rfl⟩ := List.mem_map.1 hx
  show (q == k) = false
  simp [hne]

theorem rootEnt_off {k : Int} (hne : 2 ≠ k) (r : ByteArray) : Off k (rootEnt r) := fun x hx => by
  unfold rootEnt at hx
  split at hx
  · cases hx
  · rw [List.mem_singleton] at hx
    subst hx
    show ((2 : Int) == k) = false
    simp [hne]

theorem Off.append (h : Off k A) (h' : Off k C) : Off k (A ++ C) := fun x hx => (List.mem_append.1 hx).elim (h x) (h' x)

theorem off_nil (k : Int) : Off k [] := fun x hx => by cases hx

theorem ent_key {k : Int} {t : Tt} {p v : ByteArray} (h : (ent k t).1 = plc k p v) : hit p v t = true := by
  simp only [ent, Value.agg.injEq, Array.mk.injEq, List.cons.injEq, Value.string.injEq, true_and, and_true] at h
  exact hit_iff.2 h

theorem count_all (hA : Off k A) (hC : Off k C) (l : List Tt) : (A ++ (l.map (ent k) ++ C)).countP (ofKind k) = l.length := by
  rw [List.countP_append, List.countP_append, hA.count, hC.count, ent_count]
  omega

theorem key_none (hA : Off k A) (hC : Off k C) {l : List Tt} {p v : ByteArray} (h : l.findIdx? (hit p v) = none) : ∀ x ∈ A ++ (l.map (ent k) ++ C), x.1 ≠ plc k p v := by
  intro x hx
  rcases List.mem_append.1 hx with hx | hx
  · exact hA.ne hx p v
  · rcases List.mem_append.1 hx with hx | hx
    · obtain ⟨t, ht, rfl⟩ := List.mem_map.1 hx
      intro e
      have h1 := ent_key e
      rw [List.findIdx?_eq_none_iff.1 h t ht] at h1
      cases h1
    · exact hC.ne hx p v

theorem middle (A C M : List (Value × Value)) (x : Value × Value) (N : List (Value × Value)) (h : M.Perm (x :: N)) : (A ++ (M ++ C)).Perm (x :: (A ++ (N ++ C))) := by
  have h1 : (M ++ C).Perm (x :: (N ++ C)) := h.append_right C
  exact (h1.append_left A).trans List.perm_middle

theorem map_erase (k : Int) (l : List Tt) (i : Nat) (h : i < l.length) : (l.map (ent k)).Perm (ent k l[i] :: (l.eraseIdx i).map (ent k)) := by
  have h1 := (Mp.perm_erase l i h).map (ent k)
  exact h1

theorem laid_spec (hA : Off k A) (hC : Off k C) (l : List Tt) (t : Tt) (most : Nat) :
    ∃ L', PutSpec (A ++ (l.map (ent k) ++ C)) (plc k t.path t.ver) k t.s most (laidOf l t most).2.1 (laidOf l t most).2.2 L' ∧ L'.Perm (A ++ ((laidOf l t most).1.map (ent k) ++ C)) := by
  unfold laidOf
  cases hfi : l.findIdx? (hit t.path t.ver) with
  | none =>
    have hn := key_none hA hC hfi
    have hc := count_all hA hC l
    by_cases hm : most ≤ l.length
    · simp only [if_pos hm]
      exact ⟨_, PutSpec.many hn (by rw [hc]; exact hm), List.Perm.refl _⟩
    · simp only [if_neg hm]
      refine ⟨_, PutSpec.fresh hn (by rw [hc]; omega), ?_⟩
      refine (middle A C _ _ _ ?_).symm
      rw [List.map_append]
      exact List.perm_append_singleton _ _
  | some i =>
    obtain ⟨hil, hh, _⟩ := List.findIdx?_eq_some_iff_getElem.1 hfi
    obtain ⟨e1, e2⟩ := hit_iff.1 hh
    have hgd : l.getD i t = l[i] := by simp [List.getD, hil]
    simp only [hgd]
    cases hq : (l[i].s.toList == t.s.toList)
    · have hp := middle A C _ _ _ (map_erase k l i hil)
      have e3 : ent k l[i] = (plc k t.path t.ver, txt l[i].s) := by rw [ent, e1, e2]
      rw [e3] at hp
      simp only [Bool.false_eq_true, if_false]
      refine ⟨_, PutSpec.other _ _ hp hq, ?_⟩
      have hml : i < (l.modify i (fun x => { x with s := t.s })).length := by simpa using hil
      have hp2 := middle A C _ _ _ (map_erase k (l.modify i (fun x => { x with s := t.s })) i hml)
      have e4 : (l.modify i (fun x => { x with s := t.s }))[i] = { l[i] with s := t.s } := by simp
      have e5 : (l.modify i (fun x => { x with s := t.s })).eraseIdx i = l.eraseIdx i := by
        apply List.ext_getElem?
        intro j
        simp only [List.getElem?_eraseIdx, List.getElem?_modify]
        split
        · rename_i h
          have : i ≠ j := by omega
          simp [this]
        · rename_i h
          have : i ≠ j + 1 := by omega
          simp [this]
      rw [e4, e5] at hp2
      have e6 : ent k { l[i] with s := t.s } = (plc k t.path t.ver, txt t.s) := by
        show (plc k l[i].path l[i].ver, txt t.s) = _
        rw [e1, e2]
      rw [e6] at hp2
      exact hp2.symm
    · have e3 : ent k l[i] = (plc k t.path t.ver, txt t.s) := by rw [ent, e1, e2, toList_inj hq]
      simp only [if_true]
      refine ⟨_, PutSpec.same ?_, List.Perm.refl _⟩
      rw [← e3]
      exact List.mem_append_right _ (List.mem_append_left _ (List.mem_map.2 ⟨_, List.getElem_mem hil, rfl⟩))

theorem drop_spec (hA : Off k A) (hC : Off k C) (l : List Tt) (p v : ByteArray) :
    ∃ L', DropSpec (A ++ (l.map (ent k) ++ C)) (plc k p v) (dropOf l p v 0).2 L' ∧ L'.Perm (A ++ ((dropOf l p v 0).1.map (ent k) ++ C)) := by
  unfold dropOf
  rw [if_pos rfl]
  cases hfi : l.findIdx? (hit p v) with
  | none => exact ⟨_, DropSpec.none (key_none hA hC hfi), List.Perm.refl _⟩
  | some i =>
    obtain ⟨hil, hh, _⟩ := List.findIdx?_eq_some_iff_getElem.1 hfi
    obtain ⟨e1, e2⟩ := hit_iff.1 hh
    have hp := middle A C _ _ _ (map_erase k l i hil)
    have e3 : ent k l[i] = (plc k p v, txt l[i].s) := by rw [ent, e1, e2]
    rw [e3] at hp
    exact ⟨_, DropSpec.there _ _ hp, List.Perm.refl _⟩

theorem size_zero {r : ByteArray} (h : r.size = 0) : r = ⟨#[]⟩ := by
  cases r with
  | mk d =>
    have : d = #[] := Array.eq_empty_of_size_eq_zero h
    rw [this]

theorem root_put (hA : Off 2 A) (root p : ByteArray) (hp : p.size ≠ 0) :
    ∃ L', PutSpec (A ++ rootEnt root) (plc 2 ⟨#[]⟩ ⟨#[]⟩) 2 p 1 0 (if (p.toList == root.toList) = true then (root, 0) else (p, 1)).2 L' ∧ L'.Perm (A ++ rootEnt (if (p.toList == root.toList) = true then (root, 0) else (p, 1)).1) := by
  have ep : rootEnt p = [(plc 2 ⟨#[]⟩ ⟨#[]⟩, txt p)] := if_neg hp
  by_cases hr : root.size = 0
  · have er : rootEnt root = [] := if_pos hr
    have hq : (p.toList == root.toList) = false := by
      cases h : (p.toList == root.toList)
      · rfl
      · exact absurd (by rw [toList_inj h]; exact hr) hp
    rw [er, hq]
    simp only [Bool.false_eq_true, if_false, List.append_nil]
    refine ⟨_, PutSpec.fresh (fun x hx => hA.ne hx _ _) (by rw [hA.count]; decide), ?_⟩
    rw [ep]
    exact (List.perm_append_singleton _ _).symm
  · have er : rootEnt root = [(plc 2 ⟨#[]⟩ ⟨#[]⟩, txt root)] := if_neg hr
    cases hq : (p.toList == root.toList)
    · simp only [Bool.false_eq_true, if_false]
      have hq2 : (root.toList == p.toList) = false := by
        cases h : (root.toList == p.toList)
        · rfl
        · rw [toList_inj h] at hq
          simp at hq
      refine ⟨_, PutSpec.other root A (by rw [er]; exact List.perm_append_singleton _ _) hq2, ?_⟩
      rw [ep]
      exact (List.perm_append_singleton _ _).symm
    · simp only [if_true]
      refine ⟨_, PutSpec.same ?_, List.Perm.refl _⟩
      rw [er, toList_inj hq]
      exact List.mem_append_right _ (List.mem_singleton.2 rfl)

theorem root_drop (hA : Off 2 A) (root p : ByteArray) (hp : p.size = 0) :
    ∃ L', DropSpec (A ++ rootEnt root) (plc 2 ⟨#[]⟩ ⟨#[]⟩) (if (p.toList == root.toList) = true then (root, 0) else (p, 1)).2 L' ∧ L'.Perm (A ++ rootEnt (if (p.toList == root.toList) = true then (root, 0) else (p, 1)).1) := by
  have ep : rootEnt p = [] := if_pos hp
  by_cases hr : root.size = 0
  · have er : rootEnt root = [] := if_pos hr
    have hq : (p.toList == root.toList) = true := by rw [size_zero hp, size_zero hr]; simp
    rw [hq]
    simp only [if_true]
    refine ⟨_, DropSpec.none (fun x hx => ?_), List.Perm.refl _⟩
    rw [er, List.append_nil] at hx
    exact hA.ne hx _ _
  · have er : rootEnt root = [(plc 2 ⟨#[]⟩ ⟨#[]⟩, txt root)] := if_neg hr
    have hq : (p.toList == root.toList) = false := by
      cases h : (p.toList == root.toList)
      · rfl
      · exact absurd (by rw [← toList_inj h]; exact hp) hr
    rw [hq]
    simp only [Bool.false_eq_true, if_false]
    refine ⟨A, DropSpec.there root A (by rw [er]; exact List.perm_append_singleton _ _), ?_⟩
    rw [ep, List.append_nil]

theorem ents_len (ms ix : List Tt) (root : ByteArray) : (ents ms ix root).length ≤ ms.length + ix.length + 1 := by
  have h : (rootEnt root).length ≤ 1 := by
    unfold rootEnt
    split <;> simp
  simp only [ents, List.length_append, List.length_map]
  omega

theorem laidOf_len (l : List Tt) (t : Tt) (most : Nat) (h : l.length ≤ most) : (laidOf l t most).1.length ≤ most := by
  unfold laidOf
  split
  · split
    · exact h
    · simp; omega
  · split
    · exact h
    · simpa using h

end Ed
end Go.Proofs.YtiamomiafekihaaGreatDoor
