/-
  One order of the law's in memory: the program's, the document's, the lists that came out; a tag for each block says whose it is.
-/
import Derived.Test.YtelmkfkgpnadnaaK22
import Derived.Test.YtelmkfkgpnadnaaK26
namespace Go.Proofs.Ytelmkfkgpnadnaa
open Go.RowKit

variable {w w1 w' : World} {n : Nat} {A Pl A2 : Nat → Nat} {E E2 : Nat → Nat → Bool}

theorem RefAt.of_blocks {tb nb eb cn ce : Nat} {rb : Nat → Nat} (h : RefAt w tb nb eb cn ce n rb A E) (hs : w.heap.size ≤ w'.heap.size) (ht : w'.heap[tb]? = w.heap[tb]?) (hn : w'.heap[nb]? = w.heap[nb]?) (he : w'.heap[eb]? = w.heap[eb]?) (hr : ∀ u, u < n → w'.heap[rb u]? = w.heap[rb u]?) : RefAt w' tb nb eb cn ce n rb A E :=
  ⟨by rw [World.cell?_of_block (w := w) (a := ⟨tb, 0, none⟩) ht]; exact h.nodes, by rw [World.cell?_of_block (w := w) (a := ⟨tb, 1, none⟩) ht]; exact h.edges, h.nv.of_block hn, h.ed.of_blocks hs he hr, Nat.lt_of_lt_of_le h.nlt hs, h.d1, h.d2⟩

/-- The document's order, with nodes or with none. -/
def RefAny (w : World) (tag : Nat → Prop) (tb n : Nat) (A : Nat → Nat) (E : Nat → Nat → Bool) : Prop :=
  tag tb ∧ ((n = 0 ∧ ∃ a cn, w.cell? ⟨tb, 0, none⟩ = some (.slice a 0 cn)) ∨
    (0 < n ∧ ∃ nb eb cn ce rb, RefAt w tb nb eb cn ce n rb A E ∧ tag nb ∧ tag eb ∧ ∀ u, u < n → tag (rb u)))

theorem RefAny.turn {tag tag' : Nat → Prop} {tb : Nat} (h : RefAny w tag tb n A E) (hs : w.heap.size ≤ w'.heap.size) (hb : ∀ k, k < w.heap.size → tag k → w'.heap[k]? = w.heap[k]? ∧ tag' k) : RefAny w' tag' tb n A E := by
  rcases h with ⟨ht, ⟨h0, a, cn, hc⟩ | ⟨h0, nb, eb, cn, ce, rb, hR, t1, t2, t3⟩⟩
  · have hl : tb < w.heap.size := World.block_lt_of_cell? w _ hc
    exact ⟨(hb tb hl ht).2, Or.inl ⟨h0, a, cn, by rw [World.cell?_of_block (w := w) (a := ⟨tb, 0, none⟩) (hb tb hl ht).1]; exact hc⟩⟩
  · have hl : tb < w.heap.size := World.block_lt_of_cell? w _ hR.nodes
    exact ⟨(hb tb hl ht).2, Or.inr ⟨h0, nb, eb, cn, ce, rb, hR.of_blocks hs (hb tb hl ht).1 (hb nb hR.nlt t1).1 (hb eb hR.ed.lt.1 t2).1 (fun u hu => (hb _ (hR.ed.lt.2 u hu) (t3 u hu)).1),
      (hb nb hR.nlt t1).2, (hb eb hR.ed.lt.1 t2).2, fun u hu => (hb _ (hR.ed.lt.2 u hu) (t3 u hu)).2⟩⟩

def ofld (tb rt : Nat) (f : Nat) : Value := if f = 0 then .pointer (some ⟨tb, 0, none⟩) else .pointer (some ⟨rt, 0, none⟩)

structure OrdAt (w : World) (T : Nat → Nat × Nat) (i ob tb rt n : Nat) (A Pl : Nat → Nat) (E : Nat → Nat → Bool) (A2 : Nat → Nat) (E2 : Nat → Nat → Bool) (k : Nat) (c : Int) (lv : Value) (xs : List Value) : Prop where
  obj : ValsAt w ob 4 (fun f => if f = 2 then lv else if f = 3 then .int .i64 c else ofld tb rt f)
  t1 : T ob = (i, 1)
  row : RowAt w tb n A Pl E
  t2 : T tb = (i, 2)
  ok : Kp.Ok n A Pl E
  ref : RefAny w (fun b => T b = (i, 3)) rt n A2 E2
  rows : w.ownsRow 0 73 2 lv k xs
  t4 : ∀ b, lv.ownBlock = some b → T b = (i, 4)
  lie : AllLie w (fun _ g _ => T g = (i, 5)) k xs
  obl : ob < w.heap.size

variable {T T' : Nat → Nat × Nat} {i ob tb rt k : Nat} {c : Int} {lv : Value} {xs : List Value} {p : Nat → Prop}

theorem OrdAt.turn (h : OrdAt w T i ob tb rt n A Pl E A2 E2 k c lv xs) (ht : Turn p w w') (hp : ∀ b, b < w.heap.size → (T b).1 = i → ¬ p b) (hT : ∀ b, b < w.heap.size → T' b = T b) : OrdAt w' T' i ob tb rt n A Pl E A2 E2 k c lv xs := by
  have hk : ∀ b j, b < w.heap.size → T b = (i, j) → w'.heap[b]? = w.heap[b]? ∧ T' b = (i, j) := fun b j hb hj => ⟨ht.block b hb (hp b hb (by rw [hj])), by rw [hT b hb]; exact hj⟩
  have hl := h.row.lt
  exact ⟨h.obj.of_block (hk ob 1 h.obl h.t1).1, (hk ob 1 h.obl h.t1).2, h.row.of_block (hk tb 2 hl h.t2).1, (hk tb 2 hl h.t2).2, h.ok, h.ref.turn ht.size (fun b hb hj => hk b 3 hb hj),
    own_of_block h.rows (fun b hb => (hk b 4 (h.rows.lt b hb).2 (h.t4 b hb)).1), fun b hb => (hk b 4 (h.rows.lt b hb).2 (h.t4 b hb)).2,
    h.lie.imp ht.size (fun c g m hg hr hb => ⟨reads_of_block hr (hk g 5 hg hb).1, (hk g 5 hg hb).2⟩), Nat.lt_of_lt_of_le h.obl ht.size⟩

theorem OrdAt.below (h : OrdAt w T i ob tb rt n A Pl E A2 E2 k c lv xs) (hb : Below w.heap.size w w') (hT : ∀ b, b < w.heap.size → T' b = T b) : OrdAt w' T' i ob tb rt n A Pl E A2 E2 k c lv xs :=
  h.turn (p := fun _ => False) (Turn.of_below hb) (fun _ _ _ h => h) hT

theorem OrdAt.prog {A' Pl' : Nat → Nat} {E' : Nat → Nat → Bool} (h : OrdAt w T i ob tb rt n A Pl E A2 E2 k c lv xs) (hg : w.grownBy w' (some tb)) (hr : RowAt w' tb n A' Pl' E') (O : Kp.Ok n A' Pl' E') : OrdAt w' T i ob tb rt n A' Pl' E' A2 E2 k c lv xs := by
  have hk : ∀ b j, b < w.heap.size → T b = (i, j) → j ≠ 2 → w'.heap[b]? = w.heap[b]? ∧ T b = (i, j) := fun b j hb hj h2 => ⟨hg.block b hb (fun e => by
    injection e with e
    rw [e, h.t2] at hj
    injection hj with _ hj
    exact h2 hj.symm), hj⟩
  exact ⟨h.obj.of_block (hk ob 1 h.obl h.t1 (by decide)).1, h.t1, hr, h.t2, O, h.ref.turn hg.size (fun b hb hj => hk b 3 hb hj (by decide)),
    own_of_block h.rows (fun b hb => (hk b 4 (h.rows.lt b hb).2 (h.t4 b hb) (by decide)).1), h.t4,
    h.lie.imp hg.size (fun c g m hg' hr hb => ⟨reads_of_block hr (hk g 5 hg' hb (by decide)).1, hb⟩), Nat.lt_of_lt_of_le h.obl hg.size⟩

theorem OrdAt.doc {A' : Nat → Nat} {E' : Nat → Nat → Bool} (h : OrdAt w T i ob tb rt n A Pl E A2 E2 k c lv xs) (ht : Turn (fun b => T b = (i, 3)) w w') (hr : RefAny w' (fun b => T b = (i, 3)) rt n A' E') : OrdAt w' T i ob tb rt n A Pl E A' E' k c lv xs := by
  have hk : ∀ b j, b < w.heap.size → T b = (i, j) → j ≠ 3 → w'.heap[b]? = w.heap[b]? ∧ T b = (i, j) := fun b j hb hj h2 => ⟨ht.block b hb (fun e => by
    rw [hj] at e
    injection e with _ e
    exact h2 e), hj⟩
  exact ⟨h.obj.of_block (hk ob 1 h.obl h.t1 (by decide)).1, h.t1, h.row.of_block (hk tb 2 h.row.lt h.t2 (by decide)).1, h.t2, h.ok, hr,
    own_of_block h.rows (fun b hb => (hk b 4 (h.rows.lt b hb).2 (h.t4 b hb) (by decide)).1), h.t4,
    h.lie.imp ht.size (fun c g m hg' hr hb => ⟨reads_of_block hr (hk g 5 hg' hb (by decide)).1, hb⟩), Nat.lt_of_lt_of_le h.obl ht.size⟩

/-- Behind a take. -/
theorem OrdAt.taken {v lv' gv : Value} {cn q : Int} {ys : List Value} {mj : Nat} (h : OrdAt w T i ob tb rt n A Pl E A2 E2 k c lv xs) (hv : ∀ b, v.ownBlock = some b → T b = (i, 6)) (tk : Tk 73 w ob k (ofld tb rt) lv v xs cn q 4 ys lv' gv mj w') :
    ∃ T', (∀ b, b < w.heap.size → v.ownBlock ≠ some b → T' b = T b) ∧ OrdAt w' T' i ob tb rt n A Pl E A2 E2 (k + 4) cn lv' (xs ++ ys) ∧ Turn (fun b => (T b).1 = i) w w' := by
  let T' : Nat → Nat × Nat := fun b => if b < w.heap.size then (if v.ownBlock = some b then (i, 5) else T b) else if lv'.ownBlock = some b then (i, 4) else (i, 5)
  have hT : ∀ b, b < w.heap.size → v.ownBlock ≠ some b → T' b = T b := fun b hb hne => by
    show (if b < w.heap.size then (if v.ownBlock = some b then (i, 5) else T b) else _) = _
    rw [if_pos hb, if_neg hne]
  have hT6 : ∀ b j, b < w.heap.size → T b = (i, j) → j ≠ 6 → T' b = (i, j) := fun b j hb hj h6 => by
    rw [hT b hb (fun e => by
      rw [hv b e] at hj
      injection hj with _ hj
      exact h6 hj.symm)]
    exact hj
  have hk : ∀ b j, b < w.heap.size → T b = (i, j) → j ≠ 6 → j ≠ 1 → j ≠ 4 → w'.heap[b]? = w.heap[b]? ∧ T' b = (i, j) := fun b j hb hj h6 h1 h4 => ⟨tk.turn.block b hb (fun e => by
    rcases e with e | e | e
    · rw [e, h.t1] at hj; injection hj with _ hj; exact h1 hj.symm
    · rw [h.t4 b e] at hj; injection hj with _ hj; exact h4 hj.symm
    · rw [hv b e] at hj; injection hj with _ hj; exact h6 hj.symm), hT6 b j hb hj h6⟩
  refine ⟨T', hT, ⟨tk.obj, hT6 ob 1 h.obl h.t1 (by decide), h.row.of_block (hk tb 2 h.row.lt h.t2 (by decide) (by decide) (by decide)).1, (hk tb 2 h.row.lt h.t2 (by decide) (by decide) (by decide)).2, h.ok,
    h.ref.turn tk.turn.size (fun b hb hj => hk b 3 hb hj (by decide) (by decide) (by decide)), tk.rows, ?_, ?_, Nat.lt_of_lt_of_le h.obl tk.turn.size⟩, ?_⟩
  · intro b hb
    rcases tk.lb b hb with e | e
    · exact hT6 b 4 (h.rows.lt b e).2 (h.t4 b e) (by decide)
    · show (if b < w.heap.size then _ else if lv'.ownBlock = some b then (i, 4) else (i, 5)) = _
      rw [if_neg (by omega), if_pos hb]
  · refine AllLie.append (h.lie.imp tk.turn.size (fun c g m hg hr hb => ⟨reads_of_block hr (hk g 5 hg hb (by decide) (by decide) (by decide)).1, (hk g 5 hg hb (by decide) (by decide) (by decide)).2⟩)) h.rows.1 (tk.lie.imp (Nat.le_refl _) (fun c g m hg hr hb => ⟨hr, ?_⟩))
    show (if g < w.heap.size then (if v.ownBlock = some g then (i, 5) else T g) else if lv'.ownBlock = some g then (i, 4) else (i, 5)) = (i, 5)
    rcases hb.2.2.2.2 with e | e
    · by_cases hgl : g < w.heap.size
      · rw [if_pos hgl, if_pos e]
      · rw [if_neg hgl, if_neg hb.2.2.1]
    · rw [if_neg (by omega), if_neg hb.2.2.1]
  · refine tk.turn.mono fun b hb e => ?_
    rcases e with e | e | e
    · rw [e, h.t1]
    · rw [h.t4 b e]
    · rw [hv b e]

end Go.Proofs.Ytelmkfkgpnadnaa
