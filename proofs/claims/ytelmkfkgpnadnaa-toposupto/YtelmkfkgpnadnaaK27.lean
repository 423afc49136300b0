/-
  The document's NewTopo: how its lists grow.
-/
import Derived.Test.YtelmkfkgpnadnaaK28
namespace Go.Proofs.Ytelmkfkgpnadnaa
open Go.RowKit

variable {w w1 w' : World} {n : Nat}

/-- So far: a nodes, b rows. -/
structure NewUp (w0 : World) (tb n a b : Nat) (T : Nat → Nat) (nv ev : Value) (rb : Nat → Nat) (wr : World) : Prop where
  obj : ValsAt wr tb 2 (fun f => if f = 0 then nv else ev)
  t0 : T tb = 0
  on : wr.ownsRow w0.heap.size 3 1 nv a (ints (List.range a))
  t1 : ∀ k, nv.ownBlock = some k → T k = 1
  oe : wr.ownsRow w0.heap.size 33 1 ev b ((List.range b).map fun u => .slice (some ⟨rb u, 0, none⟩) n n)
  t2 : ∀ k, ev.ownBlock = some k → T k = 2
  cells : ∀ u, u < b → ValsAt wr (rb u) n (fun _ => .bool false) ∧ T (rb u) = 3 + u ∧ rb u < wr.heap.size ∧ w0.heap.size ≤ rb u
  old : Below w0.heap.size w0 wr
  base : w0.heap.size ≤ tb ∧ tb < wr.heap.size

variable {w0 wr : World} {tb a b : Nat} {T : Nat → Nat} {nv ev nv' ev' : Value} {rb : Nat → Nat}

theorem NewUp.node (h : NewUp w0 tb n a b T nv ev rb wr) (o : Obj) (hown : w'.ownsRow w0.heap.size 3 1 nv' (a + 1) (ints (List.range a) ++ [.int .i64 a])) (hg : (wr.alloc o).grownBy w' nv.ownBlock) (hat : nv'.ownBlock = nv.ownBlock ∨ nv'.ownBlock = some (wr.alloc o).heap.size) :
    ∃ T', NewUp w0 tb n (a + 1) b T' nv' ev rb (w'.setCell ⟨tb, 0, none⟩ nv') := by
  have hal : (wr.alloc o).heap.size = wr.heap.size + 1 := by simp
  have hs' : wr.heap.size + 1 ≤ w'.heap.size := by rw [← hal]; exact hg.size
  have hss : (w'.setCell ⟨tb, 0, none⟩ nv').heap.size = w'.heap.size := by simp [World.setCell]
  have hk0 : ∀ k, k < wr.heap.size → T k ≠ 1 → w'.heap[k]? = wr.heap[k]? := fun k hk h1 => by
    rw [hg.block k (by omega) (fun e => h1 (h.t1 k e.symm)), Below.heap_alloc _ _ _ hk]
  have hk : ∀ k, k < wr.heap.size → T k ≠ 1 → T k ≠ 0 → (w'.setCell ⟨tb, 0, none⟩ nv').heap[k]? = wr.heap[k]? := fun k hk h1 h2 => by
    rw [Below.heap_setCell _ _ _ _ (fun e => h2 (by rw [show k = tb from e]; exact h.t0)), hk0 k hk h1]
  let T' : Nat → Nat := fun k => if k < wr.heap.size then T k else 1
  have hT : ∀ k, k < wr.heap.size → T' k = T k := fun k hk => if_pos hk
  have hnt : nv'.ownBlock ≠ some tb := fun e => by
    rcases hat with e2 | e2
    · rw [e2] at e
      have := h.t1 tb e
      rw [h.t0] at this
      cases this
    · rw [e2] at e
      injection e with e
      have := h.base.2
      omega
  refine ⟨T', ?_, ?_, ?_, ?_, ?_, ?_, ?_, ?_, ?_⟩
  · have h1 : ValsAt w' tb 2 (fun f => if f = 0 then nv else ev) := h.obj.of_block (hk0 tb h.base.2 (by rw [h.t0]; decide))
    refine (h1.set (p := 0) (by omega) nv').ext fun f _ => ?_
    by_cases e : f = 0 <;> simp [e]
  · rw [hT tb h.base.2]; exact h.t0
  · have : ints (List.range (a + 1)) = ints (List.range a) ++ [.int .i64 a] := by
      rw [List.range_succ]; simp [ints]
    rw [this]
    exact ownsRow_setCell_other hown hnt _
  · intro k hkk
    rcases hat with e | e
    · rw [e] at hkk
      rw [hT k (h.on.lt k hkk).2]
      exact h.t1 k hkk
    · rw [e] at hkk
      injection hkk with hkk
      exact if_neg (by omega)
  · exact own_of_block h.oe fun k hkk => hk k (h.oe.lt k hkk).2 (by rw [h.t2 k hkk]; decide) (by rw [h.t2 k hkk]; decide)
  · intro k hkk
    rw [hT k (h.oe.lt k hkk).2]; exact h.t2 k hkk
  · intro u hu
    obtain ⟨c1, c2, c3, c4⟩ := h.cells u hu
    exact ⟨c1.of_block (hk _ c3 (by omega) (by omega)), by rw [hT _ c3]; exact c2, by omega, c4⟩
  · refine Below.setCell ?_ h.base.1 _
    exact (h.old.alloc h.old.size o).grown hg (by have := h.old.size; omega) (fun k e => (h.on.lt k e).1)
  · exact ⟨h.base.1, by have := h.base.2; omega⟩

theorem NewUp.edge (h : NewUp w0 tb n a b T nv ev rb wr) (t : TypeId) (o : Obj) (hown : w'.ownsRow w0.heap.size 33 1 ev' (b + 1) (((List.range b).map fun u => .slice (some ⟨rb u, 0, none⟩) n n) ++ [.slice (some ⟨wr.heap.size, 0, none⟩) n n]))
    (hg : ((wr.alloc (.cells (madeCells #[.bool false] n) t)).alloc o).grownBy w' ev.ownBlock) (hat : ev'.ownBlock = ev.ownBlock ∨ ev'.ownBlock = some ((wr.alloc (.cells (madeCells #[.bool false] n) t)).alloc o).heap.size) :
    ∃ T' rb', NewUp w0 tb n a (b + 1) T' nv ev' rb' (w'.setCell ⟨tb, 1, none⟩ ev') := by
  have hal : ((wr.alloc (.cells (madeCells #[.bool false] n) t)).alloc o).heap.size = wr.heap.size + 2 := by simp
  have hs' : wr.heap.size + 2 ≤ w'.heap.size := by rw [← hal]; exact hg.size
  have hss : (w'.setCell ⟨tb, 1, none⟩ ev').heap.size = w'.heap.size := by simp [World.setCell]
  have hk0 : ∀ k, k < wr.heap.size → T k ≠ 2 → w'.heap[k]? = wr.heap[k]? := fun k hk h1 => by
    rw [hg.block k (by omega) (fun e => h1 (h.t2 k e.symm)), Below.heap_alloc _ _ _ (by simp; omega), Below.heap_alloc _ _ _ hk]
  have hk : ∀ k, k < wr.heap.size → T k ≠ 2 → T k ≠ 0 → (w'.setCell ⟨tb, 1, none⟩ ev').heap[k]? = wr.heap[k]? := fun k hk h1 h2 => by
    rw [Below.heap_setCell _ _ _ _ (fun e => h2 (by rw [show k = tb from e]; exact h.t0)), hk0 k hk h1]
  have hbl : ∀ k, ev.ownBlock = some k → k < wr.heap.size := fun k e => (h.oe.lt k e).2
  have hnewb : (w'.setCell ⟨tb, 1, none⟩ ev').heap[wr.heap.size]? = (wr.alloc (.cells (madeCells #[.bool false] n) t)).heap[wr.heap.size]? := by
    have := h.base.2
    rw [Below.heap_setCell _ _ _ _ (by show wr.heap.size ≠ tb; omega), hg.block _ (by omega) (fun e => by have := hbl _ e.symm; omega), Below.heap_alloc _ _ _ (by simp)]
  let T' : Nat → Nat := fun k => if k < wr.heap.size then T k else if k = wr.heap.size then 3 + b else 2
  let rb' : Nat → Nat := fun u => if u = b then wr.heap.size else rb u
  have hT : ∀ k, k < wr.heap.size → T' k = T k := fun k hk => if_pos hk
  have hnt : ev'.ownBlock ≠ some tb := fun e => by
    rcases hat with e2 | e2
    · rw [e2] at e
      have := h.t2 tb e
      rw [h.t0] at this
      cases this
    · rw [e2] at e
      injection e with e
      have := h.base.2
      omega
  refine ⟨T', rb', ?_, ?_, ?_, ?_, ?_, ?_, ?_, ?_, ?_⟩
  · have h1 : ValsAt w' tb 2 (fun f => if f = 0 then nv else ev) := h.obj.of_block (hk0 tb h.base.2 (by rw [h.t0]; decide))
    refine (h1.set (p := 1) (by omega) ev').ext fun f hf => ?_
    rcases (by omega : f = 0 ∨ f = 1) with e | e <;> simp [e]
  · rw [hT tb h.base.2]; exact h.t0
  · exact own_of_block h.on fun k hkk => hk k (h.on.lt k hkk).2 (by rw [h.t1 k hkk]; decide) (by rw [h.t1 k hkk]; decide)
  · intro k hkk
    rw [hT k (h.on.lt k hkk).2]; exact h.t1 k hkk
  · have e1 : ((List.range (b + 1)).map fun u => (.slice (some ⟨rb' u, 0, none⟩) n n : Value)) = ((List.range b).map fun u => (.slice (some ⟨rb u, 0, none⟩) n n : Value)) ++ [.slice (some ⟨wr.heap.size, 0, none⟩) n n] := by
      rw [List.range_succ, List.map_append]
      congr 1
      · refine List.map_congr_left fun u hu => ?_
        have := List.mem_range.1 hu
        show Value.slice (some ⟨if u = b then wr.heap.size else rb u, 0, none⟩) n n = _
        rw [if_neg (by omega)]
      · show [Value.slice (some ⟨if b = b then wr.heap.size else rb b, 0, none⟩) n n] = _
        rw [if_pos rfl]
    rw [e1]
    exact ownsRow_setCell_other hown hnt _
  · intro k hkk
    rcases hat with e | e
    · rw [e] at hkk
      rw [hT k (hbl k hkk)]
      exact h.t2 k hkk
    · rw [e] at hkk
      injection hkk with hkk
      show (if k < wr.heap.size then T k else if k = wr.heap.size then 3 + b else 2) = 2
      rw [if_neg (by omega), if_neg (by omega)]
  · intro u hu
    by_cases e : u = b
    · have er : rb' u = wr.heap.size := if_pos e
      rw [er, e]
      refine ⟨(vals_new wr (.bool false) n t).of_block hnewb, ?_, by omega, h.old.size⟩
      show (if wr.heap.size < wr.heap.size then T wr.heap.size else if wr.heap.size = wr.heap.size then 3 + b else 2) = 3 + b
      rw [if_neg (by omega), if_pos rfl]
    · have er : rb' u = rb u := if_neg e
      rw [er]
      obtain ⟨c1, c2, c3, c4⟩ := h.cells u (by omega)
      exact ⟨c1.of_block (hk _ c3 (by omega) (by omega)), by rw [hT _ c3]; exact c2, by omega, c4⟩
  · refine Below.setCell ?_ h.base.1 _
    have h1 := h.old.size
    exact ((h.old.alloc h.old.size _).alloc (by simp; omega) o).grown hg (by omega) (fun k e => (h.oe.lt k e).1)
  · exact ⟨h.base.1, by have := h.base.2; omega⟩

theorem NewUp.done (h : NewUp w0 tb n n n T nv ev rb wr) (hn : 0 < n) : ∃ nb eb cn ce, RefAt wr tb nb eb cn ce n rb id noE ∧ w0.heap.size ≤ nb ∧ w0.heap.size ≤ eb := by
  rcases h.on.2 with ⟨_, h0⟩ | ⟨nb, cn, cu, rfl, hnb, hnh, _⟩
  · omega
  rcases h.oe.2 with ⟨_, h0⟩ | ⟨eb, ce, cu2, rfl, heb, heh, _⟩
  · omega
  have tn := h.t1 nb rfl
  have te := h.t2 eb rfl
  have hnl := (h.on.lt nb rfl).2
  have hel := (h.oe.lt eb rfl).2
  have ne : ∀ x y, T x ≠ T y → x ≠ y := fun x y h e => h (by rw [e])
  refine ⟨nb, eb, cn, ce, ⟨?_, ?_, ⟨fun j hj => ?_, fun j hj => h.on.frozenAt j⟩, ⟨fun u hu => ?_, fun u hu => (h.cells u hu).1, fun u v hu hv e => ?_, fun u hu => ne _ _ ?_, ⟨hel, fun u hu => (h.cells u hu).2.2.1⟩⟩, hnl, ⟨ne _ _ ?_, ne _ _ ?_, ne _ _ ?_⟩, fun u hu => ⟨ne _ _ ?_, ne _ _ ?_⟩⟩, hnb, heb⟩
  · exact h.obj.at' 0 (by omega)
  · exact h.obj.at' 1 (by omega)
  · rw [h.on.cellAt j (by omega)]
    simp [ints, hj]
  · rw [h.oe.cellAt u (by omega)]
    simp [hu]
  · have h1 := (h.cells u hu).2.1
    have h2 := (h.cells v hv).2.1
    rw [e] at h1
    omega
  · rw [(h.cells u hu).2.1, te]; omega
  · rw [h.t0, tn]; decide
  · rw [h.t0, te]; decide
  · rw [tn, te]; decide
  · rw [(h.cells u hu).2.1, h.t0]; omega
  · rw [(h.cells u hu).2.1, tn]; omega

end Go.Proofs.Ytelmkfkgpnadnaa
