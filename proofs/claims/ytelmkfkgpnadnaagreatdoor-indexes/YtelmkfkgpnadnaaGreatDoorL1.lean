/-
  The document's answer: the lines of a text, in memory.
-/
import Derived.Test.YtelmkfkgpnadnaaGreatDoorG0
import Derived.Test.YtelmkfkgpnadnaaGreatDoorI2
import Derived.Test.YtelmkfkgpnadnaaGreatDoorTA
import Derived.Deep.LoopGhost
import Derived.Deep.Cut
namespace Go.Proofs.YtelmkfkgpnadnaaGreatDoor
open Go.RowKit

variable {w w' : World}

abbrev OLn := Nat × List (Nat × ByteArray)
def olns (l : List OLn) : List Tx.Ln := l.map fun x => (x.1, wtoks x.2)
def strs (ws : List (Nat × ByteArray)) : List Value := ws.map fun x => .string x.2
def ats (ws : List (Nat × ByteArray)) : List Value := ws.map fun x => .int .i64 x.1
def pad : Nat × ByteArray := (0, ByteArray.empty)

theorem strs_len (ws : List (Nat × ByteArray)) : (strs ws).length = ws.length := by simp [strs]
theorem ats_len (ws : List (Nat × ByteArray)) : (ats ws).length = ws.length := by simp [ats]

/-- One line, where it lies: its number, its words, where they begin, where the last ends. -/
def LineLies (w : World) (B : Nat → Prop) (l : OLn) (cs : List Value) : Prop :=
  ∃ gw cw ga ca, cs = [.int .i64 l.1, .slice (some ⟨gw, 0, none⟩) l.2.length cw, .slice (some ⟨ga, 0, none⟩) l.2.length ca, .int .i64 (Tx.fin (wtoks l.2))] ∧ l.2 ≠ [] ∧
    ValsAt w gw l.2.length (fun j => .string (l.2.getD j pad).2) ∧ ValsAt w ga l.2.length (fun j => .int .i64 (l.2.getD j pad).1) ∧ gw < w.heap.size ∧ ga < w.heap.size ∧ B gw ∧ B ga

theorem LineLies.turn {B C : Nat → Prop} {l : OLn} {cs : List Value} (h : LineLies w B l cs) (hs : w.heap.size ≤ w'.heap.size) (hb : ∀ k, k < w.heap.size → B k → w'.heap[k]? = w.heap[k]? ∧ C k) : LineLies w' C l cs := by
  obtain ⟨gw, cw, ga, ca, h1, h2, h3, h4, h5, h6, h7, h8⟩ := h
  exact ⟨gw, cw, ga, ca, h1, h2, h3.of_block (hb gw h5 h7).1, h4.of_block (hb ga h6 h8).1, by omega, by omega, (hb gw h5 h7).2, (hb ga h6 h8).2⟩

/-- The lines so far. -/
def AllLines (w : World) (B : Nat → Prop) (out : List OLn) (xs : List Value) : Prop :=
  xs.length = out.length * 4 ∧ ∀ j, ∀ h : j < out.length, LineLies w B out[j] ((xs.drop (j * 4)).take 4)

theorem AllLines.turn {B C : Nat → Prop} {out : List OLn} {xs : List Value} (h : AllLines w B out xs) (hs : w.heap.size ≤ w'.heap.size) (hb : ∀ k, k < w.heap.size → B k → w'.heap[k]? = w.heap[k]? ∧ C k) : AllLines w' C out xs :=
  ⟨h.1, fun j hj => (h.2 j hj).turn hs hb⟩

theorem AllLines.snoc {B : Nat → Prop} {out : List OLn} {xs cs : List Value} {l : OLn} (h : AllLines w B out xs) (hl : LineLies w B l cs) : AllLines w B (out ++ [l]) (xs ++ cs) := by
  have hc : cs.length = 4 := by obtain ⟨_, _, _, _, e, _⟩ := hl; rw [e]; rfl
  refine ⟨by rw [List.length_append, List.length_append, h.1, hc]; simp; omega, fun j hj => ?_⟩
  by_cases e : j < out.length
  · rw [List.getElem_append_left e]
    have := h.2 j e
    have e1 : (xs ++ cs).drop (j * 4) = xs.drop (j * 4) ++ cs := List.drop_append_of_le_length (by rw [h.1]; omega)
    rw [e1, List.take_append_of_le_length (by rw [List.length_drop, h.1]; omega)]
    exact this
  · have ej : j = out.length := by simp at hj; omega
    subst ej
    rw [List.getElem_append_right (Nat.le_refl _)]
    have e1 : (xs ++ cs).drop (out.length * 4) = cs := by rw [← h.1]; exact List.drop_left
    rw [e1, ← hc, List.take_length]
    simpa using hl

/-- The document's Lines, on the way; a tag for each block says whose it is. -/
structure Lr (w0 : World) (L : Nat) (T : Nat → Nat) (ov wv av : Value) (out : List OLn) (xs : List Value) (n : Nat) (ss ps : List Value) (en : Int) (wr : World) : Prop where
  box : ValsAt wr L 4 (fun f => if f = 0 then .int .i64 n else if f = 1 then wv else if f = 2 then av else .int .i64 en)
  tL : T L = 4
  oo : wr.ownsRow 0 210 4 ov out.length xs
  tO : ∀ b, ov.ownBlock = some b → T b = 3
  lines : AllLines wr (fun b => T b = 5) out xs
  ow : wr.ownsRow 0 9 1 wv ss.length ss
  tw : ∀ b, wv.ownBlock = some b → T b = 1
  oa : wr.ownsRow 0 3 1 av ps.length ps
  ta : ∀ b, av.ownBlock = some b → T b = 2
  old : Below w0.heap.size w0 wr
  low : ∀ b, b < w0.heap.size → T b = 0
  lt : L < wr.heap.size

variable {w0 wr : World} {L n : Nat} {T : Nat → Nat} {ov wv av ov' wv' av' : Value} {out : List OLn} {xs ss ps : List Value} {en : Int}

theorem Lr.below (h : Lr w0 L T ov wv av out xs n ss ps en wr) (hb : Below wr.heap.size wr w') : Lr w0 L T ov wv av out xs n ss ps en w' :=
  ⟨h.box.of_block (hb.block L h.lt), h.tL, own_of_block h.oo (fun b e => hb.block b (h.oo.lt b e).2), h.tO, h.lines.turn hb.size (fun b hk ht => ⟨hb.block b hk, ht⟩),
    own_of_block h.ow (fun b e => hb.block b (h.ow.lt b e).2), h.tw, own_of_block h.oa (fun b e => hb.block b (h.oa.lt b e).2), h.ta, h.old.trans (hb.mono h.old.size), h.low, Nat.lt_of_lt_of_le h.lt hb.size⟩

theorem Lr.up (h : Lr w0 L T ov wv av out xs n ss ps en wr) {b : Nat} (ht : T b ≠ 0) : w0.heap.size ≤ b := by
  rcases Nat.lt_or_ge b w0.heap.size with hb | hb
  · exact absurd (h.low b hb) ht
  · exact hb

theorem Lr.word (h : Lr w0 L T ov wv av out xs n ss ps en wr) (o : Obj) (v : Value) (hown : w'.ownsRow 0 9 1 wv' (ss.length + 1) (ss ++ [v])) (hg : (wr.alloc o).grownBy w' wv.ownBlock) (hat : wv'.ownBlock = wv.ownBlock ∨ wv'.ownBlock = some (wr.alloc o).heap.size) :
    ∃ T', Lr w0 L T' ov wv' av out xs n (ss ++ [v]) ps en (w'.setCell ⟨L, 1, none⟩ wv') := by
  have hal : (wr.alloc o).heap.size = wr.heap.size + 1 := by simp
  have hs' : wr.heap.size + 1 ≤ w'.heap.size := by rw [← hal]; exact hg.size
  have hss : (w'.setCell ⟨L, 1, none⟩ wv').heap.size = w'.heap.size := by simp [World.setCell]
  have hk0 : ∀ k, k < wr.heap.size → T k ≠ 1 → w'.heap[k]? = wr.heap[k]? := fun k hk h1 => by
    rw [hg.block k (by omega) (fun e => h1 (h.tw k e.symm)), Below.heap_alloc _ _ _ hk]
  have hk : ∀ k, k < wr.heap.size → T k ≠ 1 → T k ≠ 4 → (w'.setCell ⟨L, 1, none⟩ wv').heap[k]? = wr.heap[k]? := fun k hk h1 h2 => by
    rw [Below.heap_setCell _ _ _ _ (fun e => h2 (by rw [show k = L from e]; exact h.tL)), hk0 k hk h1]
  let T' : Nat → Nat := fun k => if k < wr.heap.size then T k else 1
  have hT : ∀ k, k < wr.heap.size → T' k = T k := fun k hk => if_pos hk
  have hnt : wv'.ownBlock ≠ some L := fun e => by
    have := h.lt
    rcases hat with e2 | e2
    · rw [e2] at e
      have h1 := h.tw L e
      rw [h.tL] at h1
      cases h1
    · rw [e2] at e
      injection e with e
      omega
  refine ⟨T', ?_, ?_, own_of_block h.oo (fun b e => hk b (h.oo.lt b e).2 (by rw [h.tO b e]; decide) (by rw [h.tO b e]; decide)), fun b e => by rw [hT b (h.oo.lt b e).2]; exact h.tO b e,
    h.lines.turn (by omega) (fun b hb ht => ⟨hk b hb (by rw [ht]; decide) (by rw [ht]; decide), by rw [hT b hb]; exact ht⟩), ?_, ?_, own_of_block h.oa (fun b e => hk b (h.oa.lt b e).2 (by rw [h.ta b e]; decide) (by rw [h.ta b e]; decide)), fun b e => by rw [hT b (h.oa.lt b e).2]; exact h.ta b e, ?_, ?_, by rw [hss]; have := h.lt; omega⟩
  · have h1 : ValsAt w' L 4 _ := h.box.of_block (hk0 L h.lt (by rw [h.tL]; decide))
    refine (h1.set (p := 1) (by omega) wv').ext fun f _ => ?_
    by_cases e : f = 1 <;> simp [e]
  · rw [hT L h.lt]; exact h.tL
  · rw [List.length_append]
    exact ownsRow_setCell_other hown hnt _
  · intro b e
    rcases hat with e2 | e2
    · rw [e2] at e
      rw [hT b (h.ow.lt b e).2]
      exact h.tw b e
    · rw [e2] at e
      injection e with e
      exact if_neg (by omega)
  · refine Below.setCell ?_ (h.up (by rw [h.tL]; decide)) _
    exact (h.old.alloc h.old.size o).grown hg (by have := h.old.size; omega) (fun k e => h.up (by rw [h.tw k e]; decide))
  · intro b hb
    rw [hT b (by have := h.old.size; omega)]
    exact h.low b hb

theorem Lr.place (h : Lr w0 L T ov wv av out xs n ss ps en wr) (o : Obj) (v : Value) (hown : w'.ownsRow 0 3 1 av' (ps.length + 1) (ps ++ [v])) (hg : (wr.alloc o).grownBy w' av.ownBlock) (hat : av'.ownBlock = av.ownBlock ∨ av'.ownBlock = some (wr.alloc o).heap.size) :
    ∃ T', Lr w0 L T' ov wv av' out xs n ss (ps ++ [v]) en (w'.setCell ⟨L, 2, none⟩ av') := by
  have hal : (wr.alloc o).heap.size = wr.heap.size + 1 := by simp
  have hs' : wr.heap.size + 1 ≤ w'.heap.size := by rw [← hal]; exact hg.size
  have hss : (w'.setCell ⟨L, 2, none⟩ av').heap.size = w'.heap.size := by simp [World.setCell]
  have hk0 : ∀ k, k < wr.heap.size → T k ≠ 2 → w'.heap[k]? = wr.heap[k]? := fun k hk h1 => by
    rw [hg.block k (by omega) (fun e => h1 (h.ta k e.symm)), Below.heap_alloc _ _ _ hk]
  have hk : ∀ k, k < wr.heap.size → T k ≠ 2 → T k ≠ 4 → (w'.setCell ⟨L, 2, none⟩ av').heap[k]? = wr.heap[k]? := fun k hk h1 h2 => by
    rw [Below.heap_setCell _ _ _ _ (fun e => h2 (by rw [show k = L from e]; exact h.tL)), hk0 k hk h1]
  let T' : Nat → Nat := fun k => if k < wr.heap.size then T k else 2
  have hT : ∀ k, k < wr.heap.size → T' k = T k := fun k hk => if_pos hk
  have hnt : av'.ownBlock ≠ some L := fun e => by
    have := h.lt
    rcases hat with e2 | e2
    · rw [e2] at e
      have h1 := h.ta L e
      rw [h.tL] at h1
      cases h1
    · rw [e2] at e
      injection e with e
      omega
  refine ⟨T', ?_, ?_, own_of_block h.oo (fun b e => hk b (h.oo.lt b e).2 (by rw [h.tO b e]; decide) (by rw [h.tO b e]; decide)), fun b e => by rw [hT b (h.oo.lt b e).2]; exact h.tO b e,
    h.lines.turn (by omega) (fun b hb ht => ⟨hk b hb (by rw [ht]; decide) (by rw [ht]; decide), by rw [hT b hb]; exact ht⟩), own_of_block h.ow (fun b e => hk b (h.ow.lt b e).2 (by rw [h.tw b e]; decide) (by rw [h.tw b e]; decide)), fun b e => by rw [hT b (h.ow.lt b e).2]; exact h.tw b e, ?_, ?_, ?_, ?_, by rw [hss]; have := h.lt; omega⟩
  · have h1 : ValsAt w' L 4 _ := h.box.of_block (hk0 L h.lt (by rw [h.tL]; decide))
    refine (h1.set (p := 2) (by omega) av').ext fun f _ => ?_
    by_cases e : f = 2 <;> simp [e]
  · rw [hT L h.lt]; exact h.tL
  · rw [List.length_append]
    exact ownsRow_setCell_other hown hnt _
  · intro b e
    rcases hat with e2 | e2
    · rw [e2] at e
      rw [hT b (h.oa.lt b e).2]
      exact h.ta b e
    · rw [e2] at e
      injection e with e
      exact if_neg (by omega)
  · refine Below.setCell ?_ (h.up (by rw [h.tL]; decide)) _
    exact (h.old.alloc h.old.size o).grown hg (by have := h.old.size; omega) (fun k e => h.up (by rw [h.ta k e]; decide))
  · intro b hb
    rw [hT b (by have := h.old.size; omega)]
    exact h.low b hb

theorem Lr.put {gw cw j : Nat} (h : Lr w0 L T ov (.slice (some ⟨gw, 0, none⟩) ss.length cw) av out xs n ss ps en wr) (x : Value) : Lr w0 L T ov (.slice (some ⟨gw, 0, none⟩) ss.length cw) av out xs n (ss.set j x) ps en (wr.setCell ⟨gw, j, none⟩ x) := by
  have tg := h.tw gw rfl
  have hk : ∀ k, T k ≠ 1 → (wr.setCell ⟨gw, j, none⟩ x).heap[k]? = wr.heap[k]? := fun k h1 => Below.heap_setCell _ _ _ _ (fun e => h1 (by rw [show k = gw from e]; exact tg))
  have hs : (wr.setCell ⟨gw, j, none⟩ x).heap.size = wr.heap.size := by simp [World.setCell]
  refine ⟨h.box.of_block (hk L (by rw [h.tL]; decide)), h.tL, own_of_block h.oo (fun b e => hk b (by rw [h.tO b e]; decide)), h.tO, h.lines.turn (by omega) (fun b _ ht => ⟨hk b (by rw [ht]; decide), ht⟩), ?_, h.tw, own_of_block h.oa (fun b e => hk b (by rw [h.ta b e]; decide)), h.ta, h.old.setCell (h.up (by rw [tg]; decide)) _, h.low, by rw [hs]; exact h.lt⟩
  have := (h.ow.stored j x).1
  rw [List.length_set]
  exact this

theorem Lr.fin (h : Lr w0 L T ov wv av out xs n ss ps en wr) (e : Int) : Lr w0 L T ov wv av out xs n ss ps e (wr.setCell ⟨L, 3, none⟩ (.int .i64 e)) := by
  have hk : ∀ k, T k ≠ 4 → (wr.setCell ⟨L, 3, none⟩ (.int .i64 e)).heap[k]? = wr.heap[k]? := fun k h1 => Below.heap_setCell _ _ _ _ (fun e => h1 (by rw [show k = L from e]; exact h.tL))
  have hs : (wr.setCell ⟨L, 3, none⟩ (.int .i64 e)).heap.size = wr.heap.size := by simp [World.setCell]
  refine ⟨(h.box.set (p := 3) (by omega) _).ext fun f hf => ?_, h.tL, own_of_block h.oo (fun b e => hk b (by rw [h.tO b e]; decide)), h.tO, h.lines.turn (by omega) (fun b _ ht => ⟨hk b (by rw [ht]; decide), ht⟩), own_of_block h.ow (fun b e => hk b (by rw [h.tw b e]; decide)), h.tw, own_of_block h.oa (fun b e => hk b (by rw [h.ta b e]; decide)), h.ta, h.old.setCell (h.up (by rw [h.tL]; decide)) _, h.low, by rw [hs]; exact h.lt⟩
  rcases (by omega : f = 0 ∨ f = 1 ∨ f = 2 ∨ f = 3) with e | e | e | e <;> simp [e]

/-- A new line's box. -/
def newBox (W : World) (L : Nat) (m : Int) : World := (((W.setCell ⟨L, 0, none⟩ (.int .i64 m)).setCell ⟨L, 1, none⟩ (.slice none 0 0)).setCell ⟨L, 2, none⟩ (.slice none 0 0)).setCell ⟨L, 3, none⟩ (.int .i64 0)

theorem newBox_heap (W : World) (L : Nat) (m : Int) (k : Nat) (h : k ≠ L) : (newBox W L m).heap[k]? = W.heap[k]? := by
  unfold newBox
  rw [Below.heap_setCell _ _ _ _ h, Below.heap_setCell _ _ _ _ h, Below.heap_setCell _ _ _ _ h, Below.heap_setCell _ _ _ _ h]

theorem newBox_size (W : World) (L : Nat) (m : Int) : (newBox W L m).heap.size = W.heap.size := by simp [newBox, World.setCell]

theorem newBox_vals {W : World} {L : Nat} {f : Nat → Value} (m : Int) (h : ValsAt W L 4 f) : ValsAt (newBox W L m) L 4 (fun f => if f = 0 then .int .i64 m else if f = 1 then .slice none 0 0 else if f = 2 then .slice none 0 0 else .int .i64 0) := by
  unfold newBox
  refine ((((h.set (p := 0) (by omega) _).set (p := 1) (by omega) _).set (p := 2) (by omega) _).set (p := 3) (by omega) _).ext fun j hj => ?_
  rcases (by omega : j = 0 ∨ j = 1 ∨ j = 2 ∨ j = 3) with e | e | e | e <;> simp [e]

theorem newBox_below {W : World} {m : Int} (h : Below w0.heap.size w0 W) (hL : w0.heap.size ≤ L) : Below w0.heap.size w0 (newBox W L m) := (((h.setCell hL _).setCell hL _).setCell hL _).setCell hL _

theorem Lr.fresh (h : Lr w0 L T ov wv av out xs n ss ps en wr) : Lr w0 L T ov (.slice none 0 0) (.slice none 0 0) out xs (n + 1) [] [] 0 (newBox wr L ((n : Int) + 1)) := by
  have hk : ∀ k, T k ≠ 4 → (newBox wr L ((n : Int) + 1)).heap[k]? = wr.heap[k]? := fun k h1 => newBox_heap _ _ _ _ (fun e => h1 (by rw [e]; exact h.tL))
  exact ⟨newBox_vals _ h.box, h.tL, own_of_block h.oo (fun b e => hk b (by rw [h.tO b e]; decide)), h.tO, h.lines.turn (by rw [newBox_size]; omega) (fun b _ ht => ⟨hk b (by rw [ht]; decide), ht⟩), World.ownsRow_nil _ _ _ _, fun b e => (by cases e), World.ownsRow_nil _ _ _ _, fun b e => (by cases e), newBox_below h.old (h.up (by rw [h.tL]; decide)), h.low, by rw [newBox_size]; exact h.lt⟩

theorem strs_vals {g c : Nat} {ws : List (Nat × ByteArray)} (h : w.ownsRow 0 9 1 (.slice (some ⟨g, 0, none⟩) ws.length c) ws.length (strs ws)) : ValsAt w g ws.length (fun j => .string (ws.getD j pad).2) :=
  ⟨fun j hj => by rw [h.cellAt j (by omega)]; simp [strs, hj, List.getD], fun j _ => h.frozenAt j⟩
theorem ats_vals {g c : Nat} {ws : List (Nat × ByteArray)} (h : w.ownsRow 0 3 1 (.slice (some ⟨g, 0, none⟩) ws.length c) ws.length (ats ws)) : ValsAt w g ws.length (fun j => .int .i64 (ws.getD j pad).1) :=
  ⟨fun j hj => by rw [h.cellAt j (by omega)]; simp [ats, hj, List.getD], fun j _ => h.frozenAt j⟩

theorem Lr.push {ws : List (Nat × ByteArray)} (h : Lr w0 L T ov wv av out xs n (strs ws) (ats ws) (Tx.fin (wtoks ws)) wr) (hne : ws ≠ []) (o : Obj) (hown : w'.ownsRow 0 210 4 ov' (out.length + 1) (xs ++ [.int .i64 n, wv, av, .int .i64 (Tx.fin (wtoks ws))])) (hg : (wr.alloc o).grownBy w' ov.ownBlock) (hat : ov'.ownBlock = ov.ownBlock ∨ ov'.ownBlock = some (wr.alloc o).heap.size) :
    ∃ T' xs', Lr w0 L T' ov' (.slice none 0 0) (.slice none 0 0) (out ++ [(n, ws)]) xs' (n + 1) [] [] 0 (newBox w' L ((n : Int) + 1)) := by
  have hpos : 0 < ws.length := List.length_pos_iff.2 hne
  have how := h.ow
  have hoa := h.oa
  rw [strs_len] at how
  rw [ats_len] at hoa
  obtain ⟨gw, cw, rfl⟩ := own_some how hpos
  obtain ⟨ga, ca, rfl⟩ := own_some hoa hpos
  have tgw := h.tw gw rfl
  have tga := h.ta ga rfl
  have hgwl := (how.lt gw rfl).2
  have hgal := (hoa.lt ga rfl).2
  have hal : (wr.alloc o).heap.size = wr.heap.size + 1 := by simp
  have hs' : wr.heap.size + 1 ≤ w'.heap.size := by rw [← hal]; exact hg.size
  have hk0 : ∀ k, k < wr.heap.size → T k ≠ 3 → w'.heap[k]? = wr.heap[k]? := fun k hk h1 => by
    rw [hg.block k (by omega) (fun e => h1 (h.tO k e.symm)), Below.heap_alloc _ _ _ hk]
  have hk : ∀ k, k < wr.heap.size → T k ≠ 3 → T k ≠ 4 → (newBox w' L ((n : Int) + 1)).heap[k]? = wr.heap[k]? := fun k hk h1 h2 => by
    rw [newBox_heap _ _ _ _ (fun e => h2 (by rw [e]; exact h.tL)), hk0 k hk h1]
  let T' : Nat → Nat := fun k => if k < wr.heap.size then (if k = gw ∨ k = ga then 5 else T k) else 3
  have hT : ∀ k, k < wr.heap.size → T k ≠ 1 → T k ≠ 2 → T' k = T k := fun k hk h1 h2 => by
    show (if k < wr.heap.size then (if k = gw ∨ k = ga then 5 else T k) else 3) = _
    rw [if_pos hk, if_neg (fun e => by rcases e with e | e <;> rw [e] at h1 h2 <;> first | exact h1 tgw | exact h2 tga)]
  have hT5 : T' gw = 5 ∧ T' ga = 5 := ⟨by show (if gw < wr.heap.size then (if gw = gw ∨ gw = ga then 5 else T gw) else 3) = 5; rw [if_pos hgwl, if_pos (Or.inl rfl)], by show (if ga < wr.heap.size then (if ga = gw ∨ ga = ga then 5 else T ga) else 3) = 5; rw [if_pos hgal, if_pos (Or.inr rfl)]⟩
  have hnt : ov'.ownBlock ≠ some L := fun e => by
    have := h.lt
    rcases hat with e2 | e2
    · rw [e2] at e
      have h1 := h.tO L e
      rw [h.tL] at h1
      cases h1
    · rw [e2] at e
      injection e with e
      omega
  have hline : LineLies (newBox w' L ((n : Int) + 1)) (fun b => T' b = 5) (n, ws) [.int .i64 n, .slice (some ⟨gw, 0, none⟩) ws.length cw, .slice (some ⟨ga, 0, none⟩) ws.length ca, .int .i64 (Tx.fin (wtoks ws))] :=
    ⟨gw, cw, ga, ca, rfl, hne, (strs_vals how).of_block (hk gw hgwl (by rw [tgw]; decide) (by rw [tgw]; decide)), (ats_vals hoa).of_block (hk ga hgal (by rw [tga]; decide) (by rw [tga]; decide)), by rw [newBox_size]; omega, by rw [newBox_size]; omega, hT5.1, hT5.2⟩
  refine ⟨T', _, newBox_vals _ (h.box.of_block (hk0 L h.lt (by rw [h.tL]; decide))), ?_, ?_, ?_, (h.lines.turn (by rw [newBox_size]; omega) (fun b hb ht => ⟨hk b hb (by rw [ht]; decide) (by rw [ht]; decide), by rw [hT b hb (by rw [ht]; decide) (by rw [ht]; decide)]; exact ht⟩)).snoc hline, World.ownsRow_nil _ _ _ _, fun b e => (by cases e), World.ownsRow_nil _ _ _ _, fun b e => (by cases e), ?_, ?_, by rw [newBox_size]; have := h.lt; omega⟩
  · rw [hT L h.lt (by rw [h.tL]; decide) (by rw [h.tL]; decide)]; exact h.tL
  · rw [List.length_append]
    exact own_of_block hown (fun b e => newBox_heap _ _ _ _ (fun e2 => hnt (by rw [← e2]; exact e)))
  · intro b e
    rcases hat with e2 | e2
    · rw [e2] at e
      rw [hT b (h.oo.lt b e).2 (by rw [h.tO b e]; decide) (by rw [h.tO b e]; decide)]
      exact h.tO b e
    · rw [e2] at e
      injection e with e
      exact if_neg (by omega)
  · refine newBox_below ?_ (h.up (by rw [h.tL]; decide))
    exact (h.old.alloc h.old.size o).grown hg (by have := h.old.size; omega) (fun k e => h.up (by rw [h.tO k e]; decide))
  · intro b hb
    have h0 := h.low b hb
    rw [hT b (by have := h.old.size; omega) (by rw [h0]; decide) (by rw [h0]; decide)]
    exact h0

end Go.Proofs.YtelmkfkgpnadnaaGreatDoor
