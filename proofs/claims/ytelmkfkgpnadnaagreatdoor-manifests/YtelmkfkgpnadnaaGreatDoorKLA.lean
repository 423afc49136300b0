/-
  The document's answer: the lines of a text, in memory.
  The document's answer: the lines of a text: the walk.
-/
import Derived.Test.YtelmkfkgpnadnaaGreatDoorKGA
import Derived.Test.YtelmkfkgpnadnaaGreatDoorKI2
import Derived.Test.YtelmkfkgpnadnaaGreatDoorKTA
import Derived.Deep.LoopGhost
import Derived.Deep.Cut
import Derived.Laws.Concat
namespace Go.Proofs.YtelmkfkgpnadnaaGreatDoor
open Go.RowKit

variable {w w' : World}

abbrev OLn := Nat × List (Nat × ByteArray)
def olns (l : List OLn) : List Tx.Ln := l.map fun x => (x.1, wtoks x.2)
def strs (ws : List (Nat × ByteArray)) : List Value := ws.map fun x => .string x.2
def ats (ws : List (Nat × ByteArray)) : List Value := ws.map fun x => .int .i64 x.1
def pad : Nat × ByteArray := (0, ByteArray.empty)

theorem strs_len (ws : List (Nat × ByteArray)) : (strs ws).length = ws.length := by simp [strs]
theorem ats_len (ws : List (Nat × ByteArray)) : (ats ws).length = ws.length := by simp [ats]

/-- One line, where it lies: its number, its words, where they begin, where the last ends. -/
def LineLies (w : World) (B : Nat → Prop) (l : OLn) (cs : List Value) : Prop :=
  ∃ gw cw ga ca, cs = [.int .i64 l.1, .slice (some ⟨gw, 0, none⟩) l.2.length cw, .slice (some ⟨ga, 0, none⟩) l.2.length ca, .int .i64 (Tx.fin (wtoks l.2))] ∧ l.2 ≠ [] ∧
    ValsAt w gw l.2.length (fun j => .string (l.2.getD j pad).2) ∧ ValsAt w ga l.2.length (fun j => .int .i64 (l.2.getD j pad).1) ∧ gw < w.heap.size ∧ ga < w.heap.size ∧ B gw ∧ B ga

theorem LineLies.turn {B C : Nat → Prop} {l : OLn} {cs : List Value} (h : LineLies w B l cs) (hs : w.heap.size ≤ w'.heap.size) (hb : ∀ k, k < w.heap.size → B k → w'.heap[k]? = w.heap[k]? ∧ C k) : LineLies w' C l cs := by
  obtain ⟨gw, cw, ga, ca, h1, h2, h3, h4, h5, h6, h7, h8⟩ := h
  exact ⟨gw, cw, ga, ca, h1, h2, h3.of_block (hb gw h5 h7).1, h4.of_block (hb ga h6 h8).1, by omega, by omega, (hb gw h5 h7).2, (hb ga h6 h8).2⟩

/-- The lines so far. -/
def AllLines (w : World) (B : Nat → Prop) (out : List OLn) (xs : List Value) : Prop :=
  xs.length = out.length * 4 ∧ ∀ j, ∀ h : j < out.length, LineLies w B out[j] ((xs.drop (j * 4)).take 4)

theorem AllLines.turn {B C : Nat → Prop} {out : List OLn} {xs : List Value} (h : AllLines w B out xs) (hs : w.heap.size ≤ w'.heap.size) (hb : ∀ k, k < w.heap.size → B k → w'.heap[k]? = w.heap[k]? ∧ C k) : AllLines w' C out xs :=
  ⟨h.1, fun j hj => (h.2 j hj).turn hs hb⟩

theorem AllLines.snoc {B : Nat → Prop} {out : List OLn} {xs cs : List Value} {l : OLn} (h : AllLines w B out xs) (hl : LineLies w B l cs) : AllLines w B (out ++ [l]) (xs ++ cs) := by
  have hc : cs.length = 4 := by obtain ⟨_, _, _, _, e, _⟩ := hl; rw [e]; rfl
  refine ⟨by rw [List.length_append, List.length_append, h.1, hc]; simp; omega, fun j hj => ?_⟩
  by_cases e : j < out.length
  · rw [List.getElem_append_left e]
    have := h.2 j e
    have e1 : (xs ++ cs).drop (j * 4) = xs.drop (j * 4) ++ cs := List.drop_append_of_le_length (by rw [h.1]; omega)
    rw [e1, List.take_append_of_le_length (by rw [List.length_drop, h.1]; omega)]
    exact this
  · have ej : j = out.length := by simp at hj; omega
    subst ej
    rw [List.getElem_append_right (Nat.le_refl _)]
    have e1 : (xs ++ cs).drop (out.length * 4) = cs := by rw [← h.1]; exact List.drop_left
    rw [e1, ← hc, List.take_length]
    simpa using hl

/-- The document's Lines, on the way; a tag for each block says whose it is. -/
structure Lr (w0 : World) (L : Nat) (T : Nat → Nat) (ov wv av : Value) (out : List OLn) (xs : List Value) (n : Nat) (ss ps : List Value) (en : Int) (wr : World) : Prop where
  box : ValsAt wr L 4 (fun f => if f = 0 then .int .i64 n else if f = 1 then wv else if f = 2 then av else .int .i64 en)
  tL : T L = 4
  oo : wr.ownsRow 0 210 4 ov out.length xs
  tO : ∀ b, ov.ownBlock = some b → T b = 3
  lines : AllLines wr (fun b => T b = 5) out xs
  ow : wr.ownsRow 0 9 1 wv ss.length ss
  tw : ∀ b, wv.ownBlock = some b → T b = 1
  oa : wr.ownsRow 0 3 1 av ps.length ps
  ta : ∀ b, av.ownBlock = some b → T b = 2
  old : Below w0.heap.size w0 wr
  low : ∀ b, b < w0.heap.size → T b = 0
  lt : L < wr.heap.size

variable {w0 wr : World} {L n : Nat} {T : Nat → Nat} {ov wv av ov' wv' av' : Value} {out : List OLn} {xs ss ps : List Value} {en : Int}

theorem Lr.below (h : Lr w0 L T ov wv av out xs n ss ps en wr) (hb : Below wr.heap.size wr w') : Lr w0 L T ov wv av out xs n ss ps en w' :=
  ⟨h.box.of_block (hb.block L h.lt), h.tL, own_of_block h.oo (fun b e => hb.block b (h.oo.lt b e).2), h.tO, h.lines.turn hb.size (fun b hk ht => ⟨hb.block b hk, ht⟩),
    own_of_block h.ow (fun b e => hb.block b (h.ow.lt b e).2), h.tw, own_of_block h.oa (fun b e => hb.block b (h.oa.lt b e).2), h.ta, h.old.trans (hb.mono h.old.size), h.low, Nat.lt_of_lt_of_le h.lt hb.size⟩

theorem Lr.up (h : Lr w0 L T ov wv av out xs n ss ps en wr) {b : Nat} (ht : T b ≠ 0) : w0.heap.size ≤ b := by
  rcases Nat.lt_or_ge b w0.heap.size with hb | hb
  · exact absurd (h.low b hb) ht
  · exact hb

theorem Lr.word (h : Lr w0 L T ov wv av out xs n ss ps en wr) (o : Obj) (v : Value) (hown : w'.ownsRow 0 9 1 wv' (ss.length + 1) (ss ++ [v])) (hg : (wr.alloc o).grownBy w' wv.ownBlock) (hat : wv'.ownBlock = wv.ownBlock ∨ wv'.ownBlock = some (wr.alloc o).heap.size) :
    ∃ T', Lr w0 L T' ov wv' av out xs n (ss ++ [v]) ps en (w'.setCell ⟨L, 1, none⟩ wv') := by
  have hal : (wr.alloc o).heap.size = wr.heap.size + 1 := by simp
  have hs' : wr.heap.size + 1 ≤ w'.heap.size := by rw [← hal]; exact hg.size
  have hss : (w'.setCell ⟨L, 1, none⟩ wv').heap.size = w'.heap.size := by simp [World.setCell]
  have hk0 : ∀ k, k < wr.heap.size → T k ≠ 1 → w'.heap[k]? = wr.heap[k]? := fun k hk h1 => by
    rw [hg.block k (by omega) (fun e => h1 (h.tw k e.symm)), Below.heap_alloc _ _ _ hk]
  have hk : ∀ k, k < wr.heap.size → T k ≠ 1 → T k ≠ 4 → (w'.setCell ⟨L, 1, none⟩ wv').heap[k]? = wr.heap[k]? := fun k hk h1 h2 => by
    rw [Below.heap_setCell _ _ _ _ (fun e => h2 (by rw [show k = L from e]; exact h.tL)), hk0 k hk h1]
  let T' : Nat → Nat := fun k => if k < wr.heap.size then T k else 1
  have hT : ∀ k, k < wr.heap.size → T' k = T k := fun k hk => if_pos hk
  have hnt : wv'.ownBlock ≠ some L := fun e => by
    have := h.lt
    rcases hat with e2 | e2
    · rw [e2] at e
      have h1 := h.tw L e
      rw [h.tL] at h1
      cases h1
    · rw [e2] at e
      injection e with e
      omega
  refine ⟨T', ?_, ?_, own_of_block h.oo (fun b e => hk b (h.oo.lt b e).2 (by rw [h.tO b e]; decide) (by rw [h.tO b e]; decide)), fun b e => by rw [hT b (h.oo.lt b e).2]; exact h.tO b e,
    h.lines.turn (by omega) (fun b hb ht => ⟨hk b hb (by rw [ht]; decide) (by rw [ht]; decide), by rw [hT b hb]; exact ht⟩), ?_, ?_, own_of_block h.oa (fun b e => hk b (h.oa.lt b e).2 (by rw [h.ta b e]; decide) (by rw [h.ta b e]; decide)), fun b e => by rw [hT b (h.oa.lt b e).2]; exact h.ta b e, ?_, ?_, by rw [hss]; have := h.lt; omega⟩
  · have h1 : ValsAt w' L 4 _ := h.box.of_block (hk0 L h.lt (by rw [h.tL]; decide))
    refine (h1.set (p := 1) (by omega) wv').ext fun f _ => ?_
    by_cases e : f = 1 <;> simp [e]
  · rw [hT L h.lt]; exact h.tL
  · rw [List.length_append]
    exact ownsRow_setCell_other hown hnt _
  · intro b e
    rcases hat with e2 | e2
    · rw [e2] at e
      rw [hT b (h.ow.lt b e).2]
      exact h.tw b e
    · rw [e2] at e
      injection e with e
      exact if_neg (by omega)
  · refine Below.setCell ?_ (h.up (by rw [h.tL]; decide)) _
    exact (h.old.alloc h.old.size o).grown hg (by have := h.old.size; omega) (fun k e => h.up (by rw [h.tw k e]; decide))
  · intro b hb
    rw [hT b (by have := h.old.size; omega)]
    exact h.low b hb

theorem Lr.place (h : Lr w0 L T ov wv av out xs n ss ps en wr) (o : Obj) (v : Value) (hown : w'.ownsRow 0 3 1 av' (ps.length + 1) (ps ++ [v])) (hg : (wr.alloc o).grownBy w' av.ownBlock) (hat : av'.ownBlock = av.ownBlock ∨ av'.ownBlock = some (wr.alloc o).heap.size) :
    ∃ T', Lr w0 L T' ov wv av' out xs n ss (ps ++ [v]) en (w'.setCell ⟨L, 2, none⟩ av') := by
  have hal : (wr.alloc o).heap.size = wr.heap.size + 1 := by simp
  have hs' : wr.heap.size + 1 ≤ w'.heap.size := by rw [← hal]; exact hg.size
  have hss : (w'.setCell ⟨L, 2, none⟩ av').heap.size = w'.heap.size := by simp [World.setCell]
  have hk0 : ∀ k, k < wr.heap.size → T k ≠ 2 → w'.heap[k]? = wr.heap[k]? := fun k hk h1 => by
    rw [hg.block k (by omega) (fun e => h1 (h.ta k e.symm)), Below.heap_alloc _ _ _ hk]
  have hk : ∀ k, k < wr.heap.size → T k ≠ 2 → T k ≠ 4 → (w'.setCell ⟨L, 2, none⟩ av').heap[k]? = wr.heap[k]? := fun k hk h1 h2 => by
    rw [Below.heap_setCell _ _ _ _ (fun e => h2 (by rw [show k = L from e]; exact h.tL)), hk0 k hk h1]
  let T' : Nat → Nat := fun k => if k < wr.heap.size then T k else 2
  have hT : ∀ k, k < wr.heap.size → T' k = T k := fun k hk => if_pos hk
  have hnt : av'.ownBlock ≠ some L := fun e => by
    have := h.lt
    rcases hat with e2 | e2
    · rw [e2] at e
      have h1 := h.ta L e
      rw [h.tL] at h1
      cases h1
    · rw [e2] at e
      injection e with e
      omega
  refine ⟨T', ?_, ?_, own_of_block h.oo (fun b e => hk b (h.oo.lt b e).2 (by rw [h.tO b e]; decide) (by rw [h.tO b e]; decide)), fun b e => by rw [hT b (h.oo.lt b e).2]; exact h.tO b e,
    h.lines.turn (by omega) (fun b hb ht => ⟨hk b hb (by rw [ht]; decide) (by rw [ht]; decide), by rw [hT b hb]; exact ht⟩), own_of_block h.ow (fun b e => hk b (h.ow.lt b e).2 (by rw [h.tw b e]; decide) (by rw [h.tw b e]; decide)), fun b e => by rw [hT b (h.ow.lt b e).2]; exact h.tw b e, ?_, ?_, ?_, ?_, by rw [hss]; have := h.lt; omega⟩
  · have h1 : ValsAt w' L 4 _ := h.box.of_block (hk0 L h.lt (by rw [h.tL]; decide))
    refine (h1.set (p := 2) (by omega) av').ext fun f _ => ?_
    by_cases e : f = 2 <;> simp [e]
  · rw [hT L h.lt]; exact h.tL
  · rw [List.length_append]
    exact ownsRow_setCell_other hown hnt _
  · intro b e
    rcases hat with e2 | e2
    · rw [e2] at e
      rw [hT b (h.oa.lt b e).2]
      exact h.ta b e
    · rw [e2] at e
      injection e with e
      exact if_neg (by omega)
  · refine Below.setCell ?_ (h.up (by rw [h.tL]; decide)) _
    exact (h.old.alloc h.old.size o).grown hg (by have := h.old.size; omega) (fun k e => h.up (by rw [h.ta k e]; decide))
  · intro b hb
    rw [hT b (by have := h.old.size; omega)]
    exact h.low b hb

theorem Lr.put {gw cw j : Nat} (h : Lr w0 L T ov (.slice (some ⟨gw, 0, none⟩) ss.length cw) av out xs n ss ps en wr) (x : Value) : Lr w0 L T ov (.slice (some ⟨gw, 0, none⟩) ss.length cw) av out xs n (ss.set j x) ps en (wr.setCell ⟨gw, j, none⟩ x) := by
  have tg := h.tw gw rfl
  have hk : ∀ k, T k ≠ 1 → (wr.setCell ⟨gw, j, none⟩ x).heap[k]? = wr.heap[k]? := fun k h1 => Below.heap_setCell _ _ _ _ (fun e => h1 (by rw [show k = gw from e]; exact tg))
  have hs : (wr.setCell ⟨gw, j, none⟩ x).heap.size = wr.heap.size := by simp [World.setCell]
  refine ⟨h.box.of_block (hk L (by rw [h.tL]; decide)), h.tL, own_of_block h.oo (fun b e => hk b (by rw [h.tO b e]; decide)), h.tO, h.lines.turn (by omega) (fun b _ ht => ⟨hk b (by rw [ht]; decide), ht⟩), ?_, h.tw, own_of_block h.oa (fun b e => hk b (by rw [h.ta b e]; decide)), h.ta, h.old.setCell (h.up (by rw [tg]; decide)) _, h.low, by rw [hs]; exact h.lt⟩
  have := (h.ow.stored j x).1
  rw [List.length_set]
  exact this

theorem Lr.fin (h : Lr w0 L T ov wv av out xs n ss ps en wr) (e : Int) : Lr w0 L T ov wv av out xs n ss ps e (wr.setCell ⟨L, 3, none⟩ (.int .i64 e)) := by
  have hk : ∀ k, T k ≠ 4 → (wr.setCell ⟨L, 3, none⟩ (.int .i64 e)).heap[k]? = wr.heap[k]? := fun k h1 => Below.heap_setCell _ _ _ _ (fun e => h1 (by rw [show k = L from e]; exact h.tL))
  have hs : (wr.setCell ⟨L, 3, none⟩ (.int .i64 e)).heap.size = wr.heap.size := by simp [World.setCell]
  refine ⟨(h.box.set (p := 3) (by omega) _).ext fun f hf => ?_, h.tL, own_of_block h.oo (fun b e => hk b (by rw [h.tO b e]; decide)), h.tO, h.lines.turn (by omega) (fun b _ ht => ⟨hk b (by rw [ht]; decide), ht⟩), own_of_block h.ow (fun b e => hk b (by rw [h.tw b e]; decide)), h.tw, own_of_block h.oa (fun b e => hk b (by rw [h.ta b e]; decide)), h.ta, h.old.setCell (h.up (by rw [h.tL]; decide)) _, h.low, by rw [hs]; exact h.lt⟩
  rcases (by omega : f = 0 ∨ f = 1 ∨ f = 2 ∨ f = 3) with e | e | e | e <;> simp [e]

/-- A new line's box. -/
def newBox (W : World) (L : Nat) (m : Int) : World := (((W.setCell ⟨L, 0, none⟩ (.int .i64 m)).setCell ⟨L, 1, none⟩ (.slice none 0 0)).setCell ⟨L, 2, none⟩ (.slice none 0 0)).setCell ⟨L, 3, none⟩ (.int .i64 0)

theorem newBox_heap (W : World) (L : Nat) (m : Int) (k : Nat) (h : k ≠ L) : (newBox W L m).heap[k]? = W.heap[k]? := by
  unfold newBox
  rw [Below.heap_setCell _ _ _ _ h, Below.heap_setCell _ _ _ _ h, Below.heap_setCell _ _ _ _ h, Below.heap_setCell _ _ _ _ h]

theorem newBox_size (W : World) (L : Nat) (m : Int) : (newBox W L m).heap.size = W.heap.size := by simp [newBox, World.setCell]

theorem newBox_vals {W : World} {L : Nat} {f : Nat → Value} (m : Int) (h : ValsAt W L 4 f) : ValsAt (newBox W L m) L 4 (fun f => if f = 0 then .int .i64 m else if f = 1 then .slice none 0 0 else if f = 2 then .slice none 0 0 else .int .i64 0) := by
  unfold newBox
  refine ((((h.set (p := 0) (by omega) _).set (p := 1) (by omega) _).set (p := 2) (by omega) _).set (p := 3) (by omega) _).ext fun j hj => ?_
  rcases (by omega : j = 0 ∨ j = 1 ∨ j = 2 ∨ j = 3) with e | e | e | e <;> simp [e]

theorem newBox_below {W : World} {m : Int} (h : Below w0.heap.size w0 W) (hL : w0.heap.size ≤ L) : Below w0.heap.size w0 (newBox W L m) := (((h.setCell hL _).setCell hL _).setCell hL _).setCell hL _

theorem Lr.fresh (h : Lr w0 L T ov wv av out xs n ss ps en wr) : Lr w0 L T ov (.slice none 0 0) (.slice none 0 0) out xs (n + 1) [] [] 0 (newBox wr L ((n : Int) + 1)) := by
  have hk : ∀ k, T k ≠ 4 → (newBox wr L ((n : Int) + 1)).heap[k]? = wr.heap[k]? := fun k h1 => newBox_heap _ _ _ _ (fun e => h1 (by rw [e]; exact h.tL))
  exact ⟨newBox_vals _ h.box, h.tL, own_of_block h.oo (fun b e => hk b (by rw [h.tO b e]; decide)), h.tO, h.lines.turn (by rw [newBox_size]; omega) (fun b _ ht => ⟨hk b (by rw [ht]; decide), ht⟩), World.ownsRow_nil _ _ _ _, fun b e => (by cases e), World.ownsRow_nil _ _ _ _, fun b e => (by cases e), newBox_below h.old (h.up (by rw [h.tL]; decide)), h.low, by rw [newBox_size]; exact h.lt⟩

theorem strs_vals {g c : Nat} {ws : List (Nat × ByteArray)} (h : w.ownsRow 0 9 1 (.slice (some ⟨g, 0, none⟩) ws.length c) ws.length (strs ws)) : ValsAt w g ws.length (fun j => .string (ws.getD j pad).2) :=
  ⟨fun j hj => by rw [h.cellAt j (by omega)]; simp [strs, hj, List.getD], fun j _ => h.frozenAt j⟩
theorem ats_vals {g c : Nat} {ws : List (Nat × ByteArray)} (h : w.ownsRow 0 3 1 (.slice (some ⟨g, 0, none⟩) ws.length c) ws.length (ats ws)) : ValsAt w g ws.length (fun j => .int .i64 (ws.getD j pad).1) :=
  ⟨fun j hj => by rw [h.cellAt j (by omega)]; simp [ats, hj, List.getD], fun j _ => h.frozenAt j⟩

theorem Lr.push {ws : List (Nat × ByteArray)} (h : Lr w0 L T ov wv av out xs n (strs ws) (ats ws) (Tx.fin (wtoks ws)) wr) (hne : ws ≠ []) (o : Obj) (hown : w'.ownsRow 0 210 4 ov' (out.length + 1) (xs ++ [.int .i64 n, wv, av, .int .i64 (Tx.fin (wtoks ws))])) (hg : (wr.alloc o).grownBy w' ov.ownBlock) (hat : ov'.ownBlock = ov.ownBlock ∨ ov'.ownBlock = some (wr.alloc o).heap.size) :
    ∃ T' xs', Lr w0 L T' ov' (.slice none 0 0) (.slice none 0 0) (out ++ [(n, ws)]) xs' (n + 1) [] [] 0 (newBox w' L ((n : Int) + 1)) := by
  have hpos : 0 < ws.length := List.length_pos_iff.2 hne
  have how := h.ow
  have hoa := h.oa
  rw [strs_len] at how
  rw [ats_len] at hoa
  obtain ⟨gw, cw, rfl⟩ := own_some how hpos
  obtain ⟨ga, ca, rfl⟩ := own_some hoa hpos
  have tgw := h.tw gw rfl
  have tga := h.ta ga rfl
  have hgwl := (how.lt gw rfl).2
  have hgal := (hoa.lt ga rfl).2
  have hal : (wr.alloc o).heap.size = wr.heap.size + 1 := by simp
  have hs' : wr.heap.size + 1 ≤ w'.heap.size := by rw [← hal]; exact hg.size
  have hk0 : ∀ k, k < wr.heap.size → T k ≠ 3 → w'.heap[k]? = wr.heap[k]? := fun k hk h1 => by
    rw [hg.block k (by omega) (fun e => h1 (h.tO k e.symm)), Below.heap_alloc _ _ _ hk]
  have hk : ∀ k, k < wr.heap.size → T k ≠ 3 → T k ≠ 4 → (newBox w' L ((n : Int) + 1)).heap[k]? = wr.heap[k]? := fun k hk h1 h2 => by
    rw [newBox_heap _ _ _ _ (fun e => h2 (by rw [e]; exact h.tL)), hk0 k hk h1]
  let T' : Nat → Nat := fun k => if k < wr.heap.size then (if k = gw ∨ k = ga then 5 else T k) else 3
  have hT : ∀ k, k < wr.heap.size → T k ≠ 1 → T k ≠ 2 → T' k = T k := fun k hk h1 h2 => by
    show (if k < wr.heap.size then (if k = gw ∨ k = ga then 5 else T k) else 3) = _
    rw [if_pos hk, if_neg (fun e => by rcases e with e | e <;> rw [e] at h1 h2 <;> first | exact h1 tgw | exact h2 tga)]
  have hT5 : T' gw = 5 ∧ T' ga = 5 := ⟨by show (if gw < wr.heap.size then (if gw = gw ∨ gw = ga then 5 else T gw) else 3) = 5; rw [if_pos hgwl, if_pos (Or.inl rfl)], by show (if ga < wr.heap.size then (if ga = gw ∨ ga = ga then 5 else T ga) else 3) = 5; rw [if_pos hgal, if_pos (Or.inr rfl)]⟩
  have hnt : ov'.ownBlock ≠ some L := fun e => by
    have := h.lt
    rcases hat with e2 | e2
    · rw [e2] at e
      have h1 := h.tO L e
      rw [h.tL] at h1
      cases h1
    · rw [e2] at e
      injection e with e
      omega
  have hline : LineLies (newBox w' L ((n : Int) + 1)) (fun b => T' b = 5) (n, ws) [.int .i64 n, .slice (some ⟨gw, 0, none⟩) ws.length cw, .slice (some ⟨ga, 0, none⟩) ws.length ca, .int .i64 (Tx.fin (wtoks ws))] :=
    ⟨gw, cw, ga, ca, rfl, hne, (strs_vals how).of_block (hk gw hgwl (by rw [tgw]; decide) (by rw [tgw]; decide)), (ats_vals hoa).of_block (hk ga hgal (by rw [tga]; decide) (by rw [tga]; decide)), by rw [newBox_size]; omega, by rw [newBox_size]; omega, hT5.1, hT5.2⟩
  refine ⟨T', _, newBox_vals _ (h.box.of_block (hk0 L h.lt (by rw [h.tL]; decide))), ?_, ?_, ?_, (h.lines.turn (by rw [newBox_size]; omega) (fun b hb ht => ⟨hk b hb (by rw [ht]; decide) (by rw [ht]; decide), by rw [hT b hb (by rw [ht]; decide) (by rw [ht]; decide)]; exact ht⟩)).snoc hline, World.ownsRow_nil _ _ _ _, fun b e => (by cases e), World.ownsRow_nil _ _ _ _, fun b e => (by cases e), ?_, ?_, by rw [newBox_size]; have := h.lt; omega⟩
  · rw [hT L h.lt (by rw [h.tL]; decide) (by rw [h.tL]; decide)]; exact h.tL
  · rw [List.length_append]
    exact own_of_block hown (fun b e => newBox_heap _ _ _ _ (fun e2 => hnt (by rw [← e2]; exact e)))
  · intro b e
    rcases hat with e2 | e2
    · rw [e2] at e
      rw [hT b (h.oo.lt b e).2 (by rw [h.tO b e]; decide) (by rw [h.tO b e]; decide)]
      exact h.tO b e
    · rw [e2] at e
      injection e with e
      exact if_neg (by omega)
  · refine newBox_below ?_ (h.up (by rw [h.tL]; decide))
    exact (h.old.alloc h.old.size o).grown hg (by have := h.old.size; omega) (fun k e => h.up (by rw [h.tO k e]; decide))
  · intro b hb
    have h0 := h.low b hb
    rw [hT b (by have := h.old.size; omega) (by rw [h0]; decide) (by rw [h0]; decide)]
    exact h0

end Go.Proofs.YtelmkfkgpnadnaaGreatDoor

namespace Go.Proofs.YtelmkfkgpnadnaaGreatDoor
open Go.RowKit

variable {w w' : World}

theorem info181 : ∃ i, Tryz.prog.info? 210 = some i ∧ i.zero = some (.agg #[.int .i64 0, .slice none 0 0, .slice none 0 0, .int .i64 0]) ∧ i.size = 4 ∧ i.bytes = 64 := by
  have h : (Tryz.prog.info? 210).map (fun i => (i.zero, i.size, i.bytes)) = some (some (.agg #[.int .i64 0, .slice none 0 0, .slice none 0 0, .int .i64 0]), 4, 64) := by kernel_rfl
  rw [Option.map_eq_some_iff] at h
  obtain ⟨i, h1, h2⟩ := h
  simp only [Prod.mk.injEq] at h2
  exact ⟨i, h1, h2.1, h2.2.1, h2.2.2⟩

theorem info9s : ∃ i, Tryz.prog.info? 9 = some i ∧ i.zero = some (.string ByteArray.empty) ∧ i.size = 1 ∧ i.bytes = 16 := by
  have h : (Tryz.prog.info? 9).map (fun i => (i.zero, i.size, i.bytes)) = some (some (.string ByteArray.empty), 1, 16) := by kernel_rfl
  rw [Option.map_eq_some_iff] at h
  obtain ⟨i, h1, h2⟩ := h
  simp only [Prod.mk.injEq] at h2
  exact ⟨i, h1, h2.1, h2.2.1, h2.2.2⟩

theorem info3i : ∃ i, Tryz.prog.info? 3 = some i ∧ i.zero = some (.int .i64 0) ∧ i.size = 1 ∧ i.bytes = 8 := by
  have h : (Tryz.prog.info? 3).map (fun i => (i.zero, i.size, i.bytes)) = some (some (.int .i64 0), 1, 8) := by kernel_rfl
  rw [Option.map_eq_some_iff] at h
  obtain ⟨i, h1, h2⟩ := h
  simp only [Prod.mk.injEq] at h2
  exact ⟨i, h1, h2.1, h2.2.1, h2.2.2⟩

theorem cell_four_new (w : World) (a b c d : Value) (t : TypeId) : ∀ j u, [a, b, c, d][j]? = some u → (w.alloc (.cells #[a, b, c, d] t)).cell? ((⟨w.heap.size, 0, none⟩ : Addr).add j) = some u := by
  intro j u h
  match j, h with
  | 0, h => simp at h; subst h; simp [Addr.add]
  | 1, h => simp at h; subst h; simp [Addr.add]
  | 2, h => simp at h; subst h; simp [Addr.add]
  | 3, h => simp at h; subst h; simp [Addr.add]

theorem one_byte (s : ByteArray) (k : Nat) (h : k < s.size) : (s.extract k (k + 1)).data.toList = [s[k]] := by
  rw [Lib.extract_data]
  have hl : k < s.data.toList.length := by rw [← Lib.size_eq]; exact h
  rw [List.drop_eq_getElem_cons hl]
  simp
  rfl

/-- Where the reading of a text stands. -/
def At (S : List UInt8) (G : List Tx.Ln) (k : Nat) (out : List OLn) (n : Nat) (ws : List (Nat × ByteArray)) (q r : Bool) (a : Nat) : Prop :=
  (k ≤ S.length → Tx.docLines (olns out) n (wtoks ws) q r a (S.drop k) = G) ∧ (k = S.length + 1 → olns out = G)

variable {S : List UInt8} {G : List Tx.Ln} {k n a : Nat} {out : List OLn} {ws : List (Nat × ByteArray)} {q r : Bool}

theorem olns_shut (out : List OLn) (n : Nat) (ws : List (Nat × ByteArray)) : Tx.shut (olns out) n (wtoks ws) = olns (if ws = [] then out else out ++ [(n, ws)]) := by
  unfold Tx.shut
  by_cases h : ws = []
  · subst h; simp [wtoks]
  · have h2 : wtoks ws ≠ [] := fun e => h (by simpa [wtoks] using e)
    rw [if_neg h2, if_neg h]
    simp [olns]

theorem At.last (h : At S G k out n ws q r a) (hk : k = S.length) : At S G (k + 1) (if ws = [] then out else out ++ [(n, ws)]) (n + 1) [] false false 0 := by
  refine ⟨fun h' => by omega, fun _ => ?_⟩
  have := h.1 (by omega)
  rw [hk, List.drop_length, Tx.docLines, olns_shut] at this
  exact this

theorem At.line (h : At S G k out n ws q r a) (hk : k < S.length) (hc : S[k] = 10) : At S G (k + 1) (if ws = [] then out else out ++ [(n, ws)]) (n + 1) [] false false 0 := by
  refine ⟨fun _ => ?_, fun h' => by omega⟩
  have := h.1 (by omega)
  rw [List.drop_eq_getElem_cons hk, hc, Tx.docLines, if_pos rfl, olns_shut] at this
  exact this

theorem At.byte (h : At S G k out n ws q r a) (hk : k < S.length) (hc : S[k] ≠ 10) {ws' : List (Nat × ByteArray)} {q' r' : Bool} (hb : Tx.byte (wtoks ws) q r a S[k] = (wtoks ws', q', r')) : At S G (k + 1) out n ws' q' r' (a + 1) := by
  refine ⟨fun _ => ?_, fun h' => by omega⟩
  have := h.1 (by omega)
  rw [List.drop_eq_getElem_cons hk, Tx.docLines, if_neg hc, hb] at this
  exact this

theorem byte_out (ws : List (Nat × ByteArray)) (q r : Bool) (a : Nat) (c : UInt8) (r' : Bool) (h1 : (r || c == 35) = r') (h2 : (!r' && Tx.nb c) = false) : Tx.byte (wtoks ws) q r a c = (wtoks ws, false, r') := by
  unfold Tx.byte
  simp only [h1, h2]
  rfl

theorem byte_new (ws : List (Nat × ByteArray)) (a : Nat) (c : UInt8) (x : ByteArray) (h1 : (c == 35) = false) (h2 : Tx.nb c = true) (hx : x.data.toList = [c]) : Tx.byte (wtoks ws) false false a c = (wtoks (ws ++ [(a, x)]), true, false) := by
  unfold Tx.byte
  simp [h1, h2, wtoks, hx]

theorem byte_more (ws : List (Nat × ByteArray)) (a b : Nat) (c : UInt8) (x y : ByteArray) (h1 : (c == 35) = false) (h2 : Tx.nb c = true) (hy : y.data.toList = x.data.toList ++ [c]) : Tx.byte (wtoks (ws ++ [(b, x)])) true false a c = (wtoks (ws ++ [(b, y)]), true, false) := by
  unfold Tx.byte
  simp [h1, h2, wtoks, hy]

theorem fin_snoc (ws : List (Nat × ByteArray)) (b : Nat) (x : ByteArray) : Tx.fin (wtoks (ws ++ [(b, x)])) = b + x.size := by
  unfold Tx.fin
  simp [wtoks]

theorem strs_snoc (ws : List (Nat × ByteArray)) (b : Nat) (x : ByteArray) : strs (ws ++ [(b, x)]) = strs ws ++ [.string x] := by simp [strs]
theorem ats_snoc (ws : List (Nat × ByteArray)) (b : Nat) (x : ByteArray) : ats (ws ++ [(b, x)]) = ats ws ++ [.int .i64 b] := by simp [ats]
theorem set_last (l : List Value) (u v : Value) (m : Nat) (h : l.length = m) : (l ++ [u]).set m v = l ++ [v] := by
  subst h
  rw [List.set_append_right (h := Nat.le_refl _), Nat.sub_self]
  rfl

theorem own_slice {e : TypeId} {sz m : Nat} {v : Value} {l : List Value} (h : w.ownsRow 0 e sz v m l) : ∃ a c, v = .slice a m c := by
  rcases h.2 with ⟨e1, e2⟩ | ⟨g, c, _, e1, _⟩
  · exact ⟨none, 0, by rw [e1, e2]⟩
  · exact ⟨some ⟨g, 0, none⟩, c, e1⟩

theorem lr_start (w : World) (t : TypeId) : Lr w w.heap.size (fun b => if b = w.heap.size then 4 else 0) (.slice none 0 0) (.slice none 0 0) (.slice none 0 0) [] [] 1 [] [] 0 (w.alloc (.cells #[.int .i64 1, .slice none 0 0, .slice none 0 0, .int .i64 0] t)) := by
  have h1 : (w.alloc (.cells #[.int .i64 1, .slice none 0 0, .slice none 0 0, .int .i64 0] t)).heap[w.heap.size]? = some (.cells #[.int .i64 1, .slice none 0 0, .slice none 0 0, .int .i64 0] t) := by
    show (w.heap.push _)[w.heap.size]? = _
    simp
  refine ⟨⟨fun j hj => ?_, fun j hj => ?_⟩, if_pos rfl, World.ownsRow_nil _ _ _ _, fun b e => (by cases e), ⟨rfl, fun j hj => absurd hj (by simp)⟩, World.ownsRow_nil _ _ _ _, fun b e => (by cases e), World.ownsRow_nil _ _ _ _, fun b e => (by cases e), (Below.refl _ _).alloc (Nat.le_refl _) _, fun b hb => if_neg (by omega), by simp⟩
  · simp only [World.cell?, h1]
    rcases (by omega : j = 0 ∨ j = 1 ∨ j = 2 ∨ j = 3) with e | e | e | e <;> simp [e]
  · simp only [World.frozen?, h1]; simp

theorem u8_ne (c d : UInt8) (h : c ≠ d) : ((c.toNat : Int) == (d.toNat : Int)) = false := by
  simp only [beq_eq_false_iff_ne, ne_eq]
  intro e
  exact h (UInt8.toNat_inj.1 (by omega))

theorem nb_true {c : UInt8} (h : Tx.nb c = true) : c ≠ 32 ∧ c ≠ 9 := by
  unfold Tx.nb at h
  simp at h
  exact h

theorem nb_false {c : UInt8} (h : Tx.nb c = false) : c = 32 ∨ c = 9 := by
  unfold Tx.nb at h
  simp only [Bool.not_eq_false', Bool.or_eq_true, beq_iff_eq] at h
  exact h

theorem Lr.wrote {w0 wr : World} {L n gw cw m : Nat} {T : Nat → Nat} {ov av u : Value} {out : List OLn} {xs ps : List Value} {en : Int} {w1s : List (Nat × ByteArray)} (h : Lr w0 L T ov (.slice (some ⟨gw, 0, none⟩) (m + 1) cw) av out xs n (strs w1s ++ [u]) ps en wr) (hm : w1s.length = m) (b : Nat) (y : ByteArray) :
    Lr w0 L T ov (.slice (some ⟨gw, 0, none⟩) (m + 1) cw) av out xs n (strs (w1s ++ [(b, y)])) ps en ((wr.setCell ⟨gw, m, none⟩ (.string y)).drew) := by
  have hl : (strs w1s ++ [u]).length = m + 1 := by rw [List.length_append, strs_len, hm]; rfl
  rw [← hl] at h
  have h1 := h.put (j := m) (.string y)
  rw [hl, set_last _ _ _ _ (by rw [strs_len]; exact hm), ← strs_snoc w1s b y] at h1
  exact h1.below ((Below.refl _ _).drew)

theorem box_kept {w0 wr w1 : World} {L n : Nat} {T : Nat → Nat} {ov wv av : Value} {out : List OLn} {xs ss ps : List Value} {en : Int} {o : Obj} (h : Lr w0 L T ov wv av out xs n ss ps en wr) {row : Option Nat} (hg : (wr.alloc o).grownBy w1 row) (hr : some L ≠ row) : ValsAt w1 L 4 (fun f => if f = 0 then .int .i64 n else if f = 1 then wv else if f = 2 then av else .int .i64 en) :=
  h.box.of_block (by rw [hg.block L (by simp; have := h.lt; omega) hr, Below.heap_alloc _ _ _ h.lt])

set_option maxRecDepth 100000 in
set_option maxHeartbeats 8000000 in
theorem lines_any (s : ByteArray) (w : World) (hs : s.size ≤ 2000) :
    Calls Tryz.prog 160 #[.string s] w fun e w' => ∃ (ov : Value) (out : List OLn) (xs : List Value) (T : Nat → Nat), e = .returned ov ∧ olns out = Tx.docLines [] 1 [] false false 0 s.data.toList ∧ out.length ≤ 2001 ∧ w'.ownsRow 0 210 4 ov out.length xs ∧ AllLines w' (fun b => T b = 5) out xs ∧ (∀ b, b < w.heap.size → T b = 0) ∧ (∀ b, ov.ownBlock = some b → T b = 3) ∧ Below w.heap.size w w' := by
  obtain ⟨i1, hi1, hi2, hi3, hi4⟩ := info181
  have HI : Hid (Tryz.prog.info? 210 = some i1 ∧ i1.zero = some (.agg #[.int .i64 0, .slice none 0 0, .slice none 0 0, .int .i64 0]) ∧ i1.size = 4 ∧ i1.bytes = 64) := ⟨hi1, hi2, hi3, hi4⟩
  clear hi1 hi2 hi3 hi4
  obtain ⟨i2, hi1, hi2, hi3, hi4⟩ := info9s
  have HJ : Hid (Tryz.prog.info? 9 = some i2 ∧ i2.zero = some (.string ByteArray.empty) ∧ i2.size = 1 ∧ i2.bytes = 16) := ⟨hi1, hi2, hi3, hi4⟩
  clear hi1 hi2 hi3 hi4
  obtain ⟨i3, hi1, hi2, hi3, hi4⟩ := info3i
  have HK : Hid (Tryz.prog.info? 3 = some i3 ∧ i3.zero = some (.int .i64 0) ∧ i3.size = 1 ∧ i3.bytes = 8) := ⟨hi1, hi2, hi3, hi4⟩
  clear hi1 hi2 hi3 hi4
  obtain ⟨G, hG⟩ : ∃ G, Tx.docLines [] 1 [] false false 0 s.data.toList = G := ⟨_, rfl⟩
  have HA0 : Hid (At s.data.toList G 0 [] 1 [] false false 0) := ⟨fun _ => hG, fun h => by omega⟩
  rw [hG]
  have HLR : Hid (∀ t, Lr w w.heap.size (fun b => if b = w.heap.size then 4 else 0) (.slice none 0 0) (.slice none 0 0) (.slice none 0 0) [] [] 1 [] [] 0 (w.alloc (.cells #[.int .i64 1, .slice none 0 0, .slice none 0 0, .int .i64 0] t))) := fun t => lr_start w t
  have HSZ : Hid (s.data.toList.length = s.size) := (Lib.size_eq s).symm
  clear hG
  go_enter Tryz.func160, Tryz.ntmps160
  go_wp2
  go_loopg [3, 5, 6, 7, 8] (s.size + 1) (fun gg o a op of i wr => ∃ (k a' : Nat) (q r : Bool) (T : Nat → Nat) (wa aa : Option Addr) (wc ac n : Nat) (out : List OLn) (xs : List Value) (ws : List (Nat × ByteArray)),
    i = .int .i64 k ∧ a = .int .i64 a' ∧ op = .bool q ∧ of = .bool r ∧ a' ≤ k ∧ k ≤ s.size + 1 ∧ s.size + 1 - k ≤ gg ∧ n ≤ k + 1 ∧ ws.length ≤ k ∧ out.length ≤ k ∧ Hid (∀ x ∈ ws, x.2.size ≤ k) ∧ Hid (q = true → ws ≠ [] ∧ Tx.fin (wtoks ws) = a') ∧
    Hid (Lr w w.heap.size T o (.slice wa ws.length wc) (.slice aa ws.length ac) out xs n (strs ws) (ats ws) (Tx.fin (wtoks ws)) wr) ∧ Hid (At s.data.toList G k out n ws q r a'))
  case atStart => exact ⟨0, 0, false, false, _, none, none, 0, 0, 1, [], [], [], rfl, rfl, rfl, rfl, by omega, by omega, by omega, by omega, by simp, by simp, (fun x hx => by cases hx), (fun h => by cases h), HLR.out _, HA0⟩
  case round =>
    clear HA0 HLR
    obtain ⟨k, a', q, r, T, wa, aa, wc, ac, n, out, xs, ws, rfl, rfl, rfl, rfl, ha, hk, hgk, hn, hwl, hol, HW, HQ, HL, HA⟩ := hrel
    by_cases hkk : k = s.size + 1
    · have hki : ((k : Int) ≤ (s.size : Int)) = False := by simp; omega
      have hki' : (k ≤ s.size) = False := by simp; omega
      go_wp2
      go_ret
      exact ⟨_, out, xs, T, rfl, HA.out.2 (by have := HSZ.out; omega), by omega, HL.out.oo, HL.out.lines, HL.out.low, HL.out.tO, HL.out.old⟩
    · have c0 : wr.cell? ⟨w.heap.size, 0, none⟩ = some (.int .i64 n) := HL.out.box.at' 0 (by omega)
      have c1 : wr.cell? ⟨w.heap.size, 1, none⟩ = some (.slice wa ws.length wc) := HL.out.box.at' 1 (by omega)
      have c2 : wr.cell? ⟨w.heap.size, 2, none⟩ = some (.slice aa ws.length ac) := HL.out.box.at' 2 (by omega)
      have c3 : wr.cell? ⟨w.heap.size, 3, none⟩ = some (.int .i64 (Tx.fin (wtoks ws))) := HL.out.box.at' 3 (by omega)
      have f0 := HL.out.box.fr 0 (by omega)
      have f1 := HL.out.box.fr 1 (by omega)
      have f2 := HL.out.box.fr 2 (by omega)
      have f3 := HL.out.box.fr 3 (by omega)
      by_cases hend : k = s.size
      · have q0 : ((k : Int) == (s.size : Int)) = true := by simp [hend]
        have HA1 : Hid (At s.data.toList G (k + 1) (if ws = [] then out else out ++ [(n, ws)]) (n + 1) [] false false 0) := HA.out.last (by rw [HSZ.out]; exact hend)
        have hkI : (k : Int) ≤ (s.size : Int) := by omega
        clear hend hkk
        by_cases hws : ws = []
        · have HN : Hid (At s.data.toList G (k + 1) out (n + 1) [] false false 0) := by
            have := HA1.out
            rw [if_pos hws] at this
            exact this
          subst hws
          clear HA1
          go_wp2
          go_roundg (s.size + 1 - (k + 1))
          case measure => omega
          case rel => exact ⟨k + 1, 0, false, false, T, none, none, 0, 0, n + 1, out, xs, [], by go_num, rfl, rfl, rfl, by omega, by omega, by omega, by omega, by simp, by omega, (fun x hx => by cases hx), (fun h => by cases h), HL.out.fresh, HN⟩
        · have HN : Hid (At s.data.toList G (k + 1) (out ++ [(n, ws)]) (n + 1) [] false false 0) := by
            have := HA1.out
            rw [if_neg hws] at this
            exact this
          have HWS : Hid (ws ≠ []) := hws
          have hpos : (0 : Int) < (ws.length : Int) := by have := List.length_pos_iff.2 hws; omega
          clear HA1 hws
          go_wp2_with (at_builtin; refine wpList_append_own_at _ rfl _ _ 206 rfl 0 210 i1 (.agg #[.int .i64 0, .slice none 0 0, .slice none 0 0, .int .i64 0]) 4 64 Tryz.underlying206 HI.out.1 HI.out.2.1 HI.out.2.2.1 HI.out.2.2.2 rfl (by decide) _ _ _ rfl (HL.out.oo.alloc _) ⟨wr.heap.size, 0, none⟩ 1 1 [.int .i64 n, .slice wa ws.length wc, .slice aa ws.length ac, .int .i64 (Tx.fin (wtoks ws))] rfl rfl ?_ ?_ ?_ ?_ ?_ ?_)
          all_goals first
            | exact cell_four_new _ _ _ _ _ _
            | (show ∀ u ∈ [Value.int .i64 n, Value.slice wa ws.length wc, Value.slice aa ws.length ac, Value.int .i64 (Tx.fin (wtoks ws))], u.oneCell' = true; intro u hu; simp at hu; rcases hu with rfl | rfl | rfl | rfl <;> rfl)
            | (show out.length + 1 ≤ maxLen; unfold maxLen; omega)
            | (show (out.length + 1) * 64 ≤ 140737488355328; omega)
            | exact Nat.zero_le _
            | skip
          intro ov' w1 hown' hgrow _ hloc
          have hbk := box_kept HL.out hgrow (fun e => by have h1 := HL.out.tO _ e.symm; rw [HL.out.tL] at h1; cases h1)
          obtain ⟨T', xs', hL'⟩ := HL.out.push HWS.out _ hown' hgrow (by
            rcases hloc with e | e
            · exact Or.inl e
            · exact Or.inr (by rw [e]; simp))
          have HL' : Hid (Lr w w.heap.size T' ov' (.slice none 0 0) (.slice none 0 0) (out ++ [(n, ws)]) xs' (n + 1) [] [] 0 (newBox w1 w.heap.size ((n : Int) + 1))) := hL'
          have d0 : w1.cell? ⟨w.heap.size, 0, none⟩ = some (.int .i64 n) := hbk.at' 0 (by omega)
          have d1 : w1.cell? ⟨w.heap.size, 1, none⟩ = some (.slice wa ws.length wc) := hbk.at' 1 (by omega)
          have d2 : w1.cell? ⟨w.heap.size, 2, none⟩ = some (.slice aa ws.length ac) := hbk.at' 2 (by omega)
          have d3 : w1.cell? ⟨w.heap.size, 3, none⟩ = some (.int .i64 (Tx.fin (wtoks ws))) := hbk.at' 3 (by omega)
          have e0 := hbk.fr 0 (by omega)
          have e1 := hbk.fr 1 (by omega)
          have e2 := hbk.fr 2 (by omega)
          have e3 := hbk.fr 3 (by omega)
          clear hown' hgrow hloc hbk hL' HL c0 c1 c2 c3 f0 f1 f2 f3
          go_wp2
          go_roundg (s.size + 1 - (k + 1))
          case measure => omega
          case rel => exact ⟨k + 1, 0, false, false, T', none, none, 0, 0, n + 1, out ++ [(n, ws)], xs', [], by go_num, rfl, rfl, rfl, by omega, by omega, by omega, by omega, by simp, by simp; omega, (fun x hx => by cases hx), (fun h => by cases h), HL'.out, HN⟩
      · have hlt : k < s.size := by omega
        have q0 : ((k : Int) == (s.size : Int)) = false := by simp; omega
        have hkl : k < s.data.toList.length := by rw [HSZ.out]; exact hlt
        have HE : Hid (s.data.toList[k] = s[k]) := rfl
        have hkI : (k : Int) ≤ (s.size : Int) := by omega
        clear hend hkk
        by_cases h10 : s[k] = 10
        · have HA1 : Hid (At s.data.toList G (k + 1) (if ws = [] then out else out ++ [(n, ws)]) (n + 1) [] false false 0) := HA.out.line hkl (by rw [HE.out]; exact h10)
          have h10' : ((s[k].toNat : Int) == 10) = true := by rw [h10]; rfl
          clear h10
          by_cases hws : ws = []
          · have HN : Hid (At s.data.toList G (k + 1) out (n + 1) [] false false 0) := by
              have := HA1.out
              rw [if_pos hws] at this
              exact this
            subst hws
            clear HA1
            go_wp2
            go_roundg (s.size + 1 - (k + 1))
            case measure => omega
            case rel => exact ⟨k + 1, 0, false, false, T, none, none, 0, 0, n + 1, out, xs, [], by go_num, rfl, rfl, rfl, by omega, by omega, by omega, by omega, by simp, by omega, (fun x hx => by cases hx), (fun h => by cases h), HL.out.fresh, HN⟩
          · have HN : Hid (At s.data.toList G (k + 1) (out ++ [(n, ws)]) (n + 1) [] false false 0) := by
              have := HA1.out
              rw [if_neg hws] at this
              exact this
            have HWS : Hid (ws ≠ []) := hws
            have hpos : (0 : Int) < (ws.length : Int) := by have := List.length_pos_iff.2 hws; omega
            clear HA1 hws
            go_wp2_with (at_builtin; refine wpList_append_own_at _ rfl _ _ 206 rfl 0 210 i1 (.agg #[.int .i64 0, .slice none 0 0, .slice none 0 0, .int .i64 0]) 4 64 Tryz.underlying206 HI.out.1 HI.out.2.1 HI.out.2.2.1 HI.out.2.2.2 rfl (by decide) _ _ _ rfl (HL.out.oo.alloc _) ⟨wr.heap.size, 0, none⟩ 1 1 [.int .i64 n, .slice wa ws.length wc, .slice aa ws.length ac, .int .i64 (Tx.fin (wtoks ws))] rfl rfl ?_ ?_ ?_ ?_ ?_ ?_)
            all_goals first
              | exact cell_four_new _ _ _ _ _ _
              | (show ∀ u ∈ [Value.int .i64 n, Value.slice wa ws.length wc, Value.slice aa ws.length ac, Value.int .i64 (Tx.fin (wtoks ws))], u.oneCell' = true; intro u hu; simp at hu; rcases hu with rfl | rfl | rfl | rfl <;> rfl)
              | (show out.length + 1 ≤ maxLen; unfold maxLen; omega)
              | (show (out.length + 1) * 64 ≤ 140737488355328; omega)
              | exact Nat.zero_le _
              | skip
            intro ov' w1 hown' hgrow _ hloc
            have hbk := box_kept HL.out hgrow (fun e => by have h1 := HL.out.tO _ e.symm; rw [HL.out.tL] at h1; cases h1)
            obtain ⟨T', xs', hL'⟩ := HL.out.push HWS.out _ hown' hgrow (by
              rcases hloc with e | e
              · exact Or.inl e
              · exact Or.inr (by rw [e]; simp))
            have HL' : Hid (Lr w w.heap.size T' ov' (.slice none 0 0) (.slice none 0 0) (out ++ [(n, ws)]) xs' (n + 1) [] [] 0 (newBox w1 w.heap.size ((n : Int) + 1))) := hL'
            have d0 : w1.cell? ⟨w.heap.size, 0, none⟩ = some (.int .i64 n) := hbk.at' 0 (by omega)
            have d1 : w1.cell? ⟨w.heap.size, 1, none⟩ = some (.slice wa ws.length wc) := hbk.at' 1 (by omega)
            have d2 : w1.cell? ⟨w.heap.size, 2, none⟩ = some (.slice aa ws.length ac) := hbk.at' 2 (by omega)
            have d3 : w1.cell? ⟨w.heap.size, 3, none⟩ = some (.int .i64 (Tx.fin (wtoks ws))) := hbk.at' 3 (by omega)
            have e0 := hbk.fr 0 (by omega)
            have e1 := hbk.fr 1 (by omega)
            have e2 := hbk.fr 2 (by omega)
            have e3 := hbk.fr 3 (by omega)
            clear hown' hgrow hloc hbk hL' HL c0 c1 c2 c3 f0 f1 f2 f3
            go_wp2
            go_roundg (s.size + 1 - (k + 1))
            case measure => omega
            case rel => exact ⟨k + 1, 0, false, false, T', none, none, 0, 0, n + 1, out ++ [(n, ws)], xs', [], by go_num, rfl, rfl, rfl, by omega, by omega, by omega, by omega, by simp, by simp; omega, (fun x hx => by cases hx), (fun h => by cases h), HL'.out, HN⟩
        · have h10' : ((s[k].toNat : Int) == 10) = false := u8_ne s[k] 10 h10
          have H10 : Hid (s[k] ≠ 10) := h10
          clear h10
          cases r
          · by_cases h35 : s[k] = 35
            · have h35' : ((s[k].toNat : Int) == 35) = true := by rw [h35]; rfl
              have HN : Hid (At s.data.toList G (k + 1) out n ws false true (a' + 1)) := HA.out.byte hkl (by rw [HE.out]; exact H10.out) (by rw [HE.out]; exact byte_out ws q false a' s[k] true (by rw [h35]; rfl) (rfl))
              clear HA HQ
              go_wp2
              go_roundg (s.size + 1 - (k + 1))
              case measure => omega
              case rel => exact ⟨k + 1, a' + 1, false, true, T, wa, aa, wc, ac, n, out, xs, ws, by go_num, by go_num, rfl, rfl, by omega, by omega, by omega, by omega, by omega, by omega, (fun x hx => by have := HW.out x hx; omega), (fun h => by cases h), HL.out, HN⟩
            · have h35' : ((s[k].toNat : Int) == 35) = false := u8_ne s[k] 35 h35
              have h35b : (s[k] == 35) = false := by simpa using h35
              cases hnb : Tx.nb s[k]
              · rcases nb_false hnb with h32 | h9
                · have h32' : ((s[k].toNat : Int) != 32) = false := by rw [h32]; rfl
                  have HN : Hid (At s.data.toList G (k + 1) out n ws false false (a' + 1)) := HA.out.byte hkl (by rw [HE.out]; exact H10.out) (by rw [HE.out]; exact byte_out ws q false a' s[k] false (by rw [h35b]; rfl) (by rw [hnb]; rfl))
                  clear HA HQ
                  go_wp2
                  go_roundg (s.size + 1 - (k + 1))
                  case measure => omega
                  case rel => exact ⟨k + 1, a' + 1, false, false, T, wa, aa, wc, ac, n, out, xs, ws, by go_num, by go_num, rfl, rfl, by omega, by omega, by omega, by omega, by omega, by omega, (fun x hx => by have := HW.out x hx; omega), (fun h => by cases h), HL.out, HN⟩
                · have h32' : ((s[k].toNat : Int) != 32) = true := by rw [h9]; rfl
                  have h9' : ((s[k].toNat : Int) != 9) = false := by rw [h9]; rfl
                  have HN : Hid (At s.data.toList G (k + 1) out n ws false false (a' + 1)) := HA.out.byte hkl (by rw [HE.out]; exact H10.out) (by rw [HE.out]; exact byte_out ws q false a' s[k] false (by rw [h35b]; rfl) (by rw [hnb]; rfl))
                  clear HA HQ
                  go_wp2
                  go_roundg (s.size + 1 - (k + 1))
                  case measure => omega
                  case rel => exact ⟨k + 1, a' + 1, false, false, T, wa, aa, wc, ac, n, out, xs, ws, by go_num, by go_num, rfl, rfl, by omega, by omega, by omega, by omega, by omega, by omega, (fun x hx => by have := HW.out x hx; omega), (fun h => by cases h), HL.out, HN⟩
              · have h32' : ((s[k].toNat : Int) != 32) = true := by
                  have := u8_ne s[k] 32 (nb_true hnb).1
                  show (!((s[k].toNat : Int) == ((32 : UInt8).toNat : Int))) = true
                  rw [this]; rfl
                have h9' : ((s[k].toNat : Int) != 9) = true := by
                  have := u8_ne s[k] 9 (nb_true hnb).2
                  show (!((s[k].toNat : Int) == ((9 : UInt8).toNat : Int))) = true
                  rw [this]; rfl
                have hx1 := one_byte s k hlt
                have HX : Hid ((s.extract k (k + 1)).data.toList = [s[k]] ∧ (s[k] == 35) = false ∧ Tx.nb s[k] = true) := ⟨hx1, h35b, hnb⟩
                have HX1 : Hid ((s.extract k (k + 1)).size = 1) := by show _ = _; rw [Lib.size_eq, hx1]; rfl
                clear hx1 h35 h35b hnb
                cases q
                · clear c0 c3 f0 f3
                  have hlen0 : (strs ws).length = ws.length := strs_len ws
                  go_wp2_with (at_builtin; refine wpList_append_own_at _ rfl _ _ 33 rfl 0 9 i2 (.string ByteArray.empty) 1 16 Tryz.underlying33 HJ.out.1 HJ.out.2.1 HJ.out.2.2.1 HJ.out.2.2.2 rfl (by decide) _ _ _ rfl (HL.out.ow.alloc _) ⟨wr.heap.size, 0, none⟩ 1 1 [.string ⟨#[]⟩] rfl rfl ?_ ?_ ?_ ?_ ?_ ?_)
                  all_goals first
                    | exact cell_one_new _ _ _
                    | (show ∀ u ∈ [Value.string ⟨#[]⟩], u.oneCell' = true; intro u hu; simp at hu; subst hu; rfl)
                    | (show (strs ws).length + 1 ≤ maxLen; unfold maxLen; omega)
                    | (show ((strs ws).length + 1) * 16 ≤ 140737488355328; omega)
                    | exact Nat.zero_le _
                    | skip
                  intro wv' w1 hown' hgrow _ hloc
                  have hbk := box_kept HL.out hgrow (fun e => by have h1 := HL.out.tw _ e.symm; rw [HL.out.tL] at h1; cases h1)
                  obtain ⟨gw, cw, rfl⟩ := own_some hown' (by omega)
                  obtain ⟨T1, hL1⟩ := HL.out.word _ (.string ⟨#[]⟩) (by rw [strs_len]; exact hown') hgrow (by
                    rcases hloc with e | e
                    · exact Or.inl e
                    · exact Or.inr (by rw [e]; simp))
                  have HL1 : Hid (Lr w w.heap.size T1 u3 (.slice (some ⟨gw, 0, none⟩) (ws.length + 1) cw) (.slice aa ws.length ac) out xs n (strs ws ++ [.string ⟨#[]⟩]) (ats ws) (Tx.fin (wtoks ws)) (w1.setCell ⟨w.heap.size, 1, none⟩ (.slice (some ⟨gw, 0, none⟩) (ws.length + 1) cw))) := hL1
                  have d1 : w1.cell? ⟨w.heap.size, 1, none⟩ = some (.slice wa ws.length wc) := hbk.at' 1 (by omega)
                  have e1 := hbk.fr 1 (by omega)
                  simp only [hlen0] at *
                  clear hown' hgrow hloc hbk hL1 HL c1 c2 f1 f2
                  go_upto_region 21 with fail
                  clear d1 e1
                  generalize w1.setCell ⟨w.heap.size, 1, none⟩ (.slice (some ⟨gw, 0, none⟩) (ws.length + 1) cw) = W1 at HL1 ⊢
                  have c2' : W1.cell? ⟨w.heap.size, 2, none⟩ = some (.slice aa ws.length ac) := HL1.out.box.at' 2 (by omega)
                  have f2' := HL1.out.box.fr 2 (by omega)
                  have hlen1 : (ats ws).length = ws.length := ats_len ws
                  go_wp2_with (at_builtin; refine wpList_append_own_at _ rfl _ _ 30 rfl 0 3 i3 (.int .i64 0) 1 8 Tryz.underlying30 HK.out.1 HK.out.2.1 HK.out.2.2.1 HK.out.2.2.2 rfl (by decide) _ _ _ rfl (HL1.out.oa.alloc _) ⟨W1.heap.size, 0, none⟩ 1 1 [.int .i64 a'] rfl rfl ?_ ?_ ?_ ?_ ?_ ?_)
                  all_goals first
                    | exact cell_one_new _ _ _
                    | (show ∀ u ∈ [Value.int .i64 (a' : Int)], u.oneCell' = true; intro u hu; simp at hu; subst hu; rfl)
                    | (show (ats ws).length + 1 ≤ maxLen; unfold maxLen; omega)
                    | (show ((ats ws).length + 1) * 8 ≤ 140737488355328; omega)
                    | exact Nat.zero_le _
                    | skip
                  intro av' w2 hown2 hgrow2 _ hloc2
                  have hbk := box_kept HL1.out hgrow2 (fun e => by have h1 := HL1.out.ta _ e.symm; rw [HL1.out.tL] at h1; cases h1)
                  obtain ⟨ga, ca, rfl⟩ := own_some hown2 (by omega)
                  obtain ⟨T2, hL2⟩ := HL1.out.place _ (.int .i64 a') (by rw [ats_len]; exact hown2) hgrow2 (by
                    rcases hloc2 with e | e
                    · exact Or.inl e
                    · exact Or.inr (by rw [e]; simp))
                  have HL2 : Hid (Lr w w.heap.size T2 u3 (.slice (some ⟨gw, 0, none⟩) (ws.length + 1) cw) (.slice (some ⟨ga, 0, none⟩) (ws.length + 1) ca) out xs n (strs ws ++ [.string ⟨#[]⟩]) (ats ws ++ [.int .i64 a']) (Tx.fin (wtoks ws)) (w2.setCell ⟨w.heap.size, 2, none⟩ (.slice (some ⟨ga, 0, none⟩) (ws.length + 1) ca))) := hL2
                  have d2 : w2.cell? ⟨w.heap.size, 2, none⟩ = some (.slice aa ws.length ac) := hbk.at' 2 (by omega)
                  have e2 := hbk.fr 2 (by omega)
                  have d1 : (w2.setCell ⟨w.heap.size, 2, none⟩ (.slice (some ⟨ga, 0, none⟩) (ws.length + 1) ca)).cell? ⟨w.heap.size, 1, none⟩ = some (.slice (some ⟨gw, 0, none⟩) (ws.length + 1) cw) := HL2.out.box.at' 1 (by omega)
                  have HWL : Hid (ws.length ≤ k) := hwl
                  clear hown2 hgrow2 hloc2 hbk hL2 HL1 c2' f2' hlen1 hlen0
                  go_upto_region 24 with fail
                  clear d2 e2
                  have hxc : (w2.setCell ⟨w.heap.size, 2, none⟩ (.slice (some ⟨ga, 0, none⟩) (ws.length + 1) ca)).cell? ⟨gw, ws.length, none⟩ = some (.string ⟨#[]⟩) := by
                    have h0 := HL2.out.ow
                    have e0 : (strs ws ++ [Value.string ⟨#[]⟩]).length = ws.length + 1 := by rw [List.length_append, strs_len]; rfl
                    rw [e0] at h0
                    rw [h0.cellAt ws.length (by omega), List.getElem?_append_right (by rw [strs_len]; omega), strs_len, Nat.sub_self]
                    rfl
                  have hxf : (w2.setCell ⟨w.heap.size, 2, none⟩ (.slice (some ⟨ga, 0, none⟩) (ws.length + 1) ca)).frozen? ⟨gw, ws.length, none⟩ = false := by
                    have h0 := HL2.out.ow
                    have e0 : (strs ws ++ [Value.string ⟨#[]⟩]).length = ws.length + 1 := by rw [List.length_append, strs_len]; rfl
                    rw [e0] at h0
                    exact h0.frozenAt _
                  have hgne : gw ≠ w.heap.size := fun e => by
                    have h1 := HL2.out.tw gw rfl
                    rw [e, HL2.out.tL] at h1
                    cases h1
                  have HN : Hid (At s.data.toList G (k + 1) out n (ws ++ [(a', ⟨#[]⟩ ++ s.extract k (k + 1))]) true false (a' + 1)) := HA.out.byte hkl (by rw [HE.out]; exact H10.out) (by rw [HE.out]; exact byte_new ws a' s[k] _ HX.out.2.1 HX.out.2.2 (by rw [ByteArray.data_append, Array.toList_append, HX.out.1]; rfl))
                  have hy1 : ((⟨#[]⟩ : ByteArray) ++ s.extract k (k + 1)).size = 1 := by rw [ByteArray.size_append, HX1.out]; rfl
                  have HF : Hid (Tx.fin (wtoks (ws ++ [(a', ⟨#[]⟩ ++ s.extract k (k + 1))])) = a' + 1) := by
                    show _ = _
                    rw [fin_snoc, hy1]
                  have HL3 : Hid (Lr w w.heap.size T2 u3 (.slice (some ⟨gw, 0, none⟩) (ws.length + 1) cw) (.slice (some ⟨ga, 0, none⟩) (ws.length + 1) ca) out xs n (strs (ws ++ [(a', ⟨#[]⟩ ++ s.extract k (k + 1))])) (ats (ws ++ [(a', ⟨#[]⟩ ++ s.extract k (k + 1))])) (Tx.fin (wtoks ws)) (((w2.setCell ⟨w.heap.size, 2, none⟩ (.slice (some ⟨ga, 0, none⟩) (ws.length + 1) ca)).setCell ⟨gw, ws.length, none⟩ (.string (⟨#[]⟩ ++ s.extract k (k + 1)))).drew)) := by
                    have h0 := HL2.out.wrote rfl a' (⟨#[]⟩ ++ s.extract k (k + 1))
                    rw [← ats_snoc ws a' (⟨#[]⟩ ++ s.extract k (k + 1))] at h0
                    exact h0
                  have HSZ2 : Hid (∀ y ∈ ws ++ [(a', ⟨#[]⟩ ++ s.extract k (k + 1))], y.2.size ≤ k + 1) := fun y hy => by
                    rcases List.mem_append.1 hy with h | h
                    · have := HW.out y h; omega
                    · have e : y = (a', ⟨#[]⟩ ++ s.extract k (k + 1)) := by simpa using h
                      rw [e]
                      show ((⟨#[]⟩ : ByteArray) ++ s.extract k (k + 1)).size ≤ k + 1
                      rw [hy1]; omega
                  have hcat : ∀ W, (Op.stringOp .add ⟨#[]⟩ (s.extract k (k + 1))).run Tryz.prog W = .ok (.string (⟨#[]⟩ ++ s.extract k (k + 1))) W := fun W => run_string_add W _ _ (by show ((0 : Nat) : Int) ≤ _; omega) (by rw [HX1.out]; decide)
                  clear HX HE H10 h10' h35' h32' h9' hkl hy1 HA HL2 HQ
                  generalize w2.setCell ⟨w.heap.size, 2, none⟩ (.slice (some ⟨ga, 0, none⟩) (ws.length + 1) ca) = W2 at *
                  generalize hmm : ws.length = m at *
                  have HM : Hid (ws.length = m) := hmm
                  clear hmm
                  have em : (m : Int) < (m : Int) + 1 := by omega
                  have ek : (k : Int) + 1 ≤ (s.size : Int) := by omega
                  have ek2 : (k : Int) ≤ (k : Int) + 1 := by omega
                  go_region
                  have HLf : Hid (Lr w w.heap.size T2 u3 (.slice (some ⟨gw, 0, none⟩) (ws ++ [(a', ⟨#[]⟩ ++ s.extract k (k + 1))]).length cw) (.slice (some ⟨ga, 0, none⟩) (ws ++ [(a', ⟨#[]⟩ ++ s.extract k (k + 1))]).length ca) out xs n (strs (ws ++ [(a', ⟨#[]⟩ ++ s.extract k (k + 1))])) (ats (ws ++ [(a', ⟨#[]⟩ ++ s.extract k (k + 1))])) (Tx.fin (wtoks (ws ++ [(a', ⟨#[]⟩ ++ s.extract k (k + 1))]))) (((W2.setCell ⟨gw, m, none⟩ (.string (⟨#[]⟩ ++ s.extract k (k + 1)))).drew).setCell ⟨w.heap.size, 3, none⟩ (.int .i64 ((a' : Int) + 1)))) := by
                    have h0 := HL3.out.fin ((a' : Int) + 1)
                    have e1 : (ws ++ [(a', ⟨#[]⟩ ++ s.extract k (k + 1))]).length = m + 1 := by rw [List.length_append, HM.out]; rfl
                    show Lr _ _ _ _ _ _ _ _ _ _ _ _ _
                    rw [e1, HF.out]
                    exact h0
                  have d3 := HL3.out.box.at' 3 (by omega)
                  have e3 := HL3.out.box.fr 3 (by omega)
                  simp only [show (3 : Nat) ≠ 0 by decide, show (3 : Nat) ≠ 1 by decide, show (3 : Nat) ≠ 2 by decide, if_false] at d3
                  clear hxc hxf hcat HL3 HX1 d1
                  generalize (W2.setCell ⟨gw, m, none⟩ (.string (⟨#[]⟩ ++ s.extract k (k + 1)))).drew = W3 at *
                  generalize (⟨#[]⟩ ++ s.extract k (k + 1) : ByteArray) = y at *
                  go_wp2
                  go_roundg (s.size + 1 - (k + 1))
                  case measure => omega
                  case rel => exact ⟨k + 1, a' + 1, true, false, T2, some ⟨gw, 0, none⟩, some ⟨ga, 0, none⟩, cw, ca, n, out, xs, ws ++ [(a', y)], by go_num, by go_num, rfl, rfl, by omega, by omega, by omega, by omega, by have := HM.out; have := HWL.out; simp; omega, by omega, HSZ2, (fun _ => ⟨by simp, HF.out⟩), HLf, HN⟩
                · obtain ⟨w1s, ⟨b, x⟩, hws⟩ : ∃ w1s y, ws = w1s ++ [y] := ⟨ws.dropLast, ws.getLast (HQ.out rfl).1, (List.dropLast_concat_getLast _).symm⟩
                  subst hws
                  obtain ⟨gw, hgw⟩ : ∃ gw, wa = some ⟨gw, 0, none⟩ := by
                    obtain ⟨g, c, e⟩ := own_some HL.out.ow (by simp [strs])
                    injection e with e1
                    exact ⟨g, e1⟩
                  subst hgw
                  have hfin : Tx.fin (wtoks (w1s ++ [(b, x)])) = a' := (HQ.out rfl).2
                  have hfx : b + x.size = a' := by rw [← hfin, fin_snoc]
                  have hll : (w1s ++ [(b, x)]).length = w1s.length + 1 := by simp
                  have hxc : wr.cell? ⟨gw, w1s.length, none⟩ = some (.string x) := by
                    have := HL.out.ow
                    rw [strs_len] at this
                    rw [this.cellAt w1s.length (by omega), strs_snoc, List.getElem?_append_right (by simp [strs])]
                    simp [strs]
                  have hxf : wr.frozen? ⟨gw, w1s.length, none⟩ = false := by
                    have := HL.out.ow
                    rw [strs_len] at this
                    exact this.frozenAt _
                  have hcat : ∀ W, (Op.stringOp .add x (s.extract k (k + 1))).run Tryz.prog W = .ok (.string (x ++ s.extract k (k + 1))) W := fun W => run_string_add W x _ (by have := HW.out (b, x) (by simp); have : x.size ≤ k := this; omega) (by rw [HX1.out]; decide)
                  have hgne : gw ≠ w.heap.size := fun e => by
                    have h1 := HL.out.tw gw rfl
                    rw [e, HL.out.tL] at h1
                    cases h1
                  have HL2 : Hid (Lr w w.heap.size T u3 (.slice (some ⟨gw, 0, none⟩) (w1s.length + 1) wc) (.slice aa (w1s.length + 1) ac) out xs n (strs (w1s ++ [(b, x ++ s.extract k (k + 1))])) (ats (w1s ++ [(b, x ++ s.extract k (k + 1))])) (Tx.fin (wtoks (w1s ++ [(b, x)]))) ((wr.setCell ⟨gw, w1s.length, none⟩ (.string (x ++ s.extract k (k + 1)))).drew)) := by
                    have h0 := HL.out
                    rw [hll, strs_snoc, ats_snoc] at h0
                    rw [ats_snoc]
                    exact h0.wrote rfl b _
                  have HN : Hid (At s.data.toList G (k + 1) out n (w1s ++ [(b, x ++ s.extract k (k + 1))]) true false (a' + 1)) := HA.out.byte hkl (by rw [HE.out]; exact H10.out) (by rw [HE.out]; exact byte_more w1s a' b s[k] x _ HX.out.2.1 HX.out.2.2 (by rw [ByteArray.data_append, Array.toList_append, HX.out.1]))
                  have hfin2 : Tx.fin (wtoks (w1s ++ [(b, x ++ s.extract k (k + 1))])) = a' + 1 := by rw [fin_snoc, ByteArray.size_append, HX1.out]; omega
                  have HXS : Hid (x.size ≤ k) := HW.out (b, x) (by simp)
                  have HF : Hid (Tx.fin (wtoks (w1s ++ [(b, x ++ s.extract k (k + 1))])) = a' + 1) := hfin2
                  rw [hll] at c1 c2
                  have hm3 : w1s.length ≤ 3000 := by omega
                  clear hfin hfx hfin2 hll HA HQ HL
                  generalize hmm : w1s.length = m at *
                  have HM : Hid (w1s.length = m) := hmm
                  have hwl2 : m + 1 ≤ k := by have h9 := hwl; rw [List.length_append, hmm] at h9; exact h9
                  clear hmm hwl
                  go_upto_region 24 with fail
                  clear HX HE H10 h10' h35' h32' h9' hkl
                  have em : (m : Int) < (m : Int) + 1 := by omega
                  have ek : (k : Int) + 1 ≤ (s.size : Int) := by omega
                  have ek2 : (k : Int) ≤ (k : Int) + 1 := by omega
                  go_region
                  have HLf : Hid (Lr w w.heap.size T u3 (.slice (some ⟨gw, 0, none⟩) (w1s ++ [(b, x ++ s.extract k (k + 1))]).length wc) (.slice aa (w1s ++ [(b, x ++ s.extract k (k + 1))]).length ac) out xs n (strs (w1s ++ [(b, x ++ s.extract k (k + 1))])) (ats (w1s ++ [(b, x ++ s.extract k (k + 1))])) (Tx.fin (wtoks (w1s ++ [(b, x ++ s.extract k (k + 1))]))) (((wr.setCell ⟨gw, m, none⟩ (.string (x ++ s.extract k (k + 1)))).drew).setCell ⟨w.heap.size, 3, none⟩ (.int .i64 ((a' : Int) + 1)))) := by
                    have h0 := HL2.out.fin ((a' : Int) + 1)
                    have e1 : (w1s ++ [(b, x ++ s.extract k (k + 1))]).length = m + 1 := by rw [List.length_append, HM.out]; rfl
                    show Lr _ _ _ _ _ _ _ _ _ _ _ _ _
                    rw [e1, HF.out]
                    exact h0
                  have d3 := HL2.out.box.at' 3 (by omega)
                  have e3 := HL2.out.box.fr 3 (by omega)
                  simp only [show (3 : Nat) ≠ 0 by decide, show (3 : Nat) ≠ 1 by decide, show (3 : Nat) ≠ 2 by decide, if_false] at d3
                  have HSZ2 : Hid (∀ y ∈ w1s ++ [(b, x ++ s.extract k (k + 1))], y.2.size ≤ k + 1) := fun y hy => by
                    rcases List.mem_append.1 hy with h | h
                    · have := HW.out y (List.mem_append_left _ h); omega
                    · have e : y = (b, x ++ s.extract k (k + 1)) := by simpa using h
                      have h1 := HXS.out
                      rw [e]
                      show (x ++ s.extract k (k + 1)).size ≤ k + 1
                      rw [ByteArray.size_append, HX1.out]; omega
                  clear hxc hxf hcat HL2 HX1 c0 c1 c2 c3 f0 f1 f2 f3
                  generalize (wr.setCell ⟨gw, m, none⟩ (.string (x ++ s.extract k (k + 1)))).drew = W2 at *
                  generalize x ++ s.extract k (k + 1) = y at *
                  go_wp2
                  go_roundg (s.size + 1 - (k + 1))
                  case measure => omega
                  case rel => exact ⟨k + 1, a' + 1, true, false, T, some ⟨gw, 0, none⟩, aa, wc, ac, n, out, xs, w1s ++ [(b, y)], by go_num, by go_num, rfl, rfl, by omega, by omega, by omega, by omega, by have := HM.out; simp; omega, by omega, HSZ2, (fun _ => ⟨by simp, HF.out⟩), HLf, HN⟩
          · have HN : Hid (At s.data.toList G (k + 1) out n ws false true (a' + 1)) := HA.out.byte hkl (by rw [HE.out]; exact H10.out) (by rw [HE.out]; exact byte_out ws q true a' s[k] true (rfl) (rfl))
            clear HA HQ
            go_wp2
            go_roundg (s.size + 1 - (k + 1))
            case measure => omega
            case rel => exact ⟨k + 1, a' + 1, false, true, T, wa, aa, wc, ac, n, out, xs, ws, by go_num, by go_num, rfl, rfl, by omega, by omega, by omega, by omega, by omega, by omega, (fun x hx => by have := HW.out x hx; omega), (fun h => by cases h), HL.out, HN⟩

end Go.Proofs.YtelmkfkgpnadnaaGreatDoor
