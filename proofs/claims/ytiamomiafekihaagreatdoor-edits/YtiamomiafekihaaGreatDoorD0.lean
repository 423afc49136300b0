/-
  What a call has left below a block, and that it has drawn: the word for a comparison that sorting asks.
-/
import Derived.Test.YtiamomiafekihaaGreatDoorW2
import Derived.Test.YtiamomiafekihaaGreatDoorW3
import Derived.Lib.AtoiErrMem
namespace Go.Proofs.YtiamomiafekihaaGreatDoor.Dr
open Go.RowKit

/-- Below a block all is as it was; no draw was taken back. -/
structure Below (B : Nat) (w w' : World) : Prop where
  kit : Go.RowKit.Below B w w'
  drawn : w.drawn ≤ w'.drawn

variable {B : Nat} {a b c w w' : World}

theorem Below.os (h : Below B w w') : w'.os = w.os := h.kit.os
theorem Below.tape (h : Below B w w') : w'.tape = w.tape := h.kit.tape
theorem Below.output (h : Below B w w') : w'.output = w.output := h.kit.output
theorem Below.size (h : Below B w w') : w.heap.size ≤ w'.heap.size := h.kit.size
theorem Below.block (h : Below B w w') : ∀ k, k < B → w'.heap[k]? = w.heap[k]? := h.kit.block
theorem Below.refl (B : Nat) (w : World) : Below B w w := ⟨Go.RowKit.Below.refl B w, Nat.le_refl _⟩
theorem Below.trans (h : Below B a b) (k : Below B b c) : Below B a c := ⟨h.kit.trans k.kit, Nat.le_trans h.drawn k.drawn⟩
theorem Below.mono {B' : Nat} (h : Below B w w') (hB : B' ≤ B) : Below B' w w' := ⟨h.kit.mono hB, h.drawn⟩
theorem Below.drew (h : Below B a w) : Below B a w.drew := ⟨h.kit.drew, Nat.le_trans h.drawn (Nat.le_succ _)⟩
theorem Below.heap_alloc (w : World) (o : Obj) (k : Nat) (h : k < w.heap.size) : (w.alloc o).heap[k]? = w.heap[k]? := Go.RowKit.Below.heap_alloc w o k h
theorem Below.heap_setCell (w : World) (a : Addr) (u : Value) (k : Nat) (h : k ≠ a.block) : (w.setCell a u).heap[k]? = w.heap[k]? := Go.RowKit.Below.heap_setCell w a u k h
theorem Below.alloc (h : Below B a w) (hB : B ≤ w.heap.size) (o : Obj) : Below B a (w.alloc o) := ⟨h.kit.alloc hB o, h.drawn⟩
theorem Below.setCell (h : Below B a w) {p : Addr} (hp : B ≤ p.block) (u : Value) : Below B a (w.setCell p u) := ⟨h.kit.setCell hp u, h.drawn⟩
theorem Below.cell (h : Below B w w') {p : Addr} (hp : p.block < B) : w'.cell? p = w.cell? p := h.kit.cell hp
theorem below_drewN' (h : Below B a w) (q : Nat) : Below B a (w.drewN q) := ⟨⟨h.os, h.tape, h.output, h.size, h.block⟩, Nat.le_trans h.drawn (Nat.le_add_right _ _)⟩
theorem bytesWorld_below (w : World) (e : TypeId) (s : ByteArray) : Below w.heap.size w (Lib.bytesWorld w e s) := ⟨Lib.bytesWorld_below w e s, Nat.le_succ _⟩

/-- What is left is a grown world. -/
theorem Below.grow (h : Below w.heap.size w w') : ∃ q os, w' = Go.Sort.grow (w.drewN q) os := by
  refine ⟨w'.drawn - w.drawn, w'.heap.extract w.heap.size w'.heap.size, ?_⟩
  have hd := h.drawn
  have hh : w'.heap = w.heap ++ w'.heap.extract w.heap.size w'.heap.size := by
    apply Array.ext
    · simp; have := h.size; omega
    · intro i hi hi'
      by_cases hlt : i < w.heap.size
      · rw [Array.getElem_append_left hlt]
        have e := h.block i hlt
        rw [Array.getElem?_eq_getElem hi, Array.getElem?_eq_getElem hlt] at e
        injection e
      · rw [Array.getElem_append_right (by omega), Array.getElem_extract]
        congr 1
        omega
  cases w with
  | mk heap tape drawn os output =>
  cases w' with
  | mk heap' tape' drawn' os' output' =>
  have h1 := h.os
  have h2 := h.tape
  have h3 := h.output
  simp only at h1 h2 h3 hd hh
  subst h1 h2 h3
  simp only [Go.Sort.grow, World.drewN, World.mk.injEq, true_and, and_true]
  exact ⟨hh, by omega⟩

end Go.Proofs.YtiamomiafekihaaGreatDoor.Dr
