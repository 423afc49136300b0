/-
  The document's answer, of an index: the lines without a slip, and the slips: what lies in memory.
-/
import Derived.Test.YtelmkfkgpnadnaaGreatDoorF3
import Derived.Deep.RegionHeld
namespace Go.Proofs.YtelmkfkgpnadnaaGreatDoor
open Go.RowKit

variable {w w' : World}

def scells (l : List (Nat × Nat × Nat)) : List Value := l.flatMap fun x => [.int .i64 x.1, .int .i64 x.2.1, .int .i64 x.2.2]
theorem scells_snoc (l : List (Nat × Nat × Nat)) (x : Nat × Nat × Nat) : scells (l ++ [x]) = scells l ++ [.int .i64 x.1, .int .i64 x.2.1, .int .i64 x.2.2] := by simp [scells]

structure Sl (Wl : World) (gv sv : Value) (good : List OLn) (gxs : List Value) (slips : List (Nat × Nat × Nat)) (wr : World) : Prop where
  og : wr.ownsRow Wl.heap.size 210 4 gv good.length gxs
  os : wr.ownsRow Wl.heap.size 45 3 sv slips.length (scells slips)
  ne : ∀ b, gv.ownBlock = some b → sv.ownBlock ≠ some b
  lie : AllLines wr (fun b => b < Wl.heap.size) good gxs
  old : Below Wl.heap.size Wl wr

variable {Wl wr : World} {gv sv gv' sv' : Value} {good : List OLn} {gxs : List Value} {slips : List (Nat × Nat × Nat)}

theorem Sl.below (h : Sl Wl gv sv good gxs slips wr) (hb : Below wr.heap.size wr w') : Sl Wl gv sv good gxs slips w' :=
  ⟨own_of_block h.og (fun b e => hb.block b (h.og.lt b e).2), own_of_block h.os (fun b e => hb.block b (h.os.lt b e).2), h.ne, h.lie.turn hb.size (fun b hk ht => ⟨hb.block b hk, ht⟩), h.old.trans (hb.mono h.old.size)⟩

theorem Sl.slip (h : Sl Wl gv sv good gxs slips wr) (o : Obj) (x : Nat × Nat × Nat) (hown : w'.ownsRow Wl.heap.size 45 3 sv' (slips.length + 1) (scells slips ++ [.int .i64 x.1, .int .i64 x.2.1, .int .i64 x.2.2])) (hg : (wr.alloc o).grownBy w' sv.ownBlock) (hat : sv'.ownBlock = sv.ownBlock ∨ sv'.ownBlock = some (wr.alloc o).heap.size) :
    Sl Wl gv sv' good gxs (slips ++ [x]) w' := by
  have hal : (wr.alloc o).heap.size = wr.heap.size + 1 := by simp
  have hs' : wr.heap.size + 1 ≤ w'.heap.size := by rw [← hal]; exact hg.size
  have hk : ∀ k, k < wr.heap.size → sv.ownBlock ≠ some k → w'.heap[k]? = wr.heap[k]? := fun k hk h1 => by
    rw [hg.block k (by omega) (fun e => h1 e.symm), Below.heap_alloc _ _ _ hk]
  have hsv : ∀ k, sv.ownBlock = some k → Wl.heap.size ≤ k := fun k e => (h.os.lt k e).1
  refine ⟨own_of_block h.og (fun b e => hk b (h.og.lt b e).2 (h.ne b e)), ?_, ?_, h.lie.turn (by omega) (fun b hb ht => ⟨hk b hb (fun e => by have := hsv b e; omega), ht⟩), ?_⟩
  · rw [scells_snoc, List.length_append]; exact hown
  · intro b e e2
    rcases hat with e3 | e3
    · rw [e3] at e2; exact h.ne b e e2
    · rw [e3] at e2
      injection e2 with e2
      have := (h.og.lt b e).2
      omega
  · exact (h.old.alloc h.old.size o).grown hg (by have := h.old.size; omega) hsv

theorem Sl.line (h : Sl Wl gv sv good gxs slips wr) (o : Obj) {l : OLn} {cs : List Value} (hl : LineLies wr (fun b => b < Wl.heap.size) l cs) (hown : w'.ownsRow Wl.heap.size 210 4 gv' (good.length + 1) (gxs ++ cs)) (hg : (wr.alloc o).grownBy w' gv.ownBlock) (hat : gv'.ownBlock = gv.ownBlock ∨ gv'.ownBlock = some (wr.alloc o).heap.size) :
    Sl Wl gv' sv (good ++ [l]) (gxs ++ cs) slips w' := by
  have hal : (wr.alloc o).heap.size = wr.heap.size + 1 := by simp
  have hs' : wr.heap.size + 1 ≤ w'.heap.size := by rw [← hal]; exact hg.size
  have hk : ∀ k, k < wr.heap.size → gv.ownBlock ≠ some k → w'.heap[k]? = wr.heap[k]? := fun k hk h1 => by
    rw [hg.block k (by omega) (fun e => h1 e.symm), Below.heap_alloc _ _ _ hk]
  have hgv : ∀ k, gv.ownBlock = some k → Wl.heap.size ≤ k := fun k e => (h.og.lt k e).1
  have hkk : ∀ b, b < wr.heap.size → b < Wl.heap.size → w'.heap[b]? = wr.heap[b]? ∧ b < Wl.heap.size := fun b hb ht => ⟨hk b hb (fun e => by have := hgv b e; omega), ht⟩
  refine ⟨?_, own_of_block h.os (fun b e => hk b (h.os.lt b e).2 (fun e2 => h.ne b e2 e)), ?_, (h.lie.turn (by omega) hkk).snoc (hl.turn (by omega) hkk), ?_⟩
  · rw [List.length_append]; exact hown
  · intro b e e2
    rcases hat with e3 | e3
    · rw [e3] at e; exact h.ne b e e2
    · rw [e3] at e
      injection e with e
      have := (h.os.lt b e2).2
      omega
  · exact (h.old.alloc h.old.size o).grown hg (by have := h.old.size; omega) hgv

end Go.Proofs.YtelmkfkgpnadnaaGreatDoor
