/-
  The program's reading of a line of an index: what a line without a slip says is kept.
-/
import Derived.Test.YtelmkfkgpnadnaaGreatDoorJ5
import Derived.Deep.RegionHeldLaw
import Derived.Deep.RegionLaw
import Derived.Deep.AppendLies
namespace Go.Proofs.YtelmkfkgpnadnaaGreatDoor
open Go.RowKit

variable {w w' : World}

abbrev bVer : ByteArray := ⟨#[118, 101, 114, 115, 105, 111, 110]⟩

def stcells (vs : List ByteArray) : List Value := vs.flatMap fun v => [.string bVer, .string ⟨#[]⟩, .string v, .string ⟨#[]⟩]
theorem stcells_snoc (vs : List ByteArray) (v : ByteArray) : stcells (vs ++ [v]) = stcells vs ++ [.string bVer, .string ⟨#[]⟩, .string v, .string ⟨#[]⟩] := by simp [stcells]

theorem info141 : ∃ i, Tryz.prog.info? 155 = some i ∧ i.zero = some (.agg #[.string ByteArray.empty, .string ByteArray.empty, .string ByteArray.empty, .string ByteArray.empty]) ∧ i.size = 4 ∧ i.bytes = 64 := by
  have h : (Tryz.prog.info? 155).map (fun i => (i.zero, i.size, i.bytes)) = some (some (.agg #[.string ByteArray.empty, .string ByteArray.empty, .string ByteArray.empty, .string ByteArray.empty]), 4, 64) := by kernel_rfl
  rw [Option.map_eq_some_iff] at h
  obtain ⟨i, h1, h2⟩ := h
  simp only [Prod.mk.injEq] at h2
  exact ⟨i, h1, h2.1, h2.2.1, h2.2.2⟩

def Fld (W : World) (b o : Nat) (v : Value) : Prop := W.cell? ⟨b, o, none⟩ = some v ∧ W.frozen? ⟨b, o, none⟩ = false

theorem Fld.of_block {W W' : World} {b o : Nat} {v : Value} (h : Fld W b o v) (e : W'.heap[b]? = W.heap[b]?) : Fld W' b o v :=
  ⟨by rw [World.cell?_of_block (w := W) (a := ⟨b, o, none⟩) e]; exact h.1, by rw [World.frozen?_of_block (w := W) (a := ⟨b, o, none⟩) e]; exact h.2⟩

/-- A reader of an index, what it has kept, in memory. -/
structure Rd (W : World) (rp mb B sp : Nat) (sv : Value) (vs us : List ByteArray) : Prop where
  rd : RdAt W rp sp
  f2 : W.frozen? ⟨rp, 2, none⟩ = false
  fm : W.cell? ⟨rp, 4, none⟩ = some (.map (some mb))
  fs : Fld W rp 5 sv
  lt : rp < B ∧ mb < B ∧ B ≤ W.heap.size ∧ rp ≠ mb
  own : W.ownsRow B 155 4 sv vs.length (stcells vs)
  said : SaidAt W mb us.length us

theorem SaidAt.of_block {W W' : World} {b n : Nat} {vs : List ByteArray} (h : SaidAt W b n vs) (e : W'.heap[b]? = W.heap[b]?) : SaidAt W' b n vs := by
  obtain ⟨D, ⟨es, cl, h1, rest⟩, h2⟩ := h
  exact ⟨D, ⟨es, cl, e.trans h1, rest⟩, h2⟩

theorem SaidAt.lt {W : World} {b n : Nat} {vs : List ByteArray} (h : SaidAt W b n vs) : b < W.heap.size := by
  obtain ⟨D, ⟨es, cl, h1, rest⟩, h2⟩ := h
  exact (Array.getElem?_eq_some_iff.1 h1).1

theorem RdAt.of_block {W W' : World} {rp sp : Nat} (h : RdAt W rp sp) (e : W'.heap[rp]? = W.heap[rp]?) : RdAt W' rp sp :=
  ⟨by rw [World.cell?_of_block (w := W) (a := ⟨rp, 0, none⟩) e]; exact h.1, by rw [World.cell?_of_block (w := W) (a := ⟨rp, 1, none⟩) e]; exact h.2.1, by rw [World.cell?_of_block (w := W) (a := ⟨rp, 2, none⟩) e]; exact h.2.2.1, by rw [World.cell?_of_block (w := W) (a := ⟨rp, 3, none⟩) e]; exact h.2.2.2⟩

/-- Nothing of it has turned. -/
theorem Rd.of_block {W W' : World} {rp mb B sp : Nat} {sv : Value} {vs us : List ByteArray} (h : Rd W rp mb B sp sv vs us) (hs : W.heap.size ≤ W'.heap.size) (e1 : W'.heap[rp]? = W.heap[rp]?) (e2 : W'.heap[mb]? = W.heap[mb]?) (e3 : ∀ b, sv.ownBlock = some b → W'.heap[b]? = W.heap[b]?) : Rd W' rp mb B sp sv vs us :=
  ⟨h.rd.of_block e1, by rw [World.frozen?_of_block (w := W) (a := ⟨rp, 2, none⟩) e1]; exact h.f2, by rw [World.cell?_of_block (w := W) (a := ⟨rp, 4, none⟩) e1]; exact h.fm, h.fs.of_block e1, ⟨h.lt.1, h.lt.2.1, Nat.le_trans h.lt.2.2.1 hs, h.lt.2.2.2⟩, own_of_block h.own e3, h.said.of_block e2⟩

/-- The list has grown by one, and its place in the reader is written. -/
theorem Rd.grown {W W' : World} {rp mb B sp : Nat} {sv sv' : Value} {vs us : List ByteArray} {v : ByteArray} (h : Rd W rp mb B sp sv vs us) (hg : W.grownBy W' sv.ownBlock) (ho : W'.ownsRow B 155 4 sv' (vs.length + 1) (stcells vs ++ [.string bVer, .string ⟨#[]⟩, .string v, .string ⟨#[]⟩])) : Rd (W'.setCell ⟨rp, 5, none⟩ sv') rp mb B sp sv' (vs ++ [v]) us := by
  have hrl : rp < W.heap.size := Nat.lt_of_lt_of_le h.lt.1 h.lt.2.2.1
  have hml : mb < W.heap.size := Nat.lt_of_lt_of_le h.lt.2.1 h.lt.2.2.1
  have n1 : some rp ≠ sv.ownBlock := fun e => by have h1 := (h.own.lt rp e.symm).1; have := h.lt.1; omega
  have n2 : some mb ≠ sv.ownBlock := fun e => by have h1 := (h.own.lt mb e.symm).1; have := h.lt.2.1; omega
  have e1 := hg.block rp hrl n1
  have e2 := hg.block mb hml n2
  have r := h.rd.of_block e1
  have c4 : W'.cell? ⟨rp, 4, none⟩ = some (.map (some mb)) := by rw [World.cell?_of_block (w := W) (a := ⟨rp, 4, none⟩) e1]; exact h.fm
  have f5 := h.fs.of_block e1
  have hf2 : W'.frozen? ⟨rp, 2, none⟩ = false := by rw [World.frozen?_of_block (w := W) (a := ⟨rp, 2, none⟩) e1]; exact h.f2
  have hne : ∀ j, j ≠ 5 → (⟨rp, 5, none⟩ : Addr) ≠ ⟨rp, j, none⟩ := fun j hj e => by injection e with _ e; exact hj e.symm
  have hset : (W'.setCell ⟨rp, 5, none⟩ sv').heap.size = W'.heap.size := by simp [World.setCell]
  refine ⟨⟨?_, ?_, ?_, ?_⟩, ?_, ?_, ⟨World.cell?_setCell_same _ _ _ f5.1, ?_⟩, ⟨h.lt.1, h.lt.2.1, ?_, h.lt.2.2.2⟩, ?_, ?_⟩
  · rw [World.cell?_setCell_other _ _ _ _ (hne 0 (by decide))]; exact r.1
  · rw [World.cell?_setCell_other _ _ _ _ (hne 1 (by decide))]; exact r.2.1
  · rw [World.cell?_setCell_other _ _ _ _ (hne 2 (by decide))]; exact r.2.2.1
  · rw [World.cell?_setCell_other _ _ _ _ (hne 3 (by decide))]; exact r.2.2.2
  · rw [World.frozen?_setCell]; exact hf2
  · rw [World.cell?_setCell_other _ _ _ _ (hne 4 (by decide))]; exact c4
  · rw [World.frozen?_setCell]; exact f5.2
  · rw [hset]; exact Nat.le_trans h.lt.2.2.1 hg.size
  · rw [stcells_snoc, List.length_append]
    exact own_of_block ho (fun b e => Below.heap_setCell _ _ _ _ (fun e2 => by have h1 := (ho.lt b e).1; have h2 := h.lt.1; have e3 : b = rp := e2; omega))
  · exact (h.said.of_block e2).of_block (Below.heap_setCell _ _ _ _ (fun e => h.lt.2.2.2 e.symm))

end Go.Proofs.YtelmkfkgpnadnaaGreatDoor
