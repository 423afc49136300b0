/-
  The program's reading of a line of an index: where it has a slip of a kind.
  The program's reading of a line of an index: where it has a slip of its own words.
  The program's map of what was said: the law of its key.
  The program's map of what was said: an index's claims.
  The program's reading of a line of an index: was it said before?
  The program's reading of a line of an index: what a line without a slip says is kept.
  The program's reading of a line of an index: what a line without a slip says is kept (the walk).
-/
import Derived.Test.YtelmkfkgpnadnaaGreatDoorKB1
import Derived.Test.YtelmkfkgpnadnaaGreatDoorKIA
import Derived.Maps.OwnSet
import Derived.DeepKeys4
import Derived.Deep.RegionHeldLaw
import Derived.Deep.RegionLaw
import Derived.Deep.AppendLies
namespace Go.Proofs.YtelmkfkgpnadnaaGreatDoor
open Go.RowKit

variable {w w' : World}

/-- The first word in its box. -/
def BoxAt (W : World) (b a0 : Nat) (x0 : ByteArray) : Prop := W.cell? ⟨b, 0, none⟩ = some (.int .i64 a0) ∧ W.cell? ⟨b, 1, none⟩ = some (.string x0)

theorem BoxAt.below {b a0 : Nat} {x0 : ByteArray} (h : BoxAt w b a0 x0) (hb : Below w.heap.size w w') : BoxAt w' b a0 x0 := by
  have h1 := World.block_lt_of_cell? w _ h.1
  exact ⟨by rw [hb.cell (p := ⟨b, 0, none⟩) h1]; exact h.1, by rw [hb.cell (p := ⟨b, 1, none⟩) h1]; exact h.2⟩

theorem below_drewN {B q : Nat} {a : World} (h : Below B a w) : Below B a (w.drewN q) := ⟨h.os, h.tape, h.output, h.size, h.block⟩

theorem box_new (W : World) (a0 : Nat) (x0 : ByteArray) (t : TypeId) : BoxAt (W.alloc (.cells #[.int .i64 a0, .string x0] t)) W.heap.size a0 x0 := by
  have b0 := block_new W (.cells #[.int .i64 a0, .string x0] t)
  exact ⟨by simp only [World.cell?, b0]; rfl, by simp only [World.cell?, b0]; rfl⟩

end Go.Proofs.YtelmkfkgpnadnaaGreatDoor

namespace Go.Proofs.YtelmkfkgpnadnaaGreatDoor
open Go.RowKit

variable {w w' : World}

theorem getD_at {l : List (Nat × ByteArray)} {j : Nat} (h : j < l.length) : l.getD j pad = l[j] := by
  simp [List.getD, List.getElem?_eq_getElem h]

end Go.Proofs.YtelmkfkgpnadnaaGreatDoor

namespace Go.Proofs.YtelmkfkgpnadnaaGreatDoor
open Go.RowKit

variable {w w' : World}

theorem laidOutZ : laidOutB Tryz.prog = true := by kernel_rfl
theorem row252 : (280 : TypeId) < Tryz.prog.types.size := of_decide_eq_true (by kernel_rfl)
theorem wide252 : (match Tryz.prog.underlying 280 with | some (.array _ _) | some (.struct _) => true | _ => false) = true := by kernel_rfl
theorem keyT252 : Tryz.prog.keyTypeAt 3 280 = true := by kernel_rfl
theorem keyTy252 : Tryz.prog.keyType 280 = true := by kernel_rfl
theorem size419 : Tryz.prog.types.size = 466 := by kernel_rfl
theorem cells252 : Tryz.prog.cellsOf 280 = 3 := by kernel_rfl
theorem cells9 : Tryz.prog.cellsOf 9 = 1 := by kernel_rfl
set_option maxRecDepth 100000 in
theorem law252 : WideMaps.KeyLaw Tryz.prog 280 := deep_law_laid laidOutZ (m := 3) (Nat.le_of_ble_eq_true rfl) row252 keyT252 wide252
theorem keyed252 : Maps.Keyed Tryz.prog 280 := Maps.Keyed.of_law law252

end Go.Proofs.YtelmkfkgpnadnaaGreatDoor

namespace Go.Proofs.YtelmkfkgpnadnaaGreatDoor
open Go.RowKit

variable {w w' : World}

theorem keyLits9 (d : Nat) (s : ByteArray) (h : s.size ≤ maxLen) : Tryz.prog.keyLits (d + 1) 9 [.string s] = some [.string s.data.toList] := by
  unfold Program.keyLits
  rw [Tryz.underlying9]
  show (if s.size ≤ maxLen then some [Lit.string s.data.toList] else none) = _
  rw [if_pos h]

theorem key_claim (f p v : ByteArray) (hf : f.size ≤ maxLen) (hp : p.size ≤ maxLen) (hv : v.size ≤ maxLen) : ∃ l, keyOf Tryz.prog 280 (.agg #[.string f, .string p, .string v]) = some l := by
  have h1 : Tryz.prog.keyLits (Tryz.prog.types.size + 1) 280 [.string f, .string p, .string v] = some [.string f.data.toList, .string p.data.toList, .string v.data.toList] := by
    rw [size419]
    unfold Program.keyLits
    rw [Tryz.underlying280]
    simp only [cells252, List.length_cons, List.length_nil]
    rw [if_pos ⟨trivial, by kernel_rfl⟩]
    simp only [List.mapM_cons, List.mapM_nil, cells9, List.drop, List.take, keyLits9 465 f hf, keyLits9 465 p hp, keyLits9 465 v hv]
    rfl
  refine ⟨.string (keyBytes [.string f.data.toList, .string p.data.toList, .string v.data.toList]), ?_⟩
  unfold keyOf
  rw [Tryz.underlying280]
  show (if (Tryz.prog.keyType 280 && (Value.agg #[.string f, .string p, .string v]).formed Tryz.prog 280) = true then (Tryz.prog.keyLits (Tryz.prog.types.size + 1) 280 [.string f, .string p, .string v]).map (fun ls => Lit.string (keyBytes ls)) else none) = _
  rw [keyTy252, h1]
  rw [if_pos (by simp [Value.formed, Tryz.underlying280, cells252])]
  rfl

end Go.Proofs.YtelmkfkgpnadnaaGreatDoor

namespace Go.Proofs.YtelmkfkgpnadnaaGreatDoor
open Go.RowKit

variable {w w' : World}

theorem zero3z (w : World) : (zeroValue 3).run Tryz.prog w = .ok (.int .i64 0) w := by kernel_rfl

end Go.Proofs.YtelmkfkgpnadnaaGreatDoor

namespace Go.Proofs.YtelmkfkgpnadnaaGreatDoor
open Go.RowKit

variable {w w' : World}

theorem info141 : ∃ i, Tryz.prog.info? 155 = some i ∧ i.zero = some (.agg #[.string ByteArray.empty, .string ByteArray.empty, .string ByteArray.empty, .string ByteArray.empty]) ∧ i.size = 4 ∧ i.bytes = 64 := by
  have h : (Tryz.prog.info? 155).map (fun i => (i.zero, i.size, i.bytes)) = some (some (.agg #[.string ByteArray.empty, .string ByteArray.empty, .string ByteArray.empty, .string ByteArray.empty]), 4, 64) := by kernel_rfl
  rw [Option.map_eq_some_iff] at h
  obtain ⟨i, h1, h2⟩ := h
  simp only [Prod.mk.injEq] at h2
  exact ⟨i, h1, h2.1, h2.2.1, h2.2.2⟩

def Fld (W : World) (b o : Nat) (v : Value) : Prop := W.cell? ⟨b, o, none⟩ = some v ∧ W.frozen? ⟨b, o, none⟩ = false

theorem Fld.of_block {W W' : World} {b o : Nat} {v : Value} (h : Fld W b o v) (e : W'.heap[b]? = W.heap[b]?) : Fld W' b o v :=
  ⟨by rw [World.cell?_of_block (w := W) (a := ⟨b, o, none⟩) e]; exact h.1, by rw [World.frozen?_of_block (w := W) (a := ⟨b, o, none⟩) e]; exact h.2⟩

end Go.Proofs.YtelmkfkgpnadnaaGreatDoor

namespace Go.Proofs.YtelmkfkgpnadnaaGreatDoor
open Go.RowKit

variable {w w' : World}

/-- All blocks but these stay. -/
structure Fr (X : Nat → Prop) (w w' : World) : Prop where
  os : w'.os = w.os
  tape : w'.tape = w.tape
  output : w'.output = w.output
  size : w.heap.size ≤ w'.heap.size
  block : ∀ b, b < w.heap.size → ¬ X b → w'.heap[b]? = w.heap[b]?

theorem Fr.trans {X : Nat → Prop} {a b c : World} (h : Fr X a b) (h' : Fr X b c) : Fr X a c :=
  ⟨h'.os.trans h.os, h'.tape.trans h.tape, h'.output.trans h.output, Nat.le_trans h.size h'.size, fun k hk hx => (h'.block k (Nat.lt_of_lt_of_le hk h.size) hx).trans (h.block k hk hx)⟩

theorem Fr.of_below {X : Nat → Prop} {a b : World} (h : Below a.heap.size a b) : Fr X a b := ⟨h.os, h.tape, h.output, h.size, fun k hk _ => h.block k hk⟩

theorem Fr.of_grown {X : Nat → Prop} {a b : World} {row : Option Nat} (h : a.grownBy b row) (hx : ∀ k, row = some k → X k) : Fr X a b :=
  ⟨h.os, h.tape, h.output, h.size, fun k hk hn => h.block k hk (fun e => hn (hx k e.symm))⟩

theorem Fr.of_set {X : Nat → Prop} (a : World) (b o : Nat) (v : Value) (hx : X b) : Fr X a (a.setCell ⟨b, o, none⟩ v) :=
  ⟨rfl, rfl, rfl, by simp [World.setCell], fun k _ hn => Below.heap_setCell _ _ _ _ (fun e => hn (by have e3 : k = b := e; rw [e3]; exact hx))⟩

/-- What take may write: the reader, its map, its list's own block. -/
def Mine (rp mb : Nat) (sv : Value) (b : Nat) : Prop := b = rp ∨ b = mb ∨ sv.ownBlock = some b

end Go.Proofs.YtelmkfkgpnadnaaGreatDoor
