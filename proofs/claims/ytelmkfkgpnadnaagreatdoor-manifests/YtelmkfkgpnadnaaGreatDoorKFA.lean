/-
  The document's answer, of an index: what must stand behind a first word; the slip of a line's words.
  The document's answer, of an index: the slip of a line's words, whatever they are.
  The document's answer, of an index: does a line say what an earlier one says?
-/
import Derived.Test.YtelmkfkgpnadnaaGreatDoorKLA
import Derived.Test.YtelmkfkgpnadnaaGreatDoorKVA
import Derived.BigQuiet
namespace Go.Proofs.YtelmkfkgpnadnaaGreatDoor
open Go.RowKit

variable {w w' : World}

theorem cell3 {b o : Nat} {v : Value} (h : w.cell? ⟨b, o, none⟩ = some v) : ∀ o1 o2 o3 : Obj, (((w.alloc o1).alloc o2).alloc o3).cell? ⟨b, o, none⟩ = some v := fun o1 o2 o3 => by
  have hl := World.block_lt_of_cell? w _ h
  have hb : Below w.heap.size w (((w.alloc o1).alloc o2).alloc o3) := (((Below.refl _ _).alloc (Nat.le_refl _) _).alloc (by simp) _).alloc (by simp; omega) _
  rw [hb.cell (p := ⟨b, o, none⟩) hl]; exact h

theorem below3 (w : World) (o1 o2 o3 : Obj) : Below w.heap.size w (((w.alloc o1).alloc o2).alloc o3) := (((Below.refl _ _).alloc (Nat.le_refl _) _).alloc (by simp) _).alloc (by simp; omega) _

set_option maxRecDepth 100000 in
set_option maxHeartbeats 1000000 in
theorem wrong_word (n gw ga m cw ca : Nat) (a0 : Nat) (en : Int) (w : World) (hm : 0 < m) (h0 : w.cell? ⟨ga, 0, none⟩ = some (.int .i64 a0)) :
    Calls Tryz.prog 161 #[.agg #[.int .i64 n, .slice (some ⟨gw, 0, none⟩) m cw, .slice (some ⟨ga, 0, none⟩) m ca, .int .i64 en], .string ⟨#[]⟩] w fun e w' => e = .returned (.agg #[.int .i64 n, .int .i64 a0, .int .i64 3]) ∧ Below w.heap.size w w' := by
  have H0 := cell3 h0
  have hmI : (0 : Int) < (m : Int) := by omega
  have hb3 := below3 w
  have HB : Hid (∀ o1 o2 o3 : Obj, Below w.heap.size w (((w.alloc o1).alloc o2).alloc o3)) := hb3
  clear h0 hb3
  go_enter Tryz.func161, Tryz.ntmps161
  go_wp2
  exact bodyPost_ret (v := .agg #[.int .i64 n, .int .i64 a0, .int .i64 3]) (by simp [results, Tryz.results161, go_sem]) rfl ⟨rfl, HB.out _ _ _⟩

theorem block_new (w : World) (o : Obj) : (w.alloc o).heap[w.heap.size]? = some o := by
  show (w.heap.push _)[w.heap.size]? = _
  simp

end Go.Proofs.YtelmkfkgpnadnaaGreatDoor

namespace Go.Proofs.YtelmkfkgpnadnaaGreatDoor
open Go.RowKit

variable {w w' : World}

def slipV (n : Nat) (r : Option (Nat × Nat)) : Value :=
  match r with
  | some (a, k) => .agg #[.int .i64 n, .int .i64 a, .int .i64 k]
  | none => .agg #[.int .i64 n, .int .i64 0, .int .i64 0]

end Go.Proofs.YtelmkfkgpnadnaaGreatDoor

namespace Go.Proofs.YtelmkfkgpnadnaaGreatDoor
open Go.RowKit

variable {w w' : World}

theorem lineCells {B : Nat → Prop} {out : List OLn} {xs : List Value} {ob cap : Nat} (h : AllLines w B out xs) (ho : w.ownsRow 0 210 4 (.slice (some ⟨ob, 0, none⟩) out.length cap) out.length xs) (j : Nat) (hj : j < out.length) :
    ∃ gw cw ga ca, w.cell? ⟨ob, j * 4, none⟩ = some (.int .i64 out[j].1) ∧ w.cell? ⟨ob, j * 4 + 1, none⟩ = some (.slice (some ⟨gw, 0, none⟩) out[j].2.length cw) ∧ w.cell? ⟨ob, j * 4 + 2, none⟩ = some (.slice (some ⟨ga, 0, none⟩) out[j].2.length ca) ∧ w.cell? ⟨ob, j * 4 + 3, none⟩ = some (.int .i64 (Tx.fin (wtoks out[j].2))) ∧
      LineLies w B out[j] [.int .i64 out[j].1, .slice (some ⟨gw, 0, none⟩) out[j].2.length cw, .slice (some ⟨ga, 0, none⟩) out[j].2.length ca, .int .i64 (Tx.fin (wtoks out[j].2))] ∧ ValsAt w gw out[j].2.length (fun i => .string (out[j].2.getD i pad).2) ∧ gw < w.heap.size := by
  obtain ⟨gw, cw, ga, ca, e, hne, h1, h2, h3, h4, h5, h6⟩ := h.2 j hj
  have hx : ∀ i, i < 4 → w.cell? ⟨ob, j * 4 + i, none⟩ = [Value.int .i64 out[j].1, .slice (some ⟨gw, 0, none⟩) out[j].2.length cw, .slice (some ⟨ga, 0, none⟩) out[j].2.length ca, .int .i64 (Tx.fin (wtoks out[j].2))][i]? := fun i hi => by
    rw [ho.cellAt (j * 4 + i) (by omega), ← e, List.getElem?_take, if_pos hi, List.getElem?_drop]
  exact ⟨gw, cw, ga, ca, hx 0 (by omega), hx 1 (by omega), hx 2 (by omega), hx 3 (by omega), ⟨gw, cw, ga, ca, rfl, hne, h1, h2, h3, h4, h5, h6⟩, h1, h3⟩

end Go.Proofs.YtelmkfkgpnadnaaGreatDoor
