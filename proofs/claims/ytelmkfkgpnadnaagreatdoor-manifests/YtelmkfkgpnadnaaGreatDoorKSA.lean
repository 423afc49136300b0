/-
  The document's answer, of an index: the lines without a slip, and the slips: what lies in memory.
  The document's answer, of an index: the lines without a slip, and the slips: the walk.
  The document's answer, of an index: slipped.
-/
import Derived.Test.YtelmkfkgpnadnaaGreatDoorKFA
import Derived.Deep.RegionHeld
import Derived.Deep.DeepCutAuto
import Derived.Deep.RegionHeld3
namespace Go.Proofs.YtelmkfkgpnadnaaGreatDoor
open Go.RowKit

variable {w w' : World}

def scells (l : List (Nat × Nat × Nat)) : List Value := l.flatMap fun x => [.int .i64 x.1, .int .i64 x.2.1, .int .i64 x.2.2]
theorem scells_snoc (l : List (Nat × Nat × Nat)) (x : Nat × Nat × Nat) : scells (l ++ [x]) = scells l ++ [.int .i64 x.1, .int .i64 x.2.1, .int .i64 x.2.2] := by simp [scells]

structure Sl (Wl : World) (gv sv : Value) (good : List OLn) (gxs : List Value) (slips : List (Nat × Nat × Nat)) (wr : World) : Prop where
  og : wr.ownsRow Wl.heap.size 210 4 gv good.length gxs
  os : wr.ownsRow Wl.heap.size 45 3 sv slips.length (scells slips)
  ne : ∀ b, gv.ownBlock = some b → sv.ownBlock ≠ some b
  lie : AllLines wr (fun b => b < Wl.heap.size) good gxs
  old : Below Wl.heap.size Wl wr

variable {Wl wr : World} {gv sv gv' sv' : Value} {good : List OLn} {gxs : List Value} {slips : List (Nat × Nat × Nat)}

theorem Sl.below (h : Sl Wl gv sv good gxs slips wr) (hb : Below wr.heap.size wr w') : Sl Wl gv sv good gxs slips w' :=
  ⟨own_of_block h.og (fun b e => hb.block b (h.og.lt b e).2), own_of_block h.os (fun b e => hb.block b (h.os.lt b e).2), h.ne, h.lie.turn hb.size (fun b hk ht => ⟨hb.block b hk, ht⟩), h.old.trans (hb.mono h.old.size)⟩

theorem Sl.slip (h : Sl Wl gv sv good gxs slips wr) (o : Obj) (x : Nat × Nat × Nat) (hown : w'.ownsRow Wl.heap.size 45 3 sv' (slips.length + 1) (scells slips ++ [.int .i64 x.1, .int .i64 x.2.1, .int .i64 x.2.2])) (hg : (wr.alloc o).grownBy w' sv.ownBlock) (hat : sv'.ownBlock = sv.ownBlock ∨ sv'.ownBlock = some (wr.alloc o).heap.size) :
    Sl Wl gv sv' good gxs (slips ++ [x]) w' := by
  have hal : (wr.alloc o).heap.size = wr.heap.size + 1 := by simp
  have hs' : wr.heap.size + 1 ≤ w'.heap.size := by rw [← hal]; exact hg.size
  have hk : ∀ k, k < wr.heap.size → sv.ownBlock ≠ some k → w'.heap[k]? = wr.heap[k]? := fun k hk h1 => by
    rw [hg.block k (by omega) (fun e => h1 e.symm), Below.heap_alloc _ _ _ hk]
  have hsv : ∀ k, sv.ownBlock = some k → Wl.heap.size ≤ k := fun k e => (h.os.lt k e).1
  refine ⟨own_of_block h.og (fun b e => hk b (h.og.lt b e).2 (h.ne b e)), ?_, ?_, h.lie.turn (by omega) (fun b hb ht => ⟨hk b hb (fun e => by have := hsv b e; omega), ht⟩), ?_⟩
  · rw [scells_snoc, List.length_append]; exact hown
  · intro b e e2
    rcases hat with e3 | e3
    · rw [e3] at e2; exact h.ne b e e2
    · rw [e3] at e2
      injection e2 with e2
      have := (h.og.lt b e).2
      omega
  · exact (h.old.alloc h.old.size o).grown hg (by have := h.old.size; omega) hsv

theorem Sl.line (h : Sl Wl gv sv good gxs slips wr) (o : Obj) {l : OLn} {cs : List Value} (hl : LineLies wr (fun b => b < Wl.heap.size) l cs) (hown : w'.ownsRow Wl.heap.size 210 4 gv' (good.length + 1) (gxs ++ cs)) (hg : (wr.alloc o).grownBy w' gv.ownBlock) (hat : gv'.ownBlock = gv.ownBlock ∨ gv'.ownBlock = some (wr.alloc o).heap.size) :
    Sl Wl gv' sv (good ++ [l]) (gxs ++ cs) slips w' := by
  have hal : (wr.alloc o).heap.size = wr.heap.size + 1 := by simp
  have hs' : wr.heap.size + 1 ≤ w'.heap.size := by rw [← hal]; exact hg.size
  have hk : ∀ k, k < wr.heap.size → gv.ownBlock ≠ some k → w'.heap[k]? = wr.heap[k]? := fun k hk h1 => by
    rw [hg.block k (by omega) (fun e => h1 e.symm), Below.heap_alloc _ _ _ hk]
  have hgv : ∀ k, gv.ownBlock = some k → Wl.heap.size ≤ k := fun k e => (h.og.lt k e).1
  have hkk : ∀ b, b < wr.heap.size → b < Wl.heap.size → w'.heap[b]? = wr.heap[b]? ∧ b < Wl.heap.size := fun b hb ht => ⟨hk b hb (fun e => by have := hgv b e; omega), ht⟩
  refine ⟨?_, own_of_block h.os (fun b e => hk b (h.os.lt b e).2 (fun e2 => h.ne b e2 e)), ?_, (h.lie.turn (by omega) hkk).snoc (hl.turn (by omega) hkk), ?_⟩
  · rw [List.length_append]; exact hown
  · intro b e e2
    rcases hat with e3 | e3
    · rw [e3] at e; exact h.ne b e e2
    · rw [e3] at e
      injection e with e
      have := (h.os.lt b e2).2
      omega
  · exact (h.old.alloc h.old.size o).grown hg (by have := h.old.size; omega) hgv

end Go.Proofs.YtelmkfkgpnadnaaGreatDoor

namespace Go.Proofs.YtelmkfkgpnadnaaGreatDoor
open Go.RowKit

variable {w w' : World}

theorem info45 : ∃ i, Tryz.prog.info? 45 = some i ∧ i.zero = some (.agg #[.int .i64 0, .int .i64 0, .int .i64 0]) ∧ i.size = 3 ∧ i.bytes = 24 := by
  have h : (Tryz.prog.info? 45).map (fun i => (i.zero, i.size, i.bytes)) = some (some (.agg #[.int .i64 0, .int .i64 0, .int .i64 0]), 3, 24) := by kernel_rfl
  rw [Option.map_eq_some_iff] at h
  obtain ⟨i, h1, h2⟩ := h
  simp only [Prod.mk.injEq] at h2
  exact ⟨i, h1, h2.1, h2.2.1, h2.2.2⟩

theorem cell_three_new (w : World) (a b c : Value) (t : TypeId) : ∀ j u, [a, b, c][j]? = some u → (w.alloc (.cells #[a, b, c] t)).cell? ((⟨w.heap.size, 0, none⟩ : Addr).add j) = some u := by
  intro j u h
  match j, h with
  | 0, h => simp at h; subst h; simp [Addr.add]
  | 1, h => simp at h; subst h; simp [Addr.add]
  | 2, h => simp at h; subst h; simp [Addr.add]

end Go.Proofs.YtelmkfkgpnadnaaGreatDoor

namespace Go.Proofs.YtelmkfkgpnadnaaGreatDoor
open Go.RowKit

variable {w w' : World}

theorem below_alloc {a : World} (h : Below a.heap.size a w) (o : Obj) : Below a.heap.size a (w.alloc o) := h.alloc h.size o

/-- A line's box, and its first word. -/
def P5 (W : World) (L gw ga m cw ca n : Nat) (fi : Int) (x : ByteArray) : Prop :=
  W.cell? ⟨L, 0, none⟩ = some (.int .i64 n) ∧ W.cell? ⟨L, 1, none⟩ = some (.slice (some ⟨gw, 0, none⟩) m cw) ∧ W.cell? ⟨L, 2, none⟩ = some (.slice (some ⟨ga, 0, none⟩) m ca) ∧ W.cell? ⟨L, 3, none⟩ = some (.int .i64 fi) ∧ W.cell? ⟨gw, 0, none⟩ = some (.string x)

theorem P5.below {W : World} {L gw ga m cw ca n : Nat} {fi : Int} {x : ByteArray} (h : P5 W L gw ga m cw ca n fi x) {W' : World} (hb : Below W.heap.size W W') : P5 W' L gw ga m cw ca n fi x := by
  have h1 := World.block_lt_of_cell? W _ h.1
  have h2 := World.block_lt_of_cell? W _ h.2.2.2.2
  exact ⟨by rw [hb.cell (p := ⟨L, 0, none⟩) h1]; exact h.1, by rw [hb.cell (p := ⟨L, 1, none⟩) h1]; exact h.2.1, by rw [hb.cell (p := ⟨L, 2, none⟩) h1]; exact h.2.2.1, by rw [hb.cell (p := ⟨L, 3, none⟩) h1]; exact h.2.2.2.1, by rw [hb.cell (p := ⟨gw, 0, none⟩) h2]; exact h.2.2.2.2⟩

theorem p5_new {W : World} {gw ga m cw ca n : Nat} {fi : Int} {x : ByteArray} (h : W.cell? ⟨gw, 0, none⟩ = some (.string x)) (t : TypeId) : P5 (W.alloc (.cells #[.int .i64 n, .slice (some ⟨gw, 0, none⟩) m cw, .slice (some ⟨ga, 0, none⟩) m ca, .int .i64 fi] t)) W.heap.size gw ga m cw ca n fi x := by
  have b0 := block_new W (.cells #[.int .i64 n, .slice (some ⟨gw, 0, none⟩) m cw, .slice (some ⟨ga, 0, none⟩) m ca, .int .i64 fi] t)
  have hl := World.block_lt_of_cell? W _ h
  exact ⟨by simp only [World.cell?, b0]; rfl, by simp only [World.cell?, b0]; rfl, by simp only [World.cell?, b0]; rfl, by simp only [World.cell?, b0]; rfl, by rw [World.cell?_of_block (w := W) (a := ⟨gw, 0, none⟩) (Below.heap_alloc _ _ _ hl)]; exact h⟩

theorem vals3 (W : World) (t : TypeId) : ValsAt (W.alloc (.cells #[.int .i64 0, .int .i64 0, .int .i64 0] t)) W.heap.size 3 (fun _ => .int .i64 0) := by
  have b0 := block_new W (.cells #[.int .i64 0, .int .i64 0, .int .i64 0] t)
  refine ⟨fun j hj => ?_, fun j hj => ?_⟩
  · simp only [World.cell?, b0]
    rcases (by omega : j = 0 ∨ j = 1 ∨ j = 2) with e | e | e <;> simp [e]
  · simp only [World.frozen?, b0]; simp

theorem vals3x (W : World) (a b c : Value) (t : TypeId) : ValsAt (W.alloc (.cells #[a, b, c] t)) W.heap.size 3 (fun f => if f = 0 then a else if f = 1 then b else c) := by
  have b0 := block_new W (.cells #[a, b, c] t)
  refine ⟨fun j hj => ?_, fun j hj => ?_⟩
  · simp only [World.cell?, b0]
    rcases (by omega : j = 0 ∨ j = 1 ∨ j = 2) with e | e | e <;> simp [e]
  · simp only [World.frozen?, b0]; simp

theorem vals3s {W : World} {x : Nat} {f : Nat → Value} (h : ValsAt W x 3 f) (a b c : Value) : ValsAt (((W.setCell ⟨x, 0, none⟩ a).setCell ⟨x, 1, none⟩ b).setCell ⟨x, 2, none⟩ c) x 3 (fun f => if f = 0 then a else if f = 1 then b else c) := by
  refine (((h.set (p := 0) (by omega) a).set (p := 1) (by omega) b).set (p := 2) (by omega) c).ext fun j hj => ?_
  rcases (by omega : j = 0 ∨ j = 1 ∨ j = 2) with e | e | e <;> simp [e]

theorem own_slice' {e : TypeId} {B sz m : Nat} {v : Value} {l : List Value} (h : w.ownsRow B e sz v m l) : ∃ a c, v = .slice a m c := by
  rcases h.2 with ⟨e1, e2⟩ | ⟨g, c, _, e1, _⟩
  · exact ⟨none, 0, by rw [e1, e2]⟩
  · exact ⟨some ⟨g, 0, none⟩, c, e1⟩

theorem own_base0 {B e s m : Nat} {u : Value} {xs : List Value} (h : w.ownsRow B e s u m xs) : w.ownsRow 0 e s u m xs := by
  refine ⟨h.1, ?_⟩
  rcases h.2 with hn | ⟨g, cap, cur, hv, hg, rest⟩
  · exact .inl hn
  · exact .inr ⟨g, cap, cur, hv, Nat.zero_le _, rest⟩

theorem Sl.poke {Wl wr : World} {gv sv : Value} {good : List OLn} {gxs : List Value} {slips : List (Nat × Nat × Nat)} {xb o : Nat} (h : Sl Wl gv sv good gxs slips wr) (hx : Wl.heap.size ≤ xb) (h1 : gv.ownBlock ≠ some xb) (h2 : sv.ownBlock ≠ some xb) (v : Value) : Sl Wl gv sv good gxs slips (wr.setCell ⟨xb, o, none⟩ v) := by
  have hk : ∀ k, k ≠ xb → (wr.setCell ⟨xb, o, none⟩ v).heap[k]? = wr.heap[k]? := fun k hk => Below.heap_setCell _ _ _ _ hk
  have hs : (wr.setCell ⟨xb, o, none⟩ v).heap.size = wr.heap.size := by simp [World.setCell]
  exact ⟨own_of_block h.og (fun b e => hk b (fun e2 => h1 (e2 ▸ e))), own_of_block h.os (fun b e => hk b (fun e2 => h2 (e2 ▸ e))), h.ne, h.lie.turn (by omega) (fun b _ ht => ⟨hk b (by omega), ht⟩), h.old.setCell hx _⟩

abbrev got0 : Tx.Got := ⟨[], [], 0, 0⟩

theorem sl_start (Wl : World) : Sl Wl (.slice none 0 0) (.slice none 0 0) [] [] [] Wl :=
  ⟨World.ownsRow_nil _ _ _ _, World.ownsRow_nil _ _ _ _, fun b e => (by cases e), ⟨rfl, fun j hj => absurd hj (by simp)⟩, Below.refl _ _⟩

end Go.Proofs.YtelmkfkgpnadnaaGreatDoor
