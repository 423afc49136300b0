/-
  The law's book: the text for a number; two lists that are the same.
  The law's book: two lists that are the same are told so.
  The law's book: a list of texts came out.
  The law's book: a list of slips came out.
  The law's book: one Index.
-/
import Derived.Test.YtelmkfkgpnadnaaGreatDoorKGA
import Derived.Test.YtelmkfkgpnadnaaGreatDoorKI2
import Derived.Laws.IdiomStrings
import Derived.Deep.LoopGhost
import Derived.Deep.RegionHeld
import Derived.Deep.RegionHeldLaw
import Derived.Deep.RegionLaw
import Derived.Deep.AppendLies
import Derived.Deep.DeepCutAuto
import Derived.Test.YtelmkfkgpnadnaaGreatDoorKXA
namespace Go.Proofs.YtelmkfkgpnadnaaGreatDoor
open Go.RowKit
namespace Bk

theorem info5b : ∃ i, Tryz.prog.info? 5 = some i ∧ i.zero = some (.int .u8 0) ∧ i.size = 1 ∧ i.bytes = 1 := by
  have h : (Tryz.prog.info? 5).map (fun i => (i.zero, i.size, i.bytes)) = some (some (.int .u8 0), 1, 1) := by kernel_rfl
  rw [Option.map_eq_some_iff] at h
  obtain ⟨i, h1, h2⟩ := h
  simp only [Prod.mk.injEq] at h2
  exact ⟨i, h1, h2.1, h2.2.1, h2.2.2⟩

theorem new_block (w : World) (o : Obj) : (w.alloc o).heap[w.heap.size]? = some o := by
  show (w.heap.push o)[w.heap.size]? = _
  simp

theorem own_hash (w : World) : (w.alloc (.cells #[.int .u8 35] 5)).ownsRow w.heap.size 5 1 (.slice (some ⟨w.heap.size, 0, none⟩) 1 1) 1 [.int .u8 35] := by
  refine ⟨rfl, .inr ⟨w.heap.size, 1, _, rfl, Nat.le_refl _, new_block w _, Nat.le_refl _, by decide, rfl, rfl⟩⟩

end Bk
end Go.Proofs.YtelmkfkgpnadnaaGreatDoor

namespace Go.Proofs.YtelmkfkgpnadnaaGreatDoor
open Go.RowKit
namespace Bk

set_option maxHeartbeats 400000 in
theorem sameSlips_none (c1 c2 : Nat) (a1 a2 : Option Addr) (w : World) :
    Calls Tryz.prog 74 #[.slice a1 0 c1, .slice a2 0 c2] w fun e w' => e = .returned (.bool true) ∧ w' = w := by
  go_enter Tryz.func74, Tryz.ntmps74
  go_wp2
  go_loopg [5] 1 (fun _ s wr => s = .int .i64 0 ∧ wr = w)
  case atStart => exact ⟨rfl, rfl⟩
  case round =>
    obtain ⟨rfl, rfl⟩ := hrel
    go_wp2
    go_ret
    exact ⟨rfl, rfl⟩

set_option maxRecDepth 100000 in
set_option maxHeartbeats 1000000 in
theorem sameSlips_some (g1 g2 m c1 c2 : Nat) (L : Nat → Nat × Nat × Nat) (w : World) (hm : m ≤ 3000) (hl : g1 < w.heap.size ∧ g2 < w.heap.size)
    (h1 : ∀ i, i < m → w.cell? ⟨g1, i * 3, none⟩ = some (.int .i64 (L i).1) ∧ w.cell? ⟨g1, i * 3 + 1, none⟩ = some (.int .i64 (L i).2.1) ∧ w.cell? ⟨g1, i * 3 + 2, none⟩ = some (.int .i64 (L i).2.2))
    (h2 : ∀ i, i < m → w.cell? ⟨g2, i * 3, none⟩ = some (.int .i64 (L i).1) ∧ w.cell? ⟨g2, i * 3 + 1, none⟩ = some (.int .i64 (L i).2.1) ∧ w.cell? ⟨g2, i * 3 + 2, none⟩ = some (.int .i64 (L i).2.2)) :
    Calls Tryz.prog 74 #[.slice (some ⟨g1, 0, none⟩) m c1, .slice (some ⟨g2, 0, none⟩) m c2] w fun e w' => e = .returned (.bool true) ∧ Below w.heap.size w w' := by
  have H1 : Hid (∀ W, Below w.heap.size w W → ∀ i, i < m → (W.cell? ⟨g1, i * 3, none⟩ = some (.int .i64 (L i).1) ∧ W.cell? ⟨g1, i * 3 + 1, none⟩ = some (.int .i64 (L i).2.1) ∧ W.cell? ⟨g1, i * 3 + 2, none⟩ = some (.int .i64 (L i).2.2)) ∧ (W.cell? ⟨g2, i * 3, none⟩ = some (.int .i64 (L i).1) ∧ W.cell? ⟨g2, i * 3 + 1, none⟩ = some (.int .i64 (L i).2.1) ∧ W.cell? ⟨g2, i * 3 + 2, none⟩ = some (.int .i64 (L i).2.2))) := fun W hb i hi => by
    obtain ⟨a1, a2, a3⟩ := h1 i hi
    obtain ⟨b1, b2, b3⟩ := h2 i hi
    exact ⟨⟨(hb.cell (p := ⟨g1, i * 3, none⟩) hl.1).trans a1, (hb.cell (p := ⟨g1, i * 3 + 1, none⟩) hl.1).trans a2, (hb.cell (p := ⟨g1, i * 3 + 2, none⟩) hl.1).trans a3⟩, ⟨(hb.cell (p := ⟨g2, i * 3, none⟩) hl.2).trans b1, (hb.cell (p := ⟨g2, i * 3 + 1, none⟩) hl.2).trans b2, (hb.cell (p := ⟨g2, i * 3 + 2, none⟩) hl.2).trans b3⟩⟩
  clear h1 h2
  have qm : (((m : Nat) : Int) == (m : Int)) = true := by simp
  go_enter Tryz.func74, Tryz.ntmps74
  go_wp2
  go_loopg [5] m (fun gg s wr => ∃ i : Nat, i ≤ m ∧ m - i ≤ gg ∧ s = .int .i64 i ∧ Below w.heap.size w wr)
  case atStart => exact ⟨0, by omega, by omega, rfl, Below.refl _ _⟩
  case round =>
    obtain ⟨i, hi, hg, rfl, hbw⟩ := hrel
    by_cases hin : i < m
    · obtain ⟨⟨a1, a2, a3⟩, b1, b2, b3⟩ := H1.out wr hbw i hin
      have hil : ((i : Nat) : Int) < (m : Int) := by omega
      generalize (L i).1 = x at a1 b1
      generalize (L i).2.1 = y at a2 b2
      generalize (L i).2.2 = z at a3 b3
      have q1 : ((x : Int) == (x : Int)) = true := by simp
      have q2 : ((y : Int) == (y : Int)) = true := by simp
      have q3 : ((z : Int) == (z : Int)) = true := by simp
      go_upto_region 6 with fail
      go_region
      go_wp2
      go_roundg (m - (i + 1))
      case measure => omega
      case rel => exact ⟨i + 1, by omega, by omega, by go_num, hbw.drew⟩
    · have hil : (((i : Nat) : Int) < (m : Int)) = False := by simp; omega
      go_wp2
      go_ret
      exact ⟨rfl, hbw⟩

end Bk
end Go.Proofs.YtelmkfkgpnadnaaGreatDoor

namespace Go.Proofs.YtelmkfkgpnadnaaGreatDoor
open Go.RowKit
namespace Bk

variable {w w' : World}

variable {rT eT : TypeId} {fo : Nat} {el : List Value} {w0 wr : World} {ob k m i : Nat} {F : Nat → Value} {lv v : Value} {xs ys : List Value} {E : Int → List Value} {q : Int}

/-- A field that may be read and written. -/
def Fl (W : World) (b o : Nat) (u : Value) : Prop := W.cell? ⟨b, o, none⟩ = some u ∧ W.frozen? ⟨b, o, none⟩ = false

theorem Fl.of_block {W W' : World} {b o : Nat} {u : Value} (h : Fl W b o u) (e : W'.heap[b]? = W.heap[b]?) : Fl W' b o u :=
  ⟨by rw [World.cell?_of_block (w := W) (a := ⟨b, o, none⟩) e]; exact h.1, by rw [World.frozen?_of_block (w := W) (a := ⟨b, o, none⟩) e]; exact h.2⟩

theorem own_sl {e : TypeId} {B sz n : Nat} {u : Value} {l : List Value} (h : w.ownsRow B e sz u n l) : u = .slice none 0 0 ∧ n = 0 ∨ ∃ g c, u = .slice (some ⟨g, 0, none⟩) n c := by
  rcases h.2 with ⟨e1, e2⟩ | ⟨g, c, _, e1, _⟩
  · exact Or.inl ⟨e1, e2⟩
  · exact Or.inr ⟨g, c, e1⟩

theorem own_sl' {e : TypeId} {B sz n : Nat} {u : Value} {l : List Value} (h : w.ownsRow B e sz u n l) : ∃ a c, u = .slice a n c := by
  rcases own_sl h with ⟨e1, e2⟩ | ⟨g, c, e1⟩
  · exact ⟨none, 0, by rw [e1, e2]⟩
  · exact ⟨_, _, e1⟩

end Bk
end Go.Proofs.YtelmkfkgpnadnaaGreatDoor

namespace Go.Proofs.YtelmkfkgpnadnaaGreatDoor
open Go.RowKit
namespace Bk

variable {w w' : World}

theorem wrap_id (x : Int) (h : -9223372036854775808 ≤ x) (h' : x ≤ 9223372036854775807) : IntKind.i64.wrap x = x := by
  simp [IntKind.wrap, IntKind.bits, IntKind.signed]; omega

variable {rT eT : TypeId} {fo : Nat} {el : List Value} {w0 w1 wr : World} {ob k m i j mj : Nat} {F : Nat → Value} {lv v lv0 v0 gv : Value} {xs ys : List Value} {E : Int → List Value} {q : Int}

theorem cell_three (w : World) (a b c : Value) (t : TypeId) : ∀ j u, [a, b, c][j]? = some u → (w.alloc (.cells #[a, b, c] t)).cell? ((⟨w.heap.size, 0, none⟩ : Addr).add j) = some u := by
  intro j u h
  match j, h with
  | 0, h => simp at h; subst h; simp [Addr.add]
  | 1, h => simp at h; subst h; simp [Addr.add]
  | 2, h => simp at h; subst h; simp [Addr.add]

end Bk
end Go.Proofs.YtelmkfkgpnadnaaGreatDoor

namespace Go.Proofs.YtelmkfkgpnadnaaGreatDoor
open Go.RowKit
namespace Bk

variable {w w' : World}

theorem scells_get : ∀ (l : List (Nat × Nat × Nat)) (i : Nat) (_ : i < l.length), (scells l)[i * 3]? = some (.int .i64 (l.getD i (0, 0, 0)).1) ∧ (scells l)[i * 3 + 1]? = some (.int .i64 (l.getD i (0, 0, 0)).2.1) ∧ (scells l)[i * 3 + 2]? = some (.int .i64 (l.getD i (0, 0, 0)).2.2)
  | x :: r, 0, _ => ⟨rfl, rfl, rfl⟩
  | x :: r, i + 1, h => by
    have e : scells (x :: r) = .int .i64 x.1 :: .int .i64 x.2.1 :: .int .i64 x.2.2 :: scells r := rfl
    have ih := scells_get r i (by simpa using h)
    rw [e]
    refine ⟨?_, ?_, ?_⟩
    · rw [show (i + 1) * 3 = i * 3 + 1 + 1 + 1 by omega]; simpa using ih.1
    · rw [show (i + 1) * 3 + 1 = i * 3 + 1 + 1 + 1 + 1 by omega]; simpa using ih.2.1
    · rw [show (i + 1) * 3 + 2 = i * 3 + 2 + 1 + 1 + 1 by omega]; simpa using ih.2.2

theorem sameSlips_rows (l : List (Nat × Nat × Nat)) (a b : Value) (A B : Nat) (w : World) (hl : l.length ≤ 3000) (h1 : w.ownsRow A 45 3 a l.length (scells l)) (h2 : w.ownsRow B 45 3 b l.length (scells l)) :
    Calls Tryz.prog 74 #[a, b] w fun e w' => e = .returned (.bool true) ∧ Below w.heap.size w w' := by
  by_cases h0 : l.length = 0
  · obtain ⟨x, c, rfl⟩ := own_sl' h1
    obtain ⟨y, d, rfl⟩ := own_sl' h2
    rw [h0]
    refine (sameSlips_none c d x y w).mono ?_
    rintro e w' ⟨rfl, rfl⟩
    exact ⟨rfl, Below.refl _ _⟩
  · obtain ⟨g, c, rfl⟩ := own_some h1 (by omega)
    obtain ⟨k, d, rfl⟩ := own_some h2 (by omega)
    refine sameSlips_some g k l.length c d (fun i => l.getD i (0, 0, 0)) w hl ⟨(h1.lt g rfl).2, (h2.lt k rfl).2⟩ (fun i hi => ?_) (fun i hi => ?_)
    · have h := scells_get l i hi
      exact ⟨by rw [h1.cellAt _ (by omega)]; exact h.1, by rw [h1.cellAt _ (by omega)]; exact h.2.1, by rw [h1.cellAt _ (by omega)]; exact h.2.2⟩
    · have h := scells_get l i hi
      exact ⟨by rw [h2.cellAt _ (by omega)]; exact h.1, by rw [h2.cellAt _ (by omega)]; exact h.2.1, by rw [h2.cellAt _ (by omega)]; exact h.2.2⟩

variable {w0 : World} {T T' : Nat → Nat} {bp n ks kn : Nat} {ls ln : Value} {xs xn : List Value}

end Bk
end Go.Proofs.YtelmkfkgpnadnaaGreatDoor
