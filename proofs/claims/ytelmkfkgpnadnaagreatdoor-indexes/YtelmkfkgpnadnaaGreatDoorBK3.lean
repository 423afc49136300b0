/-
  The law's book: two lists that are the same are told so.
-/
import Derived.Test.YtelmkfkgpnadnaaGreatDoorBK2
import Derived.Deep.LoopGhost
import Derived.Deep.RegionHeld
namespace Go.Proofs.YtelmkfkgpnadnaaGreatDoor
open Go.RowKit
namespace Bk

set_option maxHeartbeats 400000 in
theorem sameTexts_none (c1 c2 : Nat) (a1 a2 : Option Addr) (w : World) :
    Calls Tryz.prog 83 #[.slice a1 0 c1, .slice a2 0 c2] w fun e w' => e = .returned (.bool true) ∧ w' = w := by
  go_enter Tryz.func83, Tryz.ntmps83
  go_wp2
  go_loopg [5] 1 (fun _ s wr => s = .int .i64 0 ∧ wr = w)
  case atStart => exact ⟨rfl, rfl⟩
  case round =>
    obtain ⟨rfl, rfl⟩ := hrel
    go_wp2
    go_ret
    exact ⟨rfl, rfl⟩

set_option maxRecDepth 100000 in
set_option maxHeartbeats 1000000 in
theorem sameTexts_some (g1 g2 m c1 c2 : Nat) (L : Nat → ByteArray) (w : World) (hm : m ≤ 3000) (hl : g1 < w.heap.size ∧ g2 < w.heap.size) (h1 : ∀ i, i < m → w.cell? ⟨g1, i, none⟩ = some (.string (L i))) (h2 : ∀ i, i < m → w.cell? ⟨g2, i, none⟩ = some (.string (L i))) :
    Calls Tryz.prog 83 #[.slice (some ⟨g1, 0, none⟩) m c1, .slice (some ⟨g2, 0, none⟩) m c2] w fun e w' => e = .returned (.bool true) ∧ Below w.heap.size w w' := by
  have H1 : Hid (∀ i, i < m → w.cell? ⟨g1, i, none⟩ = some (.string (L i)) ∧ w.cell? ⟨g2, i, none⟩ = some (.string (L i))) := fun i hi => ⟨h1 i hi, h2 i hi⟩
  clear h1 h2
  have qm : (((m : Nat) : Int) == (m : Int)) = true := by simp
  go_enter Tryz.func83, Tryz.ntmps83
  go_wp2
  go_loopg [5] m (fun gg s wr => ∃ i : Nat, i ≤ m ∧ m - i ≤ gg ∧ s = .int .i64 i ∧ Below w.heap.size w wr)
  case atStart => exact ⟨0, by omega, by omega, rfl, Below.refl _ _⟩
  case round =>
    obtain ⟨i, hi, hg, rfl, hbw⟩ := hrel
    by_cases hin : i < m
    · have a1 : wr.cell? ⟨g1, i, none⟩ = some (.string (L i)) := (hbw.cell (p := ⟨g1, i, none⟩) hl.1).trans (H1.out i hin).1
      have a2 : wr.cell? ⟨g2, i, none⟩ = some (.string (L i)) := (hbw.cell (p := ⟨g2, i, none⟩) hl.2).trans (H1.out i hin).2
      have hil : ((i : Nat) : Int) < (m : Int) := by omega
      generalize L i = x at a1 a2
      have qn : (x.toList == x.toList) = true := by simp
      go_upto_region 6 with fail
      go_region
      go_wp2
      go_roundg (m - (i + 1))
      case measure => omega
      case rel => exact ⟨i + 1, by omega, by omega, by go_num, hbw.drew⟩
    · have hil : (((i : Nat) : Int) < (m : Int)) = False := by simp; omega
      go_wp2
      go_ret
      exact ⟨rfl, hbw⟩

set_option maxHeartbeats 400000 in
theorem sameSlips_none (c1 c2 : Nat) (a1 a2 : Option Addr) (w : World) :
    Calls Tryz.prog 74 #[.slice a1 0 c1, .slice a2 0 c2] w fun e w' => e = .returned (.bool true) ∧ w' = w := by
  go_enter Tryz.func74, Tryz.ntmps74
  go_wp2
  go_loopg [5] 1 (fun _ s wr => s = .int .i64 0 ∧ wr = w)
  case atStart => exact ⟨rfl, rfl⟩
  case round =>
    obtain ⟨rfl, rfl⟩ := hrel
    go_wp2
    go_ret
    exact ⟨rfl, rfl⟩

set_option maxRecDepth 100000 in
set_option maxHeartbeats 1000000 in
theorem sameSlips_some (g1 g2 m c1 c2 : Nat) (L : Nat → Nat × Nat × Nat) (w : World) (hm : m ≤ 3000) (hl : g1 < w.heap.size ∧ g2 < w.heap.size)
    (h1 : ∀ i, i < m → w.cell? ⟨g1, i * 3, none⟩ = some (.int .i64 (L i).1) ∧ w.cell? ⟨g1, i * 3 + 1, none⟩ = some (.int .i64 (L i).2.1) ∧ w.cell? ⟨g1, i * 3 + 2, none⟩ = some (.int .i64 (L i).2.2))
    (h2 : ∀ i, i < m → w.cell? ⟨g2, i * 3, none⟩ = some (.int .i64 (L i).1) ∧ w.cell? ⟨g2, i * 3 + 1, none⟩ = some (.int .i64 (L i).2.1) ∧ w.cell? ⟨g2, i * 3 + 2, none⟩ = some (.int .i64 (L i).2.2)) :
    Calls Tryz.prog 74 #[.slice (some ⟨g1, 0, none⟩) m c1, .slice (some ⟨g2, 0, none⟩) m c2] w fun e w' => e = .returned (.bool true) ∧ Below w.heap.size w w' := by
  have H1 : Hid (∀ W, Below w.heap.size w W → ∀ i, i < m → (W.cell? ⟨g1, i * 3, none⟩ = some (.int .i64 (L i).1) ∧ W.cell? ⟨g1, i * 3 + 1, none⟩ = some (.int .i64 (L i).2.1) ∧ W.cell? ⟨g1, i * 3 + 2, none⟩ = some (.int .i64 (L i).2.2)) ∧ (W.cell? ⟨g2, i * 3, none⟩ = some (.int .i64 (L i).1) ∧ W.cell? ⟨g2, i * 3 + 1, none⟩ = some (.int .i64 (L i).2.1) ∧ W.cell? ⟨g2, i * 3 + 2, none⟩ = some (.int .i64 (L i).2.2))) := fun W hb i hi => by
    obtain ⟨a1, a2, a3⟩ := h1 i hi
    obtain ⟨b1, b2, b3⟩ := h2 i hi
    exact ⟨⟨(hb.cell (p := ⟨g1, i * 3, none⟩) hl.1).trans a1, (hb.cell (p := ⟨g1, i * 3 + 1, none⟩) hl.1).trans a2, (hb.cell (p := ⟨g1, i * 3 + 2, none⟩) hl.1).trans a3⟩, ⟨(hb.cell (p := ⟨g2, i * 3, none⟩) hl.2).trans b1, (hb.cell (p := ⟨g2, i * 3 + 1, none⟩) hl.2).trans b2, (hb.cell (p := ⟨g2, i * 3 + 2, none⟩) hl.2).trans b3⟩⟩
  clear h1 h2
  have qm : (((m : Nat) : Int) == (m : Int)) = true := by simp
  go_enter Tryz.func74, Tryz.ntmps74
  go_wp2
  go_loopg [5] m (fun gg s wr => ∃ i : Nat, i ≤ m ∧ m - i ≤ gg ∧ s = .int .i64 i ∧ Below w.heap.size w wr)
  case atStart => exact ⟨0, by omega, by omega, rfl, Below.refl _ _⟩
  case round =>
    obtain ⟨i, hi, hg, rfl, hbw⟩ := hrel
    by_cases hin : i < m
    · obtain ⟨⟨a1, a2, a3⟩, b1, b2, b3⟩ := H1.out wr hbw i hin
      have hil : ((i : Nat) : Int) < (m : Int) := by omega
      generalize (L i).1 = x at a1 b1
      generalize (L i).2.1 = y at a2 b2
      generalize (L i).2.2 = z at a3 b3
      have q1 : ((x : Int) == (x : Int)) = true := by simp
      have q2 : ((y : Int) == (y : Int)) = true := by simp
      have q3 : ((z : Int) == (z : Int)) = true := by simp
      go_upto_region 6 with fail
      go_region
      go_wp2
      go_roundg (m - (i + 1))
      case measure => omega
      case rel => exact ⟨i + 1, by omega, by omega, by go_num, hbw.drew⟩
    · have hil : (((i : Nat) : Int) < (m : Int)) = False := by simp; omega
      go_wp2
      go_ret
      exact ⟨rfl, hbw⟩

end Bk
end Go.Proofs.YtelmkfkgpnadnaaGreatDoor
