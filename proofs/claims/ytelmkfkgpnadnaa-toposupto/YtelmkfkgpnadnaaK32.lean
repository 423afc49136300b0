/-
  The law's looks: does every list read as its owner wrote it?
-/
import Derived.Test.YtelmkfkgpnadnaaK26
namespace Go.Proofs.Ytelmkfkgpnadnaa
open Go.RowKit

variable {w w' : World}

set_option maxRecDepth 100000 in
set_option maxHeartbeats 1000000 in
theorem looks_none (ob : Nat) (w : World) (h2 : w.cell? ⟨ob, 2, none⟩ = some (.slice none 0 0)) :
    Calls Try.prog 15 #[.pointer (some ⟨ob, 0, none⟩)] w fun e w' => e = .returned (.bool true) ∧ w' = w := by
  go_enter Try.func15, Try.ntmps15
  go_wp2
  go_loopg [3] 1 (fun _ s wr => s = .int .i64 0 ∧ wr = w)
  case atStart => exact ⟨rfl, rfl⟩
  case round =>
    obtain ⟨rfl, rfl⟩ := hrel
    go_wp2
    go_ret
    exact ⟨rfl, rfl⟩

set_option maxRecDepth 100000 in
set_option maxHeartbeats 4000000 in
theorem looks_some (ob lb k cap : Nat) (xs : List Value) (B : Int → Nat → Nat → Prop) (w : World) (h2 : w.cell? ⟨ob, 2, none⟩ = some (.slice (some ⟨lb, 0, none⟩) k cap)) (hown : w.ownsRow 0 73 2 (.slice (some ⟨lb, 0, none⟩) k cap) k xs) (hl : AllLie w B k xs) (hk : k ≤ 1099511627776) :
    Calls Try.prog 15 #[.pointer (some ⟨ob, 0, none⟩)] w fun e w' => e = .returned (.bool true) ∧ Below w.heap.size w w' := by
  have hobl : ob < w.heap.size := World.block_lt_of_cell? w _ h2
  have hlbl : lb < w.heap.size := (hown.lt lb rfl).2
  have HL : Hid (∀ j, j < k → ∃ (g m c2 : Nat) (c : Int), w.cell? ⟨lb, j * 2, none⟩ = some (.slice (some ⟨g, 0, none⟩) m c2) ∧ w.cell? ⟨lb, j * 2 + 1, none⟩ = some (.int .i64 c) ∧ m ≤ 100 ∧ g < w.heap.size ∧ Reads w g m c) := fun j hj => by
    obtain ⟨s, c, x1, x2, g, m, c2, rfl, hm, hg, hr, _⟩ := hl j hj
    exact ⟨g, m, c2, c, by rw [hown.cellAt (j * 2) (by omega)]; exact x1, by rw [hown.cellAt (j * 2 + 1) (by omega)]; exact x2, hm, hg, hr⟩
  have H2 : Hid (w.cell? ⟨ob, 2, none⟩ = some (.slice (some ⟨lb, 0, none⟩) k cap)) := h2
  clear hown hl h2
  go_enter Try.func15, Try.ntmps15
  go_wp2
  go_loopg [3] k (fun gg s wr => ∃ j : Nat, j ≤ k ∧ k - j ≤ gg ∧ s = .int .i64 j ∧ Below w.heap.size w wr)
  case atStart => exact ⟨0, by omega, by omega, rfl, Below.refl _ _⟩
  case round =>
    obtain ⟨j, hj, hgj, rfl, hbw⟩ := hrel
    have q2 : wr.cell? ⟨ob, 2, none⟩ = some (.slice (some ⟨lb, 0, none⟩) k cap) := by rw [hbw.cell (p := ⟨ob, 2, none⟩) hobl]; exact H2.out
    by_cases hlt : j < k
    · obtain ⟨g, m, c2, c, x1, x2, hm, hgs, hr⟩ := HL.out j hlt
      have hltI : (j : Int) < (k : Int) := by omega
      have HX : Hid (w.cell? ⟨lb, j * 2, none⟩ = some (.slice (some ⟨g, 0, none⟩) m c2) ∧ w.cell? ⟨lb, j * 2 + 1, none⟩ = some (.int .i64 c) ∧ Reads w g m c) := ⟨x1, x2, hr⟩
      clear x1 x2 hr
      go_wp2
      go_loopg [4] m (fun gg s wx => ∃ z : Nat, z ≤ m ∧ m - z ≤ gg ∧ s = .int .i64 z ∧ Below w.heap.size w wx)
      case atStart => exact ⟨0, by omega, by omega, rfl, hbw⟩
      case round =>
        clear q2 hbw
        obtain ⟨z, hz, hgz, rfl, hbx⟩ := hrel
        have p2 : wr.cell? ⟨ob, 2, none⟩ = some (.slice (some ⟨lb, 0, none⟩) k cap) := by rw [hbx.cell (p := ⟨ob, 2, none⟩) hobl]; exact H2.out
        have p3 : wr.cell? ⟨lb, j * 2, none⟩ = some (.slice (some ⟨g, 0, none⟩) m c2) := by rw [hbx.cell (p := ⟨lb, j * 2, none⟩) hlbl]; exact HX.out.1
        have p4 : wr.cell? ⟨lb, j * 2 + 1, none⟩ = some (.int .i64 c) := by rw [hbx.cell (p := ⟨lb, j * 2 + 1, none⟩) hlbl]; exact HX.out.2.1
        by_cases hlz : z < m
        · have p5 : wr.cell? ⟨g, z, none⟩ = some (.int .i64 c) := by rw [hbx.cell (p := ⟨g, z, none⟩) hgs]; exact HX.out.2.2 z hlz
          have hlzI : (z : Int) < (m : Int) := by omega
          have hq : (c != c) = false := by simp
          go_upto_region 7 with fail
          go_region
          go_wp2
          go_roundg (m - (z + 1))
          case measure => omega
          case rel => exact ⟨z + 1, by omega, by omega, by go_num, hbx.drew⟩
        · have hlzI : ((z : Int) < (m : Int)) = False := by simp; omega
          go_wp2
          go_roundg (k - (j + 1))
          case measure => omega
          case rel => exact ⟨j + 1, by omega, by omega, by go_num, hbx⟩
    · have hltI : ((j : Int) < (k : Int)) = False := by simp; omega
      go_wp2
      go_ret
      exact ⟨rfl, hbw⟩

end Go.Proofs.Ytelmkfkgpnadnaa
