/-
  The statement's own small functions: num, sameInts.
-/
import Derived.Test.YtelmkfkgpnadnaaK9
namespace Go.Proofs.Ytelmkfkgpnadnaa
open Go.RowKit

variable {w w' : World} {b n : Nat}

theorem num_any (c : Int) (w : World) : Calls Try.prog 21 #[.int .i64 c] w fun e w' => e = .returned (.int .i64 c) ∧ w' = w := by
  go_enter Try.func21, Try.ntmps21
  go_wp2
  go_ret
  exact ⟨rfl, rfl⟩

set_option maxRecDepth 100000 in
set_option maxHeartbeats 400000 in
/-- Two lists of the same numbers. -/
theorem sameInts_yes (m c1 c2 g1 g2 : Nat) (L : Nat → Nat) (w : World) (hm : m ≤ 100) (h1 : ValsAt w g1 m (fun i => .int .i64 (L i))) (h2 : ValsAt w g2 m (fun i => .int .i64 (L i))) (hl : g1 < w.heap.size ∧ g2 < w.heap.size) :
    Calls Try.prog 25 #[.slice (some ⟨g1, 0, none⟩) m c1, .slice (some ⟨g2, 0, none⟩) m c2] w fun e w' => e = .returned (.bool true) ∧ Below w.heap.size w w' := by
  have H1 : Hid (ValsAt w g1 m (fun i => .int .i64 (L i))) := h1
  have H2 : Hid (ValsAt w g2 m (fun i => .int .i64 (L i))) := h2
  clear h1 h2
  have qm : (((m : Nat) : Int) == (m : Int)) = true := by simp
  go_enter Try.func25, Try.ntmps25
  go_wp2
  go_loopg [5] m (fun gg s wr => ∃ i : Nat, i ≤ m ∧ m - i ≤ gg ∧ s = .int .i64 i ∧ Below w.heap.size w wr)
  case atStart => exact ⟨0, by omega, by omega, rfl, Below.refl _ _⟩
  case round =>
    obtain ⟨i, hi, hg, rfl, hbw⟩ := hrel
    by_cases hin : i < m
    · have a1 := (H1.out.of_block (hbw.block g1 hl.1)).at' i hin
      have a2 := (H2.out.of_block (hbw.block g2 hl.2)).at' i hin
      have hil : ((i : Nat) : Int) < (m : Int) := by omega
      have qn : (((L i : Nat) : Int) == (L i : Int)) = true := by simp
      go_upto_region 6 with fail
      go_region
      go_wp2
      go_roundg (m - (i + 1))
      case measure => omega
      case rel => exact ⟨i + 1, by omega, by omega, by go_num, hbw.drew⟩
    · have hil : (((i : Nat) : Int) < (m : Int)) = False := by simp; omega
      go_wp2
      go_ret
      exact ⟨rfl, hbw⟩

set_option maxHeartbeats 400000 in
/-- Two lists of no numbers. -/
theorem sameInts_none (c1 c2 : Nat) (a1 a2 : Option Addr) (w : World) :
    Calls Try.prog 25 #[.slice a1 0 c1, .slice a2 0 c2] w fun e w' => e = .returned (.bool true) ∧ w' = w := by
  go_enter Try.func25, Try.ntmps25
  go_wp2
  go_loopg [5] 1 (fun _ s wr => s = .int .i64 0 ∧ wr = w)
  case atStart => exact ⟨rfl, rfl⟩
  case round =>
    obtain ⟨rfl, rfl⟩ := hrel
    go_wp2
    go_ret
    exact ⟨rfl, rfl⟩

end Go.Proofs.Ytelmkfkgpnadnaa
