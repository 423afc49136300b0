/-
  The law's own: by node its place; do edges lead from x to y?
-/
import Derived.Test.YtelmkfkgpnadnaaK9
namespace Go.Proofs.Ytelmkfkgpnadnaa
open Go.RowKit

variable {w w' : World} {b n : Nat} {A Pl : Nat → Nat} {E : Nat → Nat → Bool}

def pI (Pl : Nat → Nat) (i v : Nat) : Value := .int .i64 (if Pl v < i then (Pl v : Int) else -1)

theorem info3' : (Try.prog.info? 3).map (fun i => (i.zero, i.size, i.bytes)) = some (some (.int .i64 0), 1, 8) := by kernel_rfl
theorem info4' : (Try.prog.info? 4).map (fun i => (i.zero, i.size, i.bytes)) = some (some (.bool false), 1, 1) := by kernel_rfl
theorem info33' : (Try.prog.info? 33).map (fun i => (i.zero, i.size, i.bytes)) = some (some (.slice none 0 0), 1, 24) := by kernel_rfl

set_option maxRecDepth 100000 in
set_option maxHeartbeats 400000 in
theorem places_any (g c : Nat) (w : World) (O : Kp.Ok n A Pl E) (hn : n ≤ 40) (hg : g < w.heap.size) (hl : ∀ p, p < n → w.cell? ⟨g, p, none⟩ = some (.int .i64 (A p))) :
    Calls Try.prog 8 #[.slice (some ⟨g, 0, none⟩) n c, .int .i64 n] w fun e w' => ∃ q, e = .returned (.tuple #[.slice (some ⟨q, 0, none⟩) n n, .bool true]) ∧ ValsAt w' q n (fun v => .int .i64 (Pl v)) ∧ w.heap.size ≤ q ∧ q < w'.heap.size ∧ Below w.heap.size w w' := by
  have HL : Hid (∀ p, p < n → w.cell? ⟨g, p, none⟩ = some (.int .i64 (A p))) := hl
  have HO : Hid (Kp.Ok n A Pl E) := O
  clear hl O
  go_enter Try.func8, Try.ntmps8
  go_upto_region 2 with (at_make; refine wpList_make_n rfl (.tmp 9) 34 rfl 3 (.int .i64 0) 8 n Try.underlying34 info3' rfl (by decide) hn rfl w.heap.size rfl ?_)
  have hv := vals_new w (.int .i64 0) n 3
  have hB : Below w.heap.size w (w.alloc (.cells (madeCells #[.int .i64 0] n) 3)) := (Below.refl _ _).alloc (Nat.le_refl _) _
  have hsz : (w.alloc (.cells (madeCells #[.int .i64 0] n) 3)).heap.size = w.heap.size + 1 := by simp
  generalize w.alloc (.cells (madeCells #[.int .i64 0] n) 3) = W at *
  have HV : Hid (ValsAt W w.heap.size n fun _ => .int .i64 0) := hv
  clear hv
  go_wp2
  go_loopg [7] n (fun gg s wr => ∃ (k : Nat) (f : Nat → Value), k ≤ n ∧ n - k ≤ gg ∧ s = .int .i64 k ∧ Hid (ValsAt wr w.heap.size n f) ∧ Hid (∀ j, j < k → f j = .int .i64 (-1)) ∧ Below w.heap.size w wr ∧ wr.heap.size = w.heap.size + 1)
  case atStart => exact ⟨0, _, by omega, by omega, rfl, HV, fun j hj => by omega, hB, hsz⟩
  case round =>
    obtain ⟨k, f, hk, hg1, rfl, HV1, HF, hb1, hs1⟩ := hrel
    by_cases hlt : k < n
    · have hc := HV1.out.at' k hlt
      have hf := HV1.out.fr k hlt
      have HV2 : Hid (ValsAt (wr.setCell ⟨w.heap.size, k, none⟩ (.int .i64 (-1))) w.heap.size n (fun j => if j = k then .int .i64 (-1) else f j)) := HV1.out.set hlt _
      have HF2 : Hid (∀ j, j < k + 1 → (fun j => if j = k then Value.int .i64 (-1) else f j) j = .int .i64 (-1)) := fun j hj => by
        by_cases e : j = k
        · simp [e]
        · simp only [if_neg e]; exact HF.out j (by omega)
      go_wp2
      go_roundg (n - (k + 1))
      case measure => omega
      case rel => exact ⟨k + 1, _, by omega, by omega, by go_num, HV2, HF2, hb1.setCell (Nat.le_refl _) _, by simpa [World.setCell] using hs1⟩
    · have hk' : k = n := by omega
      subst hk'
      have HV2 : Hid (ValsAt wr w.heap.size k (pI Pl 0)) := HV1.out.ext fun j hj => by rw [HF.out j hj]; simp [pI]
      go_wp2
      go_loopg [8] k (fun gg s wx => ∃ i : Nat, i ≤ k ∧ k - i ≤ gg ∧ s = .int .i64 i ∧ Hid (ValsAt wx w.heap.size k (pI Pl i)) ∧ Below w.heap.size w wx ∧ wx.heap.size = w.heap.size + 1)
      case atStart => exact ⟨0, by omega, by omega, rfl, HV2, hb1, hs1⟩
      case round =>
        obtain ⟨i, hi, hgi, rfl, HVi, hbi, hsi⟩ := hrel
        by_cases hlt2 : i < k
        · have hA := HO.out.atLt i hlt2
          have hli : wr.cell? ⟨g, i, none⟩ = some (.int .i64 (A i)) := by rw [hbi.cell (p := ⟨g, i, none⟩) hg]; exact HL.out i hlt2
          have hpi := HVi.out.at' (A i) hA
          have e0 : pI Pl i (A i) = .int .i64 (-1) := by unfold pI; rw [HO.out.plAt i hlt2, if_neg (by omega)]
          rw [e0] at hpi
          have hfi := HVi.out.fr (A i) hA
          have HV3 : Hid (ValsAt (wr.setCell ⟨w.heap.size, A i, none⟩ (.int .i64 i)) w.heap.size k (pI Pl (i + 1))) := (HVi.out.set hA (.int .i64 i)).ext fun j hj => by
            unfold pI
            by_cases e : j = A i
            · subst e; rw [if_pos rfl, HO.out.plAt i hlt2, if_pos (by omega)]
            · rw [if_neg e]
              have hne : Pl j ≠ i := fun h => e (by rw [← h, HO.out.atPl j hj])
              by_cases h1 : Pl j < i
              · rw [if_pos h1, if_pos (by omega)]
              · rw [if_neg h1, if_neg (by omega)]
          clear e0
          go_wp2
          go_roundg (k - (i + 1))
          case measure => omega
          case rel => exact ⟨i + 1, by omega, by omega, by go_num, HV3, hbi.setCell (Nat.le_refl _) _, by simpa [World.setCell] using hsi⟩
        · have hi' : i = k := by omega
          subst hi'
          have HV4 : Hid (ValsAt wr w.heap.size i (fun v => .int .i64 (Pl v))) := HVi.out.ext fun j hj => by
            unfold pI; rw [if_pos (HO.out.plLt j hj)]
          go_wp2
          go_ret2
          exact ⟨w.heap.size, by simp, HV4.out, Nat.le_refl _, by omega, hbi⟩

end Go.Proofs.Ytelmkfkgpnadnaa
