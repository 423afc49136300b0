/-
  strings.SplitN at one separator of one byte, however long the text is.
-/
import Derived.Test.YtiamomiafekihaaGreatDoorN1
import Derived.Test.YtiamomiafekihaaGreatDoorW11
import Derived.Deep.OwnRows
import Derived.Lib.CutLaws
namespace Go.Proofs.YtiamomiafekihaaGreatDoor
open Go.RowKit

theorem indexSlash (x : ByteArray) (W : World) : Calls Tryz.prog 133 #[.string x, .string ⟨#[47]⟩] W fun e w' => e = .returned (.int .i64 (Lib.indexB x ⟨#[47]⟩)) ∧ w' = W := by
  refine (Tryz.strings_Index_one x 47 W).mono fun e w' ⟨he, hw⟩ => ⟨?_, hw⟩
  rw [he, ← Lib.index_one]

set_option maxRecDepth 100000 in
set_option maxHeartbeats 4000000 in
theorem genSplit_slash (s : ByteArray) (w : World) (N : Nat) (hN : N = min 4 (s.size + 1)) (hs : s.size < 281474976710656) :
    Calls Tryz.prog 105 #[.string s, .string ⟨#[47]⟩, .int .i64 0, .int .i64 4] w fun e w' => e = .returned (.slice (some ⟨w.heap.size, 0, none⟩) (Lib.splitB ⟨#[47]⟩ 0 (N - 1) s).length N) ∧ w' = w.alloc (.cells (Lib.cellsOf (Lib.splitB ⟨#[47]⟩ 0 (N - 1) s) N) 9) := by
  have hN1 : 1 ≤ N := by omega
  have hN4 : N ≤ 4 := by omega
  have eN : min (4 : Int) ((s.size : Int) + 1) = (N : Int) := by omega
  clear hN
  have hmk := run_make_row' (P := Tryz.prog) _ _ (.string ByteArray.empty) 16 Tryz.underlying57 (by kernel_rfl) rfl .i64 .i64 N (by omega) (by omega)
  have hse : (ByteArray.mk #[47]).toList.isEmpty = false := by rw [Lib.toList_data]; rfl
  have h1 : (ByteArray.mk #[47]).size = 1 := rfl
  go_enter Tryz.func105, Tryz.ntmps105
  go_wp2
  clear hmk
  go_loopg [0, 10] (N - 1) (fun g s0 s10 wr => ∃ (d : List ByteArray) (x : ByteArray), s0 = .string x ∧ s10 = .int .i64 d.length ∧ d.length ≤ N - 1 ∧ g = N - 1 - d.length ∧ x.size ≤ s.size ∧
    wr = w.alloc (.cells (Lib.cellsOf d N) 9) ∧ Hid (d ++ Lib.splitB ⟨#[47]⟩ 0 (N - 1 - d.length) x = Lib.splitB ⟨#[47]⟩ 0 (N - 1) s))
  case atStart => exact ⟨[], s, rfl, rfl, Nat.zero_le _, rfl, Nat.le_refl _, by rw [Lib.cellsOf_nil], rfl⟩
  case round =>
    obtain ⟨d, x, rfl, rfl, hd, rfl, hx, rfl, HS⟩ := hrel
    have hnx : (Lib.cellsOf d N)[d.length]? = some (.string ByteArray.empty) := Lib.cellsOf_next (by omega)
    have fin : Lib.splitB ⟨#[47]⟩ 0 (N - 1 - d.length) x = [x] → (Lib.splitB ⟨#[47]⟩ 0 (N - 1) s).length = d.length + 1 ∧ (Lib.cellsOf d N).setIfInBounds d.length (.string x) = Lib.cellsOf (Lib.splitB ⟨#[47]⟩ 0 (N - 1) s) N := fun h => by
      have e := HS.out
      rw [h] at e
      rw [← e]
      exact ⟨by simp, Lib.cellsOf_set (by omega) x⟩
    by_cases hlt : d.length < N - 1
    · have hlz : ((d.length : Nat) : Int) < (N : Int) - 1 := by omega
      have hI := indexSlash x (w.alloc (.cells (Lib.cellsOf d N) 9))
      rcases Lib.indexB_cases x ⟨#[47]⟩ with hix | ⟨i, hix, hr⟩
      · rw [hix] at hI
        go_wp2_with (go_at_call 133; refine hI.mono ?_; rintro e w' ⟨rfl, rfl⟩)
        go_ret
        obtain ⟨f1, f2⟩ := fin (Lib.splitB_miss _ 0 _ x hix)
        rw [f1, ← f2]
        exact ⟨by first | rfl | (congr 2 <;> omega), rfl⟩
      · rw [hix] at hI
        have hr : i + 1 ≤ x.size := hr
        have c0 : ¬ ((i : Int) < 0) := by omega
        have c2 : (i : Int) ≤ (x.size : Int) := by omega
        have c3 : (0 : Int) ≤ (i : Int) + 1 := by omega
        have c4 : (i : Int) + 1 ≤ (x.size : Int) := by omega
        go_wp2_with (go_at_call 133; refine hI.mono ?_; rintro e w' ⟨rfl, rfl⟩)
        go_roundg (N - 1 - (d.length + 1))
        case measure => omega
        case rel =>
          refine ⟨d ++ [x.extract 0 (i + 0)], x.extract (i + 1) x.size, rfl, by simp, by simp; omega, by simp, by rw [ByteArray.size_extract]; omega, by rw [← Lib.cellsOf_set (by omega)]; rfl, ?_⟩
          show _ = _
          rw [← HS.out, show N - 1 - d.length = (N - 1 - (d.length + 1)) + 1 by omega, Lib.splitB_hit ⟨#[47]⟩ 0 _ x i hix]
          simp [h1]
    · have hlz : ¬ (((d.length : Nat) : Int) < (N : Int) - 1) := by omega
      go_wp2
      go_ret
      obtain ⟨f1, f2⟩ := fin (by rw [show N - 1 - d.length = 0 by omega]; rfl)
      rw [f1, ← f2]
      exact ⟨by first | rfl | (congr 2 <;> omega), rfl⟩

set_option maxRecDepth 100000 in
theorem splitN_slash (s : ByteArray) (w : World) (hs : s.size < 281474976710656) :
    Calls Tryz.prog 75 #[.string s, .string ⟨#[47]⟩, .int .i64 4] w fun e w' => e = .returned (.slice (some ⟨w.heap.size, 0, none⟩) (Lib.splitB ⟨#[47]⟩ 0 (min 4 (s.size + 1) - 1) s).length (min 4 (s.size + 1))) ∧ w' = w.alloc (.cells (Lib.cellsOf (Lib.splitB ⟨#[47]⟩ 0 (min 4 (s.size + 1) - 1) s) (min 4 (s.size + 1))) 9) := by
  have k := genSplit_slash s w _ rfl hs
  go_enter Tryz.func75, Tryz.ntmps75
  go_wp2_with (go_at_call 105; refine k.mono ?_; rintro e w' ⟨rfl, rfl⟩)
  go_ret
  exact ⟨rfl, rfl⟩

end Go.Proofs.YtiamomiafekihaaGreatDoor
