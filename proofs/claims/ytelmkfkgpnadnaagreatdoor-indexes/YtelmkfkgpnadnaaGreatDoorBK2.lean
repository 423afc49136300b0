/-
  The law's book: the text for a number; two lists that are the same.
-/
import Derived.Test.YtelmkfkgpnadnaaGreatDoorBK1
import Derived.Test.YtelmkfkgpnadnaaGreatDoorI2
import Derived.Laws.IdiomStrings
namespace Go.Proofs.YtelmkfkgpnadnaaGreatDoor
open Go.RowKit
namespace Bk

def wordB (c : Nat) : ByteArray := ⟨#[35, UInt8.ofNat (48 + c)]⟩

theorem info5b : ∃ i, Tryz.prog.info? 5 = some i ∧ i.zero = some (.int .u8 0) ∧ i.size = 1 ∧ i.bytes = 1 := by
  have h : (Tryz.prog.info? 5).map (fun i => (i.zero, i.size, i.bytes)) = some (some (.int .u8 0), 1, 1) := by kernel_rfl
  rw [Option.map_eq_some_iff] at h
  obtain ⟨i, h1, h2⟩ := h
  simp only [Prod.mk.injEq] at h2
  exact ⟨i, h1, h2.1, h2.2.1, h2.2.2⟩

theorem new_block (w : World) (o : Obj) : (w.alloc o).heap[w.heap.size]? = some o := by
  show (w.heap.push o)[w.heap.size]? = _
  simp

theorem own_hash (w : World) : (w.alloc (.cells #[.int .u8 35] 5)).ownsRow w.heap.size 5 1 (.slice (some ⟨w.heap.size, 0, none⟩) 1 1) 1 [.int .u8 35] := by
  refine ⟨rfl, .inr ⟨w.heap.size, 1, _, rfl, Nat.le_refl _, new_block w _, Nat.le_refl _, by decide, rfl, rfl⟩⟩

theorem conv_word (wr : World) (B g cap c : Nat) (hc : c ≤ 9) (h : wr.ownsRow B 5 1 (.slice (some ⟨g, 0, none⟩) 2 cap) 2 [.int .u8 35, .int .u8 ((48 + c : Nat) : Int)]) : (convert 103 9 (Value.slice (some ⟨g, 0, none⟩) 2 cap)).run Tryz.prog wr = .ok (.string (wordB c)) wr := by
  refine run_convert_bytes_back (P := Tryz.prog) wr 103 9 5 ⟨g, 0, none⟩ cap [35, UInt8.ofNat (48 + c)] Tryz.underlying103 Tryz.underlying5 Tryz.underlying9 ?_
  have hd : ((UInt8.ofNat (48 + c)).toNat : Int) = ((48 + c : Nat) : Int) := by
    rw [UInt8.toNat_ofNat']; omega
  intro j hj
  match j, hj with
  | 0, _ => have := h.cells (g := g) rfl 0 _ rfl; exact this
  | 1, _ =>
    have := h.cells (g := g) rfl 1 _ rfl
    simp only [List.getElem_cons_succ, List.getElem_cons_zero]
    rw [hd]
    exact this

set_option maxRecDepth 100000 in
set_option maxHeartbeats 1000000 in
theorem word_any (c : Nat) (h1 : 1 ≤ c) (h9 : c ≤ 9) (w : World) :
    Calls Tryz.prog 78 #[.int .i64 c] w fun e w' => e = .returned (.string (wordB c)) ∧ Below w.heap.size w w' := by
  obtain ⟨i9, hi1, hi2, hi3, hi4⟩ := info5b
  have HI : Hid (Tryz.prog.info? 5 = some i9 ∧ i9.zero = some (.int .u8 0) ∧ i9.size = 1 ∧ i9.bytes = 1) := ⟨hi1, hi2, hi3, hi4⟩
  clear hi1 hi2 hi3 hi4
  go_enter Tryz.func78, Tryz.ntmps78
  go_wp2
  go_loopg [0, 3] 2 (fun gg nv v wr => ∃ m : Nat, nv = .int .i64 m ∧ Below w.heap.size w wr ∧ ((m = c ∧ 2 ≤ gg ∧ Hid (wr.ownsRow w.heap.size 5 1 v 1 [.int .u8 35])) ∨ (m = 0 ∧ Hid (∃ g cap, v = .slice (some ⟨g, 0, none⟩) 2 cap ∧ wr.ownsRow w.heap.size 5 1 v 2 [.int .u8 35, .int .u8 ((48 + c : Nat) : Int)]))))
  case atStart => exact ⟨c, rfl, (Below.refl _ _).alloc (Nat.le_refl _) _, Or.inl ⟨rfl, Nat.le_refl _, own_hash w⟩⟩
  case round =>
    obtain ⟨m, rfl, hb, hx⟩ := hrel
    rcases hx with ⟨rfl, hg, HO⟩ | ⟨rfl, HO⟩
    · have hmI : (0 : Int) < (m : Int) := by omega
      have hw : IntKind.u8.wrap (48 + (m : Int) % 10) = ((48 + m : Nat) : Int) := by
        have : (m : Int) % 10 = m := by omega
        rw [this]
        simp [IntKind.wrap, IntKind.bits, IntKind.signed]
        omega
      have hd : m / 10 = 0 := by omega
      go_wp2_with (at_builtin; refine wpList_append_own_at _ rfl _ _ 103 rfl w.heap.size 5 i9 (.int .u8 0) 1 1 Tryz.underlying103 HI.out.1 HI.out.2.1 HI.out.2.2.1 HI.out.2.2.2 rfl (by decide) _ _ _ rfl (HO.out.alloc _) ⟨wr.heap.size, 0, none⟩ 1 1 [.int .u8 ((48 + m : Nat) : Int)] rfl rfl ?_ ?_ ?_ ?_ ?_ ?_)
      all_goals first
        | exact cell_one_new _ _ _
        | (show ∀ u ∈ [Value.int .u8 ((48 + m : Nat) : Int)], u.oneCell' = true; intro u hu; simp at hu; subst hu; rfl)
        | (show 1 + 1 ≤ maxLen; unfold maxLen; omega)
        | (show (1 + 1) * 1 ≤ 140737488355328; omega)
        | (show w.heap.size ≤ (wr.alloc _).heap.size; have := hb.size; simp; omega)
        | skip
      intro v' w1 hown' hgrow _ _
      obtain ⟨g1, cap1, rfl⟩ := own_some hown' (by omega)
      have hb1 : Below w.heap.size w w1 := (hb.alloc hb.size _).grown hgrow (by have := hb.size; simp; omega) (fun b e => (HO.out.lt b e).1)
      have HO1 : Hid (∃ g cap, Value.slice (some ⟨g1, 0, none⟩) 2 cap1 = .slice (some ⟨g, 0, none⟩) 2 cap ∧ w1.ownsRow w.heap.size 5 1 (.slice (some ⟨g1, 0, none⟩) 2 cap1) 2 [.int .u8 35, .int .u8 ((48 + m : Nat) : Int)]) := ⟨g1, cap1, rfl, hown'⟩
      clear hown' hgrow HO
      go_wp2
      go_roundg 1
      case measure => omega
      case rel => exact ⟨0, by go_num, hb1, Or.inr ⟨rfl, HO1⟩⟩
    · obtain ⟨g, cap, rfl, hown⟩ := HO.out
      have hcw := conv_word wr _ g cap c h9 hown
      clear hown HO
      go_wp2
      go_ret
      exact ⟨rfl, hb⟩

end Bk
end Go.Proofs.YtelmkfkgpnadnaaGreatDoor
