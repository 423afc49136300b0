/-
  The document's Way, where the way is one.
-/
import Derived.Test.YtelmkfkgpnadnaaK21
namespace Go.Proofs.Ytelmkfkgpnadnaa
open Go.RowKit

variable {w w' : World} {n : Nat} {A Pl : Nat → Nat} {E : Nat → Nat → Bool}

set_option maxRecDepth 100000 in
set_option maxHeartbeats 400000 in
theorem refWay_yes (x y tb nb eb cn ce lb lc m : Nat) (rb L : Nat → Nat) (w : World) (h : RefAt w tb nb eb cn ce n rb A E)
    (hv : ValsAt w lb m (fun i => .int .i64 (L i))) (hm : 0 < m) (hm' : m ≤ 40) (h0 : L 0 = y) (h1 : L (m - 1) = x) (hxy : x = y → m = 1) (hlt : ∀ i, i < m → L i < n)
    (hnd : ∀ i j, j < i → i < m → L j ≠ L i) (hed : ∀ i, i + 1 < m → E (L i) (L (i + 1)) = true) :
    Calls Try.prog 23 #[.pointer (some ⟨tb, 0, none⟩), .slice (some ⟨lb, 0, none⟩) m lc, .int .i64 x, .int .i64 y] w fun e w' => e = .returned (.bool true) ∧ Below w.heap.size w w' := by
  have c0 := hv.at' 0 hm
  have c1 := hv.at' (m - 1) (by omega)
  rw [h0] at c0
  rw [h1] at c1
  have q0 : (((y : Nat) : Int) == (y : Int)) = true := by simp
  have q1 : (((x : Nat) : Int) == (x : Int)) = true := by simp
  have qm : (((m : Nat) : Int) == 0) = false := by simp; omega
  have HR : Hid (RefAt w tb nb eb cn ce n rb A E) := h
  have HV : Hid (ValsAt w lb m (fun i => .int .i64 (L i))) := hv
  have HX : Hid (x = y → m = 1) := hxy
  have HL : Hid ((∀ i, i < m → L i < n) ∧ (∀ i j, j < i → i < m → L j ≠ L i) ∧ ∀ i, i + 1 < m → E (L i) (L (i + 1)) = true) := ⟨hlt, hnd, hed⟩
  have hlb : lb < w.heap.size := World.block_lt_of_cell? w _ c0
  clear h hv hxy hlt hnd hed
  go_enter Try.func23, Try.ntmps23
  by_cases hxy : x = y
  · have hm1 := HX.out hxy
    subst hxy
    have q2 : (((m : Nat) : Int) == 1) = true := by simp; omega
    have q3 : (((m : Nat) : Int) != 1) = false := by simp; omega
    clear h0 h1 hm1
    go_wp2
    go_loopg [9] m (fun gg s wr => ∃ i : Nat, i ≤ m ∧ m - i ≤ gg ∧ s = .int .i64 i ∧ Below w.heap.size w wr)
    case atStart => exact ⟨0, by omega, by omega, rfl, Below.refl _ _⟩
    case round =>
      obtain ⟨i, hi, hg, rfl, hbw⟩ := hrel
      have HR1 : Hid (RefAt wr tb nb eb cn ce n rb A E) := HR.out.below hbw
      have HV1 : Hid (ValsAt wr lb m (fun i => .int .i64 (L i))) := HV.out.of_block (hbw.block lb hlb)
      by_cases hin : i < m
      · have hli := HL.out.1 i hin
        have k := is_yes (L i) tb cn _ _ HR1.out.nodes hli
        have hat := HV1.out.at' i hin
        have hil : ((i : Nat) : Int) < (m : Int) := by omega
        go_wp2_with (go_at_call 33; fail)
        go_at_call 33
        refine k.mono ?_
        intro e w1 hq
        rw [hq.1, hq.2]
        clear k hq
        go_wp2
        go_loopg [11] i (fun gg s wx => ∃ j : Nat, j ≤ i ∧ i - j ≤ gg ∧ s = .int .i64 j ∧ Below w.heap.size w wx)
        case atStart => exact ⟨0, by omega, by omega, rfl, hbw⟩
        case round =>
          obtain ⟨j, hj, hgj, rfl, hbx⟩ := hrel
          clear hat
          have HR2 : Hid (RefAt wr tb nb eb cn ce n rb A E) := HR.out.below hbx
          have HV2 : Hid (ValsAt wr lb m (fun i => .int .i64 (L i))) := HV.out.of_block (hbx.block lb hlb)
          have hat := HV2.out.at' i hin
          by_cases hji : j < i
          · have hat2 := HV2.out.at' j (by omega)
            have hne := HL.out.2.1 i j hji hin
            have qn : (((L j : Nat) : Int) == (L i : Int)) = false := by simp; omega
            have hjl : ((j : Nat) : Int) < (i : Int) := by omega
            clear hne
            go_upto_region 12 with fail
            go_region
            go_wp2
            go_roundg (i - (j + 1))
            case measure => omega
            case rel => exact ⟨j + 1, by omega, by omega, by go_num, hbx.drew⟩
          · have hjl : (((j : Nat) : Int) < (i : Int)) = False := by simp; omega
            by_cases h0i : i = 0
            · have hz : ((0 : Int) < (i : Int)) = False := by simp; omega
              go_upto_region 14 with fail
              go_region
              go_wp2
              go_roundg (m - (i + 1))
              case measure => omega
              case rel => exact ⟨i + 1, by omega, by omega, by go_num, hbx.drew⟩
            · have hz : (0 : Int) < (i : Int) := by omega
              have hzn : 0 < i := by omega
              have hzd : decide ((0 : Int) < (i : Int)) = true := by simp; omega
              have hze : ((0 : Int) < (i : Int)) = True := by simp; omega
              have hp := HV2.out.at' (i - 1) (by omega)
              have hlp := HL.out.1 (i - 1) (by omega)
              have hee := HL.out.2.2 (i - 1) (by omega)
              have e1 : i - 1 + 1 = i := by omega
              rw [e1] at hee
              have s1 := HR2.out.edges
              have s2 := HR2.out.ed.row (L (i - 1)) hlp
              have s3 := (HR2.out.ed.cell (L (i - 1)) hlp).at' (L i) hli
              rw [hee] at s3
              clear hee e1
              go_upto_region 14 with fail
              go_region
              go_wp2
              go_roundg (m - (i + 1))
              case measure => omega
              case rel => exact ⟨i + 1, by omega, by omega, by go_num, hbx.drew⟩
      · have hil : (((i : Nat) : Int) < (m : Int)) = False := by simp; omega
        go_wp2
        go_ret
        exact ⟨rfl, hbw⟩
  · have q4 : (((x : Nat) : Int) == (y : Int)) = false := by simp; omega
    have q5 : (((x : Nat) : Int) = (y : Int)) = False := by simp; omega
    clear hxy
    go_wp2
    go_loopg [9] m (fun gg s wr => ∃ i : Nat, i ≤ m ∧ m - i ≤ gg ∧ s = .int .i64 i ∧ Below w.heap.size w wr)
    case atStart => exact ⟨0, by omega, by omega, rfl, Below.refl _ _⟩
    case round =>
      obtain ⟨i, hi, hg, rfl, hbw⟩ := hrel
      have HR1 : Hid (RefAt wr tb nb eb cn ce n rb A E) := HR.out.below hbw
      have HV1 : Hid (ValsAt wr lb m (fun i => .int .i64 (L i))) := HV.out.of_block (hbw.block lb hlb)
      by_cases hin : i < m
      · have hli := HL.out.1 i hin
        have k := is_yes (L i) tb cn _ _ HR1.out.nodes hli
        have hat := HV1.out.at' i hin
        have hil : ((i : Nat) : Int) < (m : Int) := by omega
        go_wp2_with (go_at_call 33; fail)
        go_at_call 33
        refine k.mono ?_
        intro e w1 hq
        rw [hq.1, hq.2]
        clear k hq
        go_wp2
        go_loopg [11] i (fun gg s wx => ∃ j : Nat, j ≤ i ∧ i - j ≤ gg ∧ s = .int .i64 j ∧ Below w.heap.size w wx)
        case atStart => exact ⟨0, by omega, by omega, rfl, hbw⟩
        case round =>
          obtain ⟨j, hj, hgj, rfl, hbx⟩ := hrel
          clear hat
          have HR2 : Hid (RefAt wr tb nb eb cn ce n rb A E) := HR.out.below hbx
          have HV2 : Hid (ValsAt wr lb m (fun i => .int .i64 (L i))) := HV.out.of_block (hbx.block lb hlb)
          have hat := HV2.out.at' i hin
          by_cases hji : j < i
          · have hat2 := HV2.out.at' j (by omega)
            have hne := HL.out.2.1 i j hji hin
            have qn : (((L j : Nat) : Int) == (L i : Int)) = false := by simp; omega
            have hjl : ((j : Nat) : Int) < (i : Int) := by omega
            clear hne
            go_upto_region 12 with fail
            go_region
            go_wp2
            go_roundg (i - (j + 1))
            case measure => omega
            case rel => exact ⟨j + 1, by omega, by omega, by go_num, hbx.drew⟩
          · have hjl : (((j : Nat) : Int) < (i : Int)) = False := by simp; omega
            by_cases h0i : i = 0
            · have hz : ((0 : Int) < (i : Int)) = False := by simp; omega
              go_upto_region 14 with fail
              go_region
              go_wp2
              go_roundg (m - (i + 1))
              case measure => omega
              case rel => exact ⟨i + 1, by omega, by omega, by go_num, hbx.drew⟩
            · have hz : (0 : Int) < (i : Int) := by omega
              have hzn : 0 < i := by omega
              have hzd : decide ((0 : Int) < (i : Int)) = true := by simp; omega
              have hze : ((0 : Int) < (i : Int)) = True := by simp; omega
              have hp := HV2.out.at' (i - 1) (by omega)
              have hlp := HL.out.1 (i - 1) (by omega)
              have hee := HL.out.2.2 (i - 1) (by omega)
              have e1 : i - 1 + 1 = i := by omega
              rw [e1] at hee
              have s1 := HR2.out.edges
              have s2 := HR2.out.ed.row (L (i - 1)) hlp
              have s3 := (HR2.out.ed.cell (L (i - 1)) hlp).at' (L i) hli
              rw [hee] at s3
              clear hee e1
              go_upto_region 14 with fail
              go_region
              go_wp2
              go_roundg (m - (i + 1))
              case measure => omega
              case rel => exact ⟨i + 1, by omega, by omega, by go_num, hbx.drew⟩
      · have hil : (((i : Nat) : Int) < (m : Int)) = False := by simp; omega
        go_wp2
        go_ret
        exact ⟨rfl, hbw⟩

end Go.Proofs.Ytelmkfkgpnadnaa
