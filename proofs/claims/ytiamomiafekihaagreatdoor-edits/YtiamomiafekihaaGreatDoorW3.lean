/-
  The walks of the document's answer's small functions, and of the comparisons.
-/
import Derived.Test.YtiamomiafekihaaGreatDoorW1
namespace Go.Proofs.YtiamomiafekihaaGreatDoor
open Go.RowKit

set_option maxHeartbeats 400000 in
theorem refDigit_any (c : UInt8) (w : World) :
    Calls Tryz.prog 59 #[.int .u8 c.toNat] w fun e w' => e = .returned (.bool (Pv.dg c)) ∧ w' = w := by
  rw [dg_int]
  generalize (c.toNat : Int) = n
  by_cases h1 : 48 ≤ n <;> by_cases h2 : n ≤ 57
  all_goals
    go_enter Tryz.func59, Tryz.ntmps59
    go_wp2
    go_ret
    exact ⟨ret_bool (by simp [h1, h2]), rfl⟩

set_option maxHeartbeats 400000 in
theorem refSmall_any (c : UInt8) (w : World) :
    Calls Tryz.prog 60 #[.int .u8 c.toNat] w fun e w' => e = .returned (.bool (Pv.sm c)) ∧ w' = w := by
  rw [sm_int]
  generalize (c.toNat : Int) = n
  by_cases h1 : 97 ≤ n <;> by_cases h2 : n ≤ 122
  all_goals
    go_enter Tryz.func60, Tryz.ntmps60
    go_wp2
    go_ret
    exact ⟨ret_bool (by simp [h1, h2]), rfl⟩

set_option maxHeartbeats 400000 in
theorem refLetter_any (c : UInt8) (w : World) :
    Calls Tryz.prog 130 #[.int .u8 c.toNat] w fun e w' => e = .returned (.bool (Pv.sm c || Pv.gr c)) ∧ w' = w := by
  have k := refSmall_any c w
  rw [gr_int]
  cases hs : Pv.sm c
  all_goals
    rw [hs] at k
    generalize hn : (c.toNat : Int) = n at k
    clear hn
  · by_cases h1 : 65 ≤ n
    · by_cases h2 : n ≤ 90
      all_goals
        go_enter Tryz.func130, Tryz.ntmps130
        go_wp2_with (go_at_call 60; refine k.mono ?_; rintro e w' ⟨rfl, rfl⟩)
        go_ret
        exact ⟨ret_bool (by simp [h1, h2]), rfl⟩
    · go_enter Tryz.func130, Tryz.ntmps130
      go_wp2_with (go_at_call 60; refine k.mono ?_; rintro e w' ⟨rfl, rfl⟩)
      go_ret
      exact ⟨ret_bool (by simp; omega), rfl⟩
  · go_enter Tryz.func130, Tryz.ntmps130
    go_wp2_with (go_at_call 60; refine k.mono ?_; rintro e w' ⟨rfl, rfl⟩)
    go_ret
    exact ⟨ret_bool (by simp), rfl⟩

set_option maxHeartbeats 400000 in
theorem order_any (a b : Int) (w : World) :
    Calls Tryz.prog 87 #[.int .i64 a, .int .i64 b] w fun e w' => e = .returned (.int .i64 (Lib.compareInt a b)) ∧ w' = w := by
  unfold Lib.compareInt
  by_cases h1 : a < b
  · rw [if_pos h1]
    go_enter Tryz.func87, Tryz.ntmps87
    go_wp2
    go_ret
    exact ⟨rfl, rfl⟩
  · rw [if_neg h1]
    by_cases h2 : b < a
    · rw [if_pos h2]
      go_enter Tryz.func87, Tryz.ntmps87
      go_wp2
      go_ret
      exact ⟨rfl, rfl⟩
    · rw [if_neg h2]
      go_enter Tryz.func87, Tryz.ntmps87
      go_wp2
      go_ret
      exact ⟨rfl, rfl⟩

theorem bytes_eq (a b : ByteArray) : (Op.bytesLess a.toList b.toList = decide (a.data.toList < b.data.toList)) ∧ (¬ a.data.toList < b.data.toList → (!(a.toList == b.toList)) = decide (b.data.toList < a.data.toList)) := by
  rw [Lib.toList_data, Lib.toList_data, Proofs.bytesLess_eq]
  refine ⟨rfl, fun h1 => ?_⟩
  by_cases h3 : a.data.toList = b.data.toList
  · rw [h3]; simp
  · have h2 : b.data.toList < a.data.toList := by
      rcases List.le_total a.data.toList b.data.toList with h | h
      · exact absurd (List.le_antisymm h (List.not_lt.1 h1)) h3
      · apply Classical.byContradiction
        intro hc
        exact h3 (List.le_antisymm (List.not_lt.1 hc) h)
    rw [decide_eq_true h2, beq_eq_false_iff_ne.2 h3]
    rfl

set_option maxHeartbeats 400000 in
theorem bytes_any (a b : ByteArray) (w : World) :
    Calls Tryz.prog 86 #[.string a, .string b] w fun e w' => e = .returned (.int .i64 (Lib.compareBytes a.data.toList b.data.toList)) ∧ w' = w := by
  rw [Pv.compareBytes_lt]
  obtain ⟨e1, e2⟩ := bytes_eq a b
  by_cases h1 : a.data.toList < b.data.toList
  · rw [if_pos h1]
    rw [decide_eq_true h1] at e1
    clear e2 h1
    go_enter Tryz.func86, Tryz.ntmps86
    go_wp2
    go_ret
    exact ⟨rfl, rfl⟩
  · rw [if_neg h1]
    rw [decide_eq_false h1] at e1
    have e2 := e2 h1
    by_cases h2 : b.data.toList < a.data.toList
    · rw [if_pos h2]
      rw [decide_eq_true h2] at e2
      clear h1 h2
      go_enter Tryz.func86, Tryz.ntmps86
      go_wp2
      go_ret
      exact ⟨rfl, rfl⟩
    · rw [if_neg h2]
      rw [decide_eq_false h2] at e2
      clear h1 h2
      go_enter Tryz.func86, Tryz.ntmps86
      go_wp2
      go_ret
      exact ⟨rfl, rfl⟩

theorem tw_step (l : List UInt8) (i n : Nat) (h : i + n < l.length) (hn : ((l.drop i).take n).all Pv.dg = true) (hd : Pv.dg l[i + n] = true) : ((l.drop i).take (n + 1)).all Pv.dg = true := by
  rw [List.take_succ_eq_append_getElem (by simp; omega), List.all_append, hn]
  simp [hd]
theorem tw_end (l : List UInt8) (i n : Nat) (hn : ((l.drop i).take n).all Pv.dg = true) (hle : i + n ≤ l.length ∨ n = 0) (hd : ∀ h : i + n < l.length, Pv.dg l[i + n] = false) : ((l.drop i).takeWhile Pv.dg).length = n := by
  have e : l.drop i = (l.drop i).take n ++ (l.drop i).drop n := (List.take_append_drop _ _).symm
  have := (Pv.takeWhile_app ((l.drop i).take n) ((l.drop i).drop n) hn (by
    intro c u e
    rw [List.drop_drop] at e
    have hlt : i + n < l.length := by
      apply Classical.byContradiction
      intro hc
      rw [List.drop_of_length_le (by omega)] at e
      simp at e
    rw [List.drop_eq_getElem_cons hlt] at e
    simp only [List.cons.injEq] at e
    rw [← e.1]; exact hd hlt)).1
  rw [← e] at this
  rw [this, List.length_take, List.length_drop]
  rcases hle with h | h <;> omega

set_option maxHeartbeats 600000 in
/-- How many digits stand in s from i on. -/
theorem digits_any (s : ByteArray) (i : Nat) (w : World) (hs : s.size ≤ maxLen) (hi : i ≤ s.size) :
    Calls Tryz.prog 103 #[.string s, .int .i64 i] w fun e w' => e = .returned (.int .i64 (((s.data.toList.drop i).takeWhile Pv.dg).length : Nat)) ∧ w' = w := by
  unfold maxLen at hs
  generalize hr : ((s.data.toList.drop i).takeWhile Pv.dg).length = r
  have HR : Hid (((s.data.toList.drop i).takeWhile Pv.dg).length = r) := hr
  clear hr
  have hl : Hid (s.data.toList.length = s.size) := (Lib.size_eq s).symm
  go_enter Tryz.func103, Tryz.ntmps103
  go_wp2
  go_loop [5] (fun v => ∃ n : Nat, i + n ≤ s.size ∧ v = .int .i64 n ∧ ((s.data.toList.drop i).take n).all Pv.dg = true) (fun v => s.size - (intOf v).toNat)
  case atStart => exact ⟨0, by omega, rfl, by simp⟩
  case round =>
    obtain ⟨n, hn, rfl, ha⟩ := hrel
    have HA : Hid (((s.data.toList.drop i).take n).all Pv.dg = true) := ha
    clear ha
    by_cases hlt : i + n < s.size
    · have hdi := dg_int s[i + n]
      have HG : Hid (s.data.toList[i + n]'(by rw [hl.out]; exact hlt) = s[i + n]) := rfl
      by_cases h12 : 48 ≤ (s[i + n].toNat : Int) ∧ (s[i + n].toNat : Int) ≤ 57
      · obtain ⟨h1, h2⟩ := h12
        have HD : Hid (Pv.dg s[i + n] = true) := by
          show Pv.dg s[i + n] = true
          rw [hdi]; simp [h1, h2]
        clear hdi
        go_wp2
        go_round
        case rel => exact ⟨n + 1, by omega, by go_num, tw_step _ i n (by rw [hl.out]; exact hlt) HA.out (by rw [HG.out]; exact HD.out)⟩
        case measure => simp [intOf]; omega
      · have HD : Hid (Pv.dg s[i + n] = false) := by
          show Pv.dg s[i + n] = false
          rw [hdi, decide_eq_false h12]
        clear hdi
        by_cases h1 : 48 ≤ (s[i + n].toNat : Int)
        · have h2 : ¬ (s[i + n].toNat : Int) ≤ 57 := fun h => h12 ⟨h1, h⟩
          clear h12
          go_wp2
          go_ret
          refine ⟨ret_int ?_, rfl⟩
          rw [← HR.out, tw_end _ i n HA.out (Or.inl (by rw [hl.out]; exact hn)) (fun h => by rw [HG.out]; exact HD.out)]
        · clear h12
          go_wp2
          go_ret
          refine ⟨ret_int ?_, rfl⟩
          rw [← HR.out, tw_end _ i n HA.out (Or.inl (by rw [hl.out]; exact hn)) (fun h => by rw [HG.out]; exact HD.out)]
    · go_wp2
      go_ret
      refine ⟨ret_int ?_, rfl⟩
      rw [← HR.out, tw_end _ i n HA.out (Or.inl (by rw [hl.out]; exact hn)) (fun h => absurd h (by rw [hl.out]; exact hlt))]

end Go.Proofs.YtiamomiafekihaaGreatDoor
