/-
  Paths: the document's IsPath.
-/
import Derived.Test.YtiamomiafekihaaGreatDoorN2
namespace Go.Proofs.YtiamomiafekihaaGreatDoor
open Go.RowKit

theorem pathGo_step (S : List UInt8) (i e n : Nat) (h : i < S.length) : Pv.pathGo e n (S.drop i) = if Pv.sd S[i] then (if 8 < n + 1 then false else Pv.pathGo e (n + 1) (S.drop (i + 1))) else if S[i] = 47 ∧ 0 < n then Pv.pathGo (e + 1) 0 (S.drop (i + 1)) else false := by
  rw [List.drop_eq_getElem_cons h, Pv.pathGo]
  rfl

theorem none_of {m d : Bool} (h : ¬ (m || d) = true) : d = false ∧ m = false := by
  cases d <;> cases m <;> simp_all

theorem eq47 (c : UInt8) : (c = 47) = ((c.toNat : Int) = 47) := by
  apply propext
  constructor
  · intro h; rw [h]; rfl
  · intro h
    apply UInt8.toNat.inj
    have : (47 : UInt8).toNat = 47 := rfl
    omega

set_option maxRecDepth 100000 in
set_option maxHeartbeats 800000 in
/-- The document's IsPath. -/
theorem isPath_doc (s : ByteArray) (w : World) (hs : s.size ≤ 4611686018427387904) :
    Calls Tryz.prog 40 #[.string s] w fun e w' => e = .returned (.bool (Pv.isPath s.data.toList)) ∧ w' = w := by
  have hG : Pv.pathGo 1 0 (s.data.toList.drop 0) = Pv.isPath s.data.toList := by rw [List.drop_zero]; exact Pv.pathGo_isPath _
  generalize Pv.isPath s.data.toList = r at *
  have HS : Hid (s.data.toList.length = s.size) := (Lib.size_eq s).symm
  have HG : Hid (Pv.pathGo 1 0 (s.data.toList.drop 0) = r) := hG
  clear hG
  go_enter Tryz.func40, Tryz.ntmps40
  go_wp2
  go_loopg [3, 4, 5] s.size (fun gg ev nv iv wr => ∃ e n i : Nat, ev = .int .i64 e ∧ nv = .int .i64 n ∧ iv = .int .i64 i ∧ i ≤ s.size ∧ s.size - i ≤ gg ∧ n ≤ 8 ∧ e ≤ i + 1 ∧ wr = w ∧ Hid (Pv.pathGo e n (s.data.toList.drop i) = r))
  case atStart => exact ⟨1, 0, 0, rfl, rfl, rfl, by omega, by omega, by omega, by omega, rfl, HG⟩
  case round =>
    obtain ⟨e, n, i, rfl, rfl, rfl, hi, hg, hn, he, hw, HR⟩ := hrel
    subst hw
    by_cases hlt : i < s.size
    · have hltI : (i : Int) < (s.size : Int) := by omega
      have hlt' : i < s.data.toList.length := by rw [HS.out]; exact hlt
      have hge : s.data.toList[i] = s[i] := rfl
      have HR2 := HR.out
      rw [pathGo_step _ i e n hlt', hge] at HR2
      have kd := fun W => refDigit_any s[i] W
      have ksm := fun W => refSmall_any s[i] W
      have hsd : Pv.sd s[i] = (Pv.sm s[i] || Pv.dg s[i]) := rfl
      rw [hsd] at HR2
      clear hge hsd HR
      have HE := eq47 s[i]
      generalize hcc : (s[i].toNat : Int) = cc at *
      generalize Pv.dg s[i] = d at *
      generalize Pv.sm s[i] = m at *
      by_cases hmd : (m || d) = true
      · rw [if_pos hmd] at HR2
        by_cases h8 : n < 8
        · rw [if_neg (by omega)] at HR2
          have HRn : Hid (Pv.pathGo e (n + 1) (s.data.toList.drop (i + 1)) = r) := HR2
          have h8I : ¬ ((n : Int) + 1 > 8) := by omega
          clear HR2 HE
          cases d <;> cases m
          · cases hmd
          all_goals
            clear hmd
            go_wp2_with (go_at_call 59; fail)
            go_at_call 59
            refine (kd _).mono ?_
            intro e1 w1 h1
            rw [h1.1, h1.2]
            clear h1 kd
            go_wp2_with (go_at_call 60; fail)
            go_at_call 60
            refine (ksm _).mono ?_
            intro e2 w2 h2
            rw [h2.1, h2.2]
            clear h2 ksm
            go_wp2
            go_roundg (s.size - (i + 1))
            case measure => omega
            case rel => exact ⟨e, n + 1, i + 1, rfl, by go_num, by go_num, by omega, by omega, by omega, by omega, rfl, HRn⟩
        · rw [if_pos (by omega)] at HR2
          have HRn : Hid (false = r) := HR2
          obtain rfl : n = 8 := by omega
          clear hn h8
          clear HR2 HE
          cases d <;> cases m
          · cases hmd
          all_goals
            clear hmd
            go_wp2_with (go_at_call 59; fail)
            go_at_call 59
            refine (kd _).mono ?_
            intro e1 w1 h1
            rw [h1.1, h1.2]
            clear h1 kd
            go_wp2_with (go_at_call 60; fail)
            go_at_call 60
            refine (ksm _).mono ?_
            intro e2 w2 h2
            rw [h2.1, h2.2]
            clear h2 ksm
            go_wp2
            go_ret
            exact ⟨ret_bool HRn.out, rfl⟩
      · rw [if_neg hmd] at HR2
        obtain ⟨hd0, hm0⟩ := none_of hmd
        subst hd0 hm0
        clear hmd
        by_cases h47' : s[i] = 47
        · have h47 : cc = 47 := by rw [HE] at h47'; exact h47'
          by_cases h0 : 0 < n
          · rw [if_pos ⟨h47', h0⟩] at HR2
            have HRn : Hid (Pv.pathGo (e + 1) 0 (s.data.toList.drop (i + 1)) = r) := HR2
            have h0I : (0 : Int) < (n : Int) := by omega
            have hq : (cc == 47) = true := by rw [h47]; rfl
            clear HR2 HE h47' h47
            go_wp2_with (go_at_call 59; fail)
            go_at_call 59
            refine (kd _).mono ?_
            intro e1 w1 h1
            rw [h1.1, h1.2]
            clear h1 kd
            go_wp2_with (go_at_call 60; fail)
            go_at_call 60
            refine (ksm _).mono ?_
            intro e2 w2 h2
            rw [h2.1, h2.2]
            clear h2 ksm
            go_wp2
            go_roundg (s.size - (i + 1))
            case measure => omega
            case rel => exact ⟨e + 1, 0, i + 1, by go_num, rfl, by go_num, by omega, by omega, by omega, by omega, rfl, HRn⟩
          · rw [if_neg (fun h => h0 h.2)] at HR2
            have HRn : Hid (false = r) := HR2
            have h0I : ¬ ((0 : Int) < (n : Int)) := by omega
            have hq : (cc == 47) = true := by rw [h47]; rfl
            clear HR2 HE h47' h47
            go_wp2_with (go_at_call 59; fail)
            go_at_call 59
            refine (kd _).mono ?_
            intro e1 w1 h1
            rw [h1.1, h1.2]
            clear h1 kd
            go_wp2_with (go_at_call 60; fail)
            go_at_call 60
            refine (ksm _).mono ?_
            intro e2 w2 h2
            rw [h2.1, h2.2]
            clear h2 ksm
            go_wp2
            go_ret
            exact ⟨ret_bool HRn.out, rfl⟩
        · have h47 : ¬ cc = 47 := by rw [HE] at h47'; exact h47'
          rw [if_neg (fun h => h47' h.1)] at HR2
          have HRn : Hid (false = r) := HR2
          have hq : (cc == 47) = false := by rw [beq_eq_false_iff_ne]; exact h47
          clear HR2 HE h47' h47
          go_wp2_with (go_at_call 59; fail)
          go_at_call 59
          refine (kd _).mono ?_
          intro e1 w1 h1
          rw [h1.1, h1.2]
          clear h1 kd
          go_wp2_with (go_at_call 60; fail)
          go_at_call 60
          refine (ksm _).mono ?_
          intro e2 w2 h2
          rw [h2.1, h2.2]
          clear h2 ksm
          go_wp2
          go_ret
          exact ⟨ret_bool HRn.out, rfl⟩
    · have hltI : ¬ ((i : Int) < (s.size : Int)) := by omega
      have HRn : Hid ((decide (0 < n) && decide (e ≤ 3)) = r) := by
        have h := HR.out
        rw [List.drop_of_length_le (by rw [HS.out]; omega)] at h
        exact h
      clear HR
      by_cases h0 : 0 < n
      · by_cases h3 : e ≤ 3
        · have h0I : (0 : Int) < (n : Int) := by omega
          have h3I : (e : Int) ≤ 3 := by omega
          have HF : Hid (true = r) := by have := HRn.out; rw [decide_eq_true h0, decide_eq_true h3] at this; exact this
          clear HRn
          go_wp2
          go_ret
          exact ⟨ret_bool HF.out, rfl⟩
        · have h0I : (0 : Int) < (n : Int) := by omega
          have h3I : ¬ ((e : Int) ≤ 3) := by omega
          have HF : Hid (false = r) := by have := HRn.out; rw [decide_eq_true h0, decide_eq_false h3] at this; exact this
          clear HRn
          go_wp2
          go_ret
          exact ⟨ret_bool HF.out, rfl⟩
      · have h0I : ¬ ((0 : Int) < (n : Int)) := by omega
        have HF : Hid (false = r) := by have := HRn.out; rw [decide_eq_false h0] at this; exact this
        clear HRn
        go_wp2
        go_ret
        exact ⟨ret_bool HF.out, rfl⟩

end Go.Proofs.YtiamomiafekihaaGreatDoor
