/-
  The walks of the small functions, second part.
-/
import Derived.Test.YtiamomiafekihaaGreatDoorW1
namespace Go.Proofs.YtiamomiafekihaaGreatDoor
open Go.RowKit

set_option maxHeartbeats 400000 in
theorem isSmallOrDigit_any (c : UInt8) (w : World) :
    Calls Tryz.prog 108 #[.int .u8 c.toNat] w fun e w' => e = .returned (.bool (Pv.sm c || Pv.dg c)) ∧ w' = w := by
  have k1 := isSmall_any c w
  have k2 := isDigit_any c w
  cases h1 : Pv.sm c
  all_goals
    rw [h1] at k1
    cases h2 : Pv.dg c
    all_goals
      rw [h2] at k2
      go_enter Tryz.func108, Tryz.ntmps108
      go_wp2_with (first | (go_at_call 134; refine k1.mono ?_; rintro e w' ⟨rfl, rfl⟩) | (go_at_call 128; refine k2.mono ?_; rintro e w' ⟨rfl, rfl⟩))
      go_ret
      exact ⟨rfl, rfl⟩

theorem eq45 (c : UInt8) : (c == 45) = ((c.toNat : Int) == 45) := by
  rw [Bool.eq_iff_iff]; simp
  constructor
  · intro h; subst h; rfl
  · intro h; exact UInt8.toNat.inj (by simpa using (by omega : c.toNat = 45))

set_option maxHeartbeats 400000 in
theorem isIdentifierByte_any (c : UInt8) (w : World) :
    Calls Tryz.prog 129 #[.int .u8 c.toNat] w fun e w' => e = .returned (.bool (Pv.idb c)) ∧ w' = w := by
  have k1 := isSmallOrDigit_any c w
  have k2 := isGreat_any c w
  unfold Pv.idb
  rw [eq45]
  cases h1 : (Pv.sm c || Pv.dg c)
  all_goals
    rw [h1] at k1
    cases h2 : Pv.gr c
    all_goals
      rw [h2] at k2
      cases h3 : ((c.toNat : Int) == 45)
      all_goals
        go_enter Tryz.func129, Tryz.ntmps129
        go_wp2_with (first | (go_at_call 108; refine k1.mono ?_; rintro e w' ⟨rfl, rfl⟩) | (go_at_call 157; refine k2.mono ?_; rintro e w' ⟨rfl, rfl⟩))
        go_ret
        exact ⟨rfl, rfl⟩

theorem take_snoc (s : ByteArray) (k : Nat) (h : k < s.size) : s.data.toList.take (k + 1) = s.data.toList.take k ++ [s[k]] := by
  rw [List.take_succ_eq_append_getElem (by simpa using h)]; rfl

set_option maxHeartbeats 600000 in
theorem allOf_any (g : Nat) (p : UInt8 → Bool) (eg : ∀ args w, (callFunc g args).run Tryz.prog w = .ok (.enter g args) w) (hg : ∀ (c : UInt8) (w : World), Calls Tryz.prog g #[.int .u8 c.toNat] w fun e w' => e = .returned (.bool (p c)) ∧ w' = w) (s : ByteArray) (w : World) (hs : s.size ≤ maxLen) :
    Calls Tryz.prog 107 #[.string s, .func (.func g) #[] #[]] w fun e w' => e = .returned (.bool (s.data.toList.all p)) ∧ w' = w := by
  unfold maxLen at hs
  generalize hr : s.data.toList.all p = r
  have HR : Hid (s.data.toList.all p = r) := hr
  clear hr
  go_enter Tryz.func107, Tryz.ntmps107
  go_wp2
  go_loop [5, 8] (fun _ i => ∃ k : Nat, k ≤ s.size ∧ i = .int .i64 k ∧ (s.data.toList.take k).all p = true) (fun _ i => s.size - (intOf i).toNat)
  case atStart => exact ⟨0, Nat.zero_le _, rfl, rfl⟩
  case round =>
    obtain ⟨k, hk, rfl, ha⟩ := hrel
    have HA : Hid ((s.data.toList.take k).all p = true) := ha
    clear ha
    by_cases hlt : k < s.size
    · have hts : Hid (s.data.toList.take (k + 1) = s.data.toList.take k ++ [s[k]]) := take_snoc s k hlt
      have hmem : Hid (s[k] ∈ s.data.toList) := by
        show s.data[k] ∈ s.data.toList
        simp
      cases hp : p s[k]
      · have hcall := hg s[k]
        rw [hp] at hcall
        have HP : Hid (p s[k] = false) := hp
        clear hp
        go_wp2_with (go_at_fn g; refine (hcall _).mono ?_; rintro e w' ⟨rfl, rfl⟩)
        go_ret
        refine ⟨ret_bool ?_, rfl⟩
        rw [← HR.out]
        symm
        apply Bool.eq_false_iff.2
        intro h
        have := List.all_eq_true.1 h _ hmem.out
        rw [HP.out] at this; simp at this
      · have hcall := hg s[k]
        rw [hp] at hcall
        have HP : Hid (p s[k] = true) := hp
        clear hp
        go_wp2_with (go_at_fn g; refine (hcall _).mono ?_; rintro e w' ⟨rfl, rfl⟩)
        go_round
        case rel => exact ⟨k + 1, by omega, by go_num, by rw [hts.out, List.all_append, HA.out]; simp [HP.out]⟩
        case measure => simp [intOf]; omega
    · go_wp2
      go_ret
      refine ⟨ret_bool ?_, rfl⟩
      have := HA.out
      rw [List.take_of_length_le (by simp; omega), HR.out] at this
      exact this.symm

theorem enters39 : ∀ args w, (callFunc 128 args).run Tryz.prog w = .ok (.enter 128 args) w := fun _ _ => by kernel_rfl
theorem enters40 : ∀ args w, (callFunc 129 args).run Tryz.prog w = .ok (.enter 129 args) w := fun _ _ => by kernel_rfl
theorem enters23 : ∀ args w, (callFunc 101 args).run Tryz.prog w = .ok (.enter 101 args) w := fun _ _ => by kernel_rfl
theorem isNum_w1 (s : ByteArray) (h : s.toList = [48]) : Pv.isNum s.data.toList = true := by
  rw [← Lib.toList_data, h]; rfl
theorem isNum_w2 (s : ByteArray) (h : s.toList = []) : Pv.isNum s.data.toList = false := by
  rw [← Lib.toList_data, h]; rfl
theorem head_of (s : ByteArray) (h : 0 < s.size) : s.data.toList.head? = some s[0] := by
  have : 0 < s.data.toList.length := by simpa using h
  rw [List.head?_eq_getElem?, List.getElem?_eq_getElem this]; rfl
theorem isNum_w3 (s : ByteArray) (h1 : ¬ s.toList = [48]) (h : 0 < s.size) (h2 : (s[0].toNat : Int) = 48) : Pv.isNum s.data.toList = false := by
  have e : s[0] = 48 := UInt8.toNat.inj (by simpa using (by omega : s[0].toNat = 48))
  rw [Lib.toList_data] at h1
  unfold Pv.isNum
  rw [head_of s h, e]
  simp [h1]
theorem isNum_w4 (s : ByteArray) (h : 0 < s.size) (h2 : ¬ (s[0].toNat : Int) = 48) : Pv.isNum s.data.toList = s.data.toList.all Pv.dg := by
  have e : s[0] ≠ 48 := fun e => h2 (by rw [e]; rfl)
  have h3 : s.data.toList ≠ [] := by intro e; have : s.data.toList.length = 0 := (by rw [e]; rfl); rw [← Lib.size_eq] at this; omega
  have h1 : s.data.toList ≠ [48] := by
    intro e2
    have := head_of s h
    rw [e2] at this; simp at this; exact e this.symm
  unfold Pv.isNum
  have e' : ¬ (some s[0] = some (48 : UInt8)) := fun x => e (Option.some.inj x)
  rw [head_of s h, beq_eq_false_iff_ne.2 h1, bne_iff_ne.2 h3, bne_iff_ne.2 e']
  rfl

set_option maxHeartbeats 600000 in
theorem isNumber_any (s : ByteArray) (w : World) (hs : s.size ≤ maxLen) :
    Calls Tryz.prog 126 #[.string s] w fun e w' => e = .returned (.bool (Pv.isNum s.data.toList)) ∧ w' = w := by
  have k := allOf_any 128 Pv.dg enters39 isDigit_any s w hs
  have hz : s.size = 0 → s.toList = [] := by
    intro h
    rw [Lib.toList_data]
    apply List.eq_nil_of_length_eq_zero
    rw [← Lib.size_eq]; exact h
  have HZ : Hid (s.size = 0 → s.toList = []) := hz
  clear hz
  generalize ha : s.data.toList.all Pv.dg = a at k
  have HA : Hid (s.data.toList.all Pv.dg = a) := ha
  clear ha
  generalize hr : Pv.isNum s.data.toList = r
  have HR : Hid (Pv.isNum s.data.toList = r) := hr
  clear hr
  cases a
  all_goals
    by_cases h1 : s.toList = [48]
    · go_enter Tryz.func126, Tryz.ntmps126
      go_wp2_with (go_at_call 107; refine k.mono ?_; rintro e w' ⟨rfl, rfl⟩)
      go_ret
      exact ⟨ret_bool (by rw [← HR.out, isNum_w1 s h1]), rfl⟩
    · by_cases h2 : s.toList = []
      · go_enter Tryz.func126, Tryz.ntmps126
        go_wp2_with (go_at_call 107; refine k.mono ?_; rintro e w' ⟨rfl, rfl⟩)
        go_ret
        exact ⟨ret_bool (by rw [← HR.out, isNum_w2 s h2]), rfl⟩
      · have h3 : 0 < s.size := by
          rcases Nat.eq_zero_or_pos s.size with h | h
          · exact absurd (HZ.out h) h2
          · exact h
        by_cases h4 : (s[0].toNat : Int) = 48
        · go_enter Tryz.func126, Tryz.ntmps126
          go_wp2_with (go_at_call 107; refine k.mono ?_; rintro e w' ⟨rfl, rfl⟩)
          go_ret
          exact ⟨ret_bool (by rw [← HR.out, isNum_w3 s h1 h3 h4]; simp [h1]), rfl⟩
        · go_enter Tryz.func126, Tryz.ntmps126
          go_wp2_with (go_at_call 107; refine k.mono ?_; rintro e w' ⟨rfl, rfl⟩)
          go_ret
          exact ⟨ret_bool (by rw [← HR.out, isNum_w4 s h3 h4, HA.out]; first | (simp [h1]; done) | (simp [h1, h2, h4]; done)), rfl⟩

theorem noId_w1 (s : ByteArray) (h : s.size < 1) : Pv.noId s.data.toList = true := by
  unfold Pv.noId; rw [← Lib.size_eq]; simp [h]
theorem noId_w2 (s : ByteArray) (h : 8 < s.size) : Pv.noId s.data.toList = true := by
  unfold Pv.noId; rw [← Lib.size_eq]; simp [h]
theorem noId_w3 (s : ByteArray) (h1 : 1 ≤ s.size) (h8 : s.size ≤ 8) (h : s.data.toList.all Pv.dg = true) : Pv.noId s.data.toList = !Pv.isNum s.data.toList := by
  unfold Pv.noId; rw [← Lib.size_eq, if_pos h, decide_eq_false (by omega : ¬ s.size < 1), decide_eq_false (by omega : ¬ 8 < s.size)]
  rfl
theorem noId_w4 (s : ByteArray) (h1 : 1 ≤ s.size) (h8 : s.size ≤ 8) (h : s.data.toList.all Pv.dg = false) : Pv.noId s.data.toList = !s.data.toList.all Pv.idb := by
  unfold Pv.noId; rw [← Lib.size_eq, if_neg (by simp [h])]
  rw [decide_eq_false (by omega : ¬ s.size < 1), decide_eq_false (by omega : ¬ 8 < s.size)]
  rfl

set_option maxHeartbeats 600000 in
theorem isNoIdentifier_any (s : ByteArray) (w : World) (hs : s.size ≤ maxLen) :
    Calls Tryz.prog 101 #[.string s] w fun e w' => e = .returned (.bool (Pv.noId s.data.toList)) ∧ w' = w := by
  have k1 := allOf_any 128 Pv.dg enters39 isDigit_any s w hs
  have k2 := allOf_any 129 Pv.idb enters40 isIdentifierByte_any s w hs
  have k3 := isNumber_any s w hs
  generalize ha : s.data.toList.all Pv.dg = a at k1
  have HA : Hid (s.data.toList.all Pv.dg = a) := ha
  clear ha
  generalize hb : s.data.toList.all Pv.idb = b at k2
  have HB : Hid (s.data.toList.all Pv.idb = b) := hb
  clear hb
  generalize hc : Pv.isNum s.data.toList = c at k3
  have HC : Hid (Pv.isNum s.data.toList = c) := hc
  clear hc
  generalize hr : Pv.noId s.data.toList = r
  have HR : Hid (Pv.noId s.data.toList = r) := hr
  clear hr
  unfold maxLen at hs
  by_cases h1 : s.size < 1
  · go_enter Tryz.func101, Tryz.ntmps101
    go_wp2
    go_ret
    exact ⟨ret_bool (by rw [← HR.out, noId_w1 s h1]), rfl⟩
  · by_cases h2 : 8 < s.size
    · go_enter Tryz.func101, Tryz.ntmps101
      go_wp2
      go_ret
      exact ⟨ret_bool (by rw [← HR.out, noId_w2 s h2]), rfl⟩
    · have hlo : 1 ≤ s.size := by omega
      have hhi : s.size ≤ 8 := by omega
      cases a
      · have HF : Hid ((!b) = r) := by
          show (!b) = r
          rw [← HR.out, noId_w4 s hlo hhi HA.out, HB.out]
        go_enter Tryz.func101, Tryz.ntmps101
        go_wp2_with (go_at_call 107; fail)
        go_at_call 107
        refine k1.mono ?_
        rintro e w' ⟨rfl, rfl⟩
        go_wp2_with (go_at_call 107; refine k2.mono ?_; rintro e w' ⟨rfl, rfl⟩)
        go_ret
        exact ⟨ret_bool HF.out, rfl⟩
      · have HF : Hid ((!c) = r) := by
          show (!c) = r
          rw [← HR.out, noId_w3 s hlo hhi HA.out, HC.out]
        go_enter Tryz.func101, Tryz.ntmps101
        go_wp2_with (first | (go_at_call 107; refine k1.mono ?_; rintro e w' ⟨rfl, rfl⟩) | (go_at_call 126; refine k3.mono ?_; rintro e w' ⟨rfl, rfl⟩))
        go_ret
        exact ⟨ret_bool HF.out, rfl⟩

end Go.Proofs.YtiamomiafekihaaGreatDoor
