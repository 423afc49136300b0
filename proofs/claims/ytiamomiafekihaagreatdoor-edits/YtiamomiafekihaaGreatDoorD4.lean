/-
  With the draws counted.   The walks of the comparisons of numbers, identifiers and lists.
-/
import Derived.Test.YtiamomiafekihaaGreatDoorD0
import Derived.Deep.LoopGhost
import Derived.Deep.QuietTactic
import Derived.BigQuiet
import Derived.Lib.AtoiErrMem
namespace Go.Proofs.YtiamomiafekihaaGreatDoor.Dr
open Go.RowKit

set_option maxHeartbeats 400000 in
theorem numberOf_any (s : ByteArray) (w : World) (h : Pv.isNum s.data.toList = true) (hs : s.size ≤ 8) :
    Calls Tryz.prog 127 #[.string s] w fun e w' => e = .returned (.int .i64 (Pv.val s.data.toList)) ∧ Below w.heap.size w w' := by
  have k := Tryz.strconv_Atoi s (Pv.val s.data.toList) (by omega) (Pv.atoi_val h) w
  generalize (Pv.val s.data.toList : Int) = v at k
  clear h
  go_enter Tryz.func127, Tryz.ntmps127
  go_wp2_with (go_at_call 156; refine k.mono ?_; rintro e w' ⟨rfl, t, hw⟩; have hb : Below w.heap.size w w' := (by rw [hw]; exact bytesWorld_below _ _ _); clear hw)
  go_ret
  exact ⟨rfl, hb⟩

set_option maxHeartbeats 600000 in
theorem compareIdentifiers_any (a b : ByteArray) (w : World) (ha : a.size ≤ 8) (hb : b.size ≤ 8) :
    Calls Tryz.prog 283 #[.string a, .string b] w fun e w' => e = .returned (.int .i64 (Pv.cmpId a.data.toList b.data.toList)) ∧ Below w.heap.size w w' := by
  have k1 := fun w => isNumber_any a w (by unfold maxLen; omega)
  have k2 := fun w => isNumber_any b w (by unfold maxLen; omega)
  have kc := Tryz.strings_Compare a b
  unfold Pv.cmpId
  cases h1 : Pv.isNum a.data.toList
  · cases h2 : Pv.isNum b.data.toList
    · simp only [h1] at k1
      simp only [h2] at k2
      generalize hr : Lib.compareBytes a.data.toList b.data.toList = r at kc
      rw [show (if (false && false) = true then Lib.compareInt (Pv.val a.data.toList) (Pv.val b.data.toList) else if false = true then -1 else if false = true then 1 else r) = r from rfl]
      clear hr h1 h2
      go_enter Tryz.func283, Tryz.ntmps283
      go_wp2_with (go_at_call 126; fail)
      go_at_call 126
      refine (k1 _).mono ?_
      rintro e w' ⟨rfl, rfl⟩
      go_wp2_with (first | (go_at_call 126; refine (k2 _).mono ?_; rintro e w' ⟨rfl, rfl⟩) | (go_at_call 123; refine (kc _).mono ?_; rintro e w' ⟨rfl, rfl⟩))
      go_ret
      exact ⟨rfl, Below.refl _ _⟩
    · simp only [h1] at k1
      simp only [h2] at k2
      rw [show (if (false && true) = true then Lib.compareInt (Pv.val a.data.toList) (Pv.val b.data.toList) else if false = true then -1 else if true = true then 1 else Lib.compareBytes a.data.toList b.data.toList) = 1 from rfl]
      clear h1 h2
      go_enter Tryz.func283, Tryz.ntmps283
      go_wp2_with (go_at_call 126; fail)
      go_at_call 126
      refine (k1 _).mono ?_
      rintro e w' ⟨rfl, rfl⟩
      go_wp2_with (first | (go_at_call 126; refine (k2 _).mono ?_; rintro e w' ⟨rfl, rfl⟩))
      go_ret
      exact ⟨rfl, Below.refl _ _⟩
  · cases h2 : Pv.isNum b.data.toList
    · simp only [h1] at k1
      simp only [h2] at k2
      rw [show (if (true && false) = true then Lib.compareInt (Pv.val a.data.toList) (Pv.val b.data.toList) else if true = true then -1 else if false = true then 1 else Lib.compareBytes a.data.toList b.data.toList) = -1 from rfl]
      clear h1 h2
      go_enter Tryz.func283, Tryz.ntmps283
      go_wp2_with (go_at_call 126; fail)
      go_at_call 126
      refine (k1 _).mono ?_
      rintro e w' ⟨rfl, rfl⟩
      go_wp2_with (first | (go_at_call 126; refine (k2 _).mono ?_; rintro e w' ⟨rfl, rfl⟩))
      go_ret
      exact ⟨rfl, Below.refl _ _⟩
    · have n1 := fun w => numberOf_any a w h1 ha
      have n2 := fun w => numberOf_any b w h2 hb
      simp only [h1] at k1
      simp only [h2] at k2
      rw [show (if (true && true) = true then Lib.compareInt (Pv.val a.data.toList) (Pv.val b.data.toList) else if true = true then -1 else if true = true then 1 else Lib.compareBytes a.data.toList b.data.toList) = Lib.compareInt (Pv.val a.data.toList) (Pv.val b.data.toList) from rfl]
      generalize (Pv.val a.data.toList : Int) = x at n1
      generalize (Pv.val b.data.toList : Int) = y at n2
      have kcc := Tryz.cmp_Compare_int x y
      generalize Lib.compareInt x y = r at kcc
      clear h1 h2
      go_enter Tryz.func283, Tryz.ntmps283
      go_wp2_with (go_at_call 126; fail)
      go_at_call 126
      refine (k1 _).mono ?_
      rintro e w' ⟨rfl, rfl⟩
      go_wp2_with (go_at_call 126; refine (k2 _).mono ?_; rintro e w' ⟨rfl, rfl⟩)
      refine (n1 _).mono ?_
      rintro e w1 ⟨rfl, hb1⟩
      go_wp2_with (first | (go_at_call 127; refine (n2 _).mono ?_; rintro e w2 ⟨rfl, hb2⟩) | (go_at_call 121; refine (kcc _).mono ?_; rintro e w3 ⟨rfl, rfl⟩))
      go_ret
      exact ⟨rfl, hb1.trans (hb2.mono hb1.size)⟩

theorem cmpL_both (f : List UInt8 → List UInt8 → Int) (l m : List (List UInt8)) (k : Nat) (h : k < l.length) (h' : k < m.length) : Pv.cmpL f (l.drop k) (m.drop k) = if f l[k]! m[k]! = 0 then Pv.cmpL f (l.drop (k + 1)) (m.drop (k + 1)) else f l[k]! m[k]! := by
  rw [List.drop_eq_getElem_cons h, List.drop_eq_getElem_cons h', Pv.cmpL, getElem!_pos l k h, getElem!_pos m k h']
theorem cmpL_left (f : List UInt8 → List UInt8 → Int) (l m : List (List UInt8)) (k : Nat) (h : k < l.length) (h' : m.length ≤ k) : Pv.cmpL f (l.drop k) (m.drop k) = 1 := by
  rw [List.drop_eq_getElem_cons h, List.drop_of_length_le h', Pv.cmpL]
theorem cmpL_right (f : List UInt8 → List UInt8 → Int) (l m : List (List UInt8)) (k : Nat) (h : l.length ≤ k) (h' : k < m.length) : Pv.cmpL f (l.drop k) (m.drop k) = -1 := by
  rw [List.drop_eq_getElem_cons h', List.drop_of_length_le h, Pv.cmpL]
theorem cmpL_none (f : List UInt8 → List UInt8 → Int) (l m : List (List UInt8)) (k : Nat) (h : l.length ≤ k) (h' : m.length ≤ k) : Pv.cmpL f (l.drop k) (m.drop k) = 0 := by
  rw [List.drop_of_length_le h, List.drop_of_length_le h', Pv.cmpL]

set_option maxHeartbeats 1000000 in
/-- slices.Compare at three numbers each. -/
theorem compareInts_any (l m : List (List UInt8)) (b b' c c' : Nat) (w : World) (hl : l.length = 3) (hm : m.length = 3)
    (hc : ∀ j, j < 3 → w.cell? ⟨b, j, none⟩ = some (.int .i64 (Pv.val l[j]!))) (hc' : ∀ j, j < 3 → w.cell? ⟨b', j, none⟩ = some (.int .i64 (Pv.val m[j]!))) :
    Calls Tryz.prog 280 #[.slice (some ⟨b, 0, none⟩) 3 c, .slice (some ⟨b', 0, none⟩) 3 c'] w fun e w' => e = .returned (.int .i64 (Pv.cmpL Pv.cmpN l m)) ∧ w' = w := by
  generalize hr : Pv.cmpL Pv.cmpN l m = r
  have HR : Hid (Pv.cmpL Pv.cmpN (l.drop 0) (m.drop 0) = r) := hr
  clear hr
  have HL : Hid (l.length = 3) := hl
  have HM : Hid (m.length = 3) := hm
  clear hl hm
  have HC : Hid (∀ j, j < 3 → w.cell? ⟨b, j, none⟩ = some (.int .i64 (Pv.val l[j]!))) := hc
  have HC' : Hid (∀ j, j < 3 → w.cell? ⟨b', j, none⟩ = some (.int .i64 (Pv.val m[j]!))) := hc'
  clear hc hc'
  go_enter Tryz.func280, Tryz.ntmps280
  go_wp2
  go_loopg [11] 3 (fun gg s11 wr => ∃ k : Nat, k ≤ 3 ∧ 3 - k ≤ gg ∧ s11 = .int .i64 k ∧ wr = w ∧ Hid (Pv.cmpL Pv.cmpN (l.drop k) (m.drop k) = r))
  case atStart => exact ⟨0, by omega, by omega, rfl, rfl, HR⟩
  case round =>
    obtain ⟨k, hk, hg, rfl, rfl, A⟩ := hrel
    by_cases hlt : k < 3
    · have hcell := HC.out k hlt
      have hcell' := HC'.out k hlt
      have hb := cmpL_both Pv.cmpN l m k (by rw [HL.out]; exact hlt) (by rw [HM.out]; exact hlt)
      rw [A.out] at hb
      unfold Pv.cmpN at hb
      generalize (Pv.val l[k]! : Int) = x at hcell hb
      generalize (Pv.val m[k]! : Int) = y at hcell' hb
      have kcc := Tryz.cmp_Compare_int x y
      generalize Lib.compareInt x y = q at kcc hb
      have HB : Hid (r = if q = 0 then Pv.cmpL Pv.cmpN (l.drop (k + 1)) (m.drop (k + 1)) else q) := hb
      clear hb
      by_cases hq : q = 0
      · subst hq
        have HN : Hid (Pv.cmpL Pv.cmpN (l.drop (k + 1)) (m.drop (k + 1)) = r) := by have := HB.out; rw [if_pos rfl] at this; exact this.symm
        clear HB
        go_wp2_with (go_at_call 121; refine (kcc _).mono ?_; rintro e w3 ⟨rfl, rfl⟩)
        go_roundg (3 - (k + 1))
        case measure => omega
        case rel => exact ⟨k + 1, by omega, by omega, by go_num, rfl, HN⟩
      · have hq' : (q != 0) = true := by simpa using hq
        have HQ : Hid (r = q) := by have := HB.out; rw [if_neg hq] at this; exact this
        clear hq HB
        go_wp2_with (go_at_call 121; refine (kcc _).mono ?_; rintro e w3 ⟨rfl, rfl⟩)
        go_ret
        exact ⟨ret_int HQ.out.symm, rfl⟩
    · have he : k = 3 := by omega
      subst he
      have h0 := cmpL_none Pv.cmpN l m 3 (by rw [HL.out]; omega) (by rw [HM.out]; omega)
      rw [A.out] at h0
      have H0 : Hid (r = 0) := h0
      clear h0
      go_wp2
      go_ret
      exact ⟨ret_int H0.out.symm, rfl⟩

set_option maxHeartbeats 1000000 in
/-- slices.CompareFunc over identifiers. -/
theorem compareLists_any (l m : List ByteArray) (b b' c c' : Nat) (w : World) (hl8 : l.length ≤ 4) (hm8 : m.length ≤ 4) (hb : b < w.heap.size) (hb' : b' < w.heap.size)
    (hl : ∀ x ∈ l, x.size ≤ 8) (hm : ∀ x ∈ m, x.size ≤ 8)
    (hc : ∀ j, j < l.length → w.cell? ⟨b, j, none⟩ = some (.string l[j]!)) (hc' : ∀ j, j < m.length → w.cell? ⟨b', j, none⟩ = some (.string m[j]!)) :
    Calls Tryz.prog 282 #[.slice (some ⟨b, 0, none⟩) l.length c, .slice (some ⟨b', 0, none⟩) m.length c', .func (.func 283) #[] #[]] w fun e w' => e = .returned (.int .i64 (Pv.cmpL Pv.cmpId (l.map (·.data.toList)) (m.map (·.data.toList)))) ∧ Below w.heap.size w w' := by
  generalize hr : Pv.cmpL Pv.cmpId (l.map (·.data.toList)) (m.map (·.data.toList)) = r
  generalize hL : l.map (·.data.toList) = L at hr
  generalize hM : m.map (·.data.toList) = M at hr
  generalize hnl : l.length = nl at *
  generalize hnm : m.length = nm at *
  have HR : Hid (Pv.cmpL Pv.cmpId (L.drop 0) (M.drop 0) = r) := hr
  clear hr
  have HL : Hid (L.length = nl) := by show L.length = nl; rw [← hL]; simpa using hnl
  have HM : Hid (M.length = nm) := by show M.length = nm; rw [← hM]; simpa using hnm
  have HLE : Hid (∀ j, j < nl → L[j]! = l[j]!.data.toList ∧ l[j]!.size ≤ 8) := by
    intro j hj
    have h1 : j < l.length := by omega
    have h2 : j < L.length := by rw [HL.out]; exact hj
    rw [getElem!_pos l j h1, getElem!_pos L j h2]
    refine ⟨?_, hl _ (List.getElem_mem h1)⟩
    subst hL
    simp
  have HME : Hid (∀ j, j < nm → M[j]! = m[j]!.data.toList ∧ m[j]!.size ≤ 8) := by
    intro j hj
    have h1 : j < m.length := by omega
    have h2 : j < M.length := by rw [HM.out]; exact hj
    rw [getElem!_pos m j h1, getElem!_pos M j h2]
    refine ⟨?_, hm _ (List.getElem_mem h1)⟩
    subst hM
    simp
  have HC : Hid (∀ j, j < nl → w.cell? ⟨b, j, none⟩ = some (.string l[j]!)) := hc
  have HC' : Hid (∀ j, j < nm → w.cell? ⟨b', j, none⟩ = some (.string m[j]!)) := hc'
  clear hc hc' hL hM hnl hnm hl hm
  go_enter Tryz.func282, Tryz.ntmps282
  go_wp2
  go_loopg [13] nl (fun gg s13 wr => ∃ k : Nat, k ≤ nl ∧ k ≤ nm ∧ nl - k ≤ gg ∧ s13 = .int .i64 k ∧ Below w.heap.size w wr ∧ Hid (Pv.cmpL Pv.cmpId (L.drop k) (M.drop k) = r))
  case atStart => exact ⟨0, by omega, by omega, by omega, rfl, Below.refl _ _, HR⟩
  case round =>
    obtain ⟨k, hk, hk', hg, rfl, hbw, A⟩ := hrel
    by_cases hlt : k < nl
    · have hcell : wr.cell? ⟨b, k, none⟩ = some (.string l[k]!) := by rw [hbw.cell (p := ⟨b, k, none⟩) hb]; exact HC.out k hlt
      by_cases hlt' : k < nm
      · have hcell' : wr.cell? ⟨b', k, none⟩ = some (.string m[k]!) := by rw [hbw.cell (p := ⟨b', k, none⟩) hb']; exact HC'.out k hlt'
        have hbo := cmpL_both Pv.cmpId L M k (by rw [HL.out]; exact hlt) (by rw [HM.out]; exact hlt')
        rw [A.out, (HLE.out k hlt).1, (HME.out k hlt').1] at hbo
        have kcc := fun w => compareIdentifiers_any l[k]! m[k]! w (HLE.out k hlt).2 (HME.out k hlt').2
        generalize Pv.cmpId l[k]!.data.toList m[k]!.data.toList = q at kcc hbo
        generalize l[k]! = x at hcell kcc
        generalize m[k]! = y at hcell' kcc
        by_cases hq : q = 0
        · subst hq
          have HN : Hid (Pv.cmpL Pv.cmpId (L.drop (k + 1)) (M.drop (k + 1)) = r) := by have := hbo; rw [if_pos rfl] at this; exact this.symm
          clear hbo
          go_wp2_with (go_at_call 283; refine (kcc _).mono ?_; rintro e w3 ⟨rfl, hb3⟩)
          go_roundg (nl - (k + 1))
          case measure => omega
          case rel => exact ⟨k + 1, by omega, by omega, by omega, by go_num, hbw.trans (hb3.mono hbw.size), HN⟩
        · have hq' : (q != 0) = true := by simpa using hq
          have HQ : Hid (r = q) := by have := hbo; rw [if_neg hq] at this; exact this
          clear hq hbo
          go_wp2_with (go_at_call 283; refine (kcc _).mono ?_; rintro e w3 ⟨rfl, hb3⟩)
          go_ret
          exact ⟨ret_int HQ.out.symm, hbw.trans (hb3.mono hbw.size)⟩
      · have h1 := cmpL_left Pv.cmpId L M k (by rw [HL.out]; exact hlt) (by rw [HM.out]; omega)
        rw [A.out] at h1
        have H1 : Hid (r = 1) := h1
        clear h1
        go_wp2
        go_ret
        exact ⟨ret_int H1.out.symm, hbw⟩
    · have he : k = nl := by omega
      subst he
      by_cases hlt' : k < nm
      · have h1 := cmpL_right Pv.cmpId L M k (by rw [HL.out]; omega) (by rw [HM.out]; exact hlt')
        rw [A.out] at h1
        have H1 : Hid (r = -1) := h1
        clear h1
        go_wp2
        go_ret
        exact ⟨ret_int H1.out.symm, hbw⟩
      · have h1 := cmpL_none Pv.cmpId L M k (by rw [HL.out]; omega) (by rw [HM.out]; omega)
        rw [A.out] at h1
        have H1 : Hid (r = 0) := h1
        clear h1
        go_wp2
        go_ret
        exact ⟨ret_int H1.out.symm, hbw⟩

end Go.Proofs.YtiamomiafekihaaGreatDoor.Dr
