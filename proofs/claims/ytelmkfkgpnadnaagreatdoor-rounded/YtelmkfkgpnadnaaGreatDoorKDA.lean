/-
  What a call has left below a block, and that it has drawn: the word for a comparison that sorting asks.
  With the draws counted.   The walks of the comparisons of numbers, identifiers and lists.
  With the draws counted.   The walk of the comparison of two versions.
  With the draws counted.   The comparison of two versions, all cases together.
  With the draws counted.   The walk of the reading of three numbers.
  With the draws counted.   The walk of the reading of three numbers: where one is none.
  With the draws counted.   The reading of three numbers, all cases together; and the walk of the reading of a version.
  With the draws counted.   The walk of the reading of a version, way by way.
  With the draws counted.   The reading of a version, all ways together; and the program's Compare.
-/
import Derived.Test.YtelmkfkgpnadnaaGreatDoorKWA
import Derived.Lib.AtoiErrMem
import Derived.Deep.LoopGhost
import Derived.Deep.QuietTactic
import Derived.BigQuiet
import Derived.Deep.RegionWith
import Derived.LoopN
namespace Go.Proofs.YtelmkfkgpnadnaaGreatDoor.Dr
open Go.RowKit

/-- Below a block all is as it was; no draw was taken back. -/
structure Below (B : Nat) (w w' : World) : Prop where
  kit : Go.RowKit.Below B w w'
  drawn : w.drawn ≤ w'.drawn

variable {B : Nat} {a b c w w' : World}

theorem Below.os (h : Below B w w') : w'.os = w.os := h.kit.os
theorem Below.tape (h : Below B w w') : w'.tape = w.tape := h.kit.tape
theorem Below.output (h : Below B w w') : w'.output = w.output := h.kit.output
theorem Below.size (h : Below B w w') : w.heap.size ≤ w'.heap.size := h.kit.size
theorem Below.block (h : Below B w w') : ∀ k, k < B → w'.heap[k]? = w.heap[k]? := h.kit.block
theorem Below.refl (B : Nat) (w : World) : Below B w w := ⟨Go.RowKit.Below.refl B w, Nat.le_refl _⟩
theorem Below.trans (h : Below B a b) (k : Below B b c) : Below B a c := ⟨h.kit.trans k.kit, Nat.le_trans h.drawn k.drawn⟩
theorem Below.mono {B' : Nat} (h : Below B w w') (hB : B' ≤ B) : Below B' w w' := ⟨h.kit.mono hB, h.drawn⟩
theorem Below.heap_setCell (w : World) (a : Addr) (u : Value) (k : Nat) (h : k ≠ a.block) : (w.setCell a u).heap[k]? = w.heap[k]? := Go.RowKit.Below.heap_setCell w a u k h
theorem Below.alloc (h : Below B a w) (hB : B ≤ w.heap.size) (o : Obj) : Below B a (w.alloc o) := ⟨h.kit.alloc hB o, h.drawn⟩
theorem Below.setCell (h : Below B a w) {p : Addr} (hp : B ≤ p.block) (u : Value) : Below B a (w.setCell p u) := ⟨h.kit.setCell hp u, h.drawn⟩
theorem Below.cell (h : Below B w w') {p : Addr} (hp : p.block < B) : w'.cell? p = w.cell? p := h.kit.cell hp
theorem below_drewN' (h : Below B a w) (q : Nat) : Below B a (w.drewN q) := ⟨⟨h.os, h.tape, h.output, h.size, h.block⟩, Nat.le_trans h.drawn (Nat.le_add_right _ _)⟩
theorem bytesWorld_below (w : World) (e : TypeId) (s : ByteArray) : Below w.heap.size w (Lib.bytesWorld w e s) := ⟨Lib.bytesWorld_below w e s, Nat.le_succ _⟩

/-- What is left is a grown world. -/
theorem Below.grow (h : Below w.heap.size w w') : ∃ q os, w' = Go.Sort.grow (w.drewN q) os := by
  refine ⟨w'.drawn - w.drawn, w'.heap.extract w.heap.size w'.heap.size, ?_⟩
  have hd := h.drawn
  have hh : w'.heap = w.heap ++ w'.heap.extract w.heap.size w'.heap.size := by
    apply Array.ext
    · simp; have := h.size; omega
    · intro i hi hi'
      by_cases hlt : i < w.heap.size
      · rw [Array.getElem_append_left hlt]
        have e := h.block i hlt
        rw [Array.getElem?_eq_getElem hi, Array.getElem?_eq_getElem hlt] at e
        injection e
      · rw [Array.getElem_append_right (by omega), Array.getElem_extract]
        congr 1
        omega
  cases w with
  | mk heap tape drawn os output =>
  cases w' with
  | mk heap' tape' drawn' os' output' =>
  have h1 := h.os
  have h2 := h.tape
  have h3 := h.output
  simp only at h1 h2 h3 hd hh
  subst h1 h2 h3
  simp only [Go.Sort.grow, World.drewN, World.mk.injEq, true_and, and_true]
  exact ⟨hh, by omega⟩

end Go.Proofs.YtelmkfkgpnadnaaGreatDoor.Dr

namespace Go.Proofs.YtelmkfkgpnadnaaGreatDoor.Dr
open Go.RowKit

set_option maxHeartbeats 400000 in
theorem numberOf_any (s : ByteArray) (w : World) (h : Pv.isNum s.data.toList = true) (hs : s.size ≤ 8) :
    Calls Tryz.prog 243 #[.string s] w fun e w' => e = .returned (.int .i64 (Pv.val s.data.toList)) ∧ Below w.heap.size w w' := by
  have k := Tryz.strconv_Atoi s (Pv.val s.data.toList) (by omega) (Pv.atoi_val h) w
  generalize (Pv.val s.data.toList : Int) = v at k
  clear h
  go_enter Tryz.func243, Tryz.ntmps243
  go_wp2_with (go_at_call 291; refine k.mono ?_; rintro e w' ⟨rfl, t, hw⟩; have hb : Below w.heap.size w w' := (by rw [hw]; exact bytesWorld_below _ _ _); clear hw)
  go_ret
  exact ⟨rfl, hb⟩

set_option maxHeartbeats 600000 in
theorem compareIdentifiers_any (a b : ByteArray) (w : World) (ha : a.size ≤ 8) (hb : b.size ≤ 8) :
    Calls Tryz.prog 268 #[.string a, .string b] w fun e w' => e = .returned (.int .i64 (Pv.cmpId a.data.toList b.data.toList)) ∧ Below w.heap.size w w' := by
  have k1 := fun w => isNumber_any a w (by unfold maxLen; omega)
  have k2 := fun w => isNumber_any b w (by unfold maxLen; omega)
  have kc := Tryz.strings_Compare a b
  unfold Pv.cmpId
  cases h1 : Pv.isNum a.data.toList
  · cases h2 : Pv.isNum b.data.toList
    · simp only [h1] at k1
      simp only [h2] at k2
      generalize hr : Lib.compareBytes a.data.toList b.data.toList = r at kc
      rw [show (if (false && false) = true then Lib.compareInt (Pv.val a.data.toList) (Pv.val b.data.toList) else if false = true then -1 else if false = true then 1 else r) = r from rfl]
      clear hr h1 h2
      go_enter Tryz.func268, Tryz.ntmps268
      go_wp2_with (go_at_call 242; fail)
      go_at_call 242
      refine (k1 _).mono ?_
      rintro e w' ⟨rfl, rfl⟩
      go_wp2_with (first | (go_at_call 242; refine (k2 _).mono ?_; rintro e w' ⟨rfl, rfl⟩) | (go_at_call 176; refine (kc _).mono ?_; rintro e w' ⟨rfl, rfl⟩))
      go_ret
      exact ⟨rfl, Below.refl _ _⟩
    · simp only [h1] at k1
      simp only [h2] at k2
      rw [show (if (false && true) = true then Lib.compareInt (Pv.val a.data.toList) (Pv.val b.data.toList) else if false = true then -1 else if true = true then 1 else Lib.compareBytes a.data.toList b.data.toList) = 1 from rfl]
      clear h1 h2
      go_enter Tryz.func268, Tryz.ntmps268
      go_wp2_with (go_at_call 242; fail)
      go_at_call 242
      refine (k1 _).mono ?_
      rintro e w' ⟨rfl, rfl⟩
      go_wp2_with (first | (go_at_call 242; refine (k2 _).mono ?_; rintro e w' ⟨rfl, rfl⟩))
      go_ret
      exact ⟨rfl, Below.refl _ _⟩
  · cases h2 : Pv.isNum b.data.toList
    · simp only [h1] at k1
      simp only [h2] at k2
      rw [show (if (true && false) = true then Lib.compareInt (Pv.val a.data.toList) (Pv.val b.data.toList) else if true = true then -1 else if false = true then 1 else Lib.compareBytes a.data.toList b.data.toList) = -1 from rfl]
      clear h1 h2
      go_enter Tryz.func268, Tryz.ntmps268
      go_wp2_with (go_at_call 242; fail)
      go_at_call 242
      refine (k1 _).mono ?_
      rintro e w' ⟨rfl, rfl⟩
      go_wp2_with (first | (go_at_call 242; refine (k2 _).mono ?_; rintro e w' ⟨rfl, rfl⟩))
      go_ret
      exact ⟨rfl, Below.refl _ _⟩
    · have n1 := fun w => numberOf_any a w h1 ha
      have n2 := fun w => numberOf_any b w h2 hb
      simp only [h1] at k1
      simp only [h2] at k2
      rw [show (if (true && true) = true then Lib.compareInt (Pv.val a.data.toList) (Pv.val b.data.toList) else if true = true then -1 else if true = true then 1 else Lib.compareBytes a.data.toList b.data.toList) = Lib.compareInt (Pv.val a.data.toList) (Pv.val b.data.toList) from rfl]
      generalize (Pv.val a.data.toList : Int) = x at n1
      generalize (Pv.val b.data.toList : Int) = y at n2
      have kcc := Tryz.cmp_Compare_int x y
      generalize Lib.compareInt x y = r at kcc
      clear h1 h2
      go_enter Tryz.func268, Tryz.ntmps268
      go_wp2_with (go_at_call 242; fail)
      go_at_call 242
      refine (k1 _).mono ?_
      rintro e w' ⟨rfl, rfl⟩
      go_wp2_with (go_at_call 242; refine (k2 _).mono ?_; rintro e w' ⟨rfl, rfl⟩)
      refine (n1 _).mono ?_
      rintro e w1 ⟨rfl, hb1⟩
      go_wp2_with (first | (go_at_call 243; refine (n2 _).mono ?_; rintro e w2 ⟨rfl, hb2⟩) | (go_at_call 196; refine (kcc _).mono ?_; rintro e w3 ⟨rfl, rfl⟩))
      go_ret
      exact ⟨rfl, hb1.trans (hb2.mono hb1.size)⟩

theorem cmpL_both (f : List UInt8 → List UInt8 → Int) (l m : List (List UInt8)) (k : Nat) (h : k < l.length) (h' : k < m.length) : Pv.cmpL f (l.drop k) (m.drop k) = if f l[k]! m[k]! = 0 then Pv.cmpL f (l.drop (k + 1)) (m.drop (k + 1)) else f l[k]! m[k]! := by
  rw [List.drop_eq_getElem_cons h, List.drop_eq_getElem_cons h', Pv.cmpL, getElem!_pos l k h, getElem!_pos m k h']
theorem cmpL_left (f : List UInt8 → List UInt8 → Int) (l m : List (List UInt8)) (k : Nat) (h : k < l.length) (h' : m.length ≤ k) : Pv.cmpL f (l.drop k) (m.drop k) = 1 := by
  rw [List.drop_eq_getElem_cons h, List.drop_of_length_le h', Pv.cmpL]
theorem cmpL_right (f : List UInt8 → List UInt8 → Int) (l m : List (List UInt8)) (k : Nat) (h : l.length ≤ k) (h' : k < m.length) : Pv.cmpL f (l.drop k) (m.drop k) = -1 := by
  rw [List.drop_eq_getElem_cons h', List.drop_of_length_le h, Pv.cmpL]
theorem cmpL_none (f : List UInt8 → List UInt8 → Int) (l m : List (List UInt8)) (k : Nat) (h : l.length ≤ k) (h' : m.length ≤ k) : Pv.cmpL f (l.drop k) (m.drop k) = 0 := by
  rw [List.drop_of_length_le h, List.drop_of_length_le h', Pv.cmpL]

set_option maxHeartbeats 1000000 in
/-- slices.Compare at three numbers each. -/
theorem compareInts_any (l m : List (List UInt8)) (b b' c c' : Nat) (w : World) (hl : l.length = 3) (hm : m.length = 3)
    (hc : ∀ j, j < 3 → w.cell? ⟨b, j, none⟩ = some (.int .i64 (Pv.val l[j]!))) (hc' : ∀ j, j < 3 → w.cell? ⟨b', j, none⟩ = some (.int .i64 (Pv.val m[j]!))) :
    Calls Tryz.prog 265 #[.slice (some ⟨b, 0, none⟩) 3 c, .slice (some ⟨b', 0, none⟩) 3 c'] w fun e w' => e = .returned (.int .i64 (Pv.cmpL Pv.cmpN l m)) ∧ w' = w := by
  generalize hr : Pv.cmpL Pv.cmpN l m = r
  have HR : Hid (Pv.cmpL Pv.cmpN (l.drop 0) (m.drop 0) = r) := hr
  clear hr
  have HL : Hid (l.length = 3) := hl
  have HM : Hid (m.length = 3) := hm
  clear hl hm
  have HC : Hid (∀ j, j < 3 → w.cell? ⟨b, j, none⟩ = some (.int .i64 (Pv.val l[j]!))) := hc
  have HC' : Hid (∀ j, j < 3 → w.cell? ⟨b', j, none⟩ = some (.int .i64 (Pv.val m[j]!))) := hc'
  clear hc hc'
  go_enter Tryz.func265, Tryz.ntmps265
  go_wp2
  go_loopg [11] 3 (fun gg s11 wr => ∃ k : Nat, k ≤ 3 ∧ 3 - k ≤ gg ∧ s11 = .int .i64 k ∧ wr = w ∧ Hid (Pv.cmpL Pv.cmpN (l.drop k) (m.drop k) = r))
  case atStart => exact ⟨0, by omega, by omega, rfl, rfl, HR⟩
  case round =>
    obtain ⟨k, hk, hg, rfl, rfl, A⟩ := hrel
    by_cases hlt : k < 3
    · have hcell := HC.out k hlt
      have hcell' := HC'.out k hlt
      have hb := cmpL_both Pv.cmpN l m k (by rw [HL.out]; exact hlt) (by rw [HM.out]; exact hlt)
      rw [A.out] at hb
      unfold Pv.cmpN at hb
      generalize (Pv.val l[k]! : Int) = x at hcell hb
      generalize (Pv.val m[k]! : Int) = y at hcell' hb
      have kcc := Tryz.cmp_Compare_int x y
      generalize Lib.compareInt x y = q at kcc hb
      have HB : Hid (r = if q = 0 then Pv.cmpL Pv.cmpN (l.drop (k + 1)) (m.drop (k + 1)) else q) := hb
      clear hb
      by_cases hq : q = 0
      · subst hq
        have HN : Hid (Pv.cmpL Pv.cmpN (l.drop (k + 1)) (m.drop (k + 1)) = r) := by have := HB.out; rw [if_pos rfl] at this; exact this.symm
        clear HB
        go_wp2_with (go_at_call 196; refine (kcc _).mono ?_; rintro e w3 ⟨rfl, rfl⟩)
        go_roundg (3 - (k + 1))
        case measure => omega
        case rel => exact ⟨k + 1, by omega, by omega, by go_num, rfl, HN⟩
      · have hq' : (q != 0) = true := by simpa using hq
        have HQ : Hid (r = q) := by have := HB.out; rw [if_neg hq] at this; exact this
        clear hq HB
        go_wp2_with (go_at_call 196; refine (kcc _).mono ?_; rintro e w3 ⟨rfl, rfl⟩)
        go_ret
        exact ⟨ret_int HQ.out.symm, rfl⟩
    · have he : k = 3 := by omega
      subst he
      have h0 := cmpL_none Pv.cmpN l m 3 (by rw [HL.out]; omega) (by rw [HM.out]; omega)
      rw [A.out] at h0
      have H0 : Hid (r = 0) := h0
      clear h0
      go_wp2
      go_ret
      exact ⟨ret_int H0.out.symm, rfl⟩

set_option maxHeartbeats 1000000 in
/-- slices.CompareFunc over identifiers. -/
theorem compareLists_any (l m : List ByteArray) (b b' c c' : Nat) (w : World) (hl8 : l.length ≤ 4) (hm8 : m.length ≤ 4) (hb : b < w.heap.size) (hb' : b' < w.heap.size)
    (hl : ∀ x ∈ l, x.size ≤ 8) (hm : ∀ x ∈ m, x.size ≤ 8)
    (hc : ∀ j, j < l.length → w.cell? ⟨b, j, none⟩ = some (.string l[j]!)) (hc' : ∀ j, j < m.length → w.cell? ⟨b', j, none⟩ = some (.string m[j]!)) :
    Calls Tryz.prog 267 #[.slice (some ⟨b, 0, none⟩) l.length c, .slice (some ⟨b', 0, none⟩) m.length c', .func (.func 268) #[] #[]] w fun e w' => e = .returned (.int .i64 (Pv.cmpL Pv.cmpId (l.map (·.data.toList)) (m.map (·.data.toList)))) ∧ Below w.heap.size w w' := by
  generalize hr : Pv.cmpL Pv.cmpId (l.map (·.data.toList)) (m.map (·.data.toList)) = r
  generalize hL : l.map (·.data.toList) = L at hr
  generalize hM : m.map (·.data.toList) = M at hr
  generalize hnl : l.length = nl at *
  generalize hnm : m.length = nm at *
  have HR : Hid (Pv.cmpL Pv.cmpId (L.drop 0) (M.drop 0) = r) := hr
  clear hr
  have HL : Hid (L.length = nl) := by show L.length = nl; rw [← hL]; simpa using hnl
  have HM : Hid (M.length = nm) := by show M.length = nm; rw [← hM]; simpa using hnm
  have HLE : Hid (∀ j, j < nl → L[j]! = l[j]!.data.toList ∧ l[j]!.size ≤ 8) := by
    intro j hj
    have h1 : j < l.length := by omega
    have h2 : j < L.length := by rw [HL.out]; exact hj
    rw [getElem!_pos l j h1, getElem!_pos L j h2]
    refine ⟨?_, hl _ (List.getElem_mem h1)⟩
    subst hL
    simp
  have HME : Hid (∀ j, j < nm → M[j]! = m[j]!.data.toList ∧ m[j]!.size ≤ 8) := by
    intro j hj
    have h1 : j < m.length := by omega
    have h2 : j < M.length := by rw [HM.out]; exact hj
    rw [getElem!_pos m j h1, getElem!_pos M j h2]
    refine ⟨?_, hm _ (List.getElem_mem h1)⟩
    subst hM
    simp
  have HC : Hid (∀ j, j < nl → w.cell? ⟨b, j, none⟩ = some (.string l[j]!)) := hc
  have HC' : Hid (∀ j, j < nm → w.cell? ⟨b', j, none⟩ = some (.string m[j]!)) := hc'
  clear hc hc' hL hM hnl hnm hl hm
  go_enter Tryz.func267, Tryz.ntmps267
  go_wp2
  go_loopg [13] nl (fun gg s13 wr => ∃ k : Nat, k ≤ nl ∧ k ≤ nm ∧ nl - k ≤ gg ∧ s13 = .int .i64 k ∧ Below w.heap.size w wr ∧ Hid (Pv.cmpL Pv.cmpId (L.drop k) (M.drop k) = r))
  case atStart => exact ⟨0, by omega, by omega, by omega, rfl, Below.refl _ _, HR⟩
  case round =>
    obtain ⟨k, hk, hk', hg, rfl, hbw, A⟩ := hrel
    by_cases hlt : k < nl
    · have hcell : wr.cell? ⟨b, k, none⟩ = some (.string l[k]!) := by rw [hbw.cell (p := ⟨b, k, none⟩) hb]; exact HC.out k hlt
      by_cases hlt' : k < nm
      · have hcell' : wr.cell? ⟨b', k, none⟩ = some (.string m[k]!) := by rw [hbw.cell (p := ⟨b', k, none⟩) hb']; exact HC'.out k hlt'
        have hbo := cmpL_both Pv.cmpId L M k (by rw [HL.out]; exact hlt) (by rw [HM.out]; exact hlt')
        rw [A.out, (HLE.out k hlt).1, (HME.out k hlt').1] at hbo
        have kcc := fun w => compareIdentifiers_any l[k]! m[k]! w (HLE.out k hlt).2 (HME.out k hlt').2
        generalize Pv.cmpId l[k]!.data.toList m[k]!.data.toList = q at kcc hbo
        generalize l[k]! = x at hcell kcc
        generalize m[k]! = y at hcell' kcc
        by_cases hq : q = 0
        · subst hq
          have HN : Hid (Pv.cmpL Pv.cmpId (L.drop (k + 1)) (M.drop (k + 1)) = r) := by have := hbo; rw [if_pos rfl] at this; exact this.symm
          clear hbo
          go_wp2_with (go_at_call 268; refine (kcc _).mono ?_; rintro e w3 ⟨rfl, hb3⟩)
          go_roundg (nl - (k + 1))
          case measure => omega
          case rel => exact ⟨k + 1, by omega, by omega, by omega, by go_num, hbw.trans (hb3.mono hbw.size), HN⟩
        · have hq' : (q != 0) = true := by simpa using hq
          have HQ : Hid (r = q) := by have := hbo; rw [if_neg hq] at this; exact this
          clear hq hbo
          go_wp2_with (go_at_call 268; refine (kcc _).mono ?_; rintro e w3 ⟨rfl, hb3⟩)
          go_ret
          exact ⟨ret_int HQ.out.symm, hbw.trans (hb3.mono hbw.size)⟩
      · have h1 := cmpL_left Pv.cmpId L M k (by rw [HL.out]; exact hlt) (by rw [HM.out]; omega)
        rw [A.out] at h1
        have H1 : Hid (r = 1) := h1
        clear h1
        go_wp2
        go_ret
        exact ⟨ret_int H1.out.symm, hbw⟩
    · have he : k = nl := by omega
      subst he
      by_cases hlt' : k < nm
      · have h1 := cmpL_right Pv.cmpId L M k (by rw [HL.out]; omega) (by rw [HM.out]; exact hlt')
        rw [A.out] at h1
        have H1 : Hid (r = -1) := h1
        clear h1
        go_wp2
        go_ret
        exact ⟨ret_int H1.out.symm, hbw⟩
      · have h1 := cmpL_none Pv.cmpId L M k (by rw [HL.out]; omega) (by rw [HM.out]; omega)
        rw [A.out] at h1
        have H1 : Hid (r = 0) := h1
        clear h1
        go_wp2
        go_ret
        exact ⟨ret_int H1.out.symm, hbw⟩

end Go.Proofs.YtelmkfkgpnadnaaGreatDoor.Dr

namespace Go.Proofs.YtelmkfkgpnadnaaGreatDoor.Dr
open Go.RowKit

set_option maxHeartbeats 400000 in
theorem isPrerelease_any (a b c : Value) (ad : Option Addr) (n k : Nat) (w : World) :
    Calls Tryz.prog 266 #[.agg #[a, b, c, .slice ad n k]] w fun e w' => e = .returned (.bool (decide (0 < n))) ∧ w' = w.alloc (.cells #[a, b, c, .slice ad n k] 251) := by
  by_cases h : 0 < n
  · rw [decide_eq_true h]
    go_enter Tryz.func266, Tryz.ntmps266
    go_wp2
    go_ret
    exact ⟨rfl, rfl⟩
  · rw [decide_eq_false h]
    go_enter Tryz.func266, Tryz.ntmps266
    go_wp2
    go_ret
    exact ⟨rfl, rfl⟩

set_option maxHeartbeats 400000 in
theorem compareNil_any (fv : Value) (w : World) :
    Calls Tryz.prog 267 #[.slice none 0 0, .slice none 0 0, fv] w fun e w' => e = .returned (.int .i64 0) ∧ w' = w := by
  go_enter Tryz.func267, Tryz.ntmps267
  go_wp2
  go_loopg [13] 0 (fun _ s13 wr => s13 = .int .i64 0 ∧ wr = w)
  case atStart => exact ⟨rfl, rfl⟩
  case round =>
    obtain ⟨rfl, rfl⟩ := hrel
    go_wp2
    go_ret
    exact ⟨rfl, rfl⟩

/-- What the walk of Compare needs of its two callees. -/
def Two (x0 x1 x2 y0 y1 y2 : Int) (r0 : Int) : Prop := ∀ (b b' : Nat) (W : World), (W.cell? ⟨b, 0, none⟩ = some (.int .i64 x0) ∧ W.cell? ⟨b, 1, none⟩ = some (.int .i64 x1) ∧ W.cell? ⟨b, 2, none⟩ = some (.int .i64 x2)) → (W.cell? ⟨b', 0, none⟩ = some (.int .i64 y0) ∧ W.cell? ⟨b', 1, none⟩ = some (.int .i64 y1) ∧ W.cell? ⟨b', 2, none⟩ = some (.int .i64 y2)) →
  Calls Tryz.prog 265 #[.slice (some ⟨b, 0, none⟩) 3 3, .slice (some ⟨b', 0, none⟩) 3 3] W fun e w' => e = .returned (.int .i64 r0) ∧ w' = W

theorem two_of (p q s p' q' s' : List UInt8) : Two (Pv.val p) (Pv.val q) (Pv.val s) (Pv.val p') (Pv.val q') (Pv.val s') (Pv.cmpL Pv.cmpN [p, q, s] [p', q', s']) := by
  intro b b' W h h'
  refine compareInts_any [p, q, s] [p', q', s'] b b' 3 3 W rfl rfl ?_ ?_
  · intro j hj
    match j, hj with
    | 0, _ => exact h.1
    | 1, _ => exact h.2.1
    | 2, _ => exact h.2.2
  · intro j hj
    match j, hj with
    | 0, _ => exact h'.1
    | 1, _ => exact h'.2.1
    | 2, _ => exact h'.2.2

set_option maxHeartbeats 1000000 in
theorem verCompare_ne (x0 x1 x2 y0 y1 y2 r0 : Int) (h2 : Two x0 x1 x2 y0 y1 y2 r0) (hr : (r0 != 0) = true) (sa sb : Value) (w : World) :
    Calls Tryz.prog 210 #[.agg #[.int .i64 x0, .int .i64 x1, .int .i64 x2, sa], .agg #[.int .i64 y0, .int .i64 y1, .int .i64 y2, sb]] w fun e w' => e = .returned (.int .i64 r0) ∧ Below w.heap.size w w' := by
  have kc : ∀ n, Calls Tryz.prog 265 #[.slice (some ⟨w.heap.size, 0, none⟩) 3 3, .slice (some ⟨w.heap.size + 1, 0, none⟩) 3 3] (((w.alloc (.cells #[.int .i64 x0, .int .i64 x1, .int .i64 x2, sa] 251)).alloc (.cells #[.int .i64 y0, .int .i64 y1, .int .i64 y2, sb] 251)).drewN n) fun e w' => e = .returned (.int .i64 r0) ∧ w' = (((w.alloc (.cells #[.int .i64 x0, .int .i64 x1, .int .i64 x2, sa] 251)).alloc (.cells #[.int .i64 y0, .int .i64 y1, .int .i64 y2, sb] 251)).drewN n) := fun n => h2 _ _ _ (by simp [go_sem]) (by simp [go_sem])
  clear h2
  go_enter Tryz.func210, Tryz.ntmps210
  go_wp2
  go_quiet ((go_at_call 265; exact Calls.quiet_of_same (kc _)))
  go_wp2
  go_ret
  exact ⟨rfl, (((Below.refl _ _).alloc (Nat.le_refl _) _).alloc (by simp) _).trans (below_drewN' (Below.refl _ _) _)⟩

set_option maxHeartbeats 1000000 in
theorem verCompare_eq (x0 x1 x2 y0 y1 y2 : Int) (h2 : Two x0 x1 x2 y0 y1 y2 0) (ad ad' : Option Addr) (n k n' k' : Nat) (w : World) (hd : decide (0 < n) = decide (0 < n')) (r1 : Int)
    (kl : ∀ W', Below w.heap.size w W' → Calls Tryz.prog 267 #[.slice ad n k, .slice ad' n' k', .func (.func 268) #[] #[]] W' fun e w' => e = .returned (.int .i64 r1) ∧ Below W'.heap.size W' w') :
    Calls Tryz.prog 210 #[.agg #[.int .i64 x0, .int .i64 x1, .int .i64 x2, .slice ad n k], .agg #[.int .i64 y0, .int .i64 y1, .int .i64 y2, .slice ad' n' k']] w fun e w' => e = .returned (.int .i64 r1) ∧ Below w.heap.size w w' := by
  have kc : ∀ m, Calls Tryz.prog 265 #[.slice (some ⟨w.heap.size, 0, none⟩) 3 3, .slice (some ⟨w.heap.size + 1, 0, none⟩) 3 3] (((w.alloc (.cells #[.int .i64 x0, .int .i64 x1, .int .i64 x2, .slice ad n k] 251)).alloc (.cells #[.int .i64 y0, .int .i64 y1, .int .i64 y2, .slice ad' n' k'] 251)).drewN m) fun e w' => e = .returned (.int .i64 0) ∧ w' = (((w.alloc (.cells #[.int .i64 x0, .int .i64 x1, .int .i64 x2, .slice ad n k] 251)).alloc (.cells #[.int .i64 y0, .int .i64 y1, .int .i64 y2, .slice ad' n' k'] 251)).drewN m) := fun n => h2 _ _ _ (by simp [go_sem]) (by simp [go_sem])
  have k1 := fun w => isPrerelease_any (.int .i64 x0) (.int .i64 x1) (.int .i64 x2) ad n k w
  have k2 := fun w => isPrerelease_any (.int .i64 y0) (.int .i64 y1) (.int .i64 y2) ad' n' k' w
  rw [← hd] at k2
  generalize decide (0 < n) = p at k1 k2
  clear h2 hd
  go_enter Tryz.func210, Tryz.ntmps210
  go_wp2
  go_quiet ((go_at_call 265; exact Calls.quiet_of_same (kc _)))
  go_wp2
  go_region_with (first | (go_at_call_of 266 x0; refine (k1 _).mono ?_; rintro e w' ⟨rfl, rfl⟩) | (go_at_call_of 266 y0; refine (k2 _).mono ?_; rintro e w' ⟨rfl, rfl⟩))
  all_goals
    go_wp2_with (go_at_call 267; fail)
    go_at_call 267
    refine (kl _ ?hb).mono ?_
    case hb => repeat (first | exact Below.refl _ _ | refine Below.drew ?_ | refine below_drewN' ?_ _ | refine Below.alloc ?_ (by first | (simp; done) | (simp; omega) | omega) _)
    rintro e w' ⟨rfl, hb'⟩
    go_wp2
    go_ret
    refine ⟨rfl, Below.trans ?_ (hb'.mono ?_)⟩
    · repeat (first | exact Below.refl _ _ | refine Below.drew ?_ | refine below_drewN' ?_ _ | refine Below.alloc ?_ (by first | (simp; done) | (simp; omega) | omega) _)
    · first | (simp; done) | (simp; omega)

end Go.Proofs.YtelmkfkgpnadnaaGreatDoor.Dr

namespace Go.Proofs.YtelmkfkgpnadnaaGreatDoor.Dr
open Go.RowKit

set_option maxHeartbeats 1000000 in
theorem verCompare_pre (x0 x1 x2 y0 y1 y2 : Int) (h2 : Two x0 x1 x2 y0 y1 y2 0) (ad ad' : Option Addr) (n k n' k' : Nat) (w : World) (hn : 0 < n) (hn' : n' = 0) :
    Calls Tryz.prog 210 #[.agg #[.int .i64 x0, .int .i64 x1, .int .i64 x2, .slice ad n k], .agg #[.int .i64 y0, .int .i64 y1, .int .i64 y2, .slice ad' n' k']] w fun e w' => e = .returned (.int .i64 (-1)) ∧ Below w.heap.size w w' := by
  have kc : ∀ m, Calls Tryz.prog 265 #[.slice (some ⟨w.heap.size, 0, none⟩) 3 3, .slice (some ⟨w.heap.size + 1, 0, none⟩) 3 3] (((w.alloc (.cells #[.int .i64 x0, .int .i64 x1, .int .i64 x2, .slice ad n k] 251)).alloc (.cells #[.int .i64 y0, .int .i64 y1, .int .i64 y2, .slice ad' n' k'] 251)).drewN m) fun e w' => e = .returned (.int .i64 0) ∧ w' = (((w.alloc (.cells #[.int .i64 x0, .int .i64 x1, .int .i64 x2, .slice ad n k] 251)).alloc (.cells #[.int .i64 y0, .int .i64 y1, .int .i64 y2, .slice ad' n' k'] 251)).drewN m) := fun n => h2 _ _ _ (by simp [go_sem]) (by simp [go_sem])
  have k1 := fun w => isPrerelease_any (.int .i64 x0) (.int .i64 x1) (.int .i64 x2) ad n k w
  have k2 := fun w => isPrerelease_any (.int .i64 y0) (.int .i64 y1) (.int .i64 y2) ad' n' k' w
  rw [decide_eq_true hn] at k1
  rw [decide_eq_false (by omega : ¬ 0 < n')] at k2
  clear h2 hn hn'
  go_enter Tryz.func210, Tryz.ntmps210
  go_wp2
  go_quiet ((go_at_call 265; exact Calls.quiet_of_same (kc _)))
  go_wp2
  go_region_with (first | (go_at_call_of 266 x0; refine (k1 _).mono ?_; rintro e w' ⟨rfl, rfl⟩) | (go_at_call_of 266 y0; refine (k2 _).mono ?_; rintro e w' ⟨rfl, rfl⟩))
  all_goals
    go_wp2_with (go_at_call 266; refine (k1 _).mono ?_; rintro e w' ⟨rfl, rfl⟩)
    go_ret
    refine ⟨rfl, ?_⟩
    repeat (first | exact Below.refl _ _ | refine Below.drew ?_ | refine below_drewN' ?_ _ | refine Below.alloc ?_ (by first | (simp; done) | (simp; omega) | omega) _)

set_option maxHeartbeats 1000000 in
theorem verCompare_post (x0 x1 x2 y0 y1 y2 : Int) (h2 : Two x0 x1 x2 y0 y1 y2 0) (ad ad' : Option Addr) (n k n' k' : Nat) (w : World) (hn : n = 0) (hn' : 0 < n') :
    Calls Tryz.prog 210 #[.agg #[.int .i64 x0, .int .i64 x1, .int .i64 x2, .slice ad n k], .agg #[.int .i64 y0, .int .i64 y1, .int .i64 y2, .slice ad' n' k']] w fun e w' => e = .returned (.int .i64 1) ∧ Below w.heap.size w w' := by
  have kc : ∀ m, Calls Tryz.prog 265 #[.slice (some ⟨w.heap.size, 0, none⟩) 3 3, .slice (some ⟨w.heap.size + 1, 0, none⟩) 3 3] (((w.alloc (.cells #[.int .i64 x0, .int .i64 x1, .int .i64 x2, .slice ad n k] 251)).alloc (.cells #[.int .i64 y0, .int .i64 y1, .int .i64 y2, .slice ad' n' k'] 251)).drewN m) fun e w' => e = .returned (.int .i64 0) ∧ w' = (((w.alloc (.cells #[.int .i64 x0, .int .i64 x1, .int .i64 x2, .slice ad n k] 251)).alloc (.cells #[.int .i64 y0, .int .i64 y1, .int .i64 y2, .slice ad' n' k'] 251)).drewN m) := fun n => h2 _ _ _ (by simp [go_sem]) (by simp [go_sem])
  have k1 := fun w => isPrerelease_any (.int .i64 x0) (.int .i64 x1) (.int .i64 x2) ad n k w
  have k2 := fun w => isPrerelease_any (.int .i64 y0) (.int .i64 y1) (.int .i64 y2) ad' n' k' w
  rw [decide_eq_false (by omega : ¬ 0 < n)] at k1
  rw [decide_eq_true hn'] at k2
  clear h2 hn hn'
  go_enter Tryz.func210, Tryz.ntmps210
  go_wp2
  go_quiet ((go_at_call 265; exact Calls.quiet_of_same (kc _)))
  go_wp2
  go_region_with (first | (go_at_call_of 266 x0; refine (k1 _).mono ?_; rintro e w' ⟨rfl, rfl⟩) | (go_at_call_of 266 y0; refine (k2 _).mono ?_; rintro e w' ⟨rfl, rfl⟩))
  all_goals
    go_wp2_with (go_at_call 266; refine (k1 _).mono ?_; rintro e w' ⟨rfl, rfl⟩)
    go_ret
    refine ⟨rfl, ?_⟩
    repeat (first | exact Below.refl _ _ | refine Below.drew ?_ | refine below_drewN' ?_ _ | refine Below.alloc ?_ (by first | (simp; done) | (simp; omega) | omega) _)

/-- A slice of identifiers, as a version holds it. -/
def SlOf (w : World) (v : Value) (ids : List ByteArray) : Prop :=
  (ids = [] ∧ v = .slice none 0 0) ∨ ∃ b c, v = .slice (some ⟨b, 0, none⟩) ids.length c ∧ ids ≠ [] ∧ b < w.heap.size ∧ ∀ j, j < ids.length → w.cell? ⟨b, j, none⟩ = some (.string ids[j]!)

theorem SlOf.below {w w' : World} {v : Value} {ids : List ByteArray} (h : SlOf w v ids) (hb : Below w.heap.size w w') : SlOf w' v ids := by
  rcases h with h | ⟨b, c, h1, h2, h3, h4⟩
  · exact Or.inl h
  · exact Or.inr ⟨b, c, h1, h2, Nat.lt_of_lt_of_le h3 hb.size, fun j hj => by rw [hb.cell (p := ⟨b, j, none⟩) h3]; exact h4 j hj⟩

theorem verCompare_any (p q s p' q' s' : List UInt8) (ids ids' : List ByteArray) (sl sl' : Value) (w : World) (h : SlOf w sl ids) (h' : SlOf w sl' ids') (hl : ids.length ≤ 4) (hl' : ids'.length ≤ 4) (hz : ∀ x ∈ ids, x.size ≤ 8) (hz' : ∀ x ∈ ids', x.size ≤ 8) :
    Calls Tryz.prog 210 #[.agg #[.int .i64 (Pv.val p), .int .i64 (Pv.val q), .int .i64 (Pv.val s), sl], .agg #[.int .i64 (Pv.val p'), .int .i64 (Pv.val q'), .int .i64 (Pv.val s'), sl']] w fun e w' => e = .returned (.int .i64 (Pv.cmpV ([p, q, s], ids.map (·.data.toList)) ([p', q', s'], ids'.map (·.data.toList)))) ∧ Below w.heap.size w w' := by
  have h2 := two_of p q s p' q' s'
  unfold Pv.cmpV
  dsimp only
  by_cases hr : Pv.cmpL Pv.cmpN [p, q, s] [p', q', s'] = 0
  · rw [if_pos hr]
    rw [hr] at h2
    simp only [List.length_map]
    rcases h with ⟨rfl, rfl⟩ | ⟨b, c, rfl, hne, hb, hc⟩
    · rcases h' with ⟨rfl, rfl⟩ | ⟨b', c', rfl, hne', hb', hc'⟩
      · exact verCompare_eq _ _ _ _ _ _ h2 none none 0 0 0 0 w rfl 0 (fun W' _ => (compareNil_any _ W').mono (by rintro e w' ⟨rfl, rfl⟩; exact ⟨rfl, Below.refl _ _⟩))
      · have hpos : 0 < ids'.length := List.length_pos_iff.2 hne'
        rw [if_neg (by simp; omega), if_neg (by simp)]
        exact verCompare_post _ _ _ _ _ _ h2 _ _ 0 0 _ _ w rfl hpos
    · have hpos : 0 < ids.length := List.length_pos_iff.2 hne
      rcases h' with ⟨rfl, rfl⟩ | ⟨b', c', rfl, hne', hb', hc'⟩
      · rw [if_neg (by simp; omega), if_pos hpos]
        exact verCompare_pre _ _ _ _ _ _ h2 _ _ _ _ 0 0 w hpos rfl
      · have hpos' : 0 < ids'.length := List.length_pos_iff.2 hne'
        rw [if_pos (by simp [hpos, hpos'])]
        refine verCompare_eq _ _ _ _ _ _ h2 _ _ _ _ _ _ w (by simp [hpos, hpos']) _ (fun W' hbw => ?_)
        exact compareLists_any ids ids' b b' c c' W' hl hl' (Nat.lt_of_lt_of_le hb hbw.size) (Nat.lt_of_lt_of_le hb' hbw.size) hz hz' (fun j hj => by rw [hbw.cell (p := ⟨b, j, none⟩) hb]; exact hc j hj) (fun j hj => by rw [hbw.cell (p := ⟨b', j, none⟩) hb']; exact hc' j hj)
  · rw [if_neg hr]
    exact verCompare_ne _ _ _ _ _ _ _ h2 (by simpa using hr) sl sl' w

end Go.Proofs.YtelmkfkgpnadnaaGreatDoor.Dr

namespace Go.Proofs.YtelmkfkgpnadnaaGreatDoor.Dr
open Go.RowKit

/-- The library's variable internal/bytealg.MaxLen holds an int, whichever. -/
def Ml (w : World) : Prop := ∃ m, w.cell? ⟨0, 0, none⟩ = some (.int .i64 m)
theorem Ml.pos {w : World} (h : Ml w) : 0 < w.heap.size := by
  obtain ⟨m, h⟩ := h
  apply Classical.byContradiction
  intro hc
  have : w.heap[0]? = none := Array.getElem?_eq_none (by omega)
  simp [World.cell?, this] at h
theorem Ml.below {w w' : World} (h : Ml w) (hb : Below w.heap.size w w') : Ml w' := by
  have hp := h.pos
  obtain ⟨m, h⟩ := h
  exact ⟨m, by rw [hb.cell (p := ⟨0, 0, none⟩) hp]; exact h⟩

theorem spl_len (c : UInt8) : ∀ (l : List UInt8), ∀ x ∈ Pv.spl c l, x.length ≤ l.length
  | [], x, h => by simp [Pv.spl] at h; simp [h]
  | b :: t, x, h => by
    have ih := spl_len c t
    unfold Pv.spl at h
    split at h
    · rcases List.mem_cons.1 h with rfl | h
      · simp
      · have := ih x h; simp; omega
    · split at h
      · simp at h; simp [h]
      · rename_i p ps e
        rw [e] at ih
        rcases List.mem_cons.1 h with rfl | h
        · have := ih p (by simp); simp; omega
        · have := ih x (by simp [h]); simp; omega

/-- What Split lays, at a dot. -/
theorem split_any (s : ByteArray) (hs : s.size < 4294967281) : ∃ l : List ByteArray, l.map (·.data.toList) = Pv.spl 46 s.data.toList ∧ (∀ x ∈ l, x.size ≤ s.size) ∧
    ∀ w : World, Ml w → Calls Tryz.prog 122 #[.string s, .string ⟨#[46]⟩] w fun e w' => e = .returned (.slice (some ⟨w.heap.size, 0, none⟩) l.length l.length) ∧ w' = w.alloc (.cells (l.map Value.string).toArray 9) := by
  have h1 : 1 ≤ (⟨#[46]⟩ : ByteArray).size := by decide
  refine ⟨Lib.splitB ⟨#[46]⟩ 0 (Lib.countB s ⟨#[46]⟩) s, Pv.splitB_spl s ⟨#[46]⟩ 46 rfl, ?_, ?_⟩
  · intro x hx
    have hm : x.data.toList ∈ Pv.spl 46 s.data.toList := by
      rw [← Pv.splitB_spl s ⟨#[46]⟩ 46 rfl]; exact List.mem_map_of_mem hx
    have := spl_len 46 _ _ hm
    rw [← Lib.size_eq, ← Lib.size_eq] at this
    exact this
  · rintro w ⟨m, hm⟩
    have k := Tryz.strings_Split s ⟨#[46]⟩ m w hs hm h1
    rw [Lib.splitB_all ⟨#[46]⟩ h1 0 _ s rfl]
    exact k

set_option maxHeartbeats 1000000 in
theorem parseNumbers_len (s : ByteArray) (l : List ByteArray) (w : World) (hl : ((l.length : Int) != 3) = true)
    (k : ∀ W : World, Below w.heap.size w W → Calls Tryz.prog 122 #[.string s, .string ⟨#[46]⟩] W fun e w' => e = .returned (.slice (some ⟨W.heap.size, 0, none⟩) l.length l.length) ∧ w' = W.alloc (.cells (l.map Value.string).toArray 9)) :
    Calls Tryz.prog 198 #[.string s] w fun e w' => e = .returned (.tuple #[.agg #[.int .i64 0, .int .i64 0, .int .i64 0], .bool false]) ∧ Below w.heap.size w w' := by
  have k := k ((w.alloc (.cells #[.int .i64 0, .int .i64 0, .int .i64 0] 249)).alloc (.cells #[.int .i64 0, .int .i64 0, .int .i64 0] 249)) (((Below.refl _ _).alloc (Nat.le_refl _) _).alloc (by simp) _)
  go_enter Tryz.func198, Tryz.ntmps198
  go_wp2_with (go_at_call 122; refine k.mono ?_; rintro e w' ⟨rfl, rfl⟩)
  exact bodyPost_ret (v := .tuple #[.agg #[.int .i64 0, .int .i64 0, .int .i64 0], .bool false]) (by simp [results, Tryz.results198, go_sem]) rfl ⟨rfl, (((Below.refl _ _).alloc (Nat.le_refl _) _).alloc (by simp) _).alloc (by simp; omega) _⟩

theorem cells3 {w : World} {b : Nat} {a0 a1 a2 : Value} {t : TypeId} (h : w.heap[b]? = some (.cells #[a0, a1, a2] t)) : (w.cell? ⟨b, 0, none⟩ = some a0 ∧ w.cell? ⟨b, 1, none⟩ = some a1 ∧ w.cell? ⟨b, 2, none⟩ = some a2) ∧ (w.frozen? ⟨b, 0, none⟩ = false ∧ w.frozen? ⟨b, 1, none⟩ = false ∧ w.frozen? ⟨b, 2, none⟩ = false) := by
  simp [World.cell?, World.frozen?, h]

/-- The three blocks of the call: its result, its numbers, the parts. -/
def St (w wr : World) (x0 x1 x2 : ByteArray) (a0 a1 a2 : Int) : Prop :=
  Below w.heap.size w wr ∧ w.heap.size + 2 < wr.heap.size ∧ wr.heap[w.heap.size]? = some (.cells #[.int .i64 0, .int .i64 0, .int .i64 0] 249) ∧ wr.heap[w.heap.size + 1]? = some (.cells #[.int .i64 a0, .int .i64 a1, .int .i64 a2] 249) ∧ wr.heap[w.heap.size + 2]? = some (.cells #[.string x0, .string x1, .string x2] 9)

theorem St.start (w : World) (x0 x1 x2 : ByteArray) : St w (((w.alloc (.cells #[.int .i64 0, .int .i64 0, .int .i64 0] 249)).alloc (.cells #[.int .i64 0, .int .i64 0, .int .i64 0] 249)).alloc (.cells #[.string x0, .string x1, .string x2] 9)) x0 x1 x2 0 0 0 := by
  refine ⟨(((Below.refl _ _).alloc (Nat.le_refl _) _).alloc (by simp) _).alloc (by simp; omega) _, by simp, ?_, ?_, ?_⟩
  all_goals
    show (((w.heap.push _).push _).push _)[_]? = _
    rw [Array.getElem?_push, Array.getElem?_push, Array.getElem?_push]
    simp only [Array.size_push]
  · rw [if_neg (by omega), if_neg (by omega), if_pos trivial]
  · rw [if_neg (by omega), if_pos trivial]
  · rw [if_pos trivial]

theorem St.below {w wr w' : World} {x0 x1 x2 : ByteArray} {a0 a1 a2 : Int} (h : St w wr x0 x1 x2 a0 a1 a2) (hb : Below wr.heap.size wr w') : St w w' x0 x1 x2 a0 a1 a2 := by
  obtain ⟨h1, h2, h3, h4, h5⟩ := h
  have := hb.size
  exact ⟨h1.trans (hb.mono h1.size), by omega, by rw [hb.block _ (by omega)]; exact h3, by rw [hb.block _ (by omega)]; exact h4, by rw [hb.block _ (by omega)]; exact h5⟩

theorem St.set {w wr : World} {x0 x1 x2 : ByteArray} {a0 a1 a2 : Int} (h : St w wr x0 x1 x2 a0 a1 a2) (v : Int) :
    St w (wr.setCell ⟨w.heap.size + 1, 0, none⟩ (.int .i64 v)) x0 x1 x2 v a1 a2 ∧ St w (wr.setCell ⟨w.heap.size + 1, 1, none⟩ (.int .i64 v)) x0 x1 x2 a0 v a2 ∧ St w (wr.setCell ⟨w.heap.size + 1, 2, none⟩ (.int .i64 v)) x0 x1 x2 a0 a1 v := by
  obtain ⟨h1, h2, h3, h4, h5⟩ := h
  refine ⟨?_, ?_, ?_⟩
  all_goals
    refine ⟨h1.setCell (by simp) _, by simpa [World.setCell] using h2, ?_, ?_, ?_⟩
    · rw [Below.heap_setCell _ _ _ _ (by simp)]; exact h3
    · simp [World.setCell, Array.getElem?_modify, h4]
    · rw [Below.heap_setCell _ _ _ _ (by simp)]; exact h5

set_option maxHeartbeats 1000000 in
theorem parseNumbers_ok (s x0 x1 x2 : ByteArray) (v0 v1 v2 : Int) (w : World)
    (k : ∀ W : World, Below w.heap.size w W → Calls Tryz.prog 122 #[.string s, .string ⟨#[46]⟩] W fun e w' => e = .returned (.slice (some ⟨W.heap.size, 0, none⟩) 3 3) ∧ w' = W.alloc (.cells #[.string x0, .string x1, .string x2] 9))
    (h0 : x0.size ≤ 6) (h1 : x1.size ≤ 6) (h2 : x2.size ≤ 6)
    (i0 : ∀ W, Calls Tryz.prog 242 #[.string x0] W fun e w' => e = .returned (.bool true) ∧ w' = W) (i1 : ∀ W, Calls Tryz.prog 242 #[.string x1] W fun e w' => e = .returned (.bool true) ∧ w' = W) (i2 : ∀ W, Calls Tryz.prog 242 #[.string x2] W fun e w' => e = .returned (.bool true) ∧ w' = W)
    (n0 : ∀ W, Calls Tryz.prog 243 #[.string x0] W fun e w' => e = .returned (.int .i64 v0) ∧ Below W.heap.size W w') (n1 : ∀ W, Calls Tryz.prog 243 #[.string x1] W fun e w' => e = .returned (.int .i64 v1) ∧ Below W.heap.size W w') (n2 : ∀ W, Calls Tryz.prog 243 #[.string x2] W fun e w' => e = .returned (.int .i64 v2) ∧ Below W.heap.size W w') :
    Calls Tryz.prog 198 #[.string s] w fun e w' => e = .returned (.tuple #[.agg #[.int .i64 v0, .int .i64 v1, .int .i64 v2], .bool true]) ∧ Below w.heap.size w w' := by
  have k := k ((w.alloc (.cells #[.int .i64 0, .int .i64 0, .int .i64 0] 249)).alloc (.cells #[.int .i64 0, .int .i64 0, .int .i64 0] 249)) (((Below.refl _ _).alloc (Nat.le_refl _) _).alloc (by simp) _)
  go_enter Tryz.func198, Tryz.ntmps198
  go_wp2_with (go_at_call 122; refine k.mono ?_; rintro e w' ⟨rfl, rfl⟩)
  have S0 : Hid (St w _ x0 x1 x2 0 0 0) := St.start w x0 x1 x2
  refine wp_loop_rounds 4 ?_
  rw [rounds_succ]
  go_wp2_with (first | (go_at_call_of 242 x0; refine (i0 _).mono ?_; rintro e w' ⟨rfl, rfl⟩) | (go_at_call_of 243 x0; fail))
  refine (n0 _).mono ?_
  rintro e w1 ⟨rfl, hb1⟩
  have S1 := S0.out.below hb1
  clear hb1 S0
  obtain ⟨⟨p0, p1, p2⟩, ⟨q0, q1, q2⟩⟩ := cells3 S1.2.2.2.1
  obtain ⟨⟨y0, y1, y2⟩, _⟩ := cells3 S1.2.2.2.2
  have S1' : Hid (St w _ x0 x1 x2 v0 0 0) := (S1.set v0).1
  clear S1
  go_wp2
  clear p0 p1 p2 q0 q1 q2
  rw [rounds_succ]
  go_wp2_with (first | (go_at_call_of 242 x1; refine (i1 _).mono ?_; rintro e w' ⟨rfl, rfl⟩) | (go_at_call_of 243 x1; fail))
  refine (n1 _).mono ?_
  rintro e w2 ⟨rfl, hb2⟩
  have S2 := S1'.out.below hb2
  clear hb2 S1' y0 y1 y2
  obtain ⟨⟨p0, p1, p2⟩, ⟨q0, q1, q2⟩⟩ := cells3 S2.2.2.2.1
  obtain ⟨⟨y0, y1, y2⟩, _⟩ := cells3 S2.2.2.2.2
  have S2' : Hid (St w _ x0 x1 x2 v0 v1 0) := (S2.set v1).2.1
  clear S2
  go_wp2
  clear p0 p1 p2 q0 q1 q2
  rw [rounds_succ]
  go_wp2_with (first | (go_at_call_of 242 x2; refine (i2 _).mono ?_; rintro e w' ⟨rfl, rfl⟩) | (go_at_call_of 243 x2; fail))
  refine (n2 _).mono ?_
  rintro e w3 ⟨rfl, hb3⟩
  have S3 := S2'.out.below hb3
  clear hb3 S2' y0 y1 y2
  obtain ⟨⟨p0, p1, p2⟩, ⟨q0, q1, q2⟩⟩ := cells3 S3.2.2.2.1
  obtain ⟨⟨z0, z1, z2⟩, ⟨f0, f1, f2⟩⟩ := cells3 S3.2.2.1
  have S3' : Hid (St w _ x0 x1 x2 v0 v1 v2) := (S3.set v2).2.2
  clear S3
  go_wp2
  rw [rounds_succ]
  go_wp2
  exact bodyPost_ret (v := .tuple #[.agg #[.int .i64 v0, .int .i64 v1, .int .i64 v2], .bool true]) (by simp [results, Tryz.results198, go_sem, z0, z1, z2]) rfl ⟨rfl, ((S3'.out.1.setCell (Nat.le_refl _) _).setCell (Nat.le_refl _) _).setCell (Nat.le_refl _) _⟩

end Go.Proofs.YtelmkfkgpnadnaaGreatDoor.Dr

namespace Go.Proofs.YtelmkfkgpnadnaaGreatDoor.Dr
open Go.RowKit

set_option maxHeartbeats 1000000 in
theorem parseNumbers_no0len (s x0 x1 x2 : ByteArray) (w : World)
    (k : ∀ W : World, Below w.heap.size w W → Calls Tryz.prog 122 #[.string s, .string ⟨#[46]⟩] W fun e w' => e = .returned (.slice (some ⟨W.heap.size, 0, none⟩) 3 3) ∧ w' = W.alloc (.cells #[.string x0, .string x1, .string x2] 9))
    (h0 : (6 : Int) < (x0.size : Int)) :
    Calls Tryz.prog 198 #[.string s] w fun e w' => e = .returned (.tuple #[.agg #[.int .i64 0, .int .i64 0, .int .i64 0], .bool false]) ∧ Below w.heap.size w w' := by
  have k := k ((w.alloc (.cells #[.int .i64 0, .int .i64 0, .int .i64 0] 249)).alloc (.cells #[.int .i64 0, .int .i64 0, .int .i64 0] 249)) (((Below.refl _ _).alloc (Nat.le_refl _) _).alloc (by simp) _)
  go_enter Tryz.func198, Tryz.ntmps198
  go_wp2_with (go_at_call 122; refine k.mono ?_; rintro e w' ⟨rfl, rfl⟩)
  have S : Hid (St w _ x0 x1 x2 0 0 0) := St.start w x0 x1 x2
  refine wp_loop_rounds 4 ?_
  rw [rounds_succ]
  go_wp2
  exact bodyPost_ret (v := .tuple #[.agg #[.int .i64 0, .int .i64 0, .int .i64 0], .bool false]) (by simp [results, Tryz.results198, go_sem]) rfl ⟨rfl, S.out.1⟩

set_option maxHeartbeats 1000000 in
theorem parseNumbers_no0num (s x0 x1 x2 : ByteArray) (w : World)
    (k : ∀ W : World, Below w.heap.size w W → Calls Tryz.prog 122 #[.string s, .string ⟨#[46]⟩] W fun e w' => e = .returned (.slice (some ⟨W.heap.size, 0, none⟩) 3 3) ∧ w' = W.alloc (.cells #[.string x0, .string x1, .string x2] 9))
    (h0 : (x0.size : Int) ≤ 6) (i0 : ∀ W, Calls Tryz.prog 242 #[.string x0] W fun e w' => e = .returned (.bool false) ∧ w' = W) :
    Calls Tryz.prog 198 #[.string s] w fun e w' => e = .returned (.tuple #[.agg #[.int .i64 0, .int .i64 0, .int .i64 0], .bool false]) ∧ Below w.heap.size w w' := by
  have k := k ((w.alloc (.cells #[.int .i64 0, .int .i64 0, .int .i64 0] 249)).alloc (.cells #[.int .i64 0, .int .i64 0, .int .i64 0] 249)) (((Below.refl _ _).alloc (Nat.le_refl _) _).alloc (by simp) _)
  go_enter Tryz.func198, Tryz.ntmps198
  go_wp2_with (go_at_call 122; refine k.mono ?_; rintro e w' ⟨rfl, rfl⟩)
  have S : Hid (St w _ x0 x1 x2 0 0 0) := St.start w x0 x1 x2
  refine wp_loop_rounds 4 ?_
  rw [rounds_succ]
  go_wp2_with (go_at_call_of 242 x0; refine (i0 _).mono ?_; rintro e w' ⟨rfl, rfl⟩)
  exact bodyPost_ret (v := .tuple #[.agg #[.int .i64 0, .int .i64 0, .int .i64 0], .bool false]) (by simp [results, Tryz.results198, go_sem]) rfl ⟨rfl, S.out.1⟩

set_option maxHeartbeats 1000000 in
theorem parseNumbers_no1len (s x0 x1 x2 : ByteArray) (v0 : Int) (w : World)
    (k : ∀ W : World, Below w.heap.size w W → Calls Tryz.prog 122 #[.string s, .string ⟨#[46]⟩] W fun e w' => e = .returned (.slice (some ⟨W.heap.size, 0, none⟩) 3 3) ∧ w' = W.alloc (.cells #[.string x0, .string x1, .string x2] 9))
    (h0 : x0.size ≤ 6) (i0 : ∀ W, Calls Tryz.prog 242 #[.string x0] W fun e w' => e = .returned (.bool true) ∧ w' = W) (n0 : ∀ W, Calls Tryz.prog 243 #[.string x0] W fun e w' => e = .returned (.int .i64 v0) ∧ Below W.heap.size W w')
    (h1 : (6 : Int) < (x1.size : Int)) :
    Calls Tryz.prog 198 #[.string s] w fun e w' => e = .returned (.tuple #[.agg #[.int .i64 0, .int .i64 0, .int .i64 0], .bool false]) ∧ Below w.heap.size w w' := by
  have k := k ((w.alloc (.cells #[.int .i64 0, .int .i64 0, .int .i64 0] 249)).alloc (.cells #[.int .i64 0, .int .i64 0, .int .i64 0] 249)) (((Below.refl _ _).alloc (Nat.le_refl _) _).alloc (by simp) _)
  go_enter Tryz.func198, Tryz.ntmps198
  go_wp2_with (go_at_call 122; refine k.mono ?_; rintro e w' ⟨rfl, rfl⟩)
  have S : Hid (St w _ x0 x1 x2 0 0 0) := St.start w x0 x1 x2
  refine wp_loop_rounds 4 ?_
  rw [rounds_succ]
  go_wp2_with (first | (go_at_call_of 242 x0; refine (i0 _).mono ?_; rintro e w' ⟨rfl, rfl⟩) | (go_at_call_of 243 x0; fail))
  refine (n0 _).mono ?_
  rintro e w1 ⟨rfl, hb⟩
  have S' := S.out.below hb
  clear hb S
  obtain ⟨⟨p0, p1, p2⟩, ⟨q0, q1, q2⟩⟩ := cells3 S'.2.2.2.1
  obtain ⟨⟨y0, y1, y2⟩, _⟩ := cells3 S'.2.2.2.2
  obtain ⟨⟨z0, z1, z2⟩, ⟨f0, f1, f2⟩⟩ := cells3 S'.2.2.1
  have S : Hid (St w _ x0 x1 x2 v0 0 0) := (S'.set v0).1
  clear S'
  go_wp2
  clear p0 p1 p2 q0 q1 q2
  rw [rounds_succ]
  go_wp2
  exact bodyPost_ret (v := .tuple #[.agg #[.int .i64 0, .int .i64 0, .int .i64 0], .bool false]) (by simp [results, Tryz.results198, go_sem, z0, z1, z2]) rfl ⟨rfl, ((S.out.1.setCell (Nat.le_refl _) _).setCell (Nat.le_refl _) _).setCell (Nat.le_refl _) _⟩

set_option maxHeartbeats 1000000 in
theorem parseNumbers_no1num (s x0 x1 x2 : ByteArray) (v0 : Int) (w : World)
    (k : ∀ W : World, Below w.heap.size w W → Calls Tryz.prog 122 #[.string s, .string ⟨#[46]⟩] W fun e w' => e = .returned (.slice (some ⟨W.heap.size, 0, none⟩) 3 3) ∧ w' = W.alloc (.cells #[.string x0, .string x1, .string x2] 9))
    (h0 : x0.size ≤ 6) (i0 : ∀ W, Calls Tryz.prog 242 #[.string x0] W fun e w' => e = .returned (.bool true) ∧ w' = W) (n0 : ∀ W, Calls Tryz.prog 243 #[.string x0] W fun e w' => e = .returned (.int .i64 v0) ∧ Below W.heap.size W w')
    (h1 : (x1.size : Int) ≤ 6) (i1 : ∀ W, Calls Tryz.prog 242 #[.string x1] W fun e w' => e = .returned (.bool false) ∧ w' = W) :
    Calls Tryz.prog 198 #[.string s] w fun e w' => e = .returned (.tuple #[.agg #[.int .i64 0, .int .i64 0, .int .i64 0], .bool false]) ∧ Below w.heap.size w w' := by
  have k := k ((w.alloc (.cells #[.int .i64 0, .int .i64 0, .int .i64 0] 249)).alloc (.cells #[.int .i64 0, .int .i64 0, .int .i64 0] 249)) (((Below.refl _ _).alloc (Nat.le_refl _) _).alloc (by simp) _)
  go_enter Tryz.func198, Tryz.ntmps198
  go_wp2_with (go_at_call 122; refine k.mono ?_; rintro e w' ⟨rfl, rfl⟩)
  have S : Hid (St w _ x0 x1 x2 0 0 0) := St.start w x0 x1 x2
  refine wp_loop_rounds 4 ?_
  rw [rounds_succ]
  go_wp2_with (first | (go_at_call_of 242 x0; refine (i0 _).mono ?_; rintro e w' ⟨rfl, rfl⟩) | (go_at_call_of 243 x0; fail))
  refine (n0 _).mono ?_
  rintro e w1 ⟨rfl, hb⟩
  have S' := S.out.below hb
  clear hb S
  obtain ⟨⟨p0, p1, p2⟩, ⟨q0, q1, q2⟩⟩ := cells3 S'.2.2.2.1
  obtain ⟨⟨y0, y1, y2⟩, _⟩ := cells3 S'.2.2.2.2
  obtain ⟨⟨z0, z1, z2⟩, ⟨f0, f1, f2⟩⟩ := cells3 S'.2.2.1
  have S : Hid (St w _ x0 x1 x2 v0 0 0) := (S'.set v0).1
  clear S'
  go_wp2
  clear p0 p1 p2 q0 q1 q2
  rw [rounds_succ]
  go_wp2_with (go_at_call_of 242 x1; refine (i1 _).mono ?_; rintro e w' ⟨rfl, rfl⟩)
  exact bodyPost_ret (v := .tuple #[.agg #[.int .i64 0, .int .i64 0, .int .i64 0], .bool false]) (by simp [results, Tryz.results198, go_sem, z0, z1, z2]) rfl ⟨rfl, ((S.out.1.setCell (Nat.le_refl _) _).setCell (Nat.le_refl _) _).setCell (Nat.le_refl _) _⟩

set_option maxHeartbeats 1000000 in
theorem parseNumbers_no2len (s x0 x1 x2 : ByteArray) (v0 : Int) (v1 : Int) (w : World)
    (k : ∀ W : World, Below w.heap.size w W → Calls Tryz.prog 122 #[.string s, .string ⟨#[46]⟩] W fun e w' => e = .returned (.slice (some ⟨W.heap.size, 0, none⟩) 3 3) ∧ w' = W.alloc (.cells #[.string x0, .string x1, .string x2] 9))
    (h0 : x0.size ≤ 6) (i0 : ∀ W, Calls Tryz.prog 242 #[.string x0] W fun e w' => e = .returned (.bool true) ∧ w' = W) (n0 : ∀ W, Calls Tryz.prog 243 #[.string x0] W fun e w' => e = .returned (.int .i64 v0) ∧ Below W.heap.size W w')
    (h1 : x1.size ≤ 6) (i1 : ∀ W, Calls Tryz.prog 242 #[.string x1] W fun e w' => e = .returned (.bool true) ∧ w' = W) (n1 : ∀ W, Calls Tryz.prog 243 #[.string x1] W fun e w' => e = .returned (.int .i64 v1) ∧ Below W.heap.size W w')
    (h2 : (6 : Int) < (x2.size : Int)) :
    Calls Tryz.prog 198 #[.string s] w fun e w' => e = .returned (.tuple #[.agg #[.int .i64 0, .int .i64 0, .int .i64 0], .bool false]) ∧ Below w.heap.size w w' := by
  have k := k ((w.alloc (.cells #[.int .i64 0, .int .i64 0, .int .i64 0] 249)).alloc (.cells #[.int .i64 0, .int .i64 0, .int .i64 0] 249)) (((Below.refl _ _).alloc (Nat.le_refl _) _).alloc (by simp) _)
  go_enter Tryz.func198, Tryz.ntmps198
  go_wp2_with (go_at_call 122; refine k.mono ?_; rintro e w' ⟨rfl, rfl⟩)
  have S : Hid (St w _ x0 x1 x2 0 0 0) := St.start w x0 x1 x2
  refine wp_loop_rounds 4 ?_
  rw [rounds_succ]
  go_wp2_with (first | (go_at_call_of 242 x0; refine (i0 _).mono ?_; rintro e w' ⟨rfl, rfl⟩) | (go_at_call_of 243 x0; fail))
  refine (n0 _).mono ?_
  rintro e w1 ⟨rfl, hb⟩
  have S' := S.out.below hb
  clear hb S
  obtain ⟨⟨p0, p1, p2⟩, ⟨q0, q1, q2⟩⟩ := cells3 S'.2.2.2.1
  obtain ⟨⟨y0, y1, y2⟩, _⟩ := cells3 S'.2.2.2.2
  obtain ⟨⟨z0, z1, z2⟩, ⟨f0, f1, f2⟩⟩ := cells3 S'.2.2.1
  have S : Hid (St w _ x0 x1 x2 v0 0 0) := (S'.set v0).1
  clear S'
  go_wp2
  clear p0 p1 p2 q0 q1 q2
  rw [rounds_succ]
  go_wp2_with (first | (go_at_call_of 242 x1; refine (i1 _).mono ?_; rintro e w' ⟨rfl, rfl⟩) | (go_at_call_of 243 x1; fail))
  refine (n1 _).mono ?_
  rintro e w2 ⟨rfl, hb⟩
  have S' := S.out.below hb
  clear hb S
  clear y0 y1 y2 z0 z1 z2 f0 f1 f2
  obtain ⟨⟨p0, p1, p2⟩, ⟨q0, q1, q2⟩⟩ := cells3 S'.2.2.2.1
  obtain ⟨⟨y0, y1, y2⟩, _⟩ := cells3 S'.2.2.2.2
  obtain ⟨⟨z0, z1, z2⟩, ⟨f0, f1, f2⟩⟩ := cells3 S'.2.2.1
  have S : Hid (St w _ x0 x1 x2 v0 v1 0) := (S'.set v1).2.1
  clear S'
  go_wp2
  clear p0 p1 p2 q0 q1 q2
  rw [rounds_succ]
  go_wp2
  exact bodyPost_ret (v := .tuple #[.agg #[.int .i64 0, .int .i64 0, .int .i64 0], .bool false]) (by simp [results, Tryz.results198, go_sem, z0, z1, z2]) rfl ⟨rfl, ((S.out.1.setCell (Nat.le_refl _) _).setCell (Nat.le_refl _) _).setCell (Nat.le_refl _) _⟩

set_option maxHeartbeats 1000000 in
theorem parseNumbers_no2num (s x0 x1 x2 : ByteArray) (v0 : Int) (v1 : Int) (w : World)
    (k : ∀ W : World, Below w.heap.size w W → Calls Tryz.prog 122 #[.string s, .string ⟨#[46]⟩] W fun e w' => e = .returned (.slice (some ⟨W.heap.size, 0, none⟩) 3 3) ∧ w' = W.alloc (.cells #[.string x0, .string x1, .string x2] 9))
    (h0 : x0.size ≤ 6) (i0 : ∀ W, Calls Tryz.prog 242 #[.string x0] W fun e w' => e = .returned (.bool true) ∧ w' = W) (n0 : ∀ W, Calls Tryz.prog 243 #[.string x0] W fun e w' => e = .returned (.int .i64 v0) ∧ Below W.heap.size W w')
    (h1 : x1.size ≤ 6) (i1 : ∀ W, Calls Tryz.prog 242 #[.string x1] W fun e w' => e = .returned (.bool true) ∧ w' = W) (n1 : ∀ W, Calls Tryz.prog 243 #[.string x1] W fun e w' => e = .returned (.int .i64 v1) ∧ Below W.heap.size W w')
    (h2 : (x2.size : Int) ≤ 6) (i2 : ∀ W, Calls Tryz.prog 242 #[.string x2] W fun e w' => e = .returned (.bool false) ∧ w' = W) :
    Calls Tryz.prog 198 #[.string s] w fun e w' => e = .returned (.tuple #[.agg #[.int .i64 0, .int .i64 0, .int .i64 0], .bool false]) ∧ Below w.heap.size w w' := by
  have k := k ((w.alloc (.cells #[.int .i64 0, .int .i64 0, .int .i64 0] 249)).alloc (.cells #[.int .i64 0, .int .i64 0, .int .i64 0] 249)) (((Below.refl _ _).alloc (Nat.le_refl _) _).alloc (by simp) _)
  go_enter Tryz.func198, Tryz.ntmps198
  go_wp2_with (go_at_call 122; refine k.mono ?_; rintro e w' ⟨rfl, rfl⟩)
  have S : Hid (St w _ x0 x1 x2 0 0 0) := St.start w x0 x1 x2
  refine wp_loop_rounds 4 ?_
  rw [rounds_succ]
  go_wp2_with (first | (go_at_call_of 242 x0; refine (i0 _).mono ?_; rintro e w' ⟨rfl, rfl⟩) | (go_at_call_of 243 x0; fail))
  refine (n0 _).mono ?_
  rintro e w1 ⟨rfl, hb⟩
  have S' := S.out.below hb
  clear hb S
  obtain ⟨⟨p0, p1, p2⟩, ⟨q0, q1, q2⟩⟩ := cells3 S'.2.2.2.1
  obtain ⟨⟨y0, y1, y2⟩, _⟩ := cells3 S'.2.2.2.2
  obtain ⟨⟨z0, z1, z2⟩, ⟨f0, f1, f2⟩⟩ := cells3 S'.2.2.1
  have S : Hid (St w _ x0 x1 x2 v0 0 0) := (S'.set v0).1
  clear S'
  go_wp2
  clear p0 p1 p2 q0 q1 q2
  rw [rounds_succ]
  go_wp2_with (first | (go_at_call_of 242 x1; refine (i1 _).mono ?_; rintro e w' ⟨rfl, rfl⟩) | (go_at_call_of 243 x1; fail))
  refine (n1 _).mono ?_
  rintro e w2 ⟨rfl, hb⟩
  have S' := S.out.below hb
  clear hb S
  clear y0 y1 y2 z0 z1 z2 f0 f1 f2
  obtain ⟨⟨p0, p1, p2⟩, ⟨q0, q1, q2⟩⟩ := cells3 S'.2.2.2.1
  obtain ⟨⟨y0, y1, y2⟩, _⟩ := cells3 S'.2.2.2.2
  obtain ⟨⟨z0, z1, z2⟩, ⟨f0, f1, f2⟩⟩ := cells3 S'.2.2.1
  have S : Hid (St w _ x0 x1 x2 v0 v1 0) := (S'.set v1).2.1
  clear S'
  go_wp2
  clear p0 p1 p2 q0 q1 q2
  rw [rounds_succ]
  go_wp2_with (go_at_call_of 242 x2; refine (i2 _).mono ?_; rintro e w' ⟨rfl, rfl⟩)
  exact bodyPost_ret (v := .tuple #[.agg #[.int .i64 0, .int .i64 0, .int .i64 0], .bool false]) (by simp [results, Tryz.results198, go_sem, z0, z1, z2]) rfl ⟨rfl, ((S.out.1.setCell (Nat.le_refl _) _).setCell (Nat.le_refl _) _).setCell (Nat.le_refl _) _⟩

end Go.Proofs.YtelmkfkgpnadnaaGreatDoor.Dr

namespace Go.Proofs.YtelmkfkgpnadnaaGreatDoor.Dr
open Go.RowKit

theorem okNum_cases (x : ByteArray) (h : Pv.okNum x.data.toList = false) : (6 : Int) < (x.size : Int) ∨ ((x.size : Int) ≤ 6 ∧ Pv.isNum x.data.toList = false) := by
  unfold Pv.okNum at h
  rw [← Lib.size_eq] at h
  by_cases h6 : x.size ≤ 6
  · right
    rw [decide_eq_true h6] at h
    exact ⟨by omega, by simpa using h⟩
  · left; omega
theorem okNum_yes (x : ByteArray) (h : Pv.okNum x.data.toList = true) : x.size ≤ 6 ∧ Pv.isNum x.data.toList = true := by
  unfold Pv.okNum at h
  rw [← Lib.size_eq] at h
  simpa using h

theorem parseNumbers_none (s : ByteArray) (w : World) (hm : Ml w) (hs : s.size ≤ 40) (h : Pv.parseN s.data.toList = none) :
    Calls Tryz.prog 198 #[.string s] w fun e w' => e = .returned (.tuple #[.agg #[.int .i64 0, .int .i64 0, .int .i64 0], .bool false]) ∧ Below w.heap.size w w' := by
  obtain ⟨l, hl, hz, k⟩ := split_any s (by omega)
  have k : ∀ W : World, Below w.heap.size w W → Calls Tryz.prog 122 #[.string s, .string ⟨#[46]⟩] W fun e w' => e = .returned (.slice (some ⟨W.heap.size, 0, none⟩) l.length l.length) ∧ w' = W.alloc (.cells (l.map Value.string).toArray 9) := fun W hb => k W (hm.below hb)
  by_cases h3 : l.length = 3
  · match l, h3 with
    | [x0, x1, x2], _ =>
      have isn : ∀ x ∈ [x0, x1, x2], ∀ W, Calls Tryz.prog 242 #[.string x] W fun e w' => e = .returned (.bool (Pv.isNum x.data.toList)) ∧ w' = W := fun x hx W => isNumber_any x W (by have := hz x hx; unfold maxLen; omega)
      have j0 := isn x0 (by simp)
      have j1 := isn x1 (by simp)
      have j2 := isn x2 (by simp)
      cases h0 : Pv.okNum x0.data.toList with
      | false =>
        rcases okNum_cases x0 h0 with hh | ⟨hh, hn⟩
        · exact parseNumbers_no0len s x0 x1 x2 w k hh
        · rw [hn] at j0
          exact parseNumbers_no0num s x0 x1 x2 w k hh j0
      | true =>
        obtain ⟨a0, b0⟩ := okNum_yes x0 h0
        have n0 := fun W => numberOf_any x0 W b0 (by omega)
        rw [b0] at j0
        cases h1 : Pv.okNum x1.data.toList with
        | false =>
          rcases okNum_cases x1 h1 with hh | ⟨hh, hn⟩
          · exact parseNumbers_no1len s x0 x1 x2 _ w k a0 j0 n0 hh
          · rw [hn] at j1
            exact parseNumbers_no1num s x0 x1 x2 _ w k a0 j0 n0 hh j1
        | true =>
          obtain ⟨a1, b1⟩ := okNum_yes x1 h1
          have n1 := fun W => numberOf_any x1 W b1 (by omega)
          rw [b1] at j1
          cases h2 : Pv.okNum x2.data.toList with
          | false =>
            rcases okNum_cases x2 h2 with hh | ⟨hh, hn⟩
            · exact parseNumbers_no2len s x0 x1 x2 _ _ w k a0 j0 n0 a1 j1 n1 hh
            · rw [hn] at j2
              exact parseNumbers_no2num s x0 x1 x2 _ _ w k a0 j0 n0 a1 j1 n1 hh j2
          | true =>
            exfalso
            unfold Pv.parseN at h
            rw [← hl] at h
            simp [h0, h1, h2] at h
  · exact parseNumbers_len s l w (by simp; omega) k

theorem parseNumbers_some (s : ByteArray) (w : World) (hm : Ml w) (hs : s.size ≤ 40) (p q r : List UInt8) (h : Pv.parseN s.data.toList = some [p, q, r]) :
    Calls Tryz.prog 198 #[.string s] w fun e w' => e = .returned (.tuple #[.agg #[.int .i64 (Pv.val p), .int .i64 (Pv.val q), .int .i64 (Pv.val r)], .bool true]) ∧ Below w.heap.size w w' := by
  obtain ⟨l, hl, hz, k⟩ := split_any s (by omega)
  have k : ∀ W : World, Below w.heap.size w W → Calls Tryz.prog 122 #[.string s, .string ⟨#[46]⟩] W fun e w' => e = .returned (.slice (some ⟨W.heap.size, 0, none⟩) l.length l.length) ∧ w' = W.alloc (.cells (l.map Value.string).toArray 9) := fun W hb => k W (hm.below hb)
  unfold Pv.parseN at h
  rw [← hl] at h
  split at h
  · rename_i hc
    simp only [Option.some.injEq] at h
    match l, h, hc, k with
    | [x0, x1, x2], h, hc, k =>
      simp only [List.map_cons, List.map_nil, List.cons.injEq, and_true] at h
      obtain ⟨rfl, rfl, rfl⟩ := h
      simp only [List.map_cons, List.map_nil, List.all_cons, List.all_nil, Bool.and_true, Bool.and_eq_true] at hc
      obtain ⟨_, h0, h1, h2⟩ := hc
      obtain ⟨a0, b0⟩ := okNum_yes x0 h0
      obtain ⟨a1, b1⟩ := okNum_yes x1 h1
      obtain ⟨a2, b2⟩ := okNum_yes x2 h2
      have j0 := fun W => isNumber_any x0 W (by unfold maxLen; omega)
      have j1 := fun W => isNumber_any x1 W (by unfold maxLen; omega)
      have j2 := fun W => isNumber_any x2 W (by unfold maxLen; omega)
      rw [b0] at j0
      rw [b1] at j1
      rw [b2] at j2
      exact parseNumbers_ok s x0 x1 x2 _ _ _ w k a0 a1 a2 j0 j1 j2 (fun W => numberOf_any x0 W b0 (by omega)) (fun W => numberOf_any x1 W b1 (by omega)) (fun W => numberOf_any x2 W b2 (by omega))
  · simp at h

end Go.Proofs.YtelmkfkgpnadnaaGreatDoor.Dr

namespace Go.Proofs.YtelmkfkgpnadnaaGreatDoor.Dr
open Go.RowKit

theorem cells4 {w : World} {b : Nat} {a0 a1 a2 a3 : Value} {t : TypeId} (h : w.heap[b]? = some (.cells #[a0, a1, a2, a3] t)) : (w.cell? ⟨b, 0, none⟩ = some a0 ∧ w.cell? ⟨b, 1, none⟩ = some a1 ∧ w.cell? ⟨b, 2, none⟩ = some a2 ∧ w.cell? ⟨b, 3, none⟩ = some a3) ∧ (w.frozen? ⟨b, 0, none⟩ = false ∧ w.frozen? ⟨b, 1, none⟩ = false ∧ w.frozen? ⟨b, 2, none⟩ = false ∧ w.frozen? ⟨b, 3, none⟩ = false) := by
  simp [World.cell?, World.frozen?, h]

set_option maxHeartbeats 1000000 in
theorem parseVersion_a1 (s rest : ByteArray) (w : World)
    (k1 : ∀ W, Calls Tryz.prog 197 #[.string s, .string ⟨#[118]⟩] W fun e w' => e = .returned (.tuple #[.string rest, .bool false]) ∧ w' = W) :
    Calls Tryz.prog 153 #[.string s] w fun e w' => e = .returned (.tuple #[.agg #[.int .i64 0, .int .i64 0, .int .i64 0, .slice none 0 0], .bool false]) ∧ Below w.heap.size w w' := by
  go_enter Tryz.func153, Tryz.ntmps153
  go_wp2_with (go_at_call 197; refine (k1 _).mono ?_; rintro e w' ⟨rfl, rfl⟩)
  exact bodyPost_ret (v := .tuple #[.agg #[.int .i64 0, .int .i64 0, .int .i64 0, .slice none 0 0], .bool false]) (by simp [results, Tryz.results153, go_sem]) rfl ⟨rfl, (Below.refl _ _).alloc (Nat.le_refl _) _⟩

set_option maxHeartbeats 1000000 in
theorem parseVersion_a2 (s rest : ByteArray) (w : World) (hl : (40 : Int) < (s.size : Int))
    (k1 : ∀ W, Calls Tryz.prog 197 #[.string s, .string ⟨#[118]⟩] W fun e w' => e = .returned (.tuple #[.string rest, .bool true]) ∧ w' = W) :
    Calls Tryz.prog 153 #[.string s] w fun e w' => e = .returned (.tuple #[.agg #[.int .i64 0, .int .i64 0, .int .i64 0, .slice none 0 0], .bool false]) ∧ Below w.heap.size w w' := by
  go_enter Tryz.func153, Tryz.ntmps153
  go_wp2_with (go_at_call 197; refine (k1 _).mono ?_; rintro e w' ⟨rfl, rfl⟩)
  exact bodyPost_ret (v := .tuple #[.agg #[.int .i64 0, .int .i64 0, .int .i64 0, .slice none 0 0], .bool false]) (by simp [results, Tryz.results153, go_sem]) rfl ⟨rfl, (Below.refl _ _).alloc (Nat.le_refl _) _⟩

theorem first_block (w : World) (n : Nat) (w1 : World) (hb : Below ((w.alloc (.cells #[.int .i64 0, .int .i64 0, .int .i64 0, .slice none 0 0] 251)).drewN n).heap.size ((w.alloc (.cells #[.int .i64 0, .int .i64 0, .int .i64 0, .slice none 0 0] 251)).drewN n) w1) :
    w1.heap[w.heap.size]? = some (.cells #[.int .i64 0, .int .i64 0, .int .i64 0, .slice none 0 0] 251) ∧ Below w.heap.size w w1 ∧ w.heap.size < w1.heap.size := by
  have hs : ((w.alloc (.cells #[.int .i64 0, .int .i64 0, .int .i64 0, .slice none 0 0] 251)).drewN n).heap.size = w.heap.size + 1 := by show (w.heap.push _).size = _; simp
  have hz := hb.size
  rw [hs] at hb hz
  refine ⟨?_, ?_, by omega⟩
  · rw [hb.block _ (by omega)]
    show (w.heap.push _)[w.heap.size]? = _
    rw [Array.getElem?_push, if_pos rfl]
  · exact (((Below.refl _ _).alloc (Nat.le_refl _) _).trans (below_drewN' (Below.refl _ _) n)).trans (hb.mono (by omega))

set_option maxHeartbeats 1000000 in
theorem parseVersion_a3 (s rest front back : ByteArray) (pre : Bool) (w : World) (hl : (s.size : Int) ≤ 40)
    (k1 : ∀ W, Calls Tryz.prog 197 #[.string s, .string ⟨#[118]⟩] W fun e w' => e = .returned (.tuple #[.string rest, .bool true]) ∧ w' = W)
    (k2 : ∀ W, Below w.heap.size w W → Calls Tryz.prog 169 #[.string rest, .string ⟨#[45]⟩] W fun e w' => e = .returned (.tuple #[.string front, .string back, .bool pre]) ∧ ∃ n, w' = W.drewN n)
    (k3 : ∀ W, Below w.heap.size w W → Calls Tryz.prog 198 #[.string front] W fun e w' => e = .returned (.tuple #[.agg #[.int .i64 0, .int .i64 0, .int .i64 0], .bool false]) ∧ Below W.heap.size W w') :
    Calls Tryz.prog 153 #[.string s] w fun e w' => e = .returned (.tuple #[.agg #[.int .i64 0, .int .i64 0, .int .i64 0, .slice none 0 0], .bool false]) ∧ Below w.heap.size w w' := by
  have k2 := k2 (w.alloc (.cells #[.int .i64 0, .int .i64 0, .int .i64 0, .slice none 0 0] 251)) ((Below.refl _ _).alloc (Nat.le_refl _) _)
  have k3 := fun n => k3 ((w.alloc (.cells #[.int .i64 0, .int .i64 0, .int .i64 0, .slice none 0 0] 251)).drewN n) (below_drewN' ((Below.refl _ _).alloc (Nat.le_refl _) _) n)
  go_enter Tryz.func153, Tryz.ntmps153
  go_wp2_with (first | (go_at_call 197; refine (k1 _).mono ?_; rintro e w' ⟨rfl, rfl⟩) | (go_at_call 169; refine k2.mono ?_; rintro e w' ⟨rfl, n, rfl⟩) | (go_at_call 198; fail))
  refine (k3 _).mono ?_
  rintro e w1 ⟨rfl, hb⟩
  obtain ⟨hblk, hb1, hz1⟩ := first_block w _ w1 hb
  clear hb
  obtain ⟨⟨z0, z1, z2, z3⟩, ⟨f0, f1, f2, f3⟩⟩ := cells4 hblk
  clear hblk
  go_wp2
  exact bodyPost_ret (v := .tuple #[.agg #[.int .i64 0, .int .i64 0, .int .i64 0, .slice none 0 0], .bool false]) (by simp [results, Tryz.results153, go_sem, z0, z1, z2, z3, hz1]) rfl ⟨rfl, ((((hb1.setCell (Nat.le_refl _) _).setCell (Nat.le_refl _) _).setCell (Nat.le_refl _) _).setCell (Nat.le_refl _) _).alloc (by simp [World.setCell]; omega) _⟩

set_option maxHeartbeats 1000000 in
theorem parseVersion_a4 (s rest front back : ByteArray) (a b c : Int) (w : World) (hl : (s.size : Int) ≤ 40)
    (k1 : ∀ W, Calls Tryz.prog 197 #[.string s, .string ⟨#[118]⟩] W fun e w' => e = .returned (.tuple #[.string rest, .bool true]) ∧ w' = W)
    (k2 : ∀ W, Below w.heap.size w W → Calls Tryz.prog 169 #[.string rest, .string ⟨#[45]⟩] W fun e w' => e = .returned (.tuple #[.string front, .string back, .bool false]) ∧ ∃ n, w' = W.drewN n)
    (k3 : ∀ W, Below w.heap.size w W → Calls Tryz.prog 198 #[.string front] W fun e w' => e = .returned (.tuple #[.agg #[.int .i64 a, .int .i64 b, .int .i64 c], .bool true]) ∧ Below W.heap.size W w') :
    Calls Tryz.prog 153 #[.string s] w fun e w' => e = .returned (.tuple #[.agg #[.int .i64 a, .int .i64 b, .int .i64 c, .slice none 0 0], .bool true]) ∧ Below w.heap.size w w' := by
  have k2 := k2 (w.alloc (.cells #[.int .i64 0, .int .i64 0, .int .i64 0, .slice none 0 0] 251)) ((Below.refl _ _).alloc (Nat.le_refl _) _)
  have k3 := fun n => k3 ((w.alloc (.cells #[.int .i64 0, .int .i64 0, .int .i64 0, .slice none 0 0] 251)).drewN n) (below_drewN' ((Below.refl _ _).alloc (Nat.le_refl _) _) n)
  go_enter Tryz.func153, Tryz.ntmps153
  go_wp2_with (first | (go_at_call 197; refine (k1 _).mono ?_; rintro e w' ⟨rfl, rfl⟩) | (go_at_call 169; refine k2.mono ?_; rintro e w' ⟨rfl, n, rfl⟩) | (go_at_call 198; fail))
  refine (k3 _).mono ?_
  rintro e w1 ⟨rfl, hb⟩
  obtain ⟨hblk, hb1, hz1⟩ := first_block w _ w1 hb
  clear hb
  obtain ⟨⟨z0, z1, z2, z3⟩, ⟨f0, f1, f2, f3⟩⟩ := cells4 hblk
  clear hblk
  go_wp2
  exact bodyPost_ret (v := .tuple #[.agg #[.int .i64 a, .int .i64 b, .int .i64 c, .slice none 0 0], .bool true]) (by simp [results, Tryz.results153, go_sem, z0, z1, z2, z3, hz1]) rfl ⟨rfl, ((((hb1.setCell (Nat.le_refl _) _).setCell (Nat.le_refl _) _).setCell (Nat.le_refl _) _).setCell (Nat.le_refl _) _).alloc (by simp [World.setCell]; omega) _⟩

theorem cells_new (w1 : World) (o : Obj) (l : List ByteArray) (j : Nat) (hj : j < l.length) : ((w1.alloc o).alloc (.cells (l.map Value.string).toArray 9)).cell? ⟨w1.heap.size + 1, j, none⟩ = some (.string l[j]!) := by
  have hb : ((w1.alloc o).alloc (.cells (l.map Value.string).toArray 9)).heap[w1.heap.size + 1]? = some (.cells (l.map Value.string).toArray 9) := by
    show ((w1.heap.push o).push _)[w1.heap.size + 1]? = _
    rw [Array.getElem?_push, if_pos (by simp)]
  rw [World.cell?]
  dsimp only
  rw [hb]
  simp [hj]

set_option maxHeartbeats 1000000 in
theorem parseVersion_a5 (s rest front back : ByteArray) (l : List ByteArray) (a b c : Int) (w : World) (hl : (s.size : Int) ≤ 40) (h4 : (4 : Int) < (l.length : Int))
    (k1 : ∀ W, Calls Tryz.prog 197 #[.string s, .string ⟨#[118]⟩] W fun e w' => e = .returned (.tuple #[.string rest, .bool true]) ∧ w' = W)
    (k2 : ∀ W, Below w.heap.size w W → Calls Tryz.prog 169 #[.string rest, .string ⟨#[45]⟩] W fun e w' => e = .returned (.tuple #[.string front, .string back, .bool true]) ∧ ∃ n, w' = W.drewN n)
    (k3 : ∀ W, Below w.heap.size w W → Calls Tryz.prog 198 #[.string front] W fun e w' => e = .returned (.tuple #[.agg #[.int .i64 a, .int .i64 b, .int .i64 c], .bool true]) ∧ Below W.heap.size W w')
    (k4 : ∀ W, Below w.heap.size w W → Calls Tryz.prog 122 #[.string back, .string ⟨#[46]⟩] W fun e w' => e = .returned (.slice (some ⟨W.heap.size, 0, none⟩) l.length l.length) ∧ w' = W.alloc (.cells (l.map Value.string).toArray 9)) :
    Calls Tryz.prog 153 #[.string s] w fun e w' => e = .returned (.tuple #[.agg #[.int .i64 0, .int .i64 0, .int .i64 0, .slice none 0 0], .bool false]) ∧ Below w.heap.size w w' := by
  have k2 := k2 (w.alloc (.cells #[.int .i64 0, .int .i64 0, .int .i64 0, .slice none 0 0] 251)) ((Below.refl _ _).alloc (Nat.le_refl _) _)
  have k3 := fun n => k3 ((w.alloc (.cells #[.int .i64 0, .int .i64 0, .int .i64 0, .slice none 0 0] 251)).drewN n) (below_drewN' ((Below.refl _ _).alloc (Nat.le_refl _) _) n)
  go_enter Tryz.func153, Tryz.ntmps153
  go_wp2_with (first | (go_at_call 197; refine (k1 _).mono ?_; rintro e w' ⟨rfl, rfl⟩) | (go_at_call 169; refine k2.mono ?_; rintro e w' ⟨rfl, n, rfl⟩) | (go_at_call 198; fail))
  refine (k3 _).mono ?_
  rintro e w1 ⟨rfl, hb⟩
  obtain ⟨hblk, hb1, hz1⟩ := first_block w _ w1 hb
  clear hb
  obtain ⟨⟨z0, z1, z2, z3⟩, ⟨f0, f1, f2, f3⟩⟩ := cells4 hblk
  clear hblk
  have k4 := k4 (w1.alloc (.cells #[.int .i64 a, .int .i64 b, .int .i64 c] 249)) (hb1.alloc (by omega) _)
  go_wp2_with (go_at_call 122; refine k4.mono ?_; rintro e w' ⟨rfl, rfl⟩)
  exact bodyPost_ret (v := .tuple #[.agg #[.int .i64 0, .int .i64 0, .int .i64 0, .slice none 0 0], .bool false]) (by simp [results, Tryz.results153, go_sem, z0, z1, z2, z3, hz1]) rfl ⟨rfl, (((((hb1.setCell (Nat.le_refl _) _).setCell (Nat.le_refl _) _).setCell (Nat.le_refl _) _).setCell (Nat.le_refl _) _).alloc (by simp [World.setCell]; omega) _).alloc (by simp [World.setCell]; omega) _⟩

theorem old_cell (w1 : World) (o o2 : Obj) (q b i : Nat) (hb : b < w1.heap.size) : (((w1.alloc o).alloc o2).drewN q).cell? ⟨b, i, none⟩ = w1.cell? ⟨b, i, none⟩ :=
  (below_drewN' (((Below.refl w1.heap.size w1).alloc (Nat.le_refl _) o).alloc (by simp) o2) q).cell (p := ⟨b, i, none⟩) hb

set_option maxHeartbeats 1000000 in
theorem parseVersion_a6 (s rest front back : ByteArray) (l : List ByteArray) (a b c : Int) (w : World) (hl : (s.size : Int) ≤ 40) (h4 : (l.length : Int) ≤ 4)
    (k1 : ∀ W, Calls Tryz.prog 197 #[.string s, .string ⟨#[118]⟩] W fun e w' => e = .returned (.tuple #[.string rest, .bool true]) ∧ w' = W)
    (k2 : ∀ W, Below w.heap.size w W → Calls Tryz.prog 169 #[.string rest, .string ⟨#[45]⟩] W fun e w' => e = .returned (.tuple #[.string front, .string back, .bool true]) ∧ ∃ n, w' = W.drewN n)
    (k3 : ∀ W, Below w.heap.size w W → Calls Tryz.prog 198 #[.string front] W fun e w' => e = .returned (.tuple #[.agg #[.int .i64 a, .int .i64 b, .int .i64 c], .bool true]) ∧ Below W.heap.size W w')
    (k4 : ∀ W, Below w.heap.size w W → Calls Tryz.prog 122 #[.string back, .string ⟨#[46]⟩] W fun e w' => e = .returned (.slice (some ⟨W.heap.size, 0, none⟩) l.length l.length) ∧ w' = W.alloc (.cells (l.map Value.string).toArray 9))
    (k5 : ∀ W b, (∀ j, j < l.length → W.cell? ⟨b, j, none⟩ = some (.string l[j]!)) → Calls Tryz.prog 190 #[.slice (some ⟨b, 0, none⟩) l.length l.length, .func (.func 199) #[] #[]] W fun e w' => e = .returned (.bool true) ∧ ∃ q, w' = W.drewN q) :
    Calls Tryz.prog 153 #[.string s] w fun e w' => e = .returned (.tuple #[.agg #[.int .i64 0, .int .i64 0, .int .i64 0, .slice none 0 0], .bool false]) ∧ Below w.heap.size w w' := by
  have k2 := k2 (w.alloc (.cells #[.int .i64 0, .int .i64 0, .int .i64 0, .slice none 0 0] 251)) ((Below.refl _ _).alloc (Nat.le_refl _) _)
  have k3 := fun n => k3 ((w.alloc (.cells #[.int .i64 0, .int .i64 0, .int .i64 0, .slice none 0 0] 251)).drewN n) (below_drewN' ((Below.refl _ _).alloc (Nat.le_refl _) _) n)
  go_enter Tryz.func153, Tryz.ntmps153
  go_wp2_with (first | (go_at_call 197; refine (k1 _).mono ?_; rintro e w' ⟨rfl, rfl⟩) | (go_at_call 169; refine k2.mono ?_; rintro e w' ⟨rfl, n, rfl⟩) | (go_at_call 198; fail))
  refine (k3 _).mono ?_
  rintro e w1 ⟨rfl, hb⟩
  obtain ⟨hblk, hb1, hz1⟩ := first_block w _ w1 hb
  clear hb
  obtain ⟨⟨z0, z1, z2, z3⟩, ⟨f0, f1, f2, f3⟩⟩ := cells4 hblk
  clear hblk
  have k4 := k4 (w1.alloc (.cells #[.int .i64 a, .int .i64 b, .int .i64 c] 249)) (hb1.alloc (by omega) _)
  have k5 := k5 ((w1.alloc (.cells #[.int .i64 a, .int .i64 b, .int .i64 c] 249)).alloc (.cells (l.map Value.string).toArray 9)) (w1.heap.size + 1) (fun j hj => cells_new w1 _ l j hj)
  go_wp2_with (first | (go_at_call 122; refine k4.mono ?_; rintro e w' ⟨rfl, rfl⟩) | (go_at_call 190; refine k5.mono ?_; rintro e w' ⟨rfl, q, rfl⟩))
  have y0 := (old_cell w1 (.cells #[.int .i64 a, .int .i64 b, .int .i64 c] 249) (.cells (l.map Value.string).toArray 9) q w.heap.size 0 hz1).trans z0
  have y1 := (old_cell w1 (.cells #[.int .i64 a, .int .i64 b, .int .i64 c] 249) (.cells (l.map Value.string).toArray 9) q w.heap.size 1 hz1).trans z1
  have y2 := (old_cell w1 (.cells #[.int .i64 a, .int .i64 b, .int .i64 c] 249) (.cells (l.map Value.string).toArray 9) q w.heap.size 2 hz1).trans z2
  have y3 := (old_cell w1 (.cells #[.int .i64 a, .int .i64 b, .int .i64 c] 249) (.cells (l.map Value.string).toArray 9) q w.heap.size 3 hz1).trans z3
  have HB := below_drewN' ((hb1.alloc (by omega) (.cells #[.int .i64 a, .int .i64 b, .int .i64 c] 249)).alloc (by simp; omega) (.cells (l.map Value.string).toArray 9)) q
  generalize (((w1.alloc (.cells #[.int .i64 a, .int .i64 b, .int .i64 c] 249)).alloc (.cells (l.map Value.string).toArray 9)).drewN q) = Y at y0 y1 y2 y3 HB ⊢
  exact bodyPost_ret (v := .tuple #[.agg #[.int .i64 0, .int .i64 0, .int .i64 0, .slice none 0 0], .bool false]) (by simp [results, Tryz.results153, go_sem, y0, y1, y2, y3]) rfl ⟨rfl, (((HB.setCell (Nat.le_refl _) _).setCell (Nat.le_refl _) _).setCell (Nat.le_refl _) _).setCell (Nat.le_refl _) _⟩

theorem slOf_end (w w1 : World) (o : Obj) (l : List ByteArray) (hne : l ≠ []) (q : Nat) (hz : w.heap.size < w1.heap.size) (v0 v1 v2 v3 : Value) :
    SlOf (((((((w1.alloc o).alloc (.cells (l.map Value.string).toArray 9)).drewN q).setCell ⟨w.heap.size, 0, none⟩ v0).setCell ⟨w.heap.size, 1, none⟩ v1).setCell ⟨w.heap.size, 2, none⟩ v2).setCell ⟨w.heap.size, 3, none⟩ v3) (.slice (some ⟨w1.heap.size + 1, 0, none⟩) l.length l.length) l := by
  refine Or.inr ⟨_, _, rfl, hne, ?_, fun j hj => ?_⟩
  · simp [World.setCell]
  · rw [← cells_new w1 o l j hj]
    apply World.cell?_of_block
    have hd : w1.heap.size + 1 ≠ w.heap.size := by omega
    show (World.setCell _ _ _).heap[w1.heap.size + 1]? = _
    rw [Below.heap_setCell _ _ _ _ hd, Below.heap_setCell _ _ _ _ hd, Below.heap_setCell _ _ _ _ hd, Below.heap_setCell _ _ _ _ hd]
    rfl

set_option maxHeartbeats 1000000 in
theorem parseVersion_a7 (s rest front back : ByteArray) (l : List ByteArray) (a b c : Int) (w : World) (hl : (s.size : Int) ≤ 40) (h4 : (l.length : Int) ≤ 4) (hne : l ≠ [])
    (k1 : ∀ W, Calls Tryz.prog 197 #[.string s, .string ⟨#[118]⟩] W fun e w' => e = .returned (.tuple #[.string rest, .bool true]) ∧ w' = W)
    (k2 : ∀ W, Below w.heap.size w W → Calls Tryz.prog 169 #[.string rest, .string ⟨#[45]⟩] W fun e w' => e = .returned (.tuple #[.string front, .string back, .bool true]) ∧ ∃ n, w' = W.drewN n)
    (k3 : ∀ W, Below w.heap.size w W → Calls Tryz.prog 198 #[.string front] W fun e w' => e = .returned (.tuple #[.agg #[.int .i64 a, .int .i64 b, .int .i64 c], .bool true]) ∧ Below W.heap.size W w')
    (k4 : ∀ W, Below w.heap.size w W → Calls Tryz.prog 122 #[.string back, .string ⟨#[46]⟩] W fun e w' => e = .returned (.slice (some ⟨W.heap.size, 0, none⟩) l.length l.length) ∧ w' = W.alloc (.cells (l.map Value.string).toArray 9))
    (k5 : ∀ W b, (∀ j, j < l.length → W.cell? ⟨b, j, none⟩ = some (.string l[j]!)) → Calls Tryz.prog 190 #[.slice (some ⟨b, 0, none⟩) l.length l.length, .func (.func 199) #[] #[]] W fun e w' => e = .returned (.bool false) ∧ ∃ q, w' = W.drewN q) :
    Calls Tryz.prog 153 #[.string s] w fun e w' => ∃ sl, e = .returned (.tuple #[.agg #[.int .i64 a, .int .i64 b, .int .i64 c, sl], .bool true]) ∧ Below w.heap.size w w' ∧ SlOf w' sl l := by
  have HN : Hid (l ≠ []) := hne
  clear hne
  have k2 := k2 (w.alloc (.cells #[.int .i64 0, .int .i64 0, .int .i64 0, .slice none 0 0] 251)) ((Below.refl _ _).alloc (Nat.le_refl _) _)
  have k3 := fun n => k3 ((w.alloc (.cells #[.int .i64 0, .int .i64 0, .int .i64 0, .slice none 0 0] 251)).drewN n) (below_drewN' ((Below.refl _ _).alloc (Nat.le_refl _) _) n)
  go_enter Tryz.func153, Tryz.ntmps153
  go_wp2_with (first | (go_at_call 197; refine (k1 _).mono ?_; rintro e w' ⟨rfl, rfl⟩) | (go_at_call 169; refine k2.mono ?_; rintro e w' ⟨rfl, n, rfl⟩) | (go_at_call 198; fail))
  refine (k3 _).mono ?_
  rintro e w1 ⟨rfl, hb⟩
  obtain ⟨hblk, hb1, hz1⟩ := first_block w _ w1 hb
  clear hb
  obtain ⟨⟨z0, z1, z2, z3⟩, ⟨f0, f1, f2, f3⟩⟩ := cells4 hblk
  clear hblk
  have k4 := k4 (w1.alloc (.cells #[.int .i64 a, .int .i64 b, .int .i64 c] 249)) (hb1.alloc (by omega) _)
  have k5 := k5 ((w1.alloc (.cells #[.int .i64 a, .int .i64 b, .int .i64 c] 249)).alloc (.cells (l.map Value.string).toArray 9)) (w1.heap.size + 1) (fun j hj => cells_new w1 _ l j hj)
  go_wp2_with (first | (go_at_call 122; refine k4.mono ?_; rintro e w' ⟨rfl, rfl⟩) | (go_at_call 190; refine k5.mono ?_; rintro e w' ⟨rfl, q, rfl⟩))
  have y0 := (old_cell w1 (.cells #[.int .i64 a, .int .i64 b, .int .i64 c] 249) (.cells (l.map Value.string).toArray 9) q w.heap.size 0 hz1).trans z0
  have y1 := (old_cell w1 (.cells #[.int .i64 a, .int .i64 b, .int .i64 c] 249) (.cells (l.map Value.string).toArray 9) q w.heap.size 1 hz1).trans z1
  have y2 := (old_cell w1 (.cells #[.int .i64 a, .int .i64 b, .int .i64 c] 249) (.cells (l.map Value.string).toArray 9) q w.heap.size 2 hz1).trans z2
  have y3 := (old_cell w1 (.cells #[.int .i64 a, .int .i64 b, .int .i64 c] 249) (.cells (l.map Value.string).toArray 9) q w.heap.size 3 hz1).trans z3
  have HB := below_drewN' ((hb1.alloc (by omega) (.cells #[.int .i64 a, .int .i64 b, .int .i64 c] 249)).alloc (by simp; omega) (.cells (l.map Value.string).toArray 9)) q
  have HS := slOf_end w w1 (.cells #[.int .i64 a, .int .i64 b, .int .i64 c] 249) l HN.out q hz1 (.int .i64 a) (.int .i64 b) (.int .i64 c) (.slice (some ⟨w1.heap.size + 1, 0, none⟩) l.length l.length)
  generalize (((w1.alloc (.cells #[.int .i64 a, .int .i64 b, .int .i64 c] 249)).alloc (.cells (l.map Value.string).toArray 9)).drewN q) = Y at y0 y1 y2 y3 HB HS ⊢
  exact bodyPost_ret (v := .tuple #[.agg #[.int .i64 a, .int .i64 b, .int .i64 c, .slice (some ⟨w1.heap.size + 1, 0, none⟩) l.length l.length], .bool true]) (by simp [results, Tryz.results153, go_sem, y0, y1, y2, y3]) rfl ⟨_, rfl, (((HB.setCell (Nat.le_refl _) _).setCell (Nat.le_refl _) _).setCell (Nat.le_refl _) _).setCell (Nat.le_refl _) _, HS⟩

end Go.Proofs.YtelmkfkgpnadnaaGreatDoor.Dr

namespace Go.Proofs.YtelmkfkgpnadnaaGreatDoor.Dr
open Go.RowKit

/-- Strings that are short. -/
structure Short where
  val : ByteArray
  property : val.size ≤ 40

theorem short_list : ∀ (l : List ByteArray), (∀ x ∈ l, x.size ≤ 40) → ∃ z : List Short, z.map Short.val = l
  | [], _ => ⟨[], rfl⟩
  | x :: t, h => by
    obtain ⟨z, hz⟩ := short_list t (fun y hy => h y (by simp [hy]))
    exact ⟨⟨x, h x (by simp)⟩ :: z, by simp [hz]⟩

theorem containsFunc_any (l : List ByteArray) (hl : ∀ x ∈ l, x.size ≤ 40) (hn : l.length ≤ 40) (b c : Nat) (W : World) (hc : ∀ j, j < l.length → W.cell? ⟨b, j, none⟩ = some (.string l[j]!)) :
    Calls Tryz.prog 190 #[.slice (some ⟨b, 0, none⟩) l.length c, .func (.func 199) #[] #[]] W fun e w' => e = .returned (.bool ((l.map (·.data.toList)).any Pv.noId)) ∧ ∃ q, w' = W.drewN q := by
  letI : Inhabited Short := ⟨⟨ByteArray.empty, by decide⟩⟩
  obtain ⟨z, rfl⟩ := short_list l hl
  have hp : PredAt Tryz.prog 199 #[] (fun x : Short => Value.string x.val) (fun x => Pv.noId x.val.data.toList) W := by
    intro W' x _
    refine (isNoIdentifier_any x.val W' (by have := x.property; unfold maxLen; omega)).mono ?_
    rintro e w' ⟨rfl, rfl⟩
    exact ⟨rfl, 0, rfl⟩
  have k := Tryz.slices_ContainsFunc (fun x : Short => Value.string x.val) (fun x => Pv.noId x.val.data.toList) 199 #[] enters23 b 0 z.length c z W hp (Nat.le_refl _) (by simp at hn; omega) (by
    intro j hj
    have := hc j (by simpa using hj)
    rw [Nat.zero_add, this, getElem!_pos _ j (by simpa using hj), getElem!_pos z j hj]
    simp)
  rw [List.take_length] at k
  rw [List.length_map, List.map_map, List.any_map]
  exact k

theorem hasPrefix_v (l : List UInt8) : Lib.hasPrefix l [118] = decide (l.head? = some 118) := by
  cases l with
  | nil => rfl
  | cons c t =>
    unfold Lib.hasPrefix
    by_cases h : c = 118
    · subst h; simp [List.isPrefixOf]
    · have : ¬ (118 = c) := fun e => h e.symm
      simp [List.isPrefixOf, h, this]
theorem trimPrefix_v (l : List UInt8) (h : l.head? = some 118) : Lib.trimPrefix l [118] = l.tail := by
  unfold Lib.trimPrefix
  rw [hasPrefix_v, decide_eq_true h]
  cases l <;> simp

theorem spl_len_count (c : UInt8) : ∀ l : List UInt8, (Pv.spl c l).length ≤ l.length + 1
  | [] => by simp [Pv.spl]
  | b :: t => by
    have := spl_len_count c t
    unfold Pv.spl
    split
    · simp; exact this
    · split
      · simp
      · rename_i p ps e
        rw [e] at this
        simp at this ⊢; omega

theorem cutc_len (c : UInt8) : ∀ l : List UInt8, (Pv.cutc c l).1.length ≤ l.length ∧ ∀ b, (Pv.cutc c l).2 = some b → b.length ≤ l.length
  | [] => by simp [Pv.cutc]
  | x :: t => by
    have := cutc_len c t
    unfold Pv.cutc
    split
    · simp
    · simp
      refine ⟨this.1, fun b hb => ?_⟩
      have := this.2 b hb
      omega

/-- All that the reading of a version calls, at one string. -/
theorem reading (s : ByteArray) (w : World) (hm : Ml w) (h118 : s.data.toList.head? = some 118) (h40 : s.size ≤ 40) :
    ∃ rest front back : ByteArray, front.data.toList = (Pv.cutc 45 s.data.toList.tail).1 ∧ (∀ b, (Pv.cutc 45 s.data.toList.tail).2 = some b → back.data.toList = b) ∧ front.size ≤ 40 ∧ back.size ≤ 40 ∧
      (∀ W, Calls Tryz.prog 197 #[.string s, .string ⟨#[118]⟩] W fun e w' => e = .returned (.tuple #[.string rest, .bool true]) ∧ w' = W) ∧
      (∀ W, Below w.heap.size w W → Calls Tryz.prog 169 #[.string rest, .string ⟨#[45]⟩] W fun e w' => e = .returned (.tuple #[.string front, .string back, .bool (Pv.cutc 45 s.data.toList.tail).2.isSome]) ∧ ∃ n, w' = W.drewN n) := by
  have hsz := Lib.size_eq s
  have htl : s.data.toList.tail.length ≤ 40 := by rw [List.length_tail]; omega
  have hcl := cutc_len 45 s.data.toList.tail
  have e1 : (⟨s.data.toList.tail.toArray⟩ : ByteArray).data.toList = s.data.toList.tail := rfl
  have hcut := Pv.cut_cutc 45 s.data.toList.tail
  refine ⟨⟨s.data.toList.tail.toArray⟩, ⟨(Pv.cutc 45 s.data.toList.tail).1.toArray⟩, ⟨((Pv.cutc 45 s.data.toList.tail).2.getD []).toArray⟩, rfl, ?_, ?_, ?_, ?_, ?_⟩
  · intro b hb
    show (Pv.cutc 45 s.data.toList.tail).2.getD [] = b
    rw [hb]; rfl
  · rw [Lib.size_eq]
    show (Pv.cutc 45 s.data.toList.tail).1.length ≤ 40
    omega
  · rw [Lib.size_eq]
    show ((Pv.cutc 45 s.data.toList.tail).2.getD []).length ≤ 40
    cases hb : (Pv.cutc 45 s.data.toList.tail).2 with
    | none => simp
    | some b => have := hcl.2 b hb; simp; omega
  · intro W
    have k := Tryz.strings_CutPrefix s ⟨#[118]⟩ W
    rw [show (⟨#[118]⟩ : ByteArray).data.toList = [118] from rfl, hasPrefix_v, decide_eq_true h118, trimPrefix_v _ h118] at k
    exact k
  · intro W hb
    obtain ⟨m, hmm⟩ := hm.below hb
    have k := Tryz.strings_Cut ⟨s.data.toList.tail.toArray⟩ ⟨#[45]⟩ m W (by rw [Lib.size_eq, e1]; omega) hmm
    rw [show (⟨#[45]⟩ : ByteArray).data.toList = [45] from rfl, e1, hcut] at k
    exact k

theorem parseN_three {l : List UInt8} {ns : List (List UInt8)} (h : Pv.parseN l = some ns) : ∃ p q r, ns = [p, q, r] := by
  unfold Pv.parseN at h
  split at h
  · rename_i hc
    simp only [Option.some.injEq] at h
    rw [h] at hc
    match ns, hc.1 with
    | [p, q, r], _ => exact ⟨p, q, r, rfl⟩
  · simp at h

theorem parseVersion_none (s : ByteArray) (w : World) (hm : Ml w) (h : Pv.parse s.data.toList = none) :
    Calls Tryz.prog 153 #[.string s] w fun e w' => e = .returned (.tuple #[.agg #[.int .i64 0, .int .i64 0, .int .i64 0, .slice none 0 0], .bool false]) ∧ Below w.heap.size w w' := by
  by_cases h118 : s.data.toList.head? = some 118
  · by_cases h40 : s.size ≤ 40
    · obtain ⟨rest, front, back, hf, hbk, hfs, hbs, k1, k2⟩ := reading s w hm h118 h40
      unfold Pv.parse at h
      rw [if_pos ⟨h118, by rw [← Lib.size_eq]; exact h40⟩, ← hf] at h
      cases hN : Pv.parseN front.data.toList with
      | none =>
        exact parseVersion_a3 s rest front back _ w (by omega) k1 k2 (fun W hb => parseNumbers_none front W (hm.below hb) hfs hN)
      | some ns =>
        rw [hN] at h
        obtain ⟨p, q, r, rfl⟩ := parseN_three hN
        have k3 := fun W (hb : Below w.heap.size w W) => parseNumbers_some front W (hm.below hb) hfs p q r hN
        cases hb : (Pv.cutc 45 s.data.toList.tail).2 with
        | none => rw [hb] at h; simp at h
        | some b =>
          rw [hb] at h k2
          simp only [Option.map_eq_none_iff] at h
          have hbe := hbk b hb
          obtain ⟨l, hl, hz, k4⟩ := split_any back (by omega)
          rw [hbe] at hl
          have k4 := fun W (hb : Below w.heap.size w W) => k4 W (hm.below hb)
          unfold Pv.parseI at h
          rw [← hl] at h
          by_cases h4 : l.length ≤ 4
          · have hany : (l.map (·.data.toList)).any Pv.noId = true := by
              cases ha : (l.map (·.data.toList)).any Pv.noId with
              | true => rfl
              | false => rw [if_pos ⟨by simpa using h4, ha⟩] at h; simp at h
            have k5 := fun W b (hc : ∀ j, j < l.length → W.cell? ⟨b, j, none⟩ = some (.string l[j]!)) => containsFunc_any l (fun x hx => by have := hz x hx; omega) (by omega) b l.length W hc
            rw [hany] at k5
            exact parseVersion_a6 s rest front back l _ _ _ w (by omega) (by omega) k1 k2 k3 k4 k5
          · exact parseVersion_a5 s rest front back l _ _ _ w (by omega) (by omega) k1 k2 k3 k4
    · have k1 := fun W => Tryz.strings_CutPrefix s ⟨#[118]⟩ W
      rw [show (⟨#[118]⟩ : ByteArray).data.toList = [118] from rfl, hasPrefix_v, decide_eq_true h118] at k1
      exact parseVersion_a2 s _ w (by omega) k1
  · have k1 := fun W => Tryz.strings_CutPrefix s ⟨#[118]⟩ W
    rw [show (⟨#[118]⟩ : ByteArray).data.toList = [118] from rfl, hasPrefix_v, decide_eq_false h118] at k1
    exact parseVersion_a1 s _ w k1

theorem parseVersion_some (s : ByteArray) (w : World) (hm : Ml w) (v : List (List UInt8) × List (List UInt8)) (h : Pv.parse s.data.toList = some v) :
    ∃ (p q r : List UInt8) (l : List ByteArray), v = ([p, q, r], l.map (·.data.toList)) ∧ l.length ≤ 4 ∧ (∀ x ∈ l, x.size ≤ 8) ∧
      Calls Tryz.prog 153 #[.string s] w fun e w' => ∃ sl, e = .returned (.tuple #[.agg #[.int .i64 (Pv.val p), .int .i64 (Pv.val q), .int .i64 (Pv.val r), sl], .bool true]) ∧ Below w.heap.size w w' ∧ SlOf w' sl l := by
  unfold Pv.parse at h
  split at h
  · rename_i hc
    obtain ⟨h118, h40⟩ := hc
    rw [← Lib.size_eq] at h40
    obtain ⟨rest, front, back, hf, hbk, hfs, hbs, k1, k2⟩ := reading s w hm h118 h40
    rw [← hf] at h
    cases hN : Pv.parseN front.data.toList with
    | none => rw [hN] at h; simp at h
    | some ns =>
      rw [hN] at h
      obtain ⟨p, q, r, rfl⟩ := parseN_three hN
      have k3 := fun W (hb : Below w.heap.size w W) => parseNumbers_some front W (hm.below hb) hfs p q r hN
      cases hb : (Pv.cutc 45 s.data.toList.tail).2 with
      | none =>
        rw [hb] at h k2
        simp only [Option.some.injEq] at h
        refine ⟨p, q, r, [], by rw [← h]; rfl, by simp, by simp, ?_⟩
        refine (parseVersion_a4 s rest front back _ _ _ w (by omega) k1 k2 k3).mono ?_
        rintro e w' ⟨rfl, hb'⟩
        exact ⟨_, rfl, hb', Or.inl ⟨rfl, rfl⟩⟩
      | some b =>
        rw [hb] at h k2
        have hbe := hbk b hb
        obtain ⟨l, hl, hz, k4⟩ := split_any back (by omega)
        rw [hbe] at hl
        have k4 := fun W (hb : Below w.heap.size w W) => k4 W (hm.below hb)
        dsimp only at h
        unfold Pv.parseI at h
        rw [← hl] at h
        split at h
        · rename_i hc
          obtain ⟨h4, hany⟩ := hc
          simp only [Option.map_some, Option.some.injEq] at h
          have h4' : l.length ≤ 4 := by simpa using h4
          have k5 := fun W b (hc : ∀ j, j < l.length → W.cell? ⟨b, j, none⟩ = some (.string l[j]!)) => containsFunc_any l (fun x hx => by have := hz x hx; omega) (by omega) b l.length W hc
          rw [hany] at k5
          refine ⟨p, q, r, l, h.symm, h4', ?_, ?_⟩
          · intro x hx
            have := List.any_eq_false.1 hany x.data.toList (List.mem_map_of_mem hx)
            simp only [Bool.not_eq_true] at this
            unfold Pv.noId at this
            simp only [Bool.or_eq_false_iff, decide_eq_false_iff_not] at this
            rw [Lib.size_eq]; omega
          · have hne : l ≠ [] := by
              intro e
              rw [e] at hl
              exact Pv.spl_ne 46 b hl.symm
            exact parseVersion_a7 s rest front back l _ _ _ w (by omega) (by omega) hne k1 k2 k3 k4 k5
        · simp at h
  · simp at h

end Go.Proofs.YtelmkfkgpnadnaaGreatDoor.Dr
