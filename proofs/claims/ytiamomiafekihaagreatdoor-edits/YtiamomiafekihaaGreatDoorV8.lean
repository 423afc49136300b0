/-
  The document's answer: the comparison of two versions.
-/
import Derived.Test.YtiamomiafekihaaGreatDoorV7
namespace Go.Proofs.YtiamomiafekihaaGreatDoor
open Go.RowKit

theorem SlOf.len {w : World} {v : Value} {ids : List ByteArray} (h : SlOf w v ids) : ∃ ad k, v = .slice ad ids.length k := by
  rcases h with ⟨rfl, h⟩ | ⟨b, c, h, _⟩
  · exact ⟨_, _, h⟩
  · exact ⟨_, _, h⟩

theorem compareInt_ne {x y : Int} (h : x ≠ y) : Lib.compareInt x y ≠ 0 := by
  unfold Lib.compareInt
  split
  · decide
  · split
    · decide
    · omega
theorem compareInt_eq (x : Int) : Lib.compareInt x x = 0 := by
  unfold Lib.compareInt
  simp

theorem SlOf.at {w : World} {ad : Option Addr} {n k : Nat} {ids : List ByteArray} (h : SlOf w (.slice ad n k) ids) (hne : ids ≠ []) : ∃ b, ad = some ⟨b, 0, none⟩ ∧ ∀ j, j < ids.length → w.cell? ⟨b, j, none⟩ = some (.string ids[j]!) := by
  rcases h with ⟨h, _⟩ | ⟨b, c, h, _, _, hc⟩
  · exact absurd h hne
  · simp only [Value.slice.injEq] at h
    exact ⟨b, h.1, hc⟩

theorem map_at (l : List ByteArray) (j : Nat) (hj : j < l.length) (hl : ∀ x ∈ l, x.size ≤ 8) : (l.map (·.data.toList))[j]! = l[j]!.data.toList ∧ l[j]!.size ≤ 8 := by
  rw [getElem!_pos l j hj, getElem!_pos _ j (by simpa using hj)]
  exact ⟨by simp, hl _ (List.getElem_mem hj)⟩

set_option maxRecDepth 100000 in
set_option maxHeartbeats 4000000 in
theorem words_core (a b : ByteArray) (w : World) (ns ms : List (List UInt8)) (l m : List ByteArray) (r : Int)
    (k1 : ∀ W, Calls Tryz.prog 74 #[.string a] W fun e w' => ∃ v1 v2 ok, e = .returned (.tuple #[v1, v2, .bool ok]) ∧ Below W.heap.size W w' ∧ ok = true ∧ NumOf w' v1 ns ∧ SlOf w' v2 l)
    (k2 : ∀ W, Calls Tryz.prog 74 #[.string b] W fun e w' => ∃ v1 v2 ok, e = .returned (.tuple #[v1, v2, .bool ok]) ∧ Below W.heap.size W w' ∧ ok = true ∧ NumOf w' v1 ms ∧ SlOf w' v2 m)
    (hn3 : ns.length = 3) (hm3 : ms.length = 3) (hl4 : l.length ≤ 4) (hm4 : m.length ≤ 4) (hl8 : ∀ x ∈ l, x.size ≤ 8) (hm8 : ∀ x ∈ m, x.size ≤ 8)
    (hr0 : Pv.cmpL Pv.cmpN ns ms ≠ 0 → r = Pv.cmpL Pv.cmpN ns ms)
    (hr1 : Pv.cmpL Pv.cmpN ns ms = 0 → l.length = 0 ∨ m.length = 0 → r = Lib.compareInt m.length l.length)
    (hr2 : Pv.cmpL Pv.cmpN ns ms = 0 → l.length ≠ 0 → m.length ≠ 0 → r = Pv.cmpL Pv.label (l.map (·.data.toList)) (m.map (·.data.toList))) :
    Calls Tryz.prog 63 #[.string a, .string b] w fun e w' => e = .returned (.int .i64 r) ∧ Below w.heap.size w w' := by
  generalize hrn : Pv.cmpL Pv.cmpN ns ms = rn at hr0 hr1 hr2
  have RN : Hid (Pv.cmpL Pv.cmpN (ns.drop 0) (ms.drop 0) = rn) := hrn
  have R0 : Hid (rn ≠ 0 → r = rn) := hr0
  have R1 : Hid (rn = 0 → l.length = 0 ∨ m.length = 0 → r = Lib.compareInt m.length l.length) := hr1
  have R2 : Hid (rn = 0 → l.length ≠ 0 → m.length ≠ 0 → r = Pv.cmpL Pv.label (l.map (·.data.toList)) (m.map (·.data.toList))) := hr2
  clear hrn hr0 hr1 hr2
  have L8 : Hid (∀ x ∈ l, x.size ≤ 8) := hl8
  have M8 : Hid (∀ x ∈ m, x.size ≤ 8) := hm8
  have HN3 : Hid (ns.length = 3) := hn3
  have HM3 : Hid (ms.length = 3) := hm3
  clear hl8 hm8 hn3 hm3
  go_enter Tryz.func63, Tryz.ntmps63
  go_wp2_with (go_at_call 74; fail)
  refine (k1 _).mono ?_
  rintro e w1 ⟨v1, v2, ok, rfl, hb1, rfl, hN1, hS1⟩
  go_wp2_with (go_at_call 74; fail)
  refine (k2 _).mono ?_
  rintro e w2 ⟨u1, u2, ok, rfl, hb2, rfl, hN2, hS2⟩
  have hN1 := hN1.below hb2
  have hS1 := hS1.below hb2
  have HB : Below w.heap.size w w2 := hb1.trans (hb2.mono hb1.size)
  clear hb1 hb2
  obtain ⟨b1, c1, e1, hx1, hc1⟩ := hN1
  obtain ⟨b2, c2, e2, hx2, hc2⟩ := hN2
  rw [HN3.out] at e1 hc1
  rw [HM3.out] at e2 hc2
  obtain ⟨ad1, d1, f1⟩ := hS1.len
  obtain ⟨ad2, d2, f2⟩ := hS2.len
  rw [f1] at hS1
  rw [f2] at hS2
  rw [e1, e2, f1, f2]
  clear e1 e2 f1 f2
  have C1 : Hid (∀ j, j < 3 → w2.cell? ⟨b1, j, none⟩ = some (.int .i64 (Pv.val ns[j]!))) := hc1
  have C2 : Hid (∀ j, j < 3 → w2.cell? ⟨b2, j, none⟩ = some (.int .i64 (Pv.val ms[j]!))) := hc2
  have S1 : Hid (SlOf w2 (.slice ad1 l.length d1) l) := hS1
  have S2 : Hid (SlOf w2 (.slice ad2 m.length d2) m) := hS2
  clear hc1 hc2 hS1 hS2
  go_wp2
  go_loopg [11] 3 (fun gg s11 wr => ∃ k q : Nat, k ≤ 3 ∧ 3 - k ≤ gg ∧ s11 = .int .i64 k ∧ wr = w2.drewN q ∧ Hid (Pv.cmpL Pv.cmpN (ns.drop k) (ms.drop k) = rn))
  case atStart => exact ⟨0, 0, by omega, by omega, rfl, rfl, RN⟩
  case round =>
    obtain ⟨k, q, hk, hg, rfl, rfl, A⟩ := hrel
    by_cases hlt : k < 3
    · have hltI : (k : Int) < 3 := by omega
      have hcell := C1.out k hlt
      have hcell' := C2.out k hlt
      have hbo := Dr.cmpL_both Pv.cmpN ns ms k (by rw [HN3.out]; exact hlt) (by rw [HM3.out]; exact hlt)
      rw [A.out] at hbo
      unfold Pv.cmpN at hbo
      generalize (Pv.val ns[k]! : Int) = x at hcell hbo
      generalize (Pv.val ms[k]! : Int) = y at hcell' hbo
      by_cases hxy : x = y
      · rw [hxy, compareInt_eq, if_pos rfl] at hbo
        have HNX : Hid (Pv.cmpL Pv.cmpN (ns.drop (k + 1)) (ms.drop (k + 1)) = rn) := hbo.symm
        have hxyb : (x != y) = false := by rw [hxy]; simp
        clear hbo
        go_wp2
        go_quiet (fail)
        go_wp2
        go_roundg (3 - (k + 1))
        case measure => omega
        case rel => exact ⟨k + 1, _, by omega, by omega, by go_num, rfl, HNX⟩
      · rw [if_neg (compareInt_ne hxy)] at hbo
        have HNX : Hid (r = Lib.compareInt x y) := (R0.out (by rw [hbo]; exact compareInt_ne hxy)).trans hbo
        have hxyb : (x != y) = true := by simpa using hxy
        have ko := fun W => order_any x y W
        rw [← HNX.out] at ko
        clear hbo hxy HNX
        go_wp2
        go_quiet (fail)
        go_wp2
        have hc3 : ((w2.drewN q).drewN nq).cell? ⟨b1, k, none⟩ = some (.int .i64 x) := hcell
        have hc3' : ((w2.drewN q).drewN nq).cell? ⟨b2, k, none⟩ = some (.int .i64 y) := hcell'
        have HB3 : Below w.heap.size w ((w2.drewN q).drewN nq) := below_drewN' (below_drewN' HB _) _
        clear hcell hcell'
        generalize (w2.drewN q).drewN nq = W3 at hc3 hc3' HB3 ⊢
        go_quiet ((go_at_call 87; exact Calls.quiet_of_same (ko _)))
        go_wp2
        go_ret
        exact ⟨rfl, below_drewN' HB3 _⟩
    · have hke : k = 3 := by omega
      have hkI : (3 : Int) ≤ (k : Int) := by omega
      have h0 := Dr.cmpL_none Pv.cmpN ns ms k (by rw [HN3.out]; omega) (by rw [HM3.out]; omega)
      rw [A.out] at h0
      have S1' := S1.out.below (below_drewN' (Below.refl _ _) q)
      have S2' := S2.out.below (below_drewN' (Below.refl _ _) q)
      have HB3 : Below w.heap.size w (w2.drewN q) := below_drewN' HB _
      have R1' := R1.out h0
      have R2' := R2.out h0
      clear hke S1 S2 C1 C2 R0 R1 R2 RN A HB h0 HN3 HM3 hlt hk hg hx1 hx2
      generalize w2.drewN q = W3 at S1' S2' HB3 ⊢
      by_cases hl0 : l.length = 0
      · have hb : ((l.length : Int) == 0) = true := beq_iff_eq.2 (by omega)
        have ko := fun W => order_any m.length l.length W
        rw [← R1' (Or.inl hl0)] at ko
        clear R1' R2' hl0 S1' S2'
        go_wp2_with (go_at_call 87; refine (ko _).mono ?_; rintro e w' ⟨rfl, rfl⟩)
        go_ret
        exact ⟨rfl, HB3⟩
      · have hb : ((l.length : Int) == 0) = false := beq_eq_false_iff_ne.2 (by omega)
        by_cases hm0 : m.length = 0
        · have hb' : ((m.length : Int) == 0) = true := beq_iff_eq.2 (by omega)
          have ko := fun W => order_any m.length l.length W
          rw [← R1' (Or.inr hm0)] at ko
          clear R1' R2' hl0 hm0 S1' S2'
          go_wp2_with (go_at_call 87; refine (ko _).mono ?_; rintro e w' ⟨rfl, rfl⟩)
          go_ret
          exact ⟨rfl, HB3⟩
        · have hb' : ((m.length : Int) == 0) = false := beq_eq_false_iff_ne.2 (by omega)
          have HR := R2' hl0 hm0
          have T1 := S1'.at (fun e => hl0 (by rw [e]; rfl))
          have T2 := S2'.at (fun e => hm0 (by rw [e]; rfl))
          obtain ⟨b3, rfl, hc3⟩ := T1
          obtain ⟨b4, rfl, hc4⟩ := T2
          clear R1' R2' hl0 hm0 S1' S2'
          have C3 : Hid (∀ j, j < l.length → W3.cell? ⟨b3, j, none⟩ = some (.string l[j]!)) := hc3
          have C4 : Hid (∀ j, j < m.length → W3.cell? ⟨b4, j, none⟩ = some (.string m[j]!)) := hc4
          clear hc3 hc4
          have HLE : Hid (∀ j, j < l.length → (l.map (·.data.toList))[j]! = l[j]!.data.toList ∧ l[j]!.size ≤ 8) := fun j hj => map_at l j hj L8.out
          have HME : Hid (∀ j, j < m.length → (m.map (·.data.toList))[j]! = m[j]!.data.toList ∧ m[j]!.size ≤ 8) := fun j hj => map_at m j hj M8.out
          have HLL : Hid ((l.map (·.data.toList)).length = l.length) := by show (l.map _).length = _; simp
          have HML : Hid ((m.map (·.data.toList)).length = m.length) := by show (m.map _).length = _; simp
          generalize l.map (·.data.toList) = L at HR HLE HLL
          generalize m.map (·.data.toList) = M at HR HME HML
          have HR0 : Hid (Pv.cmpL Pv.label (L.drop 0) (M.drop 0) = r) := HR.symm
          clear HR
          go_wp2
          go_loopg [12] l.length (fun gg s12 wr => ∃ k : Nat, k ≤ l.length ∧ k ≤ m.length ∧ l.length - k ≤ gg ∧ s12 = .int .i64 k ∧ Hid (∀ j, j < l.length → wr.cell? ⟨b3, j, none⟩ = some (.string l[j]!)) ∧ Hid (∀ j, j < m.length → wr.cell? ⟨b4, j, none⟩ = some (.string m[j]!)) ∧ Below w.heap.size w wr ∧ Hid (Pv.cmpL Pv.label (L.drop k) (M.drop k) = r))
          case atStart => exact ⟨0, by omega, by omega, by omega, rfl, C3, C4, HB3, HR0⟩
          case round =>
            clear C3 C4 HB3
            obtain ⟨k, hk, hk', hg, rfl, C3, C4, HB3, A⟩ := hrel
            by_cases hlt : k < l.length
            · have hltI : (k : Int) < (l.length : Int) := by omega
              by_cases hlt' : k < m.length
              · have hltI' : (k : Int) < (m.length : Int) := by omega
                have hcell := C3.out k hlt
                have hcell' := C4.out k hlt'
                have hbo := Dr.cmpL_both Pv.label L M k (by rw [HLL.out]; exact hlt) (by rw [HML.out]; exact hlt')
                rw [A.out, (HLE.out k hlt).1, (HME.out k hlt').1] at hbo
                have kcc := fun W => label_any l[k]! m[k]! W (by have := (HLE.out k hlt).2; omega) (by have := (HME.out k hlt').2; omega)
                generalize Pv.label l[k]!.data.toList m[k]!.data.toList = z at kcc hbo
                generalize l[k]! = x at hcell kcc
                generalize m[k]! = y at hcell' kcc
                by_cases hz : z = 0
                · rw [if_pos hz] at hbo
                  have HNX : Hid (Pv.cmpL Pv.label (L.drop (k + 1)) (M.drop (k + 1)) = r) := hbo.symm
                  have hzb : (z != 0) = false := by rw [hz]; rfl
                  clear hbo hz
                  go_wp2
                  go_quiet ((go_at_call 88; exact Calls.quiet_of_same (kcc _)))
                  go_wp2
                  go_roundg (l.length - (k + 1))
                  case measure => omega
                  case rel => exact ⟨k + 1, by omega, by omega, by omega, by go_num, C3, C4, below_drewN' HB3 _, HNX⟩
                · rw [if_neg hz] at hbo
                  have HNX : Hid (r = z) := hbo
                  have hzb : (z != 0) = true := by simpa using hz
                  clear hbo hz
                  go_wp2
                  go_quiet ((go_at_call 88; exact Calls.quiet_of_same (kcc _)))
                  go_wp2
                  go_ret
                  exact ⟨ret_int HNX.out.symm, below_drewN' HB3 _⟩
              · have hltI' : (m.length : Int) ≤ (k : Int) := by omega
                have h1 := Dr.cmpL_left Pv.label L M k (by rw [HLL.out]; exact hlt) (by rw [HML.out]; omega)
                rw [A.out] at h1
                have ko := fun W => order_any l.length m.length W
                rw [show Lib.compareInt (l.length : Int) (m.length : Int) = r from by rw [h1]; unfold Lib.compareInt; rw [if_neg (by omega), if_pos (by omega)]] at ko
                clear h1
                go_wp2_with (go_at_call 87; refine (ko _).mono ?_; rintro e w' ⟨rfl, rfl⟩)
                go_ret
                exact ⟨rfl, HB3⟩
            · have hltI : (l.length : Int) ≤ (k : Int) := by omega
              have ko := fun W => order_any l.length m.length W
              have h1 : Lib.compareInt (l.length : Int) (m.length : Int) = r := by
                unfold Lib.compareInt
                by_cases hlt' : k < m.length
                · have h1 := Dr.cmpL_right Pv.label L M k (by rw [HLL.out]; omega) (by rw [HML.out]; exact hlt')
                  rw [A.out] at h1
                  rw [h1, if_pos (by omega)]
                · have h1 := Dr.cmpL_none Pv.label L M k (by rw [HLL.out]; omega) (by rw [HML.out]; omega)
                  rw [A.out] at h1
                  rw [h1, if_neg (by omega), if_neg (by omega)]
              rw [h1] at ko
              clear h1
              go_wp2_with (go_at_call 87; refine (ko _).mono ?_; rintro e w' ⟨rfl, rfl⟩)
              go_ret
              exact ⟨rfl, HB3⟩

end Go.Proofs.YtiamomiafekihaaGreatDoor
