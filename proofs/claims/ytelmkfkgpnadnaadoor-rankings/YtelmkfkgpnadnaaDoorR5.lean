/-
  The walk of rank.
-/
import Derived.Test.YtelmkfkgpnadnaaDoorR1
import Derived.Test.YtelmkfkgpnadnaaDoorW5
import Derived.LoopN
namespace Go.Proofs.YtelmkfkgpnadnaaDoor
open Go.RowKit

def cmpZ : List Nat → List Nat → Int
  | [], [] => 0
  | [], _ :: _ => -1
  | _ :: _, [] => 1
  | a :: s, b :: t => if a < b then -1 else if b < a then 1 else cmpZ s t

theorem cmpZ_both (l m : List Nat) (k : Nat) (h : k < l.length) (h' : k < m.length) : cmpZ (l.drop k) (m.drop k) = if l[k]! < m[k]! then -1 else if m[k]! < l[k]! then 1 else cmpZ (l.drop (k + 1)) (m.drop (k + 1)) := by
  rw [List.drop_eq_getElem_cons h, List.drop_eq_getElem_cons h', cmpZ, getElem!_pos l k h, getElem!_pos m k h']
theorem cmpZ_left (l m : List Nat) (k : Nat) (h : k < l.length) (h' : m.length ≤ k) : cmpZ (l.drop k) (m.drop k) = 1 := by
  rw [List.drop_eq_getElem_cons h, List.drop_of_length_le h', cmpZ]
theorem cmpZ_right (l m : List Nat) (k : Nat) (h : l.length ≤ k) (h' : k < m.length) : cmpZ (l.drop k) (m.drop k) = -1 := by
  rw [List.drop_eq_getElem_cons h', List.drop_of_length_le h, cmpZ]
theorem cmpZ_none (l m : List Nat) (k : Nat) (h : l.length ≤ k) (h' : m.length ≤ k) : cmpZ (l.drop k) (m.drop k) = 0 := by
  rw [List.drop_of_length_le h, List.drop_of_length_le h', cmpZ]

/-- A slice of small numbers. -/
def IntOf (w : World) (v : Value) (ks : List Nat) : Prop :=
  ∃ ad cap, v = .slice ad ks.length cap ∧ ∀ j, j < ks.length → ∃ b, ad = some ⟨b, 0, none⟩ ∧ b < w.heap.size ∧ w.cell? ⟨b, j, none⟩ = some (.int .i64 ks[j]!)

theorem IntOf.below {w w' : World} {v : Value} {ks : List Nat} (h : IntOf w v ks) (hb : Below w.heap.size w w') : IntOf w' v ks := by
  obtain ⟨ad, cap, h1, h2⟩ := h
  refine ⟨ad, cap, h1, fun j hj => ?_⟩
  obtain ⟨b, h3, h4, h5⟩ := h2 j hj
  exact ⟨b, h3, Nat.lt_of_lt_of_le h4 hb.size, by rw [hb.cell (p := ⟨b, j, none⟩) h4]; exact h5⟩

set_option maxRecDepth 100000 in
set_option maxHeartbeats 4000000 in
theorem rank_core (x0 x1 x2 y0 y1 y2 : Nat) (xs ys : List Nat) (ks ms : List Nat) (u v : Value) (r : Int) (w : World) (hx : xs = [x0, x1, x2]) (hy : ys = [y0, y1, y2]) (hk3 : ks.length ≤ 3) (hm3 : ms.length ≤ 3)
    (hu : IntOf w u ks) (hv : IntOf w v ms)
    (hr0 : cmpZ xs ys ≠ 0 → r = cmpZ xs ys) (hr1 : cmpZ xs ys = 0 → ks.length = 0 → 0 < ms.length → r = 1) (hr2 : cmpZ xs ys = 0 → 0 < ks.length → ms.length = 0 → r = -1)
    (hr3 : cmpZ xs ys = 0 → (ks.length = 0 ↔ ms.length = 0) → r = cmpZ ks ms) :
    Calls Tryd.prog 9 #[.agg #[.int .i64 x0, .int .i64 x1, .int .i64 x2, u], .agg #[.int .i64 y0, .int .i64 y1, .int .i64 y2, v]] w fun e w' => e = .returned (.int .i64 r) ∧ Below w.heap.size w w' := by
  obtain ⟨ad1, cp1, rfl, hc1⟩ := hu
  obtain ⟨ad2, cp2, rfl, hc2⟩ := hv
  generalize hrn : cmpZ xs ys = rn at hr0 hr1 hr2 hr3
  have RN : Hid (cmpZ (xs.drop 0) (ys.drop 0) = rn) := hrn
  have R0 : Hid (rn ≠ 0 → r = rn) := hr0
  have R1 : Hid (rn = 0 → ks.length = 0 → 0 < ms.length → r = 1) := hr1
  have R2 : Hid (rn = 0 → 0 < ks.length → ms.length = 0 → r = -1) := hr2
  have R3 : Hid (rn = 0 → (ks.length = 0 ↔ ms.length = 0) → r = cmpZ ks ms) := hr3
  clear hrn hr0 hr1 hr2 hr3
  have HX3 : Hid (xs.length = 3) := by show xs.length = 3; rw [hx]; rfl
  have HY3 : Hid (ys.length = 3) := by show ys.length = 3; rw [hy]; rfl
  have hx0 : xs[0]! = x0 ∧ xs[1]! = x1 ∧ xs[2]! = x2 := by rw [hx]; exact ⟨rfl, rfl, rfl⟩
  have hy0 : ys[0]! = y0 ∧ ys[1]! = y1 ∧ ys[2]! = y2 := by rw [hy]; exact ⟨rfl, rfl, rfl⟩
  clear hx hy
  have C1 : Hid (∀ j, j < ks.length → ∃ b, ad1 = some ⟨b, 0, none⟩ ∧ b < w.heap.size ∧ w.cell? ⟨b, j, none⟩ = some (.int .i64 ks[j]!)) := hc1
  have C2 : Hid (∀ j, j < ms.length → ∃ b, ad2 = some ⟨b, 0, none⟩ ∧ b < w.heap.size ∧ w.cell? ⟨b, j, none⟩ = some (.int .i64 ms[j]!)) := hc2
  clear hc1 hc2
  have HB : Below w.heap.size w ((w.alloc (.cells #[.int .i64 x0, .int .i64 x1, .int .i64 x2, .slice ad1 ks.length cp1] 26)).alloc (.cells #[.int .i64 y0, .int .i64 y1, .int .i64 y2, .slice ad2 ms.length cp2] 26)) := ((Below.refl _ _).alloc (Nat.le_refl _) _).alloc (by simp) _
  have D1 : Hid (∀ j, j < 3 → ((w.alloc (.cells #[.int .i64 x0, .int .i64 x1, .int .i64 x2, .slice ad1 ks.length cp1] 26)).alloc (.cells #[.int .i64 y0, .int .i64 y1, .int .i64 y2, .slice ad2 ms.length cp2] 26)).cell? ⟨w.heap.size, j, none⟩ = some (.int .i64 xs[j]!)) := by
    intro j hj
    match j, hj with
    | 0, _ => rw [hx0.1]; simp [go_sem]
    | 1, _ => rw [hx0.2.1]; simp [go_sem]
    | 2, _ => rw [hx0.2.2]; simp [go_sem]
  have D2 : Hid (∀ j, j < 3 → ((w.alloc (.cells #[.int .i64 x0, .int .i64 x1, .int .i64 x2, .slice ad1 ks.length cp1] 26)).alloc (.cells #[.int .i64 y0, .int .i64 y1, .int .i64 y2, .slice ad2 ms.length cp2] 26)).cell? ⟨w.heap.size + 1, j, none⟩ = some (.int .i64 ys[j]!)) := by
    intro j hj
    match j, hj with
    | 0, _ => rw [hy0.1]; simp [go_sem]
    | 1, _ => rw [hy0.2.1]; simp [go_sem]
    | 2, _ => rw [hy0.2.2]; simp [go_sem]
  clear hx0 hy0
  have E1 : ((w.alloc (.cells #[.int .i64 x0, .int .i64 x1, .int .i64 x2, .slice ad1 ks.length cp1] 26)).alloc (.cells #[.int .i64 y0, .int .i64 y1, .int .i64 y2, .slice ad2 ms.length cp2] 26)).cell? ⟨w.heap.size, 3, none⟩ = some (.slice ad1 ks.length cp1) := by simp [go_sem]
  have E2 : ((w.alloc (.cells #[.int .i64 x0, .int .i64 x1, .int .i64 x2, .slice ad1 ks.length cp1] 26)).alloc (.cells #[.int .i64 y0, .int .i64 y1, .int .i64 y2, .slice ad2 ms.length cp2] 26)).cell? ⟨w.heap.size + 1, 3, none⟩ = some (.slice ad2 ms.length cp2) := by simp [go_sem]
  have C1' : Hid (∀ j, j < ks.length → ∃ b, ad1 = some ⟨b, 0, none⟩ ∧ ((w.alloc (.cells #[.int .i64 x0, .int .i64 x1, .int .i64 x2, .slice ad1 ks.length cp1] 26)).alloc (.cells #[.int .i64 y0, .int .i64 y1, .int .i64 y2, .slice ad2 ms.length cp2] 26)).cell? ⟨b, j, none⟩ = some (.int .i64 ks[j]!)) := by
    intro j hj
    obtain ⟨b, h1, h2, h3⟩ := C1.out j hj
    exact ⟨b, h1, by rw [HB.cell (p := ⟨b, j, none⟩) h2]; exact h3⟩
  have C2' : Hid (∀ j, j < ms.length → ∃ b, ad2 = some ⟨b, 0, none⟩ ∧ ((w.alloc (.cells #[.int .i64 x0, .int .i64 x1, .int .i64 x2, .slice ad1 ks.length cp1] 26)).alloc (.cells #[.int .i64 y0, .int .i64 y1, .int .i64 y2, .slice ad2 ms.length cp2] 26)).cell? ⟨b, j, none⟩ = some (.int .i64 ms[j]!)) := by
    intro j hj
    obtain ⟨b, h1, h2, h3⟩ := C2.out j hj
    exact ⟨b, h1, by rw [HB.cell (p := ⟨b, j, none⟩) h2]; exact h3⟩
  clear C1 C2
  have HE1 := E1
  have HE2 := E2
  clear E1 E2
  go_enter Tryd.func9, Tryd.ntmps9
  go_wp2
  generalize ((w.alloc (.cells #[.int .i64 x0, .int .i64 x1, .int .i64 x2, .slice ad1 ks.length cp1] 26)).alloc (.cells #[.int .i64 y0, .int .i64 y1, .int .i64 y2, .slice ad2 ms.length cp2] 26)) = W at HB D1 D2 HE1 HE2 C1' C2' ⊢
  have EE1 : Hid (W.cell? ⟨w.heap.size, 3, none⟩ = some (.slice ad1 ks.length cp1)) := HE1
  have EE2 : Hid (W.cell? ⟨w.heap.size + 1, 3, none⟩ = some (.slice ad2 ms.length cp2)) := HE2
  clear HE1 HE2
  have CE : Hid (∀ (wr : World) (p : Addr), wr.heap = W.heap → wr.cell? p = W.cell? p) := fun wr p h => World.cell?_of_block (by rw [h])
  go_loopg [5] 3 (fun gg s5 wr => ∃ k : Nat, k ≤ 3 ∧ 3 - k ≤ gg ∧ s5 = .int .i64 k ∧ Hid (wr.heap = W.heap) ∧ Below w.heap.size w wr ∧ Hid (cmpZ (xs.drop k) (ys.drop k) = rn))
  case atStart => exact ⟨0, by omega, by omega, rfl, rfl, HB, RN⟩
  case round =>
    clear HB
    obtain ⟨k, hk, hg, rfl, HQ, HBR, A⟩ := hrel
    by_cases hlt : k < 3
    · have hltI : (k : Int) < 3 := by omega
      have hcell : wr.cell? ⟨w.heap.size, k, none⟩ = some (.int .i64 xs[k]!) := by rw [CE.out _ _ HQ.out]; exact D1.out k hlt
      have hcell' : wr.cell? ⟨w.heap.size + 1, k, none⟩ = some (.int .i64 ys[k]!) := by rw [CE.out _ _ HQ.out]; exact D2.out k hlt
      have hbo := cmpZ_both xs ys k (by rw [HX3.out]; exact hlt) (by rw [HY3.out]; exact hlt)
      rw [A.out] at hbo
      generalize xs[k]! = x at hcell hbo
      generalize ys[k]! = y at hcell' hbo
      by_cases h1 : x < y
      · rw [if_pos h1] at hbo
        have HR : Hid (r = -1) := (R0.out (by rw [hbo]; decide)).trans hbo
        have h1I : (x : Int) < (y : Int) := by omega
        clear hbo h1
        go_wp2
        go_quiet (fail)
        go_wp2
        go_ret
        exact ⟨ret_int HR.out.symm, below_drewN' HBR _⟩
      · rw [if_neg h1] at hbo
        have h1I : (y : Int) ≤ (x : Int) := by omega
        by_cases h2 : y < x
        · rw [if_pos h2] at hbo
          have HR : Hid (r = 1) := (R0.out (by rw [hbo]; decide)).trans hbo
          have h2I : (y : Int) < (x : Int) := by omega
          clear hbo h1 h2
          go_wp2
          go_quiet (fail)
          go_wp2
          go_quiet (fail)
          go_wp2
          go_ret
          exact ⟨ret_int HR.out.symm, below_drewN' (below_drewN' HBR _) _⟩
        · rw [if_neg h2] at hbo
          have HN : Hid (cmpZ (xs.drop (k + 1)) (ys.drop (k + 1)) = rn) := hbo.symm
          have h2I : (x : Int) ≤ (y : Int) := by omega
          clear hbo h1 h2
          go_wp2
          go_quiet (fail)
          go_wp2
          go_quiet (fail)
          go_wp2
          go_roundg (3 - (k + 1))
          case measure => omega
          case rel => exact ⟨k + 1, by omega, by omega, by go_num, HQ, by first | exact below_drewN' HBR _ | exact below_drewN' (below_drewN' HBR _) _, HN⟩
    · have hkI : (3 : Int) ≤ (k : Int) := by omega
      have h0 := cmpZ_none xs ys k (by rw [HX3.out]; omega) (by rw [HY3.out]; omega)
      rw [A.out] at h0
      have R1' := R1.out h0
      have R2' := R2.out h0
      have R3' := R3.out h0
      have e1 : wr.cell? ⟨w.heap.size, 3, none⟩ = some (.slice ad1 ks.length cp1) := by rw [CE.out _ _ HQ.out]; exact EE1.out
      have e2 : wr.cell? ⟨w.heap.size + 1, 3, none⟩ = some (.slice ad2 ms.length cp2) := by rw [CE.out _ _ HQ.out]; exact EE2.out
      clear A R0 R1 R2 R3 RN h0 D1 D2 HX3 HY3 hlt hk hg
      by_cases hk0 : ks.length = 0
      · have bk : ((ks.length : Int) == 0) = true := beq_iff_eq.2 (by omega)
        by_cases hm0 : 0 < ms.length
        · have HR : Hid (r = 1) := R1' hk0 hm0
          have bm : (0 : Int) < (ms.length : Int) := by omega
          clear R1' R2' R3' hk0 hm0
          go_wp2
          go_ret
          exact ⟨ret_int HR.out.symm, HBR⟩
        · have bm : (ms.length : Int) ≤ 0 := by omega
          have HR0 : Hid (cmpZ (ks.drop 0) (ms.drop 0) = r) := (R3' (by omega)).symm
          have hme : ms = [] := List.eq_nil_of_length_eq_zero (by omega)
          have hke : ks = [] := List.eq_nil_of_length_eq_zero (by omega)
          subst hme hke
          clear R1' R2' R3' hk0 hm0
          have HZ : Hid (r = 0) := HR0.out.symm
          go_wp2
          refine wp_loop_rounds 1 ?_
          rw [rounds_succ]
          go_wp2
          go_ret
          exact ⟨ret_int HZ.out.symm, HBR⟩
      · have bk : ((ks.length : Int) == 0) = false := beq_eq_false_iff_ne.2 (by omega)
        have bk' : (0 : Int) < (ks.length : Int) := by omega
        by_cases hm0 : ms.length = 0
        · have HR : Hid (r = -1) := R2' (by omega) hm0
          have bm : ((ms.length : Int) == 0) = true := beq_iff_eq.2 (by omega)
          clear R1' R2' R3' hk0 hm0
          go_wp2
          go_ret
          exact ⟨ret_int HR.out.symm, HBR⟩
        · have bm : ((ms.length : Int) == 0) = false := beq_eq_false_iff_ne.2 (by omega)
          have HR0 : Hid (cmpZ (ks.drop 0) (ms.drop 0) = r) := (R3' (by omega)).symm
          obtain ⟨b1, had1, _⟩ := C1'.out 0 (by omega)
          obtain ⟨b2, had2, _⟩ := C2'.out 0 (by omega)
          subst had1 had2
          have F1 : Hid (∀ j, j < ks.length → W.cell? ⟨b1, j, none⟩ = some (.int .i64 ks[j]!)) := by
            intro j hj
            obtain ⟨b, h1, h2⟩ := C1'.out j hj
            simp only [Option.some.injEq, Addr.mk.injEq, and_true] at h1
            rw [h1]; exact h2
          have F2 : Hid (∀ j, j < ms.length → W.cell? ⟨b2, j, none⟩ = some (.int .i64 ms[j]!)) := by
            intro j hj
            obtain ⟨b, h1, h2⟩ := C2'.out j hj
            simp only [Option.some.injEq, Addr.mk.injEq, and_true] at h1
            rw [h1]; exact h2
          clear R1' R2' R3' hk0 hm0 C1' C2'
          go_wp2
          clear bk bk' bm
          go_loopg [6] ks.length (fun gg s6 wx => ∃ k : Nat, k ≤ ks.length ∧ k ≤ ms.length ∧ ks.length - k ≤ gg ∧ s6 = .int .i64 k ∧ Hid (wx.heap = W.heap) ∧ Below w.heap.size w wx ∧ Hid (cmpZ (ks.drop k) (ms.drop k) = r))
          case atStart => exact ⟨0, by omega, by omega, by omega, rfl, HQ, HBR, HR0⟩
          case round =>
            clear e1 e2 HBR HQ
            obtain ⟨k, hk, hk', hg, rfl, HQ, HBR, A⟩ := hrel
            have e1 := (CE.out _ ⟨w.heap.size, 3, none⟩ HQ.out).trans EE1.out
            have e2 := (CE.out _ ⟨w.heap.size + 1, 3, none⟩ HQ.out).trans EE2.out
            by_cases hlt : k < ks.length
            · have hltI : (k : Int) < (ks.length : Int) := by omega
              by_cases hlt' : k < ms.length
              · have hltI' : (k : Int) < (ms.length : Int) := by omega
                have hcell := (CE.out _ ⟨b1, k, none⟩ HQ.out).trans (F1.out k hlt)
                have hcell' := (CE.out _ ⟨b2, k, none⟩ HQ.out).trans (F2.out k hlt')
                have hbo := cmpZ_both ks ms k hlt hlt'
                rw [A.out] at hbo
                generalize ks[k]! = x at hcell hbo
                generalize ms[k]! = y at hcell' hbo
                by_cases h1 : x < y
                · rw [if_pos h1] at hbo
                  have HR : Hid (r = -1) := hbo
                  have h1I : (x : Int) < (y : Int) := by omega
                  clear hbo h1
                  go_wp2
                  go_quiet (fail)
                  go_wp2
                  go_ret
                  exact ⟨ret_int HR.out.symm, below_drewN' HBR _⟩
                · rw [if_neg h1] at hbo
                  have h1I : (y : Int) ≤ (x : Int) := by omega
                  by_cases h2 : y < x
                  · rw [if_pos h2] at hbo
                    have HR : Hid (r = 1) := hbo
                    have h2I : (y : Int) < (x : Int) := by omega
                    clear hbo h1 h2
                    go_wp2
                    go_quiet (fail)
                    go_wp2
                    go_quiet (fail)
                    go_wp2
                    go_ret
                    exact ⟨ret_int HR.out.symm, by first | exact below_drewN' HBR _ | exact below_drewN' (below_drewN' HBR _) _⟩
                  · rw [if_neg h2] at hbo
                    have HN : Hid (cmpZ (ks.drop (k + 1)) (ms.drop (k + 1)) = r) := hbo.symm
                    have h2I : (x : Int) ≤ (y : Int) := by omega
                    clear hbo h1 h2
                    go_wp2
                    go_quiet (fail)
                    go_wp2
                    go_quiet (fail)
                    go_wp2
                    go_roundg (ks.length - (k + 1))
                    case measure => omega
                    case rel => exact ⟨k + 1, by omega, by omega, by omega, by go_num, HQ, by first | exact below_drewN' HBR _ | exact below_drewN' (below_drewN' HBR _) _, HN⟩
              · have hltI' : (ms.length : Int) ≤ (k : Int) := by omega
                have h1 := cmpZ_left ks ms k hlt (by omega)
                rw [A.out] at h1
                have HR : Hid (r = 1) := h1
                have h2 : (ms.length : Int) ≤ (ks.length : Int) := by omega
                have h3 : (ms.length : Int) < (ks.length : Int) := by omega
                clear h1
                go_wp2
                go_ret
                exact ⟨ret_int HR.out.symm, HBR⟩
            · have hltI : (ks.length : Int) ≤ (k : Int) := by omega
              by_cases hlt' : k < ms.length
              · have h1 := cmpZ_right ks ms k (by omega) hlt'
                rw [A.out] at h1
                have HR : Hid (r = -1) := h1
                have h3 : (ks.length : Int) < (ms.length : Int) := by omega
                clear h1
                go_wp2
                go_ret
                exact ⟨ret_int HR.out.symm, HBR⟩
              · have h1 := cmpZ_none ks ms k (by omega) (by omega)
                rw [A.out] at h1
                have HR : Hid (r = 0) := h1
                have h3 : (ks.length : Int) ≤ (ms.length : Int) := by omega
                have h4 : (ms.length : Int) ≤ (ks.length : Int) := by omega
                clear h1
                go_wp2
                go_ret
                exact ⟨ret_int HR.out.symm, HBR⟩

end Go.Proofs.YtelmkfkgpnadnaaDoor
