/-
  The program's Format, as it is asked.
  The law's look at what was handed over.
  The law's one Format.
  The law's Formats.
-/
import Derived.Test.YtelmkfkgpnadnaaGreatDoorKCG
import Derived.Test.YtelmkfkgpnadnaaGreatDoorKCF
namespace Go.Proofs.YtelmkfkgpnadnaaGreatDoor
open Go.RowKit

theorem pFormat_any (p : ByteArray) (rv xv sv : Value) (R X : List Mo) (S : List So) (w : World) (hm : Dr.Ml w) (hR : R.length ≤ 16777216) (hX : X.length ≤ 16777216) (hS : S.length ≤ 16777216) (hr : Sm.Rd w rv R) (hx : Sm.Rd w xv X) (hs : Sw.Rd w sv S)
    (hlen : (fmtOf p (reqs R) (excs X) (reps S)).length ≤ 140737488355328) :
    Calls Tryz.prog 21 #[.agg #[.string p, rv, xv, sv]] w fun e w' => e = .returned (.string ⟨(fmtOf p (reqs R) (excs X) (reps S)).toArray⟩) ∧ Below w.heap.size w w' := by
  obtain ⟨ra, rn, rc, er⟩ := hr.shape
  obtain ⟨xa, xn, xc, ex⟩ := hx.shape
  obtain ⟨sa, sn, sc, es⟩ := hs.shape
  have hb0 := (Below.refl w.heap.size w).alloc (Nat.le_refl _) (.cells #[.string p, .slice ra rn rc, .slice xa xn xc, .slice sa sn sc] 26)
  have k1 := format_any p rv xv sv R X S (w.alloc (.cells #[.string p, .slice ra rn rc, .slice xa xn xc, .slice sa sn sc] 26)) (Sm.ml_below hm hb0) hR hX hS (hr.below hb0) (hx.below hb0) (hs.below hb0) hlen
  rw [er, ex, es] at k1
  have HB : Hid (Below w.heap.size w (w.alloc (.cells #[.string p, .slice ra rn rc, .slice xa xn xc, .slice sa sn sc] 26))) := hb0
  clear hr hx hs hm hlen hb0
  subst er; subst ex; subst es
  generalize fmtOf p (reqs R) (excs X) (reps S) = F at *
  go_enter Tryz.func21, Tryz.ntmps21
  go_wp2_with (go_at_call 51; fail)
  go_at_call 51
  refine k1.mono ?_
  rintro e w1 ⟨rfl, hb1⟩
  have hb : Below w.heap.size w w1 := HB.out.trans (hb1.mono HB.out.size)
  clear hb1 k1 HB
  go_wp2
  go_ret
  exact ⟨rfl, hb⟩

end Go.Proofs.YtelmkfkgpnadnaaGreatDoor

namespace Go.Proofs.YtelmkfkgpnadnaaGreatDoor
open Go.RowKit

set_option maxRecDepth 100000 in
set_option maxHeartbeats 2000000 in
theorem still_any (p : ByteArray) (rv xv sv : Value) (R X : List Mo) (S : List So) (g1 g2 g3 : Nat) (w : World) (hR : R.length ≤ 16777216) (hX : X.length ≤ 16777216) (hS : S.length ≤ 16777216) (hr : Sm.Rd w rv R) (hx : Sm.Rd w xv X) (hs : Sw.Rd w sv S)
    (hr' : Sm.Rd w (.slice (some ⟨g1, 0, none⟩) R.length (R.length + 1)) R) (hx' : Sm.Rd w (.slice (some ⟨g2, 0, none⟩) X.length (X.length + 1)) X) (hs' : Sw.Rd w (.slice (some ⟨g3, 0, none⟩) S.length (S.length + 1)) S)
    (e1 : w.cell? ⟨g1, R.length * 2, none⟩ = some (.string ⟨#[35]⟩)) (e2 : w.cell? ⟨g2, X.length * 2, none⟩ = some (.string ⟨#[35]⟩)) (e3 : w.cell? ⟨g3, S.length * 3, none⟩ = some (.string ⟨#[35]⟩)) :
    Calls Tryz.prog 47 #[.agg #[.string p, .slice (some ⟨g1, 0, none⟩) R.length (R.length + 1), .slice (some ⟨g2, 0, none⟩) X.length (X.length + 1), .slice (some ⟨g3, 0, none⟩) S.length (S.length + 1)], .agg #[.string p, rv, xv, sv]] w fun e w' => e = .returned (.bool true) ∧ Below w.heap.size w w' := by
  have K : Aside (∀ W, Below w.heap.size w W → Calls Tryz.prog 73 #[.agg #[.string p, .slice (some ⟨g1, 0, none⟩) R.length (R.length + 1), .slice (some ⟨g2, 0, none⟩) X.length (X.length + 1), .slice (some ⟨g3, 0, none⟩) S.length (S.length + 1)], .agg #[.string p, rv, xv, sv]] W fun e w' => e = .returned (.bool true) ∧ Below W.heap.size W w') := fun W hb => sameManifest_any p _ _ _ rv xv sv R X S W hR hX hS (hr'.below hb) (hx'.below hb) (hs'.below hb) (hr.below hb) (hx.below hb) (hs.below hb)
  obtain ⟨ra, rc, er⟩ := rd_len hr
  obtain ⟨xa, xc, ex⟩ := rd_len hx
  obtain ⟨sa, sc, es⟩ := rd_len_s hs
  clear hr hx hs hr' hx' hs'
  subst er; subst ex; subst es
  generalize R.length = nR at *
  generalize X.length = nX at *
  generalize S.length = nS at *
  have H0 : Hid (∀ W, Below w.heap.size w W → W.cell? ⟨g1, nR * 2, none⟩ = some (.string ⟨#[35]⟩) ∧ W.cell? ⟨g2, nX * 2, none⟩ = some (.string ⟨#[35]⟩) ∧ W.cell? ⟨g3, nS * 3, none⟩ = some (.string ⟨#[35]⟩)) := fun W hb => ⟨cell_below hb e1, cell_below hb e2, cell_below hb e3⟩
  clear e1 e2 e3
  obtain ⟨A, hA⟩ : ∃ A, A = Obj.cells #[.string p, .slice (some ⟨g1, 0, none⟩) nR (nR + 1), .slice (some ⟨g2, 0, none⟩) nX (nX + 1), .slice (some ⟨g3, 0, none⟩) nS (nS + 1)] 26 := ⟨_, rfl⟩
  have B0 : Hid (Below w.heap.size w ((w.alloc (.cells #[.string p, .slice (some ⟨g1, 0, none⟩) nR (nR + 1), .slice (some ⟨g2, 0, none⟩) nX (nX + 1), .slice (some ⟨g3, 0, none⟩) nS (nS + 1)] 26)).alloc (.cells #[.string p, .slice ra nR rc, .slice xa nX xc, .slice sa nS sc] 26))) := ((Below.refl _ _).alloc (Nat.le_refl _) _).alloc (by simp) _
  have V1 : Hid (ValsAt ((w.alloc (.cells #[.string p, .slice (some ⟨g1, 0, none⟩) nR (nR + 1), .slice (some ⟨g2, 0, none⟩) nX (nX + 1), .slice (some ⟨g3, 0, none⟩) nS (nS + 1)] 26)).alloc (.cells #[.string p, .slice ra nR rc, .slice xa nX xc, .slice sa nS sc] 26)) w.heap.size 4 (fun f => if f = 0 then .string p else if f = 1 then .slice (some ⟨g1, 0, none⟩) nR (nR + 1) else if f = 2 then .slice (some ⟨g2, 0, none⟩) nX (nX + 1) else .slice (some ⟨g3, 0, none⟩) nS (nS + 1))) := (vals4 w _ _ _ _ 26).of_block (heap_alloc_old _ _ (by simp))
  have V2 : Hid (ValsAt ((w.alloc (.cells #[.string p, .slice (some ⟨g1, 0, none⟩) nR (nR + 1), .slice (some ⟨g2, 0, none⟩) nX (nX + 1), .slice (some ⟨g3, 0, none⟩) nS (nS + 1)] 26)).alloc (.cells #[.string p, .slice ra nR rc, .slice xa nX xc, .slice sa nS sc] 26)) (w.heap.size + 1) 4 (fun f => if f = 0 then .string p else if f = 1 then .slice ra nR rc else if f = 2 then .slice xa nX xc else .slice sa nS sc)) := by
    show ValsAt _ _ _ _
    have := vals4 (w.alloc (.cells #[.string p, .slice (some ⟨g1, 0, none⟩) nR (nR + 1), .slice (some ⟨g2, 0, none⟩) nX (nX + 1), .slice (some ⟨g3, 0, none⟩) nS (nS + 1)] 26)) (.string p) (.slice ra nR rc) (.slice xa nX xc) (.slice sa nS sc) 26
    simpa using this
  have HZ : Hid (w.heap.size + 2 ≤ ((w.alloc (.cells #[.string p, .slice (some ⟨g1, 0, none⟩) nR (nR + 1), .slice (some ⟨g2, 0, none⟩) nX (nX + 1), .slice (some ⟨g3, 0, none⟩) nS (nS + 1)] 26)).alloc (.cells #[.string p, .slice ra nR rc, .slice xa nX xc, .slice sa nS sc] 26)).heap.size) := by show _ ≤ _; simp
  clear hA A
  go_enter Tryz.func47, Tryz.ntmps47
  go_wp2_with (go_at_call 73; fail)
  generalize (w.alloc (.cells #[.string p, .slice (some ⟨g1, 0, none⟩) nR (nR + 1), .slice (some ⟨g2, 0, none⟩) nX (nX + 1), .slice (some ⟨g3, 0, none⟩) nS (nS + 1)] 26)).alloc (.cells #[.string p, .slice ra nR rc, .slice xa nX xc, .slice sa nS sc] 26) = W0 at *
  go_at_call 73
  refine (K.out _ B0.out).mono ?_
  rintro e w1 ⟨rfl, hb1⟩
  have v := V1.out.of_block (hb1.block _ (by have := HZ.out; omega))
  have v' := V2.out.of_block (hb1.block _ (by have := HZ.out; omega))
  have a1 := v.at' 1 (by omega)
  have a2 := v.at' 2 (by omega)
  have a3 := v.at' 3 (by omega)
  have b1 := v'.at' 1 (by omega)
  have b2 := v'.at' 2 (by omega)
  have b3 := v'.at' 3 (by omega)
  have hb : Below w.heap.size w w1 := B0.out.trans (hb1.mono B0.out.size)
  have HF : Hid (Below w.heap.size w w1) := hb
  obtain ⟨x1, x2, x3⟩ := H0.out w1 hb
  clear v v' hb hb1 V1 V2 HZ K B0 H0
  have n1 : (nR : Int) + 1 ≤ (nR : Int) + 1 := by omega
  have n2 : (nX : Int) + 1 ≤ (nX : Int) + 1 := by omega
  have n3 : (nS : Int) + 1 ≤ (nS : Int) + 1 := by omega
  have m1 : (nR : Int) < (nR : Int) + 1 := by omega
  have m2 : (nX : Int) < (nX : Int) + 1 := by omega
  have m3 : (nS : Int) < (nS : Int) + 1 := by omega
  go_wp2
  go_ret
  exact ⟨rfl, HF.out⟩

end Go.Proofs.YtelmkfkgpnadnaaGreatDoor

namespace Go.Proofs.YtelmkfkgpnadnaaGreatDoor
open Go.RowKit

theorem rd_block {w : World} {g : Nat} {L : List Mo} {D : List Value} (h : w.heap[g]? = some (.cells (mcs L ++ D).toArray 29 (0, 0))) (c : Nat) : Sm.Rd w (.slice (some ⟨g, 0, none⟩) L.length c) L :=
  Or.inr ⟨g, 0, c, rfl, fun j u hj => by
    rw [Nat.zero_add, Lib.cell_of_heap h, List.getElem?_toArray, List.getElem?_append_left (List.getElem?_eq_some_iff.1 hj).1]; exact hj⟩
theorem rd_block_s {w : World} {g : Nat} {L : List So} {D : List Value} (h : w.heap[g]? = some (.cells (scs L ++ D).toArray 137 (0, 0))) (c : Nat) : Sw.Rd w (.slice (some ⟨g, 0, none⟩) L.length c) L :=
  Or.inr ⟨g, 0, c, rfl, fun j u hj => by
    rw [Nat.zero_add, Lib.cell_of_heap h, List.getElem?_toArray, List.getElem?_append_left (List.getElem?_eq_some_iff.1 hj).1]; exact hj⟩
theorem end_cell {w : World} {g k t : Nat} {L D : List Value} {x : Value} (h : w.heap[g]? = some (.cells (L ++ x :: D).toArray t (0, 0))) (hk : L.length = k) : w.cell? ⟨g, k, none⟩ = some x := by
  rw [Lib.cell_of_heap h, List.getElem?_toArray, List.getElem?_append_right (by omega), hk, Nat.sub_self]; rfl

set_option maxRecDepth 100000 in
set_option maxHeartbeats 2000000 in
theorem formatted_any (p : ByteArray) (rv xv sv : Value) (R X : List Mo) (S : List So) (w : World) (hm : Dr.Ml w) (hR : R.length ≤ 16777216) (hX : X.length ≤ 16777216) (hS : S.length ≤ 16777216) (hr : Sm.Rd w rv R) (hx : Sm.Rd w xv X) (hs : Sw.Rd w sv S)
    (hlen : (fmtOf p (reqs R) (excs X) (reps S)).length ≤ 140737488355328) :
    Calls Tryz.prog 12 #[.agg #[.string p, rv, xv, sv]] w fun e w' => e = .returned (.bool true) ∧ Below w.heap.size w w' := by
  obtain ⟨ra, rn, rc, er⟩ := hr.shape
  obtain ⟨xa, xn, xc, ex⟩ := hx.shape
  obtain ⟨sa, sn, sc, es⟩ := hs.shape
  subst er; subst ex; subst es
  have HM : Aside (∀ W, Below w.heap.size w W → Dr.Ml W ∧ Sm.Rd W (.slice ra rn rc) R ∧ Sm.Rd W (.slice xa xn xc) X ∧ Sw.Rd W (.slice sa sn sc) S) := fun W hb => ⟨Sm.ml_below hm hb, hr.below hb, hx.below hb, hs.below hb⟩
  have HL : Hid ((fmtOf p (reqs R) (excs X) (reps S)).length ≤ 140737488355328) := hlen
  have hb0 := (Below.refl w.heap.size w).alloc (Nat.le_refl _) (.cells #[.string p, .slice ra rn rc, .slice xa xn xc, .slice sa sn sc] 26)
  have HZ0 : Hid (w.heap.size < (w.alloc (.cells #[.string p, .slice ra rn rc, .slice xa xn xc, .slice sa sn sc] 26)).heap.size) := by show _ < _; simp
  have k1 := handed_any p (.slice ra rn rc) (.slice xa xn xc) (.slice sa sn sc) R X S (w.alloc (.cells #[.string p, .slice ra rn rc, .slice xa xn xc, .slice sa sn sc] 26)) hR hX hS (hr.below hb0) (hx.below hb0) (hs.below hb0)
  have V0 : Hid (ValsAt (w.alloc (.cells #[.string p, .slice ra rn rc, .slice xa xn xc, .slice sa sn sc] 26)) w.heap.size 4 (fun f => if f = 0 then .string p else if f = 1 then .slice ra rn rc else if f = 2 then .slice xa xn xc else .slice sa sn sc)) := vals4 w _ _ _ _ 26
  have HB0 : Hid (Below w.heap.size w (w.alloc (.cells #[.string p, .slice ra rn rc, .slice xa xn xc, .slice sa sn sc] 26))) := hb0
  clear hr hx hs hm hlen hb0
  go_enter Tryz.func12, Tryz.ntmps12
  go_wp2_with (go_at_call 46; fail)
  generalize w.alloc (.cells #[.string p, .slice ra rn rc, .slice xa xn xc, .slice sa sn sc] 26) = W0 at *
  go_at_call 46
  refine k1.mono ?_
  rintro e w1 ⟨g1, g2, g3, rfl, q1, q2, q3, b1⟩
  have B1 : Below w.heap.size w w1 := HB0.out.trans (b1.mono HB0.out.size)
  have hb2 := (Below.refl w1.heap.size w1).alloc (Nat.le_refl _) (.cells #[.string p, .slice (some ⟨g1, 0, none⟩) R.length (R.length + 1), .slice (some ⟨g2, 0, none⟩) X.length (X.length + 1), .slice (some ⟨g3, 0, none⟩) S.length (S.length + 1)] 26)
  have B2 : Below w.heap.size w (w1.alloc (.cells #[.string p, .slice (some ⟨g1, 0, none⟩) R.length (R.length + 1), .slice (some ⟨g2, 0, none⟩) X.length (X.length + 1), .slice (some ⟨g3, 0, none⟩) S.length (S.length + 1)] 26)) := B1.alloc B1.size _
  have V2 : Hid (ValsAt (w1.alloc (.cells #[.string p, .slice (some ⟨g1, 0, none⟩) R.length (R.length + 1), .slice (some ⟨g2, 0, none⟩) X.length (X.length + 1), .slice (some ⟨g3, 0, none⟩) S.length (S.length + 1)] 26)) w1.heap.size 4 (fun f => if f = 0 then .string p else if f = 1 then .slice (some ⟨g1, 0, none⟩) R.length (R.length + 1) else if f = 2 then .slice (some ⟨g2, 0, none⟩) X.length (X.length + 1) else .slice (some ⟨g3, 0, none⟩) S.length (S.length + 1))) := vals4 w1 _ _ _ _ 26
  have HZ2 : Hid (w1.heap.size < (w1.alloc (.cells #[.string p, .slice (some ⟨g1, 0, none⟩) R.length (R.length + 1), .slice (some ⟨g2, 0, none⟩) X.length (X.length + 1), .slice (some ⟨g3, 0, none⟩) S.length (S.length + 1)] 26)).heap.size) := by show _ < _; simp
  have V1 : Hid (ValsAt (w1.alloc (.cells #[.string p, .slice (some ⟨g1, 0, none⟩) R.length (R.length + 1), .slice (some ⟨g2, 0, none⟩) X.length (X.length + 1), .slice (some ⟨g3, 0, none⟩) S.length (S.length + 1)] 26)) w.heap.size 4 (fun f => if f = 0 then .string p else if f = 1 then .slice ra rn rc else if f = 2 then .slice xa xn xc else .slice sa sn sc)) := (V0.out.of_block (b1.block _ HZ0.out)).of_block (hb2.block _ (Nat.lt_of_lt_of_le HZ0.out b1.size))
  have HZ1 : Hid (w.heap.size < w1.heap.size) := Nat.lt_of_lt_of_le HZ0.out b1.size
  have RR : Aside (∀ W, Below w1.heap.size w1 W → Sm.Rd W (.slice (some ⟨g1, 0, none⟩) R.length (R.length + 1)) R ∧ Sm.Rd W (.slice (some ⟨g2, 0, none⟩) X.length (X.length + 1)) X ∧ Sw.Rd W (.slice (some ⟨g3, 0, none⟩) S.length (S.length + 1)) S ∧ W.cell? ⟨g1, R.length * 2, none⟩ = some (.string ⟨#[35]⟩) ∧ W.cell? ⟨g2, X.length * 2, none⟩ = some (.string ⟨#[35]⟩) ∧ W.cell? ⟨g3, S.length * 3, none⟩ = some (.string ⟨#[35]⟩)) := fun W hb => ⟨(rd_block q1 _).below hb, (rd_block q2 _).below hb, (rd_block_s q3 _).below hb, cell_below hb (end_cell q1 (Sm.mc_len R)), cell_below hb (end_cell q2 (Sm.mc_len X)), cell_below hb (end_cell q3 (Sw.mc_len S))⟩
  have HB2 : Hid _ := B2
  have HC2 : Hid _ := hb2
  clear k1 q1 q2 q3 b1 B1 B2 hb2 V0 HZ0 HB0
  go_wp2_with (go_at_call 21; fail)
  generalize w1.alloc (.cells #[.string p, .slice (some ⟨g1, 0, none⟩) R.length (R.length + 1), .slice (some ⟨g2, 0, none⟩) X.length (X.length + 1), .slice (some ⟨g3, 0, none⟩) S.length (S.length + 1)] 26) = W2 at *
  go_at_call 21
  refine (pFormat_any p _ _ _ R X S W2 (HM.out W2 HB2.out).1 hR hX hS (RR.out W2 HC2.out).1 (RR.out W2 HC2.out).2.1 (RR.out W2 HC2.out).2.2.1 HL.out).mono ?_
  rintro e w3 ⟨rfl, b3⟩
  have B3 : Hid (Below w.heap.size w w3) := HB2.out.trans (b3.mono HB2.out.size)
  have C3 : Hid (Below w1.heap.size w1 w3) := HC2.out.trans (b3.mono HC2.out.size)
  have U1 : Hid _ := V1.out.of_block (b3.block _ (Nat.lt_trans HZ1.out HZ2.out))
  have U2 : Hid _ := V2.out.of_block (b3.block _ HZ2.out)
  have HZ3 : Hid (w1.heap.size < w3.heap.size) := Nat.lt_of_lt_of_le HZ2.out b3.size
  clear b3 V1 V2 HB2 HC2 HZ2
  have x0 := U1.out.at' 0 (by omega)
  have x1 := U1.out.at' 1 (by omega)
  have x2 := U1.out.at' 2 (by omega)
  have x3 := U1.out.at' 3 (by omega)
  have y0 := U2.out.at' 0 (by omega)
  have y1 := U2.out.at' 1 (by omega)
  have y2 := U2.out.at' 2 (by omega)
  have y3 := U2.out.at' 3 (by omega)
  have k3 := still_any p (.slice ra rn rc) (.slice xa xn xc) (.slice sa sn sc) R X S g1 g2 g3 w3 hR hX hS (HM.out w3 B3.out).2.1 (HM.out w3 B3.out).2.2.1 (HM.out w3 B3.out).2.2.2 (RR.out w3 C3.out).1 (RR.out w3 C3.out).2.1 (RR.out w3 C3.out).2.2.1 (RR.out w3 C3.out).2.2.2.1 (RR.out w3 C3.out).2.2.2.2.1 (RR.out w3 C3.out).2.2.2.2.2
  go_wp2_with (go_at_call 47; fail)
  go_at_call 47
  refine k3.mono ?_
  rintro e w4 ⟨rfl, b4⟩
  have B4 : Hid (Below w.heap.size w w4) := B3.out.trans (b4.mono B3.out.size)
  have v := U1.out.of_block (b4.block _ (Nat.lt_trans HZ1.out HZ3.out))
  have k4 := refFormat_any p (.slice ra rn rc) (.slice xa xn xc) (.slice sa sn sc) R X S w4 hR hX hS (HM.out w4 B4.out).2.1 (HM.out w4 B4.out).2.2.1 (HM.out w4 B4.out).2.2.2 HL.out
  clear k3 b4 x0 x1 x2 x3 y0 y1 y2 y3 U2 RR HM
  have x0 := v.at' 0 (by omega)
  have x1 := v.at' 1 (by omega)
  have x2 := v.at' 2 (by omega)
  have x3 := v.at' 3 (by omega)
  clear v U1 HL
  generalize fmtOf p (reqs R) (excs X) (reps S) = F at *
  go_wp2_with (go_at_call 48; fail)
  go_at_call 48
  refine k4.mono ?_
  rintro e w5 ⟨rfl, b5⟩
  have HF : Hid (Below w.heap.size w w5) := B4.out.trans (b5.mono B4.out.size)
  have qq : (((⟨F.toArray⟩ : ByteArray).toList) == ((⟨F.toArray⟩ : ByteArray).toList)) = true := by simp
  clear k4 b5 x0 x1 x2 x3
  go_wp2
  go_ret
  exact ⟨rfl, HF.out⟩

end Go.Proofs.YtelmkfkgpnadnaaGreatDoor

namespace Go.Proofs.YtelmkfkgpnadnaaGreatDoor
open Go.RowKit

def bA : ByteArray := ⟨#[97]⟩
def bB : ByteArray := ⟨#[98]⟩
def bC : ByteArray := ⟨#[99]⟩
def bV1 : ByteArray := ⟨#[118, 49, 46, 48, 46, 48]⟩
def oneR : List Mo := [(bC, bV1), (bB, bV1)]

theorem flat_perm_len {α : Type} (f : α → List UInt8) {A B : List α} (h : A.Perm B) : (A.flatMap f).length = (B.flatMap f).length := by
  induction h with
  | nil => rfl
  | cons x _ ih => simp only [List.flatMap_cons, List.length_append, ih]
  | swap x y l => simp only [List.flatMap_cons, List.length_append]; omega
  | trans _ _ h1 h2 => rw [h1, h2]

theorem fmt_len (p : ByteArray) (R X : List Mo) (S : List So) : (fmtOf p (reqs R) (excs X) (reps S)).length = 8 + p.size + (R.flatMap reqLine).length + (X.flatMap excLine).length + (S.flatMap repLine).length := by
  unfold fmtOf
  simp only [List.length_append]
  rw [len_mod, flat_perm_len reqLine (Ss.insAll_perm R), flat_perm_len excLine (Ss.insAll_perm X), flat_perm_len repLine (Ss.insAll_perm S)]

theorem one_len : (fmtOf bA (reqs oneR) (excs []) (reps [])).length ≤ 140737488355328 := by
  rw [fmt_len]
  show 8 + 1 + ([(bC, bV1), (bB, bV1)].flatMap reqLine).length + 0 + 0 ≤ _
  simp only [List.flatMap_cons, List.flatMap_nil, List.length_append, len_req]
  show 8 + 1 + (10 + 1 + 6 + (10 + 1 + 6 + 0)) + 0 + 0 ≤ _
  omega

set_option maxHeartbeats 1000000 in
theorem formats_any (p : ByteArray) (rv xv sv : Value) (R X : List Mo) (S : List So) (w : World) (hm : Dr.Ml w) (hR : R.length ≤ 16777216) (hX : X.length ≤ 16777216) (hS : S.length ≤ 16777216) (hr : Sm.Rd w rv R) (hx : Sm.Rd w xv X) (hs : Sw.Rd w sv S)
    (hlen : (fmtOf p (reqs R) (excs X) (reps S)).length ≤ 140737488355328) :
    Calls Tryz.prog 4 #[.agg #[.string p, rv, xv, sv]] w fun e w' => e = .returned (.bool true) ∧ Below w.heap.size w w' := by
  obtain ⟨ra, rn, rc, er⟩ := hr.shape
  obtain ⟨xa, xn, xc, ex⟩ := hx.shape
  obtain ⟨sa, sn, sc, es⟩ := hs.shape
  subst er; subst ex; subst es
  have KM : Aside (∀ W, Below w.heap.size w W → Calls Tryz.prog 12 #[.agg #[.string p, .slice ra rn rc, .slice xa xn xc, .slice sa sn sc]] W fun e w' => e = .returned (.bool true) ∧ Below W.heap.size W w') := fun W hb => formatted_any p _ _ _ R X S W (Sm.ml_below hm hb) hR hX hS (hr.below hb) (hx.below hb) (hs.below hb) hlen
  have K1 : Aside (∀ W g, Below w.heap.size w W → Sm.Rd W (.slice (some ⟨g, 0, none⟩) 2 2) oneR → Calls Tryz.prog 12 #[.agg #[.string bA, .slice (some ⟨g, 0, none⟩) 2 2, .slice none 0 0, .slice none 0 0]] W fun e w' => e = .returned (.bool true) ∧ Below W.heap.size W w') := fun W g hb h => formatted_any bA _ _ _ oneR [] [] W (Sm.ml_below hm hb) (by decide) (by decide) (by decide) h (Or.inl ⟨rfl, rfl⟩) (Or.inl ⟨rfl, rfl⟩) one_len
  clear hr hx hs hm hlen
  have B0 : Hid (∀ o, Below w.heap.size w ((w.alloc (.cells #[.string p, .slice ra rn rc, .slice xa xn xc, .slice sa sn sc] 26)).alloc o)) := fun o => ((Below.refl _ _).alloc (Nat.le_refl _) _).alloc (by simp) _
  have V0 : Hid (∀ o, ValsAt ((w.alloc (.cells #[.string p, .slice ra rn rc, .slice xa xn xc, .slice sa sn sc] 26)).alloc o) w.heap.size 4 (fun f => if f = 0 then .string p else if f = 1 then .slice ra rn rc else if f = 2 then .slice xa xn xc else .slice sa sn sc)) := fun o => (vals4 w _ _ _ _ 26).of_block (heap_alloc_old _ _ (by simp))
  have HZ : Hid (∀ o, w.heap.size < ((w.alloc (.cells #[.string p, .slice ra rn rc, .slice xa xn xc, .slice sa sn sc] 26)).alloc o).heap.size) := fun o => by simp; omega
  have R0 : Hid (Sm.Rd ((w.alloc (.cells #[.string p, .slice ra rn rc, .slice xa xn xc, .slice sa sn sc] 26)).alloc (.cells #[.string bC, .string bV1, .string bB, .string bV1] 29)) (.slice (some ⟨w.heap.size + 1, 0, none⟩) 2 2) oneR) := by
    have h := heap_alloc2_new w (.cells #[.string p, .slice ra rn rc, .slice xa xn xc, .slice sa sn sc] 26) (.cells #[.string bC, .string bV1, .string bB, .string bV1] 29)
    exact rd_block (L := oneR) (D := []) h 2
  go_enter Tryz.func4, Tryz.ntmps4
  go_wp2_with (go_at_call 12; fail)
  go_at_call 12
  refine Calls.mono (K1.out _ (w.heap.size + 1) (B0.out _) R0.out) ?_
  rintro e w1 ⟨rfl, b1⟩
  have v := (V0.out _).of_block (b1.block _ (HZ.out _))
  have B1 : Hid (Below w.heap.size w w1) := (B0.out _).trans (b1.mono (B0.out _).size)
  have x0 := v.at' 0 (by omega)
  have x1 := v.at' 1 (by omega)
  have x2 := v.at' 2 (by omega)
  have x3 := v.at' 3 (by omega)
  have k2 := KM.out w1 B1.out
  clear v b1 V0 HZ R0 K1 KM B0
  go_wp2_with (go_at_call 12; fail)
  go_at_call 12
  refine k2.mono ?_
  rintro e w2 ⟨rfl, b2⟩
  have HF : Hid (Below w.heap.size w w2) := B1.out.trans (b2.mono B1.out.size)
  clear k2 b2 x0 x1 x2 x3 B1
  go_wp2
  go_ret
  exact ⟨rfl, HF.out⟩

end Go.Proofs.YtelmkfkgpnadnaaGreatDoor
