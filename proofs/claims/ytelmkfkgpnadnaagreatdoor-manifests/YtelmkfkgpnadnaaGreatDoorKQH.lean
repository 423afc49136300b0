/-
  The document's answer, of a manifest: does a line say what an earlier one says?
  The document's answer, of a manifest: does a line say what an earlier one says? (The walk.)
  The document's answer, of a manifest: the slip of a line's words, whatever they are; the lines' words are no longer than the text.
-/
import Derived.Test.YtelmkfkgpnadnaaGreatDoorKQC
import Derived.Test.YtelmkfkgpnadnaaGreatDoorKSA
import Derived.Test.YtelmkfkgpnadnaaGreatDoorKQF
import Derived.Test.YtelmkfkgpnadnaaGreatDoorKRA
namespace Go.Proofs.YtelmkfkgpnadnaaGreatDoor
open Go.RowKit
namespace Mf

variable {w w' : World}

/-- How a line's claim is like another's. -/
theorem cl_ne0 {l g : Wl} (h : wd g 0 ≠ wd l 0) : decide (clOf g = clOf l) = false := by
  rw [decide_eq_false_iff_not]
  intro e
  exact h (congrArg Prod.fst e)
theorem cl_ne1 {l g : Wl} (h : wd g 1 ≠ wd l 1) : decide (clOf g = clOf l) = false := by
  rw [decide_eq_false_iff_not]
  intro e
  exact h (congrArg (fun c => c.2.1) e)
theorem cl_eq2 {l g : Wl} (h0 : wd g 0 = wd l 0) (h1 : wd g 1 = wd l 1) (h2 : wd l 0 = bReq ∨ wd g 2 = wd l 2) : decide (clOf g = clOf l) = true := by
  rw [decide_eq_true_iff]
  show (wd g 0, wd g 1, if wd g 0 = bReq then (⟨#[]⟩ : ByteArray) else wd g 2) = (wd l 0, wd l 1, if wd l 0 = bReq then (⟨#[]⟩ : ByteArray) else wd l 2)
  rw [h0, h1]
  rcases h2 with h2 | h2
  · rw [if_pos h2, if_pos h2]
  · rw [h2]
theorem cl_ne2 {l g : Wl} (h0 : wd l 0 ≠ bReq) (h1 : wd g 0 = wd l 0) (h2 : wd g 2 ≠ wd l 2) : decide (clOf g = clOf l) = false := by
  rw [decide_eq_false_iff_not]
  intro e
  have e2 : (if wd g 0 = bReq then (⟨#[]⟩ : ByteArray) else wd g 2) = (if wd l 0 = bReq then (⟨#[]⟩ : ByteArray) else wd l 2) := congrArg (fun c => c.2.2) e
  rw [h1, if_neg h0, if_neg h0] at e2
  exact h2 e2

theorem beq_ba (x y : ByteArray) : (x.toList == y.toList) = decide (x = y) := by
  rw [Bool.eq_iff_iff, beq_iff_eq, decide_eq_true_iff, Lib.toList_data, Lib.toList_data]
  exact (ba_eq x y).symm

/-- The lengths of a line with the words that it wants. -/
theorem ok_len {l : Wl} {ks : List Nat} (h : Ok l ks) : (wd l 0 = bMod ∧ l.length = 2) ∨ (wd l 0 = bReq ∧ l.length = 3) ∨ (wd l 0 = bExc ∧ l.length = 3) ∨ (wd l 0 = bRep ∧ l.length = 5) := by
  have hl := h.len
  rcases shape_cases h.sh with ⟨e, hk⟩ | ⟨e, hk⟩ | ⟨e, hk⟩
  · rw [hk] at hl
    exact Or.inl ⟨(ba_eq _ _).2 e, hl⟩
  · rw [hk] at hl
    rcases e with e | e
    · exact Or.inr (Or.inl ⟨(ba_eq _ _).2 e, hl⟩)
    · exact Or.inr (Or.inr (Or.inl ⟨(ba_eq _ _).2 e, hl⟩))
  · rw [hk] at hl
    exact Or.inr (Or.inr (Or.inr ⟨(ba_eq _ _).2 e, hl⟩))

end Mf
end Go.Proofs.YtelmkfkgpnadnaaGreatDoor

namespace Go.Proofs.YtelmkfkgpnadnaaGreatDoor
open Go.RowKit
namespace Mf

variable {w w' : World}

set_option maxRecDepth 100000 in
set_option maxHeartbeats 8000000 in
theorem again_any (ob cap n gw ga cw ca : Nat) (en : Int) (l : Wl) (ks : List Nat) (hok : Ok l ks) (good : List OLn) (xs : List Value) (B : Nat → Prop) (w : World) (hg : good.length ≤ 2001)
    (ho : w.ownsRow 0 210 4 (.slice (some ⟨ob, 0, none⟩) good.length cap) good.length xs) (hl : AllLines w B good xs) (h2 : ∀ g ∈ good, ∃ ks, Ok g.2 ks)
    (hv : ValsAt w gw l.length (fun j => .string (l.getD j pad).2)) :
    Calls Tryz.prog 163 #[.agg #[.int .i64 n, .slice (some ⟨gw, 0, none⟩) l.length cw, .slice (some ⟨ga, 0, none⟩) l.length ca, .int .i64 en], .slice (some ⟨ob, 0, none⟩) good.length cap] w fun e w' => e = .returned (.bool (dupM good l)) ∧ Below w.heap.size w w' := by
  have HL : Hid (∀ j, ∀ hj : j < good.length, ∃ gj cj ga' ca', w.cell? ⟨ob, j * 4, none⟩ = some (.int .i64 good[j].1) ∧ w.cell? ⟨ob, j * 4 + 1, none⟩ = some (.slice (some ⟨gj, 0, none⟩) good[j].2.length cj) ∧ w.cell? ⟨ob, j * 4 + 2, none⟩ = some (.slice (some ⟨ga', 0, none⟩) good[j].2.length ca') ∧ w.cell? ⟨ob, j * 4 + 3, none⟩ = some (.int .i64 (Tx.fin (wtoks good[j].2))) ∧ ValsAt w gj good[j].2.length (fun i => .string (good[j].2.getD i pad).2) ∧ gj < w.heap.size ∧ ∃ ks, Ok good[j].2 ks) := fun j hj => by
    obtain ⟨gj, cj, ga', ca', a0, a1, a2, a3, _, hv, hlt⟩ := lineCells hl ho j hj
    exact ⟨gj, cj, ga', ca', a0, a1, a2, a3, hv, hlt, h2 good[j] (List.getElem_mem hj)⟩
  have hobl := (ho.lt ob rfl).2
  have hm2 : 2 ≤ l.length ∧ l.length ≤ 5 := by rcases ok_len hok with ⟨_, e⟩ | ⟨_, e⟩ | ⟨_, e⟩ | ⟨_, e⟩ <;> omega
  have HW : Hid (ValsAt w gw l.length (fun j => .string (l.getD j pad).2)) := hv
  have HOK : Hid (∃ ks, Ok l ks) := ⟨ks, hok⟩
  have HLL : Hid ((wd l 0 = bMod ∧ l.length = 2) ∨ (wd l 0 = bReq ∧ l.length = 3) ∨ (wd l 0 = bExc ∧ l.length = 3) ∨ (wd l 0 = bRep ∧ l.length = 5)) := ok_len hok
  have H4 : Hid (Wd4 (wd l 0)) := ok_wd4 hok
  have hgwl : gw < w.heap.size := World.block_lt_of_cell? w ⟨gw, 0, none⟩ (hv.at' 0 (by omega))
  obtain ⟨R, hR⟩ : ∃ R, dupM good l = R := ⟨_, rfl⟩
  have HR : Hid ((good.drop 0).any (fun g => decide (clOf g.2 = clOf l)) = R) := hR
  rw [hR]
  clear ho hl h2 hv hR hok
  generalize hml : l.length = m at *
  go_enter Tryz.func163, Tryz.ntmps163
  go_wp2
  have hl1 : (w.alloc (.cells #[.int .i64 n, .slice (some ⟨gw, 0, none⟩) m cw, .slice (some ⟨ga, 0, none⟩) m ca, .int .i64 en] 210)).cell? ⟨w.heap.size, 1, none⟩ = some (.slice (some ⟨gw, 0, none⟩) m cw) := by
    have b0 := block_new w (.cells #[.int .i64 n, .slice (some ⟨gw, 0, none⟩) m cw, .slice (some ⟨ga, 0, none⟩) m ca, .int .i64 en] 210)
    simp only [World.cell?, b0]; rfl
  have hb0 : Below w.heap.size w (w.alloc (.cells #[.int .i64 n, .slice (some ⟨gw, 0, none⟩) m cw, .slice (some ⟨ga, 0, none⟩) m ca, .int .i64 en] 210)) := (Below.refl _ _).alloc (Nat.le_refl _) _
  generalize w.alloc (.cells #[.int .i64 n, .slice (some ⟨gw, 0, none⟩) m cw, .slice (some ⟨ga, 0, none⟩) m ca, .int .i64 en] 210) = W0 at *
  have HS : Hid (W0.cell? ⟨w.heap.size, 1, none⟩ = some (.slice (some ⟨gw, 0, none⟩) m cw) ∧ Below w.heap.size w W0) := ⟨hl1, hb0⟩
  clear hl1 hb0
  go_loopg [5] good.length (fun gg s wr => ∃ j : Nat, j ≤ good.length ∧ good.length - j ≤ gg ∧ s = .int .i64 j ∧ Hid (wr.cell? ⟨w.heap.size, 1, none⟩ = some (.slice (some ⟨gw, 0, none⟩) m cw) ∧ Below w.heap.size w wr) ∧ Hid (((good.drop j).any fun g => decide (clOf g.2 = clOf l)) = R))
  case atStart => exact ⟨0, by omega, by omega, rfl, HS, HR⟩
  case round =>
    clear HS HR
    obtain ⟨j, hj, hgj, rfl, HS, HR⟩ := hrel
    by_cases hlt : j < good.length
    · obtain ⟨gj, cj, ga', ca', a0, a1, a2, a3, a4, hgjl, hokg⟩ := HL.out j hlt
      have hbw := HS.out.2
      have d0 : wr.cell? ⟨ob, j * 4, none⟩ = _ := (hbw.cell (p := ⟨ob, j * 4, none⟩) hobl).trans a0
      have d1 : wr.cell? ⟨ob, j * 4 + 1, none⟩ = _ := (hbw.cell (p := ⟨ob, j * 4 + 1, none⟩) hobl).trans a1
      have d2 : wr.cell? ⟨ob, j * 4 + 2, none⟩ = _ := (hbw.cell (p := ⟨ob, j * 4 + 2, none⟩) hobl).trans a2
      have d3 : wr.cell? ⟨ob, j * 4 + 3, none⟩ = _ := (hbw.cell (p := ⟨ob, j * 4 + 3, none⟩) hobl).trans a3
      have hltI : (j : Int) < (good.length : Int) := by omega
      have HRj : Hid ((decide (clOf good[j].2 = clOf l) || ((good.drop (j + 1)).any fun g => decide (clOf g.2 = clOf l))) = R) := by
        have := HR.out
        rw [List.drop_eq_getElem_cons hlt, List.any_cons] at this
        exact this
      clear HR
      generalize (Tx.fin (wtoks good[j].2) : Nat) = fi at *
      generalize (good[j].1 : Nat) = nj at *
      generalize good[j].2 = g at *
      have HLG : Hid ((wd g 0 = bMod ∧ g.length = 2) ∨ (wd g 0 = bReq ∧ g.length = 3) ∨ (wd g 0 = bExc ∧ g.length = 3) ∨ (wd g 0 = bRep ∧ g.length = 5)) := by obtain ⟨ks, hk⟩ := hokg; exact ok_len hk
      have hg2 : 2 ≤ g.length ∧ g.length ≤ 5 := by rcases HLG.out with ⟨_, e⟩ | ⟨_, e⟩ | ⟨_, e⟩ | ⟨_, e⟩ <;> omega
      have HG : Hid (ValsAt w gj g.length (fun i => .string (g.getD i pad).2)) := a4
      clear hokg a4
      generalize hgl : g.length = gm at *
      go_upto_region 5 with fail
      have hws := HS.out.2.size
      have q1 : (wr.alloc (.cells #[.int .i64 nj, .slice (some ⟨gj, 0, none⟩) gm cj, .slice (some ⟨ga', 0, none⟩) gm ca', .int .i64 fi] 210)).cell? ⟨wr.heap.size, 1, none⟩ = some (.slice (some ⟨gj, 0, none⟩) gm cj) := by
        have b0 := block_new wr (.cells #[.int .i64 nj, .slice (some ⟨gj, 0, none⟩) gm cj, .slice (some ⟨ga', 0, none⟩) gm ca', .int .i64 fi] 210)
        simp only [World.cell?, b0]; rfl
      have hbn : Below wr.heap.size wr (wr.alloc (.cells #[.int .i64 nj, .slice (some ⟨gj, 0, none⟩) gm cj, .slice (some ⟨ga', 0, none⟩) gm ca', .int .i64 fi] 210)) := (Below.refl _ _).alloc (Nat.le_refl _) _
      have hll := World.block_lt_of_cell? wr _ HS.out.1
      generalize wr.alloc (.cells #[.int .i64 nj, .slice (some ⟨gj, 0, none⟩) gm cj, .slice (some ⟨ga', 0, none⟩) gm ca', .int .i64 fi] 210) = W1 at *
      have HS1 : Hid (W1.cell? ⟨w.heap.size, 1, none⟩ = some (.slice (some ⟨gw, 0, none⟩) m cw) ∧ Below w.heap.size w W1) := ⟨(hbn.cell (p := ⟨w.heap.size, 1, none⟩) hll).trans HS.out.1, hbw.trans (hbn.mono hws)⟩
      have HV : Hid (∀ i, i < m → W1.cell? ⟨gw, i, none⟩ = some (.string (wd l i))) := fun i hi => (HS1.out.2.cell (p := ⟨gw, i, none⟩) hgwl).trans (HW.out.at' i hi)
      have HVg : Hid (∀ i, i < gm → W1.cell? ⟨gj, i, none⟩ = some (.string (wd g i))) := fun i hi => (HS1.out.2.cell (p := ⟨gj, i, none⟩) hgjl).trans (HG.out.at' i hi)
      have p1 := HS1.out.1
      have p2 : W1.cell? ⟨gw, 0, none⟩ = _ := HV.out 0 (by omega)
      have p3 : W1.cell? ⟨gw, 1, none⟩ = _ := HV.out 1 (by omega)
      have p4 : W1.cell? ⟨gj, 0, none⟩ = _ := HVg.out 0 (by omega)
      have p5 : W1.cell? ⟨gj, 1, none⟩ = _ := HVg.out 1 (by omega)
      have hmI : (1 : Int) < (m : Int) := by omega
      have hgI : (1 : Int) < (gm : Int) := by omega
      clear a0 a1 a2 a3 d0 d1 d2 d3 hbw hbn HS hws hll hgjl
      have e0 := beq_ba (wd g 0) (wd l 0)
      have e1 := beq_ba (wd g 1) (wd l 1)
      by_cases h0 : wd g 0 = wd l 0
      · by_cases h1 : wd g 1 = wd l 1
        · rw [decide_eq_true h0] at e0
          rw [decide_eq_true h1] at e1
          have HE : Hid (wd g 0 = wd l 0 ∧ wd g 1 = wd l 1) := ⟨h0, h1⟩
          have HLE : Hid (wd l 0 = bExc ∨ wd l 0 = bRep → 2 < m ∧ 2 < gm) := by
            rintro (h | h)
            · refine ⟨?_, ?_⟩
              · rcases HLL.out with ⟨e, _⟩ | ⟨e, _⟩ | ⟨_, e⟩ | ⟨_, e⟩
                · rw [h] at e; exact absurd e (by decide)
                · rw [h] at e; exact absurd e (by decide)
                · omega
                · omega
              · rw [← h0] at h
                rcases HLG.out with ⟨e, _⟩ | ⟨e, _⟩ | ⟨_, e⟩ | ⟨_, e⟩
                · rw [h] at e; exact absurd e (by decide)
                · rw [h] at e; exact absurd e (by decide)
                · omega
                · omega
            · refine ⟨?_, ?_⟩
              · rcases HLL.out with ⟨e, _⟩ | ⟨e, _⟩ | ⟨_, e⟩ | ⟨_, e⟩
                · rw [h] at e; exact absurd e (by decide)
                · rw [h] at e; exact absurd e (by decide)
                · omega
                · omega
              · rw [← h0] at h
                rcases HLG.out with ⟨e, _⟩ | ⟨e, _⟩ | ⟨_, e⟩ | ⟨_, e⟩
                · rw [h] at e; exact absurd e (by decide)
                · rw [h] at e; exact absurd e (by decide)
                · omega
                · omega
          have HM2 : Hid (wd l 0 = bMod → wd g 2 = wd l 2) := fun h => by
            have e1 : m = 2 := by
              rcases HLL.out with ⟨_, e⟩ | ⟨e, _⟩ | ⟨e, _⟩ | ⟨e, _⟩
              · exact e
              · rw [h] at e; exact absurd e (by decide)
              · rw [h] at e; exact absurd e (by decide)
              · rw [h] at e; exact absurd e (by decide)
            have e2 : gm = 2 := by
              rw [← h0] at h
              rcases HLG.out with ⟨_, e⟩ | ⟨e, _⟩ | ⟨e, _⟩ | ⟨e, _⟩
              · exact e
              · rw [h] at e; exact absurd e (by decide)
              · rw [h] at e; exact absurd e (by decide)
              · rw [h] at e; exact absurd e (by decide)
            rw [wd_out (by omega), wd_out (by omega)]
          clear h0 h1
          generalize hy0 : wd g 0 = y0 at *
          generalize hy1 : wd g 1 = y1 at *
          generalize hx0 : wd l 0 = x0 at *
          generalize hx1 : wd l 1 = x1 at *
          go_quiet (fail)
          generalize hW : W1.drewN _ = W2
          have HS2 : Hid (W2.cell? ⟨w.heap.size, 1, none⟩ = some (.slice (some ⟨gw, 0, none⟩) m cw) ∧ Below w.heap.size w W2) := by rw [← hW]; exact ⟨HS1.out.1, HS1.out.2.os, HS1.out.2.tape, HS1.out.2.output, HS1.out.2.size, HS1.out.2.block⟩
          have r1 : W2.cell? ⟨w.heap.size, 1, none⟩ = some (.slice (some ⟨gw, 0, none⟩) m cw) := HS2.out.1
          have r2 : W2.cell? ⟨gw, 0, none⟩ = some (.string x0) := by rw [← hW]; exact p2
          have r3 : W2.cell? ⟨wr.heap.size, 1, none⟩ = some (.slice (some ⟨gj, 0, none⟩) gm cj) := by rw [← hW]; exact q1
          have HV2 : Hid ((2 < m → W2.cell? ⟨gw, 2, none⟩ = some (.string (wd l 2))) ∧ (2 < gm → W2.cell? ⟨gj, 2, none⟩ = some (.string (wd g 2)))) := by
            rw [← hW]
            exact ⟨fun h => HV.out 2 h, fun h => HVg.out 2 h⟩
          clear hW p1 p2 p3 p4 p5 q1 HV HVg HS1 e0 e1
          go_upto_region 6 with fail
          rcases H4.out with h4 | h4 | h4 | h4
          · have f1 : (x0.toList == [118, 101, 114, 115, 105, 111, 110]) = false := by rw [h4, Lib.toList_data]; rfl
            have f2 : (x0.toList == [114, 101, 113, 117, 105, 114, 101]) = false := by rw [h4, Lib.toList_data]; rfl
            have f3 : (x0.toList == [109, 111, 100, 117, 108, 101]) = true := by rw [h4, Lib.toList_data]; rfl
            have hRt : R = true := by
              have := HRj.out
              rw [cl_eq2 (by rw [hy0, hx0]; exact HE.out.1) (by rw [hy1, hx1]; exact HE.out.2) (Or.inr (HM2.out h4)), Bool.true_or] at this
              exact this.symm
            subst hRt
            clear h4 HRj
            go_quiet (fail)
            generalize hW : W2.drewN _ = W3
            have hb3 : Below w.heap.size w W3 := by have hb2 := HS2.out.2; rw [← hW]; exact ⟨hb2.os, hb2.tape, hb2.output, hb2.size, hb2.block⟩
            clear hW
            go_wp2
            go_ret
            exact ⟨rfl, hb3⟩
          · have f1 : (x0.toList == [118, 101, 114, 115, 105, 111, 110]) = false := by rw [h4, Lib.toList_data]; rfl
            have f2 : (x0.toList == [114, 101, 113, 117, 105, 114, 101]) = true := by rw [h4, Lib.toList_data]; rfl
            have hRt : R = true := by
              have := HRj.out
              rw [cl_eq2 (by rw [hy0, hx0]; exact HE.out.1) (by rw [hy1, hx1]; exact HE.out.2) (Or.inl (hx0.trans h4)), Bool.true_or] at this
              exact this.symm
            subst hRt
            clear h4 HRj
            go_quiet (fail)
            generalize hW : W2.drewN _ = W3
            have hb3 : Below w.heap.size w W3 := by have hb2 := HS2.out.2; rw [← hW]; exact ⟨hb2.os, hb2.tape, hb2.output, hb2.size, hb2.block⟩
            clear hW
            go_wp2
            go_ret
            exact ⟨rfl, hb3⟩
          all_goals
            have f1 : (x0.toList == [118, 101, 114, 115, 105, 111, 110]) = false := by rw [h4, Lib.toList_data]; rfl
            have f2 : (x0.toList == [114, 101, 113, 117, 105, 114, 101]) = false := by rw [h4, Lib.toList_data]; rfl
            have f3 : (x0.toList == [109, 111, 100, 117, 108, 101]) = false := by rw [h4, Lib.toList_data]; rfl
            have h23 := HLE.out (by first | exact Or.inl h4 | exact Or.inr h4)
            have hmI2 : (2 : Int) < (m : Int) := by omega
            have hgI2 : (2 : Int) < (gm : Int) := by omega
            have r4 := HV2.out.1 h23.1
            have r5 := HV2.out.2 h23.2
            have e2 := beq_ba (wd g 2) (wd l 2)
            have hnR : wd l 0 ≠ bReq := by rw [hx0, h4]; decide
            by_cases h2 : wd g 2 = wd l 2
            · have hRt : R = true := by
                have := HRj.out
                rw [cl_eq2 (by rw [hy0, hx0]; exact HE.out.1) (by rw [hy1, hx1]; exact HE.out.2) (Or.inr h2), Bool.true_or] at this
                exact this.symm
              rw [decide_eq_true h2] at e2
              subst hRt
              clear h4 HRj h2 hnR
              generalize wd g 2 = y2 at *
              generalize wd l 2 = x2 at *
              go_quiet (fail)
              generalize hW : W2.drewN _ = W3
              have hb3 : Below w.heap.size w W3 := by have hb2 := HS2.out.2; rw [← hW]; exact ⟨hb2.os, hb2.tape, hb2.output, hb2.size, hb2.block⟩
              clear hW
              go_wp2
              go_ret
              exact ⟨rfl, hb3⟩
            · have HRn : Hid (((good.drop (j + 1)).any fun g => decide (clOf g.2 = clOf l)) = R) := by
                have := HRj.out
                rw [cl_ne2 hnR (by rw [hy0, hx0]; exact HE.out.1) h2, Bool.false_or] at this
                exact this
              rw [decide_eq_false h2] at e2
              clear h4 HRj h2 hnR HM2 HE
              generalize wd g 2 = y2 at *
              generalize wd l 2 = x2 at *
              go_quiet (fail)
              generalize hW : W2.drewN _ = W3
              have HS3 : Hid (W3.cell? ⟨w.heap.size, 1, none⟩ = some (.slice (some ⟨gw, 0, none⟩) m cw) ∧ Below w.heap.size w W3) := by have hb2 := HS2.out.2; rw [← hW]; exact ⟨HS2.out.1, hb2.os, hb2.tape, hb2.output, hb2.size, hb2.block⟩
              clear hW
              go_wp2
              go_roundg (good.length - (j + 1))
              case measure => omega
              case rel => exact ⟨j + 1, by omega, by omega, by go_num, HS3, HRn⟩
        · rw [decide_eq_true h0] at e0
          rw [decide_eq_false h1] at e1
          have HRn : Hid (((good.drop (j + 1)).any fun g => decide (clOf g.2 = clOf l)) = R) := by
            have := HRj.out
            rw [cl_ne1 h1, Bool.false_or] at this
            exact this
          clear h0 h1 HRj
          generalize wd g 0 = y0 at *
          generalize wd g 1 = y1 at *
          generalize wd l 0 = x0 at *
          generalize wd l 1 = x1 at *
          go_quiet (fail)
          generalize hW : W1.drewN _ = W2
          have HS2 : Hid (W2.cell? ⟨w.heap.size, 1, none⟩ = some (.slice (some ⟨gw, 0, none⟩) m cw) ∧ Below w.heap.size w W2) := by rw [← hW]; exact ⟨HS1.out.1, HS1.out.2.os, HS1.out.2.tape, HS1.out.2.output, HS1.out.2.size, HS1.out.2.block⟩
          clear hW
          go_wp2
          go_roundg (good.length - (j + 1))
          case measure => omega
          case rel => exact ⟨j + 1, by omega, by omega, by go_num, HS2, HRn⟩
      · rw [decide_eq_false h0] at e0
        have HRn : Hid (((good.drop (j + 1)).any fun g => decide (clOf g.2 = clOf l)) = R) := by
          have := HRj.out
          rw [cl_ne0 h0, Bool.false_or] at this
          exact this
        clear h0 HRj e1
        generalize wd g 0 = y0 at *
        generalize wd g 1 = y1 at *
        generalize wd l 0 = x0 at *
        generalize wd l 1 = x1 at *
        go_quiet (fail)
        generalize hW : W1.drewN _ = W2
        have HS2 : Hid (W2.cell? ⟨w.heap.size, 1, none⟩ = some (.slice (some ⟨gw, 0, none⟩) m cw) ∧ Below w.heap.size w W2) := by rw [← hW]; exact ⟨HS1.out.1, HS1.out.2.os, HS1.out.2.tape, HS1.out.2.output, HS1.out.2.size, HS1.out.2.block⟩
        clear hW
        go_wp2
        go_roundg (good.length - (j + 1))
        case measure => omega
        case rel => exact ⟨j + 1, by omega, by omega, by go_num, HS2, HRn⟩
    · have hltI : ((j : Int) < (good.length : Int)) = False := by simp; omega
      have hR : R = false := by
        have := HR.out
        rw [List.drop_of_length_le (by omega)] at this
        exact this.symm
      subst hR
      go_wp2
      go_ret
      exact ⟨rfl, HS.out.2⟩

set_option maxRecDepth 100000 in
set_option maxHeartbeats 1000000 in
theorem again_none (n gw ga m cw ca cap : Nat) (en : Int) (a : Option Addr) (w : World) :
    Calls Tryz.prog 163 #[.agg #[.int .i64 n, .slice (some ⟨gw, 0, none⟩) m cw, .slice (some ⟨ga, 0, none⟩) m ca, .int .i64 en], .slice a 0 cap] w fun e w' => e = .returned (.bool false) ∧ Below w.heap.size w w' := by
  have HB : Hid (∀ o, Below w.heap.size w (w.alloc o)) := fun o => (Below.refl _ _).alloc (Nat.le_refl _) _
  go_enter Tryz.func163, Tryz.ntmps163
  go_wp2
  refine wp_loop_rounds 1 ?_
  rw [rounds_succ]
  go_wp2
  go_ret
  exact ⟨rfl, HB.out _⟩

theorem again_all {Wl0 : World} {go : Option Addr} {gc n gw ga cw ca : Nat} {en : Int} {l : Wl} {ks : List Nat} (hok : Ok l ks) {good : List OLn} {gxs : List Value} (hg : good.length ≤ 2001) (ho : w.ownsRow Wl0.heap.size 210 4 (.slice go good.length gc) good.length gxs) (hl : AllLines w (fun b => b < Wl0.heap.size) good gxs) (h2 : ∀ g ∈ good, ∃ ks, Ok g.2 ks)
    (hv : ValsAt w gw l.length (fun j => .string (l.getD j pad).2)) :
    Calls Tryz.prog 163 #[.agg #[.int .i64 n, .slice (some ⟨gw, 0, none⟩) l.length cw, .slice (some ⟨ga, 0, none⟩) l.length ca, .int .i64 en], .slice go good.length gc] w fun e w' => e = .returned (.bool (dupM good l)) ∧ Below w.heap.size w w' := by
  by_cases h0 : good = []
  · subst h0
    exact again_none n gw ga l.length cw ca gc en go w
  · have hpos : 0 < good.length := List.length_pos_iff.2 h0
    obtain ⟨ob, c, e⟩ := own_some ho hpos
    injection e with e1 _ e3
    subst e1
    exact again_any ob gc n gw ga cw ca en l ks hok good gxs _ w hg (own_base0 ho) hl h2 hv

end Mf
end Go.Proofs.YtelmkfkgpnadnaaGreatDoor

namespace Go.Proofs.YtelmkfkgpnadnaaGreatDoor
open Go.RowKit
namespace Mf

variable {w w' : World}

theorem spoken_words : ∀ (ls : List (List UInt8)) (n : Nat) (y : Tx.Ln), y ∈ Tx.spoken n ls → ∃ line ∈ ls, y.2 = Tx.words line
  | [], n, y, h => by simp [Tx.spoken] at h
  | a :: ls, n, y, h => by
    rw [Tx.spoken] at h
    split at h
    · obtain ⟨line, h1, h2⟩ := spoken_words ls (n + 1) y h
      exact ⟨line, List.mem_cons_of_mem _ h1, h2⟩
    · rcases List.mem_cons.1 h with e | e
      · exact ⟨a, List.mem_cons_self .., by rw [e]⟩
      · obtain ⟨line, h1, h2⟩ := spoken_words ls (n + 1) y e
        exact ⟨line, List.mem_cons_of_mem _ h1, h2⟩

theorem lines_small {s : ByteArray} {all : List OLn} (h : olns all = Tx.docLines [] 1 [] false false 0 s.data.toList) : ∀ l ∈ all, ∀ x ∈ l.2, x.2.size ≤ s.size := by
  intro l hl x hx
  rw [Tx.lines_same] at h
  have hm : (l.1, wtoks l.2) ∈ Tx.spoken 1 (Pv.spl 10 s.data.toList) := by
    rw [← h]
    exact List.mem_map_of_mem (f := fun x : OLn => (x.1, wtoks x.2)) hl
  obtain ⟨line, h1, h2⟩ := spoken_words _ _ _ hm
  have hw : (x.1, x.2.data.toList) ∈ Tx.words line := by
    have h3 : wtoks l.2 = Tx.words line := h2
    rw [← h3]
    exact List.mem_map_of_mem (f := fun x : Nat × ByteArray => (x.1, x.2.data.toList)) hx
  have h4 : x.1 + x.2.data.toList.length ≤ line.length := Tx.words_le hw
  have h5 := spl_len 10 _ _ h1
  rw [← Lib.size_eq] at h4 h5
  omega

/-- What 'wrong' answers, of a manifest's line. -/
theorem wrong_any {B : Nat → Prop} {l : OLn} {cs : List Value} (h : LineLies w B l cs) (hz : ∀ x ∈ l.2, x.2.size ≤ 4000) :
    Calls Tryz.prog 161 #[.agg cs.toArray, .string (formM (wd l.2 0))] w fun e w' => e = .returned (slipV l.1 (Tx.own false Pv.isPath (wtoks l.2))) ∧ Below w.heap.size w w' := by
  obtain ⟨gw, cw, ga, ca, rfl, hne, hw, ha, hgw, hga, _, _⟩ := h
  have hlen : 0 < l.2.length := List.length_pos_iff.2 hne
  have hown : Tx.own false Pv.isPath (wtoks l.2) = match Tx.shape false (wd l.2 0).data.toList with
    | none => some ((l.2.getD 0 pad).1, 3)
    | some ps => if ps.length + 1 < l.2.length then some ((l.2.getD (ps.length + 1) pad).1, 4) else if l.2.length < ps.length + 1 then some (Tx.fin (wtoks l.2), 4) else seek ps l.2.tail 0 0 := by
    unfold Tx.own
    rw [hd_wd hne, wtoks_len]
    simp only
    cases Tx.shape false (wd l.2 0).data.toList with
    | none => rfl
    | some ps =>
      simp only [wtoks_getD]
      rw [seek_own]
      have ht : (wtoks l.2).tail = wtoks l.2.tail := by
        cases l.2 <;> rfl
      rw [ht]
      cases Tx.misfit Pv.isPath 5 ps (wtoks l.2.tail) <;> cases Tx.misfit Pv.isPath 6 ps (wtoks l.2.tail) <;> cases Tx.misfit Pv.isPath 7 ps (wtoks l.2.tail) <;> rfl
  rw [hown]
  unfold formM
  cases hs : Tx.shape false (wd l.2 0).data.toList with
  | none =>
    simp only
    exact wrong_word l.1 gw ga l.2.length cw ca (l.2.getD 0 pad).1 (Tx.fin (wtoks l.2)) w hlen (ha.at' 0 hlen)
  | some ks =>
    simp only
    have hsl := shape_len hs
    have hfs := fb_size ks
    have hne' : ((fb ks).toList == []) = false := list_ne (fun e => by
      have h0 : (fb ks).data.toList.length = 0 := by rw [e]; rfl
      rw [← Lib.size_eq] at h0
      omega)
    by_cases h1 : ks.length + 1 < l.2.length
    · rw [if_pos h1]
      exact wrong_manyM l.1 gw ga l.2.length cw ca (fb ks) (l.2.getD (ks.length + 1) pad).1 (Tx.fin (wtoks l.2)) w hne' (by omega) (by omega) (by rw [hfs]; exact ha.at' _ h1)
    · rw [if_neg h1]
      by_cases h2 : l.2.length < ks.length + 1
      · rw [if_pos h2]
        exact wrong_fewM l.1 gw ga l.2.length cw ca (fb ks) (Tx.fin (wtoks l.2)) w hne' (by omega) (by omega)
      · rw [if_neg h2]
        have h3 : l.2.length = ks.length + 1 := by omega
        obtain ⟨x0, ws, hx⟩ : ∃ x0 ws, l.2 = x0 :: ws := by
          cases h : l.2 with
          | nil => exact absurd h hne
          | cons a b => exact ⟨a, b, rfl⟩
        have hk : ∀ k ∈ ks, k = 5 ∨ k = 6 ∨ k = 7 := by
          rcases shape_cases hs with ⟨_, e⟩ | ⟨_, e⟩ | ⟨_, e⟩ <;> rw [e] <;> simp
        rw [h3] at hw ha ⊢
        rw [hx] at hw ha hz
        have hws : ws.length = ks.length := by rw [hx] at h3; simpa using h3
        have key := wrong_same l.1 gw ga cw ca ks hk hsl.2 hsl.1 x0 ws hws (fun x hx' => hz x (List.mem_cons_of_mem _ hx')) (Tx.fin (wtoks l.2)) w hw ha ⟨hgw, hga⟩
        have ht : l.2.tail = ws := by rw [hx]; rfl
        rw [ht]
        exact key

/-- A line's slip, by parts. -/
theorem slip_parts (lead dup many : Bool) (l : Wl) (hne : l ≠ []) :
    Tx.slip false Pv.isPath lead dup many (wtoks l) = if (((wd l 0).data.toList == Tx.wM) != lead) then some ((l.getD 0 pad).1, 2) else match Tx.own false Pv.isPath (wtoks l) with
      | some x => some x
      | none => if dup then some ((l.getD 0 pad).1, 8) else if (wd l 0).data.toList = Tx.wR ∧ many = true then some ((l.getD 0 pad).1, 9) else none := by
  unfold Tx.slip
  rw [hd_wd hne]
  simp only [true_and]
  by_cases h : ((wd l 0).data.toList == Tx.wM) = lead
  · have h1 : (((wd l 0).data.toList == Tx.wM) != lead) = false := by rw [h]; simp
    rw [if_neg (fun hh => hh h)]
    simp only [h1, Bool.false_eq_true, if_false]
    cases Tx.own false Pv.isPath (wtoks l) <;> rfl
  · have h1 : (((wd l 0).data.toList == Tx.wM) != lead) = true := by simpa using h
    rw [if_pos h]
    simp only [h1, if_true]

theorem own_ok {l : Wl} (hne : l ≠ []) (h : Tx.own false Pv.isPath (wtoks l) = none) : ∃ ks, Ok l ks := by
  unfold Tx.own at h
  rw [hd_wd hne] at h
  split at h
  · simp at h
  · rename_i ks hks
    rw [wtoks_len] at h
    split at h
    · simp at h
    · split at h
      · simp at h
      · split at h
        · simp at h
        · split at h
          · simp at h
          · split at h
            · simp at h
            · rename_i h2 h3 _ h4 _ h5 _ h6
              exact ⟨ks, hks, by omega, h4, h5, h6⟩

/-- Its kind is one of seven. -/
theorem own_kind {l : Wl} {a q : Nat} (h : Tx.own false Pv.isPath (wtoks l) = some (a, q)) : 0 < q := by
  unfold Tx.own at h
  split at h
  · simp at h; omega
  · split at h
    · simp at h; omega
    · split at h
      · simp at h; omega
      · split at h
        · simp at h; omega
        · split at h
          · simp at h; omega
          · split at h
            · simp at h; omega
            · simp at h

theorem slipV_shapeM (l : OLn) : ∃ xa xk : Nat, slipV l.1 (Tx.own false Pv.isPath (wtoks l.2)) = .agg #[.int .i64 l.1, .int .i64 xa, .int .i64 xk] ∧ ((Tx.own false Pv.isPath (wtoks l.2) = some (xa, xk) ∧ 0 < xk) ∨ (Tx.own false Pv.isPath (wtoks l.2) = none ∧ xk = 0)) := by
  cases h : Tx.own false Pv.isPath (wtoks l.2) with
  | none => exact ⟨0, 0, rfl, Or.inr ⟨rfl, rfl⟩⟩
  | some x =>
    obtain ⟨a, q⟩ := x
    exact ⟨a, q, rfl, Or.inl ⟨rfl, own_kind h⟩⟩

theorem step_slipM {good : List OLn} {slips : List (Nat × Nat × Nat)} {k rq : Nat} {l : OLn} {a q : Nat} (h : Tx.slip false Pv.isPath (k == 0) ((olns good).any fun x => Tx.again (wtoks l.2) x.2) (rq == 20) (wtoks l.2) = some (a, q)) :
    Tx.stepDoc false Pv.isPath 20 ⟨olns good, slips, k, rq⟩ (l.1, wtoks l.2) = ⟨olns good, slips ++ [(l.1, a, q)], k + 1, rq⟩ := by
  unfold Tx.stepDoc
  simp only [h]

theorem step_goodM {good : List OLn} {slips : List (Nat × Nat × Nat)} {k rq : Nat} {l : OLn} (hne : l.2 ≠ []) (h : Tx.slip false Pv.isPath (k == 0) ((olns good).any fun x => Tx.again (wtoks l.2) x.2) (rq == 20) (wtoks l.2) = none) :
    Tx.stepDoc false Pv.isPath 20 ⟨olns good, slips, k, rq⟩ (l.1, wtoks l.2) = ⟨olns (good ++ [l]), slips, k + 1, if (wd l.2 0).data.toList == Tx.wR then rq + 1 else rq⟩ := by
  unfold Tx.stepDoc
  simp only [h]
  rw [hd_wd hne]
  by_cases e : (wd l.2 0).data.toList = Tx.wR <;> simp [olns, e]

end Mf
end Go.Proofs.YtelmkfkgpnadnaaGreatDoor
