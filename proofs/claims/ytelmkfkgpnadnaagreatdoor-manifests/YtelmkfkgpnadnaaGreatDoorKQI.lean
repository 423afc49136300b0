/-
  The document's Manifest.
  The document's Manifest, of every text.
-/
import Derived.Test.YtelmkfkgpnadnaaGreatDoorKQ19
import Derived.Test.YtelmkfkgpnadnaaGreatDoorKQG
namespace Go.Proofs.YtelmkfkgpnadnaaGreatDoor
open Go.RowKit
namespace Mf

variable {w w' : World}

theorem cell_poke {W : World} {gw i : Nat} {v : Value} (h : W.cell? ⟨gw, i, none⟩ = some v) (b7 j : Nat) (u : Value) (hn : gw ≠ b7) : (W.setCell ⟨b7, j, none⟩ u).cell? ⟨gw, i, none⟩ = some v := by
  rw [World.cell?_setCell_other _ _ _ _ (fun e => hn (by injection e with e1; exact e1.symm))]
  exact h

set_option maxRecDepth 100000 in
set_option maxHeartbeats 8000000 in
theorem refManifest_any (s : ByteArray) (w : World) (hs : s.size ≤ 2000) :
    Calls Tryz.prog 72 #[.string s] w fun e w' => ∃ (good : List OLn) (slips : List (Nat × Nat × Nat)) (m q : Nat) (p : ByteArray) (rv xv sv lv : Value), e = .returned (.tuple #[.agg #[.string p, rv, xv, sv], lv]) ∧ manGot s = ⟨olns good, slips, m, q⟩ ∧ good.length ≤ 2001 ∧ slips.length ≤ 2001 ∧ Below w.heap.size w w' ∧
      ((fin2 m slips ≠ [] ∧ (p = ⟨#[]⟩ ∧ rv = .slice none 0 0 ∧ xv = .slice none 0 0 ∧ sv = .slice none 0 0) ∧ w'.ownsRow w.heap.size 45 3 lv (fin2 m slips).length (scells (fin2 m slips))) ∨
       (fin2 m slips = [] ∧ lv = .slice none 0 0 ∧ p = (mxOf (good.map fun g => stOf g.2)).p ∧ w'.ownsRow w.heap.size 29 2 rv (mxOf (good.map fun g => stOf g.2)).R.length (mcs (reqs (mxOf (good.map fun g => stOf g.2)).R)) ∧ w'.ownsRow w.heap.size 29 2 xv (mxOf (good.map fun g => stOf g.2)).X.length (mcs (excs (mxOf (good.map fun g => stOf g.2)).X)) ∧ w'.ownsRow w.heap.size 137 3 sv (mxOf (good.map fun g => stOf g.2)).S.length (scs (reps (mxOf (good.map fun g => stOf g.2)).S)))) := by
  have HB0 : Hid (Below w.heap.size w (w.alloc (.cells zM 26)) ∧ (w.alloc (.cells zM 26)).heap[w.heap.size]? = some (.cells zM 26) ∧ (w.alloc (.cells zM 26)).heap.size = w.heap.size + 1) := ⟨(Below.refl _ _).alloc (Nat.le_refl _) _, heap_alloc_new _ _, by simp⟩
  have kl := slipped_any s (w.alloc (.cells zM 26)) hs
  obtain ⟨R, hR⟩ : ∃ R, manGot s = R := ⟨_, rfl⟩
  have hR2 : (Tx.docLines [] 1 [] false false 0 s.data.toList).foldl (Tx.stepDoc false Pv.isPath 20) got0 = R := hR
  rw [hR]
  rw [hR2] at kl
  clear hR hR2
  go_enter Tryz.func72, Tryz.ntmps72
  go_wp2_with (go_at_call 117; fail)
  generalize w.alloc (.cells zM 26) = W1 at *
  go_at_call 117
  refine kl.mono ?_
  rintro e w2 ⟨gv, sv0, good, gxs, slips, Wl, m, q, rfl, hbl, hD, hG, hgl, hsl, hx⟩
  clear kl
  have HD : Hid (R = ⟨olns good, slips, m, q⟩ ∧ good.length ≤ 2001 ∧ slips.length ≤ 2001) := ⟨hD, hgl, hsl⟩
  have HG : Hid (∀ g ∈ good, ∃ ks, Ok g.2 ks) := hG
  have HBW : Hid (Below w.heap.size w w2 ∧ w2.heap[w.heap.size]? = some (.cells zM 26) ∧ w.heap.size + 1 ≤ w2.heap.size) := by
    have h0 := HB0.out
    have hb2 : Below W1.heap.size W1 w2 := by
      rcases hx with ⟨_, _, _, _, hb, _⟩ | ⟨_, hS⟩
      · exact hb
      · exact hbl.trans (hS.old.mono hbl.size)
    exact ⟨h0.1.trans (hb2.mono h0.1.size), by rw [hb2.block w.heap.size (by rw [h0.2.2]; omega)]; exact h0.2.1, by rw [← h0.2.2]; exact hb2.size⟩
  have HF : Hid ((fin2 m slips ≠ [] ∧ ∃ la lc, sv0 = .slice la (fin2 m slips).length lc ∧ w2.ownsRow (w.heap.size + 1) 45 3 (.slice la (fin2 m slips).length lc) (fin2 m slips).length (scells (fin2 m slips))) ∨ (fin2 m slips = [] ∧ ∃ la lc, sv0 = .slice la 0 lc ∧ Sl Wl gv (.slice la 0 lc) good gxs [] w2)) := by
    rcases hx with ⟨h1, h2, h3, h4, h5, h6⟩ | ⟨h1, hS⟩
    · left
      have e : fin2 m slips = [(0, 0, 2)] := if_pos h1
      rw [e]
      obtain ⟨la, lc, e2⟩ := own_slice' h6
      rw [e2] at h6
      exact ⟨by simp, la, lc, e2, by rw [← HB0.out.2.2]; exact h6⟩
    · have e : fin2 m slips = slips := if_neg h1
      rw [e]
      have h6 : w2.ownsRow (w.heap.size + 1) 45 3 sv0 slips.length (scells slips) := own_down hS.os (by have := hbl.size; have := HB0.out.2.2; omega)
      by_cases hsl : slips = []
      · right
        rw [hsl] at h6 hS
        obtain ⟨la, lc, e2⟩ := own_slice' h6
        rw [e2] at hS
        exact ⟨hsl, la, lc, e2, hS⟩
      · left
        obtain ⟨la, lc, e2⟩ := own_slice' h6
        rw [e2] at h6
        exact ⟨hsl, la, lc, e2, h6⟩
  clear hD hG hx hbl HB0
  rcases HF.out with ⟨hne, la, lc, rfl, hown⟩ | ⟨hf0, la, lc, rfl, hS⟩
  · have hq : (0 : Int) < ((fin2 m slips).length : Int) := by have := List.length_pos_iff.2 hne; omega
    have HO : Hid (fin2 m slips ≠ [] ∧ w2.ownsRow (w.heap.size + 1) 45 3 (.slice la (fin2 m slips).length lc) (fin2 m slips).length (scells (fin2 m slips))) := ⟨hne, hown⟩
    generalize hfl : (fin2 m slips).length = fl at *
    have HFl : Hid ((fin2 m slips).length = fl) := hfl
    clear hfl hne hown HF
    obtain ⟨⟨g0, g1, g2, g3⟩, f0, f1, f2, f3⟩ := Dr.cells4 HBW.out.2.1
    have hsz4 : ∀ a b c d, ((((w2.setCell ⟨w.heap.size, 0, none⟩ a).setCell ⟨w.heap.size, 1, none⟩ b).setCell ⟨w.heap.size, 2, none⟩ c).setCell ⟨w.heap.size, 3, none⟩ d).heap.size = w2.heap.size := fun a b c d => by simp [World.setCell]
    have HW : Hid (∀ a b c d o, (((((w2.setCell ⟨w.heap.size, 0, none⟩ a).setCell ⟨w.heap.size, 1, none⟩ b).setCell ⟨w.heap.size, 2, none⟩ c).setCell ⟨w.heap.size, 3, none⟩ d).alloc o).heap[w.heap.size]? = some (.cells #[a, b, c, d] 26)) := fun a b c d o => by
      rw [Below.heap_alloc _ _ _ (by rw [hsz4]; have := HBW.out.2.2; omega)]
      exact wholeM HBW.out.2.1 a b c d
    have HZ : Hid (∀ a b c d o, Below w.heap.size w (((((w2.setCell ⟨w.heap.size, 0, none⟩ a).setCell ⟨w.heap.size, 1, none⟩ b).setCell ⟨w.heap.size, 2, none⟩ c).setCell ⟨w.heap.size, 3, none⟩ d).alloc o) ∧ (((((w2.setCell ⟨w.heap.size, 0, none⟩ a).setCell ⟨w.heap.size, 1, none⟩ b).setCell ⟨w.heap.size, 2, none⟩ c).setCell ⟨w.heap.size, 3, none⟩ d).alloc o).ownsRow w.heap.size 45 3 (.slice la fl lc) (fin2 m slips).length (scells (fin2 m slips))) := fun a b c d o => by
      have hb := four_below HBW.out.1 (Nat.le_refl _) a b c d
      refine ⟨hb.alloc hb.size o, ?_⟩
      rw [HFl.out]
      exact own_below (own_down (B := w.heap.size + 1) (four_own (r := w.heap.size) HO.out.2 (by omega) a b c d) (by omega)) ((Below.refl _ _).alloc (Nat.le_refl _) _)
    clear hsz4
    have hwl : w.heap.size < w2.heap.size := by have := HBW.out.2.2; omega
    go_wp2
    (try rw [Exit.noGoto_ret])
    refine bodyPost_ret (results_cell_tmp Tryz.results72 _ _ w.heap.size 26 _ (0, 0) _ _ rfl rfl (HW.out _ _ _ _ _) Tryz.underlying26 rfl (by kernel_rfl)) rfl ?_
    exact ⟨good, slips, m, q, _, _, _, _, _, rfl, HD.out.1, HD.out.2.1, HD.out.2.2, (HZ.out _ _ _ _ _).1, Or.inl ⟨HO.out.1, ⟨rfl, rfl, rfl, rfl⟩, (HZ.out _ _ _ _ _).2⟩⟩
  · have HF2 : Hid (fin2 m slips = []) := hf0
    have HSl : Hid (Sl Wl gv (.slice la 0 lc) good gxs [] w2) := hS
    clear hf0 hS HF
    obtain ⟨ga0, gc0, rfl⟩ := own_slice' HSl.out.og
    have HOg : Hid (w2.ownsRow 0 210 4 (.slice ga0 good.length gc0) good.length gxs) := own_base0 HSl.out.og
    have HLie : Hid (AllLines w2 (fun b => b < Wl.heap.size) good gxs) := HSl.out.lie
    have HWl : Hid (Wl.heap.size ≤ w2.heap.size) := HSl.out.old.size
    obtain ⟨L, hLe⟩ : ∃ L, (good.map fun g => stOf g.2) = L := ⟨_, rfl⟩
    have HLe : Hid ((good.map fun g => stOf g.2) = L) := hLe
    have HLk : Hid (∀ k (h : k < good.length), mxOf (L.take (k + 1)) = mxStep (mxOf (L.take k)) (stOf good[k].2)) := fun k h => by
      have hk : k < L.length := by rw [← hLe, List.length_map]; exact h
      have e : L[k] = stOf good[k].2 := by subst hLe; simp
      rw [← List.take_append_getElem hk, mxOf_snoc, e]
    have HLn : Hid (∀ k, k ≤ good.length → (mxOf (L.take k)).R.length ≤ 2001 ∧ (mxOf (L.take k)).X.length ≤ 2001 ∧ (mxOf (L.take k)).S.length ≤ 2001) := fun k hk => by
      have h := mxOf_len (L.take k)
      have h2 : (L.take k).length ≤ 2001 := by rw [List.length_take]; omega
      omega
    have HLf : Hid (L.take good.length = L) := by show _ = _; rw [← hLe]; exact List.take_of_length_le (by rw [List.length_map]; omega)
    clear hLe HSl
    have HS0 : Hid (Mq w2 w2.heap.size (mxOf (L.take 0)).p (.slice none 0 0) (.slice none 0 0) (.slice none 0 0) (reqs (mxOf (L.take 0)).R) (excs (mxOf (L.take 0)).X) (reps (mxOf (L.take 0)).S) (w2.alloc (.cells zM 26))) := Mq.start w2
    go_wp2
    obtain ⟨b7, hb7⟩ : ∃ b7, w2.heap.size = b7 := ⟨_, rfl⟩
    have HB7 : Hid (w2.heap.size = b7) := hb7
    rw [hb7] at HS0 ⊢
    clear hb7
    go_loopg [7] good.length (fun gg kv wr => ∃ (k : Nat) (rv xv sv : Value), k ≤ good.length ∧ good.length - k ≤ gg ∧ kv = .int .i64 k ∧ Hid (Mq w2 b7 (mxOf (L.take k)).p rv xv sv (reqs (mxOf (L.take k)).R) (excs (mxOf (L.take k)).X) (reps (mxOf (L.take k)).S) wr))
    case atStart => exact ⟨0, _, _, _, by omega, by omega, rfl, HS0⟩
    case round =>
      clear HS0
      obtain ⟨k, rv, xv, sv, hk, hgk, rfl, HS⟩ := hrel
      by_cases hlt : k < good.length
      · have hltI : (k : Int) < (good.length : Int) := by omega
        obtain ⟨g, hga⟩ : ∃ g, ga0 = some ⟨g, 0, none⟩ := by
          obtain ⟨g, c, e⟩ := own_some HOg.out (by omega)
          injection e with e1
          exact ⟨g, e1⟩
        subst hga
        obtain ⟨gw, cw, ga, ca, a0, a1, a2, a3, _, hvw, hgwl⟩ := lineCells HLie.out HOg.out k hlt
        have hbw := HS.out.b
        have hgl2 := (HOg.out.lt g rfl).2
        have c1 : wr.cell? ⟨g, k * 4 + 1, none⟩ = _ := (hbw.cell (p := ⟨g, k * 4 + 1, none⟩) hgl2).trans a1
        have HN : Hid (mxOf (L.take (k + 1)) = mxStep (mxOf (L.take k)) (wd good[k].2 0, wd good[k].2 1, wd good[k].2 2, wd good[k].2 4)) := HLk.out k hlt
        have HVw : Hid (∀ i, i < good[k].2.length → wr.cell? ⟨gw, i, none⟩ = some (.string (wd good[k].2 i))) := fun i hi => (hbw.cell (p := ⟨gw, i, none⟩) hgwl).trans (hvw.at' i hi)
        have HGw : Hid (gw < w2.heap.size) := hgwl
        obtain ⟨ks, hok⟩ := HG.out good[k] (List.getElem_mem hlt)
        have HLen := ok_len hok
        have hl3 := HLn.out k hk
        have hw4 := ok_wd4 hok
        clear a0 a1 a2 a3 hvw hgwl hbw hok
        generalize good[k] = l at *
        have HLen : Hid ((wd l.2 0 = bMod ∧ l.2.length = 2) ∨ (wd l.2 0 = bReq ∧ l.2.length = 3) ∨ (wd l.2 0 = bExc ∧ l.2.length = 3) ∨ (wd l.2 0 = bRep ∧ l.2.length = 5)) := HLen
        generalize mxOf (L.take k) = M at *
        obtain ⟨mp, mR, mX, mS⟩ := M
        simp only at HS hl3
        have hRl : mR.length ≤ 2001 := hl3.1
        have hXl : mX.length ≤ 2001 := hl3.2.1
        have hSl : mS.length ≤ 2001 := hl3.2.2
        obtain ⟨⟨e0, e1, e2, e3⟩, f0, f1, f2, f3⟩ := HS.out.cells
        obtain ⟨ra1, rc1, rfl⟩ := own_slice' HS.out.r
        obtain ⟨xa1, xc1, rfl⟩ := own_slice' HS.out.x
        obtain ⟨sa1, sc1, rfl⟩ := own_slice' HS.out.s
        have hb7l : b7 < wr.heap.size := HS.out.lt.2
        have hge2 : 2 ≤ l.2.length ∧ l.2.length ≤ 5 := by rcases HLen.out with ⟨_, h⟩ | ⟨_, h⟩ | ⟨_, h⟩ | ⟨_, h⟩ <;> omega
        have d0 : wr.cell? ⟨gw, 0, none⟩ = some (.string (wd l.2 0)) := HVw.out 0 (by omega)
        have d1' : wr.cell? ⟨gw, 1, none⟩ = some (.string (wd l.2 1)) := HVw.out 1 (by omega)
        have HLC : Hid True := trivial
        clear hl3
        rcases hw4 with hf | hf | hf | hf
        · have hN2 : Hid (Mq w2 b7 (mxOf (L.take (k + 1))).p (.slice ra1 (reqs mR).length rc1) (.slice xa1 (excs mX).length xc1) (.slice sa1 (reps mS).length sc1) (reqs (mxOf (L.take (k + 1))).R) (excs (mxOf (L.take (k + 1))).X) (reps (mxOf (L.take (k + 1))).S) (wr.setCell ⟨b7, 0, none⟩ (.string (wd l.2 1)))) := by
            have hN := HN.out
            rw [hf] at hN
            show Mq _ _ _ _ _ _ _ _ _ _
            rw [hN]
            exact Mq.path HS.out (wd l.2 1)
          rw [hf] at d0
          have hlI : (1 : Int) < (l.2.length : Int) := by omega
          clear HN HVw HLen hf HS
          go_wp2
          go_roundg (good.length - (k + 1))
          case measure => omega
          case rel => exact ⟨k + 1, _, _, _, by omega, by omega, by go_num, hN2⟩
        · rw [hf] at d0
          have HN : Hid (mxOf (L.take (k + 1)) = mxStep ⟨mp, mR, mX, mS⟩ (bReq, wd l.2 1, wd l.2 2, wd l.2 4)) := by
            have hN := HN.out
            rw [hf] at hN
            exact hN
          have hlen : l.2.length = 3 := by
            rcases HLen.out with ⟨e, h⟩ | ⟨e, h⟩ | ⟨e, h⟩ | ⟨e, h⟩
            all_goals first
              | exact h
              | (exfalso; rw [hf] at e; exact absurd e (by decide))
          have d1 : wr.cell? ⟨gw, 1, none⟩ = some (.string (wd l.2 1)) := HVw.out 1 (by omega)
          have d2 : wr.cell? ⟨gw, 2, none⟩ = some (.string (wd l.2 2)) := HVw.out 2 (by omega)
          
          have hN : mxOf (L.take (k + 1)) = mxStep ⟨mp, mR, mX, mS⟩ (bReq, wd l.2 1, wd l.2 2, wd l.2 4) := HN.out
          have kp : ∀ W, Below wr.heap.size wr W → Calls Tryz.prog 79 #[.slice ra1 (reqs mR).length rc1, .agg #[.string (wd l.2 1), .string (wd l.2 2)], .bool false] W fun e w' => ∃ g' c', e = .returned (.slice (some ⟨g', 0, none⟩) ((reqs mR).length + 1) c') ∧ w'.cell? ⟨b7, 1, none⟩ = some (.slice ra1 (reqs mR).length rc1) ∧ w'.frozen? ⟨b7, 1, none⟩ = false ∧ (w'.cell? ⟨gw, 1, none⟩ = some (.string (wd l.2 1)) ∧ w'.cell? ⟨gw, 2, none⟩ = some (.string (wd l.2 2))) ∧
              Hid (Mq w2 b7 (mxOf (L.take (k + 1))).p (.slice (some ⟨g', 0, none⟩) ((reqs mR).length + 1) c') (.slice xa1 (excs mX).length xc1) (.slice sa1 (reps mS).length sc1) (reqs (mxOf (L.take (k + 1))).R) (excs (mxOf (L.take (k + 1))).X) (reps (mxOf (L.take (k + 1))).S) (w'.setCell ⟨b7, 1, none⟩ (.slice (some ⟨g', 0, none⟩) ((reqs mR).length + 1) c'))) := fun W hb => by
            have hQ := Mk.below HS.out hb
            have k0 := put_all (wd l.2 1) (wd l.2 2) false (.slice ra1 (reqs mR).length rc1) (reqs mR) W (b7 + 1) (by have := hQ.lt.2; omega) (Mq.r hQ) (by rw [Ss.insAll_len]; omega)
            refine k0.mono ?_
            rintro e w' ⟨g', c', rfl, ho3, ht3, hat3⟩
            have hn7 : ¬ ((Value.slice ra1 (reqs mR).length rc1).ownBlock = some b7) := fun e => own_out (Mq.r hQ) e
            have hbx := hQ.box.of_block (ht3.block b7 hQ.lt.2 hn7)
            have hgw : ∀ i, i < l.2.length → w'.cell? ⟨gw, i, none⟩ = some (.string (wd l.2 i)) := fun i hi => by
              have h1 := HGw.out
              have h2 := hQ.b.size
              have h3 := hQ.lt.1
              rw [ht3.cell (a := ⟨gw, i, none⟩) (by show gw < _; omega) (fun e => by have h4 := ((Mq.r hQ).lt gw e).1; omega), hb.cell (p := ⟨gw, i, none⟩) (by show gw < _; have := HS.out.b.size; omega)]
              exact HVw.out i hi
            refine ⟨g', c', rfl, hbx.at' 1 (by omega), hbx.fr 1 (by omega), ⟨hgw 1 (by omega), hgw 2 (by omega)⟩, ?_⟩
            show Mq _ _ _ _ _ _ _ _ _ _
            rw [hN]
            refine Mq.req (R' := reqs (mR ++ [(wd l.2 1, wd l.2 2)])) hQ ?_ ht3 (fun b e => ?_)
            · have e1 : (reqs (mR ++ [(wd l.2 1, wd l.2 2)])).length = (reqs mR).length + 1 := by rw [Ss.insAll_len, Ss.insAll_len, List.length_append]; rfl
              have e2 : reqs (mR ++ [(wd l.2 1, wd l.2 2)]) = Ss.ins _ _ (reqs mR) := Ss.insAll_snoc _ _
              rw [e1, e2]
              exact ho3
            · have e1 : g' = b := by simpa [Value.ownBlock] using e
              rw [← e1]
              exact hat3
          have hlI : (1 : Int) < (l.2.length : Int) := by omega
          have hlI2 : (2 : Int) < (l.2.length : Int) := by omega
          
          clear hN HN HLen HVw HLC hf d1'
          go_wp2_with fail
          go_region_with (first | (go_at_call 79; refine (kp _ ((Below.refl _ _).drew)).mono ?_; rintro e w3 ⟨g', c', rfl, q1, q2, q3, HN2⟩))
          all_goals
            go_wp2
            go_roundg (good.length - (k + 1))
            case measure => omega
            case rel => exact ⟨k + 1, _, _, _, by omega, by omega, by go_num, HN2⟩
        · rw [hf] at d0
          have HN : Hid (mxOf (L.take (k + 1)) = mxStep ⟨mp, mR, mX, mS⟩ (bExc, wd l.2 1, wd l.2 2, wd l.2 4)) := by
            have hN := HN.out
            rw [hf] at hN
            exact hN
          have hlen : l.2.length = 3 := by
            rcases HLen.out with ⟨e, h⟩ | ⟨e, h⟩ | ⟨e, h⟩ | ⟨e, h⟩
            all_goals first
              | exact h
              | (exfalso; rw [hf] at e; exact absurd e (by decide))
          have d1 : wr.cell? ⟨gw, 1, none⟩ = some (.string (wd l.2 1)) := HVw.out 1 (by omega)
          have d2 : wr.cell? ⟨gw, 2, none⟩ = some (.string (wd l.2 2)) := HVw.out 2 (by omega)
          
          have hN : mxOf (L.take (k + 1)) = mxStep ⟨mp, mR, mX, mS⟩ (bExc, wd l.2 1, wd l.2 2, wd l.2 4) := HN.out
          have kp : ∀ W, Below wr.heap.size wr W → Calls Tryz.prog 79 #[.slice xa1 (excs mX).length xc1, .agg #[.string (wd l.2 1), .string (wd l.2 2)], .bool true] W fun e w' => ∃ g' c', e = .returned (.slice (some ⟨g', 0, none⟩) ((excs mX).length + 1) c') ∧ w'.cell? ⟨b7, 2, none⟩ = some (.slice xa1 (excs mX).length xc1) ∧ w'.frozen? ⟨b7, 2, none⟩ = false ∧ (w'.cell? ⟨gw, 1, none⟩ = some (.string (wd l.2 1)) ∧ w'.cell? ⟨gw, 2, none⟩ = some (.string (wd l.2 2))) ∧
              Hid (Mq w2 b7 (mxOf (L.take (k + 1))).p (.slice ra1 (reqs mR).length rc1) (.slice (some ⟨g', 0, none⟩) ((excs mX).length + 1) c') (.slice sa1 (reps mS).length sc1) (reqs (mxOf (L.take (k + 1))).R) (excs (mxOf (L.take (k + 1))).X) (reps (mxOf (L.take (k + 1))).S) (w'.setCell ⟨b7, 2, none⟩ (.slice (some ⟨g', 0, none⟩) ((excs mX).length + 1) c'))) := fun W hb => by
            have hQ := Mk.below HS.out hb
            have k0 := put_all (wd l.2 1) (wd l.2 2) true (.slice xa1 (excs mX).length xc1) (excs mX) W (b7 + 1) (by have := hQ.lt.2; omega) (Mq.x hQ) (by rw [Ss.insAll_len]; omega)
            refine k0.mono ?_
            rintro e w' ⟨g', c', rfl, ho3, ht3, hat3⟩
            have hn7 : ¬ ((Value.slice xa1 (excs mX).length xc1).ownBlock = some b7) := fun e => own_out (Mq.x hQ) e
            have hbx := hQ.box.of_block (ht3.block b7 hQ.lt.2 hn7)
            have hgw : ∀ i, i < l.2.length → w'.cell? ⟨gw, i, none⟩ = some (.string (wd l.2 i)) := fun i hi => by
              have h1 := HGw.out
              have h2 := hQ.b.size
              have h3 := hQ.lt.1
              rw [ht3.cell (a := ⟨gw, i, none⟩) (by show gw < _; omega) (fun e => by have h4 := ((Mq.x hQ).lt gw e).1; omega), hb.cell (p := ⟨gw, i, none⟩) (by show gw < _; have := HS.out.b.size; omega)]
              exact HVw.out i hi
            refine ⟨g', c', rfl, hbx.at' 2 (by omega), hbx.fr 2 (by omega), ⟨hgw 1 (by omega), hgw 2 (by omega)⟩, ?_⟩
            show Mq _ _ _ _ _ _ _ _ _ _
            rw [hN]
            refine Mq.exc (X' := excs (mX ++ [(wd l.2 1, wd l.2 2)])) hQ ?_ ht3 (fun b e => ?_)
            · have e1 : (excs (mX ++ [(wd l.2 1, wd l.2 2)])).length = (excs mX).length + 1 := by rw [Ss.insAll_len, Ss.insAll_len, List.length_append]; rfl
              have e2 : excs (mX ++ [(wd l.2 1, wd l.2 2)]) = Ss.ins _ _ (excs mX) := Ss.insAll_snoc _ _
              rw [e1, e2]
              exact ho3
            · have e1 : g' = b := by simpa [Value.ownBlock] using e
              rw [← e1]
              exact hat3
          have hlI : (1 : Int) < (l.2.length : Int) := by omega
          have hlI2 : (2 : Int) < (l.2.length : Int) := by omega
          
          clear hN HN HLen HVw HLC hf d1'
          go_wp2_with fail
          go_region_with (first | (go_at_call 79; refine (kp _ ((Below.refl _ _).drew)).mono ?_; rintro e w3 ⟨g', c', rfl, q1, q2, q3, HN2⟩))
          all_goals
            go_wp2
            go_roundg (good.length - (k + 1))
            case measure => omega
            case rel => exact ⟨k + 1, _, _, _, by omega, by omega, by go_num, HN2⟩
        · rw [hf] at d0
          have HN : Hid (mxOf (L.take (k + 1)) = mxStep ⟨mp, mR, mX, mS⟩ (bRep, wd l.2 1, wd l.2 2, wd l.2 4)) := by
            have hN := HN.out
            rw [hf] at hN
            exact hN
          have hlen : l.2.length = 5 := by
            rcases HLen.out with ⟨e, h⟩ | ⟨e, h⟩ | ⟨e, h⟩ | ⟨e, h⟩
            all_goals first
              | exact h
              | (exfalso; rw [hf] at e; exact absurd e (by decide))
          have d1 : wr.cell? ⟨gw, 1, none⟩ = some (.string (wd l.2 1)) := HVw.out 1 (by omega)
          have d2 : wr.cell? ⟨gw, 2, none⟩ = some (.string (wd l.2 2)) := HVw.out 2 (by omega)
          have d4 : wr.cell? ⟨gw, 4, none⟩ = some (.string (wd l.2 4)) := HVw.out 4 (by omega)
          have hN : mxOf (L.take (k + 1)) = mxStep ⟨mp, mR, mX, mS⟩ (bRep, wd l.2 1, wd l.2 2, wd l.2 4) := HN.out
          have kp : ∀ W, Below wr.heap.size wr W → Calls Tryz.prog 80 #[.slice sa1 (reps mS).length sc1, .agg #[.string (wd l.2 1), .string (wd l.2 2), .string (wd l.2 4)]] W fun e w' => ∃ g' c', e = .returned (.slice (some ⟨g', 0, none⟩) ((reps mS).length + 1) c') ∧ w'.cell? ⟨b7, 3, none⟩ = some (.slice sa1 (reps mS).length sc1) ∧ w'.frozen? ⟨b7, 3, none⟩ = false ∧ (w'.cell? ⟨gw, 1, none⟩ = some (.string (wd l.2 1)) ∧ w'.cell? ⟨gw, 2, none⟩ = some (.string (wd l.2 2)) ∧ w'.cell? ⟨gw, 4, none⟩ = some (.string (wd l.2 4))) ∧
              Hid (Mq w2 b7 (mxOf (L.take (k + 1))).p (.slice ra1 (reqs mR).length rc1) (.slice xa1 (excs mX).length xc1) (.slice (some ⟨g', 0, none⟩) ((reps mS).length + 1) c') (reqs (mxOf (L.take (k + 1))).R) (excs (mxOf (L.take (k + 1))).X) (reps (mxOf (L.take (k + 1))).S) (w'.setCell ⟨b7, 3, none⟩ (.slice (some ⟨g', 0, none⟩) ((reps mS).length + 1) c'))) := fun W hb => by
            have hQ := Mk.below HS.out hb
            have k0 := putSwap_all (wd l.2 1) (wd l.2 2) (wd l.2 4) (.slice sa1 (reps mS).length sc1) (reps mS) W (b7 + 1) (by have := hQ.lt.2; omega) (Mq.s hQ) (by rw [Ss.insAll_len]; omega)
            refine k0.mono ?_
            rintro e w' ⟨g', c', rfl, ho3, ht3, hat3⟩
            have hn7 : ¬ ((Value.slice sa1 (reps mS).length sc1).ownBlock = some b7) := fun e => own_out (Mq.s hQ) e
            have hbx := hQ.box.of_block (ht3.block b7 hQ.lt.2 hn7)
            have hgw : ∀ i, i < l.2.length → w'.cell? ⟨gw, i, none⟩ = some (.string (wd l.2 i)) := fun i hi => by
              have h1 := HGw.out
              have h2 := hQ.b.size
              have h3 := hQ.lt.1
              rw [ht3.cell (a := ⟨gw, i, none⟩) (by show gw < _; omega) (fun e => by have h4 := ((Mq.s hQ).lt gw e).1; omega), hb.cell (p := ⟨gw, i, none⟩) (by show gw < _; have := HS.out.b.size; omega)]
              exact HVw.out i hi
            refine ⟨g', c', rfl, hbx.at' 3 (by omega), hbx.fr 3 (by omega), ⟨hgw 1 (by omega), hgw 2 (by omega), hgw 4 (by omega)⟩, ?_⟩
            show Mq _ _ _ _ _ _ _ _ _ _
            rw [hN]
            refine Mq.rep (S' := reps (mS ++ [(wd l.2 1, wd l.2 2, wd l.2 4)])) hQ ?_ ht3 (fun b e => ?_)
            · have e1 : (reps (mS ++ [(wd l.2 1, wd l.2 2, wd l.2 4)])).length = (reps mS).length + 1 := by rw [Ss.insAll_len, Ss.insAll_len, List.length_append]; rfl
              have e2 : reps (mS ++ [(wd l.2 1, wd l.2 2, wd l.2 4)]) = Ss.ins _ _ (reps mS) := Ss.insAll_snoc _ _
              rw [e1, e2]
              exact ho3
            · have e1 : g' = b := by simpa [Value.ownBlock] using e
              rw [← e1]
              exact hat3
          have hlI : (1 : Int) < (l.2.length : Int) := by omega
          have hlI2 : (2 : Int) < (l.2.length : Int) := by omega
          have hlI4 : (4 : Int) < (l.2.length : Int) := by omega
          clear hN HN HLen HVw HLC hf d1'
          go_wp2_with fail
          go_region_with (first | (go_at_call 80; refine (kp _ ((Below.refl _ _).drew)).mono ?_; rintro e w3 ⟨g', c', rfl, q1, q2, q3, HN2⟩))
          all_goals
            go_wp2
            go_roundg (good.length - (k + 1))
            case measure => omega
            case rel => exact ⟨k + 1, _, _, _, by omega, by omega, by go_num, HN2⟩
      · have hltI : ¬ ((k : Int) < (good.length : Int)) := by omega
        have hke : k = good.length := by omega
        rw [hke, HLf.out] at HS
        have HBw : Hid (Below w.heap.size w wr ∧ wr.heap[w.heap.size]? = some (.cells zM 26) ∧ w.heap.size < b7) := by
          have hb := HBW.out
          have h2 := HS.out.b
          have h3 := HB7.out
          exact ⟨hb.1.trans (h2.mono hb.1.size), by rw [h2.block w.heap.size (by omega)]; exact hb.2.1, by omega⟩
        obtain ⟨M, hMM⟩ : ∃ M, mxOf L = M := ⟨_, rfl⟩
        have HMM : Hid (mxOf L = M) := hMM
        rw [hMM] at HS
        clear hMM
        obtain ⟨mp, mR, mX, mS⟩ := M
        simp only at HS
        obtain ⟨⟨e0, e1, e2, e3⟩, f0, f1, f2, f3⟩ := HS.out.cells
        have HO6 : Hid (wr.ownsRow (b7 + 1) 29 2 rv (reqs mR).length (mcs (reqs mR)) ∧ wr.ownsRow (b7 + 1) 29 2 xv (excs mX).length (mcs (excs mX)) ∧ wr.ownsRow (b7 + 1) 137 3 sv (reps mS).length (scs (reps mS))) := ⟨HS.out.r, HS.out.x, HS.out.s⟩
        obtain ⟨ra1, rc1, rfl⟩ := own_slice' HS.out.r
        obtain ⟨xa1, xc1, rfl⟩ := own_slice' HS.out.x
        obtain ⟨sa1, sc1, rfl⟩ := own_slice' HS.out.s
        have HW : Hid (∀ a b c d, ((((wr.setCell ⟨w.heap.size, 0, none⟩ a).setCell ⟨w.heap.size, 1, none⟩ b).setCell ⟨w.heap.size, 2, none⟩ c).setCell ⟨w.heap.size, 3, none⟩ d).heap[w.heap.size]? = some (.cells #[a, b, c, d] 26)) := fun a b c d => wholeM HBw.out.2.1 a b c d
        obtain ⟨⟨g0, g1, g2, g3⟩, k0, k1, k2, k3⟩ := Dr.cells4 HBw.out.2.1
        have hws : w.heap.size < b7 + 1 := by have := HBw.out.2.2; omega
        have HEq : Hid ((reqs mR).length = mR.length ∧ (excs mX).length = mX.length ∧ (reps mS).length = mS.length) := ⟨Ss.insAll_len _, Ss.insAll_len _, Ss.insAll_len _⟩
        clear HS hke
        go_wp2
        refine bodyPost_ret (results_cell_tmp Tryz.results72 _ _ w.heap.size 26 _ (0, 0) _ _ rfl rfl (HW.out _ _ _ _) Tryz.underlying26 rfl (by kernel_rfl)) rfl ?_
        refine ⟨good, slips, m, q, _, _, _, _, _, rfl, HD.out.1, HD.out.2.1, HD.out.2.2, four_below HBw.out.1 (Nat.le_refl _) _ _ _ _, Or.inr ⟨HF2.out, rfl, ?_⟩⟩
        rw [HLe.out, HMM.out]
        refine ⟨rfl, ?_, ?_, ?_⟩
        · have h := own_down (B' := w.heap.size) (four_own (r := w.heap.size) HO6.out.1 hws (.string mp) (.slice ra1 (reqs mR).length rc1) (.slice xa1 (excs mX).length xc1) (.slice sa1 (reps mS).length sc1)) (by omega)
          rw [HEq.out.1] at h ⊢
          exact h
        · have h := own_down (B' := w.heap.size) (four_own (r := w.heap.size) HO6.out.2.1 hws (.string mp) (.slice ra1 (reqs mR).length rc1) (.slice xa1 (excs mX).length xc1) (.slice sa1 (reps mS).length sc1)) (by omega)
          rw [HEq.out.2.1] at h ⊢
          exact h
        · have h := own_down (B' := w.heap.size) (four_own (r := w.heap.size) HO6.out.2.2 hws (.string mp) (.slice ra1 (reqs mR).length rc1) (.slice xa1 (excs mX).length xc1) (.slice sa1 (reps mS).length sc1)) (by omega)
          rw [HEq.out.2.2] at h ⊢
          exact h

end Mf
end Go.Proofs.YtelmkfkgpnadnaaGreatDoor

namespace Go.Proofs.YtelmkfkgpnadnaaGreatDoor
open Go.RowKit
namespace Mf

variable {w w' : World}

set_option maxRecDepth 100000 in
set_option maxHeartbeats 4000000 in
theorem refManifest_long (s : ByteArray) (w : World) (hs : 2000 < s.size) :
    Calls Tryz.prog 72 #[.string s] w fun e w' => ∃ lv, e = .returned (.tuple #[.agg #[.string ⟨#[]⟩, .slice none 0 0, .slice none 0 0, .slice none 0 0], lv]) ∧ w'.ownsRow w.heap.size 45 3 lv 1 (scells [(0, 0, 1)]) ∧ Below w.heap.size w w' := by
  have HB0 : Hid (Below w.heap.size w (w.alloc (.cells zM 26)) ∧ (w.alloc (.cells zM 26)).heap[w.heap.size]? = some (.cells zM 26) ∧ (w.alloc (.cells zM 26)).heap.size = w.heap.size + 1) := ⟨(Below.refl _ _).alloc (Nat.le_refl _) _, heap_alloc_new _ _, by simp⟩
  have kl := fun W => slipped_long s false W hs
  go_enter Tryz.func72, Tryz.ntmps72
  go_wp2_with (go_at_call 117; fail)
  generalize w.alloc (.cells zM 26) = W1 at *
  go_at_call 117
  refine (kl _).mono ?_
  rintro e w2 ⟨la, lc, rfl, hown, hb⟩
  clear kl
  have HBW : Hid (Below w.heap.size w w2 ∧ w2.heap[w.heap.size]? = some (.cells zM 26) ∧ w.heap.size + 1 ≤ w2.heap.size) := ⟨HB0.out.1.trans (hb.mono HB0.out.1.size), by rw [hb.block w.heap.size (by rw [HB0.out.2.2]; omega)]; exact HB0.out.2.1, by rw [← HB0.out.2.2]; exact hb.size⟩
  have HO : Hid (w2.ownsRow (w.heap.size + 1) 45 3 (.slice la 1 lc) 1 (scells [(0, 0, 1)])) := by show World.ownsRow _ _ _ _ _ _ _; rw [← HB0.out.2.2]; exact hown
  obtain ⟨⟨g0, g1, g2, g3⟩, f0, f1, f2, f3⟩ := Dr.cells4 HBW.out.2.1
  have hsz4 : ∀ a b c d, ((((w2.setCell ⟨w.heap.size, 0, none⟩ a).setCell ⟨w.heap.size, 1, none⟩ b).setCell ⟨w.heap.size, 2, none⟩ c).setCell ⟨w.heap.size, 3, none⟩ d).heap.size = w2.heap.size := fun a b c d => by simp [World.setCell]
  have HW : Hid (∀ a b c d o, (((((w2.setCell ⟨w.heap.size, 0, none⟩ a).setCell ⟨w.heap.size, 1, none⟩ b).setCell ⟨w.heap.size, 2, none⟩ c).setCell ⟨w.heap.size, 3, none⟩ d).alloc o).heap[w.heap.size]? = some (.cells #[a, b, c, d] 26)) := fun a b c d o => by
    rw [Below.heap_alloc _ _ _ (by rw [hsz4]; have := HBW.out.2.2; omega)]
    exact wholeM HBW.out.2.1 a b c d
  have HZ : Hid (∀ a b c d o, Below w.heap.size w (((((w2.setCell ⟨w.heap.size, 0, none⟩ a).setCell ⟨w.heap.size, 1, none⟩ b).setCell ⟨w.heap.size, 2, none⟩ c).setCell ⟨w.heap.size, 3, none⟩ d).alloc o) ∧ (((((w2.setCell ⟨w.heap.size, 0, none⟩ a).setCell ⟨w.heap.size, 1, none⟩ b).setCell ⟨w.heap.size, 2, none⟩ c).setCell ⟨w.heap.size, 3, none⟩ d).alloc o).ownsRow w.heap.size 45 3 (.slice la 1 lc) 1 (scells [(0, 0, 1)])) := fun a b c d o => by
    have hb := four_below HBW.out.1 (Nat.le_refl _) a b c d
    refine ⟨hb.alloc hb.size o, ?_⟩
    exact own_below (own_down (B := w.heap.size + 1) (four_own (r := w.heap.size) HO.out (by omega) a b c d) (by omega)) ((Below.refl _ _).alloc (Nat.le_refl _) _)
  clear hsz4 hown hb HB0
  have hwl : w.heap.size < w2.heap.size := by have := HBW.out.2.2; omega
  go_wp2
  (try rw [Exit.noGoto_ret])
  refine bodyPost_ret (results_cell_tmp Tryz.results72 _ _ w.heap.size 26 _ (0, 0) _ _ rfl rfl (HW.out _ _ _ _ _) Tryz.underlying26 rfl (by kernel_rfl)) rfl ?_
  exact ⟨_, rfl, (HZ.out _ _ _ _ _).2, (HZ.out _ _ _ _ _).1⟩

/-- The document's Manifest. -/
theorem docManifest (s : ByteArray) (w : World) :
    Calls Tryz.prog 72 #[.string s] w fun e w' => ∃ p rv xv sv lv, e = .returned (.tuple #[.agg #[.string p, rv, xv, sv], lv]) ∧ OutM w.heap.size s w' p rv xv sv lv ∧ Below w.heap.size w w' := by
  by_cases hs : s.size ≤ 2000
  · refine (refManifest_any s w hs).mono ?_
    rintro e w' ⟨good, slips, m, q, p, rv, xv, sv, lv, rfl, hR, hgl, hsl, hb, hx⟩
    rcases hx with ⟨hne, ⟨rfl, rfl, rfl, rfl⟩, ho⟩ | ⟨hf, rfl, hp, h1, h2, h3⟩
    · have es : manSlips s = fin2 m slips := by
        unfold manSlips
        rw [if_pos hs, hR]
      exact ⟨_, _, _, _, _, rfl, outM_slips (by rw [es]; exact hne) (by rw [es]; exact fin2_len hsl) (by rw [es]; exact ho), hb⟩
    · exact ⟨_, _, _, _, _, rfl, outM_good hs hR hgl hf hp h1 h2 h3, hb⟩
  · refine (refManifest_long s w (by omega)).mono ?_
    rintro e w' ⟨lv, rfl, ho, hb⟩
    have es : manSlips s = [(0, 0, 1)] := if_neg hs
    exact ⟨_, _, _, _, _, rfl, outM_slips (by rw [es]; simp) (by rw [es]; simp) (by rw [es]; exact ho), hb⟩

end Mf
end Go.Proofs.YtelmkfkgpnadnaaGreatDoor
