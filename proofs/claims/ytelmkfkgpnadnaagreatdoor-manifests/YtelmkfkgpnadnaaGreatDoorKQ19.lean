/-
  The document's answer, of a manifest: the lines without a slip, and the slips.
-/
import Derived.Test.YtelmkfkgpnadnaaGreatDoorKQH
import Derived.Test.YtelmkfkgpnadnaaGreatDoorKB1
import Derived.Test.YtelmkfkgpnadnaaGreatDoorKCB
namespace Go.Proofs.YtelmkfkgpnadnaaGreatDoor
open Go.RowKit
namespace Mf

variable {w w' : World}

set_option maxRecDepth 100000 in
set_option maxHeartbeats 16000000 in
theorem slipped_any (s : ByteArray) (w : World) (hs : s.size ≤ 2000) :
    Calls Tryz.prog 117 #[.string s, .bool false] w fun e w' => ∃ (gv sv : Value) (good : List OLn) (gxs : List Value) (slips : List (Nat × Nat × Nat)) (Wl : World) (m q : Nat), e = .returned (.tuple #[gv, sv]) ∧ Below w.heap.size w Wl ∧
      (Tx.docLines [] 1 [] false false 0 s.data.toList).foldl (Tx.stepDoc false Pv.isPath 20) got0 = ⟨olns good, slips, m, q⟩ ∧ (∀ g ∈ good, ∃ ks, Ok g.2 ks) ∧ good.length ≤ 2001 ∧ slips.length ≤ 2001 ∧
      ((m = 0 ∧ good = [] ∧ slips = [] ∧ gv = .slice none 0 0 ∧ Below w.heap.size w w' ∧ w'.ownsRow w.heap.size 45 3 sv 1 (scells [(0, 0, 2)])) ∨ (m ≠ 0 ∧ Sl Wl gv sv good gxs slips w')) := by
  obtain ⟨i1, hi1, hi2, hi3, hi4⟩ := info181
  have HI : Hid (Tryz.prog.info? 210 = some i1 ∧ i1.zero = some (.agg #[.int .i64 0, .slice none 0 0, .slice none 0 0, .int .i64 0]) ∧ i1.size = 4 ∧ i1.bytes = 64) := ⟨hi1, hi2, hi3, hi4⟩
  clear hi1 hi2 hi3 hi4
  obtain ⟨i2, hi1, hi2, hi3, hi4⟩ := info45
  have HJ : Hid (Tryz.prog.info? 45 = some i2 ∧ i2.zero = some (.agg #[.int .i64 0, .int .i64 0, .int .i64 0]) ∧ i2.size = 3 ∧ i2.bytes = 24) := ⟨hi1, hi2, hi3, hi4⟩
  clear hi1 hi2 hi3 hi4
  have kl := lines_any s w hs
  obtain ⟨D, hD⟩ : ∃ D, Tx.docLines [] 1 [] false false 0 s.data.toList = D := ⟨_, rfl⟩
  have HDD : Hid (Tx.docLines [] 1 [] false false 0 s.data.toList = D) := hD
  rw [hD] at kl ⊢
  obtain ⟨R, hR⟩ : ∃ R, D.foldl (Tx.stepDoc false Pv.isPath 20) got0 = R := ⟨_, rfl⟩
  rw [hR]
  have HR : Hid (D.foldl (Tx.stepDoc false Pv.isPath 20) got0 = R) := hR
  clear hD hR
  have hsI : ¬ (s.size : Int) > 2000 := by omega
  go_enter Tryz.func117, Tryz.ntmps117
  go_wp2_with (go_at_call 160; fail)
  go_at_call 160
  refine kl.mono ?_
  rintro e Wl ⟨ov, all, xs, T, rfl, hall, hlen, hoo, hlines, hlow, htO, hb⟩
  clear kl
  obtain ⟨oa, oc, rfl⟩ := own_slice hoo
  have HO : Hid (Wl.ownsRow 0 210 4 (.slice oa all.length oc) all.length xs) := hoo
  have HLi : Hid (AllLines Wl (fun b => b < Wl.heap.size) all xs) := hlines.turn (Nat.le_refl _) (fun k hk _ => ⟨rfl, hk⟩)
  have HB : Hid (Below w.heap.size w Wl) := hb
  have HSm : Hid (∀ l ∈ all, ∀ x ∈ l.2, x.2.size ≤ 4000) := fun l hl x hx => by have := lines_small (hall.trans HDD.out.symm) l hl x hx; omega
  have HR0 : Hid ((olns (all.drop 0)).foldl (Tx.stepDoc false Pv.isPath 20) ⟨olns [], [], 0, 0⟩ = R) := by
    show _ = _
    rw [List.drop_zero, hall]
    exact HR.out
  clear hall hoo hlines hlow htO hb HR
  by_cases h0 : all.length = 0
  · have hq : ((all.length : Int) == 0) = true := by simp [h0]
    have he : all = [] := List.length_eq_zero_iff.1 h0
    subst he
    have HRe : Hid (R = ⟨[], [], 0, 0⟩) := HR0.out.symm
    clear HR0 h0
    have HOS : Hid ((Wl.alloc (.cells #[.int .i64 0, .int .i64 0, .int .i64 2] 45)).ownsRow Wl.heap.size 45 3 (.slice (some ⟨Wl.heap.size, 0, none⟩) 1 1) 1 (scells [(0, 0, 2)])) := own_one_slip Wl 0 0 2
    have HBS : Hid (Below w.heap.size w (Wl.alloc (.cells #[.int .i64 0, .int .i64 0, .int .i64 2] 45))) := HB.out.alloc HB.out.size _
    go_wp2
    go_ret2
    exact ⟨_, _, [], [], [], Wl, 0, 0, rfl, HB.out, HRe.out, (fun x hx => by cases hx), by simp, by simp, Or.inl ⟨rfl, rfl, rfl, rfl, HBS.out, own_down HOS.out HB.out.size⟩⟩
  · have hq : ((all.length : Int) == 0) = false := by rw [beq_eq_false_iff_ne]; omega
    have hall0 : 0 < all.length := by omega
    clear h0
    go_wp2
    go_loopg [7, 8, 9, 10] all.length (fun gg g sl rq i wr => ∃ (k : Nat) (good : List OLn) (gxs : List Value) (slips : List (Nat × Nat × Nat)) (rn : Nat), k ≤ all.length ∧ all.length - k ≤ gg ∧ i = .int .i64 k ∧ rq = .int .i64 rn ∧ good.length ≤ k ∧ slips.length ≤ k ∧ rn ≤ k ∧ Hid (Sl Wl g sl good gxs slips wr) ∧ Hid (∀ x ∈ good, ∃ ks, Ok x.2 ks) ∧ Hid ((olns (all.drop k)).foldl (Tx.stepDoc false Pv.isPath 20) ⟨olns good, slips, k, rn⟩ = R))
    case atStart => exact ⟨0, [], [], [], 0, by omega, by omega, rfl, rfl, by simp, by simp, by omega, sl_start Wl, (fun x hx => by cases hx), HR0⟩
    case round =>
      clear HR0
      obtain ⟨k, good, gxs, slips, rn, hk, hgk, rfl, rfl, hgl, hsl, hrn, HS, HG, HRk⟩ := hrel
      by_cases hlt : k < all.length
      · obtain ⟨ob, hoa⟩ : ∃ ob, oa = some ⟨ob, 0, none⟩ := by
          obtain ⟨g, c, e⟩ := own_some HO.out (by omega)
          injection e with e1
          exact ⟨g, e1⟩
        subst hoa
        obtain ⟨gw, cw, ga, ca, a0, a1, a2, a3, hLL, hvw, hgwl⟩ := lineCells HLi.out HO.out k hlt
        have hbw := HS.out.old
        have hobl := (HO.out.lt ob rfl).2
        have d0 : wr.cell? ⟨ob, k * 4, none⟩ = _ := (hbw.cell (p := ⟨ob, k * 4, none⟩) hobl).trans a0
        have d1 : wr.cell? ⟨ob, k * 4 + 1, none⟩ = _ := (hbw.cell (p := ⟨ob, k * 4 + 1, none⟩) hobl).trans a1
        have d2 : wr.cell? ⟨ob, k * 4 + 2, none⟩ = _ := (hbw.cell (p := ⟨ob, k * 4 + 2, none⟩) hobl).trans a2
        have d3 : wr.cell? ⟨ob, k * 4 + 3, none⟩ = _ := (hbw.cell (p := ⟨ob, k * 4 + 3, none⟩) hobl).trans a3
        have hltI : (k : Int) < (all.length : Int) := by omega
        have HRn : Hid ((olns (all.drop (k + 1))).foldl (Tx.stepDoc false Pv.isPath 20) (Tx.stepDoc false Pv.isPath 20 ⟨olns good, slips, k, rn⟩ (all[k].1, wtoks all[k].2)) = R) := by
          have := HRk.out
          rw [List.drop_eq_getElem_cons hlt] at this
          exact this
        have HSz : Hid (∀ x ∈ all[k].2, x.2.size ≤ 4000) := HSm.out all[k] (List.getElem_mem hlt)
        clear HRk a0 a1 a2 a3
        generalize all[k] = l at *
        have hlne : l.2 ≠ [] := by obtain ⟨_, _, _, _, _, h, _⟩ := hLL; exact h
        have hLr : LineLies wr (fun b => b < Wl.heap.size) l [.int .i64 l.1, .slice (some ⟨gw, 0, none⟩) l.2.length cw, .slice (some ⟨ga, 0, none⟩) l.2.length ca, .int .i64 (Tx.fin (wtoks l.2))] := hLL.turn hbw.size (fun b hb ht => ⟨hbw.block b hb, ht⟩)
        have HLr : Hid (LineLies wr (fun b => b < Wl.heap.size) l [.int .i64 l.1, .slice (some ⟨gw, 0, none⟩) l.2.length cw, .slice (some ⟨ga, 0, none⟩) l.2.length ca, .int .i64 (Tx.fin (wtoks l.2))] ∧ l.2 ≠ []) := ⟨hLr, hlne⟩
        clear hLL hLr hlne hvw hbw
        obtain ⟨x0, rest, hx⟩ : ∃ x0 rest, l.2 = x0 :: rest := by
          cases h : l.2 with
          | nil => exact absurd h HLr.out.2
          | cons a b => exact ⟨a, b, rfl⟩
        have hg0 : wr.cell? ⟨gw, 0, none⟩ = some (.string x0.2) := by
          obtain ⟨_, _, _, _, e, _, hv, _⟩ := HLr.out.1
          simp only [List.cons.injEq, Value.slice.injEq, Option.some.injEq, Addr.mk.injEq, and_true, true_and] at e
          have := hv.at' 0 (by rw [hx]; simp)
          rw [← e.1.1, hx] at this
          exact this
        obtain ⟨xa, xk, hsv, hown⟩ := slipV_shapeM l
        have HX : Hid (l.2 = x0 :: rest) := hx
        have HOW : Hid ((Tx.own false Pv.isPath (wtoks l.2) = some (xa, xk) ∧ 0 < xk) ∨ (Tx.own false Pv.isPath (wtoks l.2) = none ∧ xk = 0)) := hown
        have HP0 : Hid (P5 (wr.alloc (.cells #[.int .i64 l.1, .slice (some ⟨gw, 0, none⟩) l.2.length cw, .slice (some ⟨ga, 0, none⟩) l.2.length ca, .int .i64 (Tx.fin (wtoks l.2))] 210)) wr.heap.size gw ga l.2.length cw ca l.1 (Tx.fin (wtoks l.2)) x0.2) := p5_new hg0 210
        have HBn : Hid (Below wr.heap.size wr (wr.alloc (.cells #[.int .i64 l.1, .slice (some ⟨gw, 0, none⟩) l.2.length cw, .slice (some ⟨ga, 0, none⟩) l.2.length ca, .int .i64 (Tx.fin (wtoks l.2))] 210))) := (Below.refl _ _).alloc (Nat.le_refl _) _
        clear hown hx hg0
        go_upto_region 13 with fail
        clear d0 d1 d2 d3
        generalize wr.alloc (.cells #[.int .i64 l.1, .slice (some ⟨gw, 0, none⟩) l.2.length cw, .slice (some ⟨ga, 0, none⟩) l.2.length ca, .int .i64 (Tx.fin (wtoks l.2))] 210) = W1 at *
        have HS1 : Hid (Sl Wl u7 u8 good gxs slips W1) := HS.out.below HBn.out
        have HL1 : Hid (LineLies W1 (fun b => b < Wl.heap.size) l [.int .i64 l.1, .slice (some ⟨gw, 0, none⟩) l.2.length cw, .slice (some ⟨ga, 0, none⟩) l.2.length ca, .int .i64 (Tx.fin (wtoks l.2))]) := HLr.out.1.turn HBn.out.size (fun b hb ht => ⟨HBn.out.block b hb, ht⟩)
        clear HS HBn
        go_cut [12] (fun xp wx => ∃ xb, xp = .pointer (some ⟨xb, 0, none⟩) ∧ Hid (Below W1.heap.size W1 wx ∧ W1.heap.size ≤ xb ∧ ValsAt wx xb 3 (fun f => if f = 0 then .int .i64 l.1 else if f = 1 then .int .i64 xa else .int .i64 xk)))
        case first =>
          obtain ⟨p0, p1, p2, p3, p4⟩ := HP0.out
          have kf := fun W => form_any x0.2 W
          have kw : ∀ W, Below W1.heap.size W1 W → Calls Tryz.prog 161 #[.agg #[.int .i64 l.1, .slice (some ⟨gw, 0, none⟩) l.2.length cw, .slice (some ⟨ga, 0, none⟩) l.2.length ca, .int .i64 (Tx.fin (wtoks l.2))], .string (formM x0.2)] W fun e w' => e = .returned (.agg #[.int .i64 l.1, .int .i64 xa, .int .i64 xk]) ∧ Below W.heap.size W w' := fun W hb => by
            have h1 := HL1.out.turn (w' := W) hb.size (C := fun b => b < Wl.heap.size) (fun b hb' ht => ⟨hb.block b hb', ht⟩)
            have := wrong_any h1 HSz.out
            have hx0 : wd l.2 0 = x0.2 := by unfold wd; rw [HX.out]; rfl
            rw [hsv, hx0] at this
            exact this
          have hpos : (0 : Int) < (l.2.length : Int) := by have h := HX.out; rw [h]; simp only [List.length_cons]; omega
          have HPd : Hid (∀ W, Below W1.heap.size W1 W → P5 W wr.heap.size gw ga l.2.length cw ca l.1 (Tx.fin (wtoks l.2)) x0.2) := fun W hb => HP0.out.below hb
          have hposN : 0 < l.2.length := by have h := HX.out; rw [h]; simp
          generalize l.2.length = m at *
          go_region_held3 (fun w' => w'.cell? ⟨wr.heap.size, 0, none⟩ = some (.int .i64 l.1) ∧ w'.cell? ⟨wr.heap.size, 1, none⟩ = some (.slice (some ⟨gw, 0, none⟩) m cw) ∧ w'.cell? ⟨wr.heap.size, 2, none⟩ = some (.slice (some ⟨ga, 0, none⟩) m ca) ∧ w'.cell? ⟨wr.heap.size, 3, none⟩ = some (.int .i64 (Tx.fin (wtoks l.2))) ∧ w'.cell? ⟨gw, 0, none⟩ = some (.string x0.2))
            (first | exact ⟨p0, p1, p2, p3, p4⟩ | exact HPd.out _ ((Below.refl _ _).drew) | exact HPd.out _ (below_alloc ((Below.refl _ _).drew) _) | exact HPd.out _ hbB | exact HPd.out _ (below_alloc hbB _) | exact HPd.out _ (((hbB.setCell (by simp) _).setCell (by simp) _).setCell (by simp) _))
            (first | (go_at_call 162; refine (kf _).mono ?_; rintro e w2 ⟨rfl, rfl⟩) | (go_at_call 161; refine (kw _ ((Below.refl _ _).drew)).mono ?_; rintro e w3 ⟨rfl, hbB'⟩; have hbB : Below W1.heap.size W1 w3 := ((Below.refl W1.heap.size W1).drew).trans hbB'; clear hbB') | (go_at_call 161; refine (kw _ (below_alloc ((Below.refl _ _).drew) _)).mono ?_; rintro e w3 ⟨rfl, hbB'⟩; have hbB : Below W1.heap.size W1 w3 := (below_alloc ((Below.refl W1.heap.size W1).drew) _).trans (hbB'.mono (by simp)); have hvx : ValsAt w3 W1.heap.size 3 (fun _ => .int .i64 0) := (vals3 W1.drew 45).of_block (hbB'.block _ (by simp)); have z0 := hvx.at' 0 (by omega); have z1 := hvx.at' 1 (by omega); have z2 := hvx.at' 2 (by omega); have y0 := hvx.fr 0 (by omega); have y1 := hvx.fr 1 (by omega); have y2 := hvx.fr 2 (by omega); clear hbB'))
          all_goals
            go_wp2_with fail
            go_meet
            first
              | exact ⟨w3.heap.size, rfl, below_alloc hbB _, hbB.size, vals3x w3 _ _ _ 45⟩
              | exact ⟨W1.heap.size, rfl, ((hbB.setCell (Nat.le_refl _) _).setCell (Nat.le_refl _) _).setCell (Nat.le_refl _) _, Nat.le_refl _, vals3s hvx _ _ _⟩
        case rest =>
          obtain ⟨xb, h12, HC⟩ := hcut
          rw [h12]
          clear h12
          have HSc : Hid (Sl Wl u7 u8 good gxs slips wc) := HS1.out.below HC.out.1
          have HLc : Hid (LineLies wc (fun b => b < Wl.heap.size) l [.int .i64 l.1, .slice (some ⟨gw, 0, none⟩) l.2.length cw, .slice (some ⟨ga, 0, none⟩) l.2.length ca, .int .i64 (Tx.fin (wtoks l.2))]) := HL1.out.turn HC.out.1.size (fun b hb ht => ⟨HC.out.1.block b hb, ht⟩)
          have HPc : Hid (P5 wc wr.heap.size gw ga l.2.length cw ca l.1 (Tx.fin (wtoks l.2)) x0.2) := HP0.out.below HC.out.1
          have HXc : Hid (ValsAt wc xb 3 (fun f => if f = 0 then .int .i64 l.1 else if f = 1 then .int .i64 xa else .int .i64 xk)) := HC.out.2.2
          have HXb : Hid (W1.heap.size ≤ xb ∧ xb < wc.heap.size) := ⟨HC.out.2.1, World.block_lt_of_cell? wc _ (HC.out.2.2.at' 0 (by omega))⟩
          have e0 : wc.cell? ⟨xb, 0, none⟩ = some (.int .i64 l.1) := HXc.out.at' 0 (by omega)
          have e1 : wc.cell? ⟨xb, 1, none⟩ = some (.int .i64 xa) := HXc.out.at' 1 (by omega)
          have e2 : wc.cell? ⟨xb, 2, none⟩ = some (.int .i64 xk) := HXc.out.at' 2 (by omega)
          have HWs : Hid (Wl.heap.size ≤ W1.heap.size) := HS1.out.old.size
          have HNE : Hid (u7.ownBlock ≠ some xb ∧ u8.ownBlock ≠ some xb) := ⟨fun e => by have h5 := (HS1.out.og.lt xb e).2; have h6 := HC.out.2.1; omega, fun e => by have h5 := (HS1.out.os.lt xb e).2; have h6 := HC.out.2.1; omega⟩
          clear HC HS1 HL1 HP0 HLr e0 e1 e2
          obtain ⟨go, gc, hu7⟩ := own_slice' HSc.out.og
          subst hu7
          have hx0 : x0.2 = wd l.2 0 := by unfold wd; rw [HX.out]; rfl
          have hlne : l.2 ≠ [] := by rw [HX.out]; simp
          have HGA : Hid (wc.cell? ⟨ga, 0, none⟩ = some (.int .i64 (l.2.getD 0 pad).1) ∧ ValsAt wc gw l.2.length (fun j => .string (l.2.getD j pad).2)) := by
            obtain ⟨_, _, _, _, e, hne, hv, ha, _⟩ := HLc.out
            simp only [List.cons.injEq, Value.slice.injEq, Option.some.injEq, Addr.mk.injEq, and_true, true_and] at e
            have h4 := ha.at' 0 (List.length_pos_iff.2 hne)
            first
              | rw [← e.1.1] at hv
              | rw [← e.1] at hv
            first
              | rw [← e.2.1.1] at h4
              | rw [← e.2.1] at h4
            exact ⟨h4, hv⟩
          have HStep : Hid (∀ a q, Tx.slip false Pv.isPath (k == 0) (dupM good l.2) (rn == 20) (wtoks l.2) = some (a, q) → (olns (all.drop (k + 1))).foldl (Tx.stepDoc false Pv.isPath 20) ⟨olns good, slips ++ [(l.1, a, q)], k + 1, rn⟩ = R) := fun a q h => by
            have h3 := HRn.out
            rw [step_slipM ((slip_dupM good l.2 hlne HG.out (k == 0) (rn == 20)).trans h)] at h3
            exact h3
          have HKeep : Hid (Tx.slip false Pv.isPath (k == 0) (dupM good l.2) (rn == 20) (wtoks l.2) = none → (olns (all.drop (k + 1))).foldl (Tx.stepDoc false Pv.isPath 20) ⟨olns (good ++ [l]), slips, k + 1, if (wd l.2 0).data.toList == Tx.wR then rn + 1 else rn⟩ = R) := fun h => by
            have h3 := HRn.out
            rw [step_goodM hlne ((slip_dupM good l.2 hlne HG.out (k == 0) (rn == 20)).trans h)] at h3
            exact h3
          have HPart := slip_parts (k == 0) (dupM good l.2) (rn == 20) l.2 hlne
          have HPt : Hid (Tx.slip false Pv.isPath (k == 0) (dupM good l.2) (rn == 20) (wtoks l.2) = if (((wd l.2 0).data.toList == Tx.wM) != (k == 0)) then some ((l.2.getD 0 pad).1, 2) else match Tx.own false Pv.isPath (wtoks l.2) with
            | some x => some x
            | none => if dupM good l.2 then some ((l.2.getD 0 pad).1, 8) else if (wd l.2 0).data.toList = Tx.wR ∧ (rn == 20) = true then some ((l.2.getD 0 pad).1, 9) else none) := HPart
          have HOkk : Hid (Tx.own false Pv.isPath (wtoks l.2) = none → ∃ ks, Ok l.2 ks) := fun h => own_ok hlne h
          clear HPart HRn HX
          have hxl : Wl.heap.size ≤ xb := by have h5 := HXb.out.1; have h6 := HWs.out; omega
          have hposI : (0 : Int) < (l.2.length : Int) := by have := List.length_pos_iff.2 hlne; omega
          rw [hx0] at HPc
          have fM : ((wd l.2 0).toList == [109, 111, 100, 117, 108, 101]) = ((wd l.2 0).data.toList == Tx.wM) := beq_wd _ _
          have fR : ((wd l.2 0).toList == [114, 101, 113, 117, 105, 114, 101]) = ((wd l.2 0).data.toList == Tx.wR) := beq_wd _ _
          have fk : ((k : Int) == 0) = (k == 0) := by rw [Bool.eq_iff_iff]; simp only [beq_iff_eq]; omega
          have fq : ((rn : Int) == 20) = (rn == 20) := by rw [Bool.eq_iff_iff]; simp only [beq_iff_eq]; omega
          have HR9 : Hid (((wd l.2 0).data.toList == Tx.wR) = true ↔ (wd l.2 0).data.toList = Tx.wR) := beq_iff_eq
          clear hx0 hlne
          generalize hml : l.2.length = m at *
          generalize (l.2.getD 0 pad).1 = a0 at *
          generalize hz0 : wd l.2 0 = z0 at *
          have HZ0 : Hid (wd l.2 0 = z0) := hz0
          clear hz0
          have ga4 : wc.cell? ⟨ga, 0, none⟩ = some (.int .i64 a0) := HGA.out.1
          generalize hbM : (z0.data.toList == Tx.wM) = bM at *
          generalize hbR : (z0.data.toList == Tx.wR) = bR at *
          have HbR : Hid ((z0.data.toList == Tx.wR) = bR) := hbR
          generalize (k == 0) = bk at *
          generalize (rn == 20) = bq at *
          clear hbM hbR
          have hbne : (bM != bk) = !(bM == bk) := rfl
          rw [hbne] at HPt
          clear hbne
          generalize hd2 : (!(bM == bk)) = d2 at *
          cases d2
          · rcases HOW.out with ⟨hown, hpos⟩ | ⟨hown, hz⟩
            · have HRs : Hid ((olns (all.drop (k + 1))).foldl (Tx.stepDoc false Pv.isPath 20) ⟨olns good, slips ++ [(l.1, xa, xk)], k + 1, rn⟩ = R) := HStep.out _ _ (by rw [HPt.out, hown]; rfl)
              have q0 : ((xk : Int) == 0) = false := by rw [beq_eq_false_iff_ne]; omega
              have q1 : (0 : Int) < (xk : Int) := by omega
              obtain ⟨p0, p1, p2, p3, p4⟩ := HPc.out
              have e0 : wc.cell? ⟨xb, 0, none⟩ = some (.int .i64 l.1) := HXc.out.at' 0 (by omega)
              have e1 : wc.cell? ⟨xb, 1, none⟩ = some (.int .i64 xa) := HXc.out.at' 1 (by omega)
              have e2 : wc.cell? ⟨xb, 2, none⟩ = some (.int .i64 xk) := HXc.out.at' 2 (by omega)
              have k0 := HXc.out.fr 0 (by omega)
              have k1 := HXc.out.fr 1 (by omega)
              have k2 := HXc.out.fr 2 (by omega)
              clear HStep HKeep HPt hown HOW HLc HOkk hpos HPc HGA HbR HR9 k0 k1 k2 HXc HXb
              go_wp2_with (at_builtin; refine wpList_append_own_at _ rfl _ _ 38 rfl Wl.heap.size 45 i2 (.agg #[.int .i64 0, .int .i64 0, .int .i64 0]) 3 24 Tryz.underlying38 HJ.out.1 HJ.out.2.1 HJ.out.2.2.1 HJ.out.2.2.2 rfl (by decide) _ _ _ rfl (HSc.out.os.alloc _) ⟨wc.heap.size, 0, none⟩ 1 1 [.int .i64 l.1, .int .i64 xa, .int .i64 xk] rfl rfl ?_ ?_ ?_ ?_ ?_ ?_)
              all_goals first
                | exact cell_three_new _ _ _ _ _
                | (show ∀ u ∈ [Value.int .i64 (l.1 : Int), Value.int .i64 (xa : Int), Value.int .i64 (xk : Int)], u.oneCell' = true; intro u hu; simp at hu; rcases hu with rfl | rfl | rfl <;> rfl)
                | (show slips.length + 1 ≤ maxLen; unfold maxLen; omega)
                | (show (slips.length + 1) * 24 ≤ 140737488355328; omega)
                | (show Wl.heap.size ≤ (wc.alloc _).heap.size; have := HSc.out.old.size; simp; omega)
                | (show Wl.heap.size ≤ wc.heap.size + 1; have := HSc.out.old.size; omega)
                | skip
              intro sv' w6 hown' hgrow _ hloc
              have HS6 : Hid (Sl Wl (.slice go good.length gc) sv' good gxs (slips ++ [(l.1, xa, xk)]) w6) := HSc.out.slip _ (l.1, xa, xk) hown' hgrow (by
                rcases hloc with e | e
                · exact Or.inl e
                · exact Or.inr (by rw [e]; simp))
              clear hown' hgrow hloc HSc e0 e1 e2
              go_wp2
              go_roundg (all.length - (k + 1))
              case measure => omega
              case rel => exact ⟨k + 1, good, gxs, slips ++ [(l.1, xa, xk)], rn, by omega, by omega, by go_num, rfl, by omega, by simp; omega, by omega, HS6, HG, HRs⟩
            · subst hz
              obtain ⟨ks, hok⟩ := HOkk.out hown
              have ka := again_all (n := l.1) (ga := ga) (cw := cw) (ca := ca) (en := Tx.fin (wtoks l.2)) hok (by omega) HSc.out.og HSc.out.lie HG.out (by rw [hml]; exact HGA.out.2)
              rw [hml] at ka
              have HOl : Hid (∃ ks, Ok l.2 ks) := ⟨ks, hok⟩
              have HS8 : Hid (dupM good l.2 = true → (olns (all.drop (k + 1))).foldl (Tx.stepDoc false Pv.isPath 20) ⟨olns good, slips ++ [(l.1, a0, 8)], k + 1, rn⟩ = R) := fun h => HStep.out _ _ (by rw [HPt.out, hown, h]; rfl)
              have HS9 : Hid (dupM good l.2 = false → bR = true → bq = true → (olns (all.drop (k + 1))).foldl (Tx.stepDoc false Pv.isPath 20) ⟨olns good, slips ++ [(l.1, a0, 9)], k + 1, rn⟩ = R) := fun h h1 h2 => HStep.out _ _ (by
                rw [HPt.out, hown, h]
                simp only [Bool.false_eq_true, if_false]
                rw [if_pos ⟨HR9.out.1 h1, h2⟩])
              have HSk : Hid (dupM good l.2 = false → ¬ (bR = true ∧ bq = true) → (olns (all.drop (k + 1))).foldl (Tx.stepDoc false Pv.isPath 20) ⟨olns (good ++ [l]), slips, k + 1, if bR then rn + 1 else rn⟩ = R) := fun h h1 => HKeep.out (by
                rw [HPt.out, hown, h]
                simp only [Bool.false_eq_true, if_false]
                rw [if_neg (fun hh => h1 ⟨HR9.out.2 hh.1, hh.2⟩)])
              clear HStep HKeep HPt hown HOW HOkk hok HbR HR9
              generalize hdd : dupM good l.2 = dd at *
              clear hdd
              obtain ⟨p0, p1, p2, p3, p4⟩ := HPc.out
              have e0 : wc.cell? ⟨xb, 0, none⟩ = some (.int .i64 l.1) := HXc.out.at' 0 (by omega)
              have e1 : wc.cell? ⟨xb, 1, none⟩ = some (.int .i64 xa) := HXc.out.at' 1 (by omega)
              have e2 : wc.cell? ⟨xb, 2, none⟩ = some (.int .i64 0) := HXc.out.at' 2 (by omega)
              have k0 := HXc.out.fr 0 (by omega)
              have k1 := HXc.out.fr 1 (by omega)
              have k2 := HXc.out.fr 2 (by omega)
              go_wp2_with (go_at_call 163; fail)
              go_at_call 163
              refine ka.mono ?_
              rintro e w4 ⟨rfl, hb4⟩
              have HS4 : Hid (Sl Wl (.slice go good.length gc) u8 good gxs slips w4) := HSc.out.below hb4
              have HL4 : Hid (LineLies w4 (fun b => b < Wl.heap.size) l [.int .i64 l.1, .slice (some ⟨gw, 0, none⟩) m cw, .slice (some ⟨ga, 0, none⟩) m ca, .int .i64 (Tx.fin (wtoks l.2))]) := HLc.out.turn hb4.size (fun b hb ht => ⟨hb4.block b hb, ht⟩)
              have HX4 : Hid (ValsAt w4 xb 3 (fun f => if f = 0 then .int .i64 l.1 else if f = 1 then .int .i64 xa else .int .i64 ((0 : Nat) : Int))) := HXc.out.of_block (hb4.block xb HXb.out.2)
              have HP4 : Hid (P5 w4 wr.heap.size gw ga m cw ca l.1 (Tx.fin (wtoks l.2)) z0) := HPc.out.below hb4
              have ga5 : w4.cell? ⟨ga, 0, none⟩ = some (.int .i64 a0) := by
                rw [hb4.cell (p := ⟨ga, 0, none⟩) (World.block_lt_of_cell? wc _ ga4)]; exact ga4
              clear ka p0 p1 p2 p3 p4 HPc HLc HXc HSc HGA e0 e1 e2 k0 k1 k2 ga4 hb4
              have ga4 := ga5
              clear ga5
              obtain ⟨p0, p1, p2, p3, p4⟩ := HP4.out
              have e0 : w4.cell? ⟨xb, 0, none⟩ = some (.int .i64 l.1) := HX4.out.at' 0 (by omega)
              have e1 : w4.cell? ⟨xb, 1, none⟩ = some (.int .i64 xa) := HX4.out.at' 1 (by omega)
              have e2 : w4.cell? ⟨xb, 2, none⟩ = some (.int .i64 0) := HX4.out.at' 2 (by omega)
              have k0 := HX4.out.fr 0 (by omega)
              have k1 := HX4.out.fr 1 (by omega)
              have k2 := HX4.out.fr 2 (by omega)
              cases dd
              · cases bR
                · have HRs : Hid ((olns (all.drop (k + 1))).foldl (Tx.stepDoc false Pv.isPath 20) ⟨olns (good ++ [l]), slips, k + 1, rn⟩ = R) := HSk.out rfl (fun h => by cases h.1)
                  clear HSk HS9 HS8
                  go_wp2_with (at_builtin; refine wpList_append_own_at _ rfl _ _ 206 rfl Wl.heap.size 210 i1 (.agg #[.int .i64 0, .slice none 0 0, .slice none 0 0, .int .i64 0]) 4 64 Tryz.underlying206 HI.out.1 HI.out.2.1 HI.out.2.2.1 HI.out.2.2.2 rfl (by decide) _ _ _ rfl (HS4.out.og.alloc _) ⟨w4.heap.size, 0, none⟩ 1 1 [.int .i64 l.1, .slice (some ⟨gw, 0, none⟩) m cw, .slice (some ⟨ga, 0, none⟩) m ca, .int .i64 (Tx.fin (wtoks l.2))] rfl rfl ?_ ?_ ?_ ?_ ?_ ?_)
                  all_goals first
                    | exact cell_four_new _ _ _ _ _ _
                    | (show ∀ u ∈ [Value.int .i64 (l.1 : Int), Value.slice (some ⟨gw, 0, none⟩) m cw, Value.slice (some ⟨ga, 0, none⟩) m ca, Value.int .i64 (Tx.fin (wtoks l.2) : Int)], u.oneCell' = true; intro u hu; simp at hu; rcases hu with rfl | rfl | rfl | rfl <;> rfl)
                    | (show good.length + 1 ≤ maxLen; unfold maxLen; omega)
                    | (show (good.length + 1) * 64 ≤ 140737488355328; omega)
                    | (show Wl.heap.size ≤ (w4.alloc _).heap.size; have := HS4.out.old.size; simp; omega)
                    | (show Wl.heap.size ≤ w4.heap.size + 1; have := HS4.out.old.size; omega)
                    | skip
                  intro gv' w5 hown' hgrow _ hloc
                  have HS5 : Hid (Sl Wl gv' u8 (good ++ [l]) (gxs ++ [.int .i64 l.1, .slice (some ⟨gw, 0, none⟩) m cw, .slice (some ⟨ga, 0, none⟩) m ca, .int .i64 (Tx.fin (wtoks l.2))]) slips w5) := HS4.out.line _ HL4.out hown' hgrow (by
                    rcases hloc with e | e
                    · exact Or.inl e
                    · exact Or.inr (by rw [e]; simp))
                  have HG2 : Hid (∀ x ∈ good ++ [l], ∃ ks, Ok x.2 ks) := fun x hx => by
                    rcases List.mem_append.1 hx with h | h
                    · exact HG.out x h
                    · have e : x = l := by simpa using h
                      rw [e]; exact HOl.out
                  clear hown' hgrow hloc HS4 e0 e1 e2 k0 k1 k2 p0 p1 p2 p3 p4 ga4
                  go_wp2
                  go_roundg (all.length - (k + 1))
                  case measure => omega
                  case rel => exact ⟨k + 1, good ++ [l], _, slips, rn, by omega, by omega, by go_num, by first | rfl | go_num, by simp; omega, by omega, by omega, HS5, HG2, HRs⟩
                · cases bq
                  · have HRs : Hid ((olns (all.drop (k + 1))).foldl (Tx.stepDoc false Pv.isPath 20) ⟨olns (good ++ [l]), slips, k + 1, rn + 1⟩ = R) := HSk.out rfl (fun h => by cases h.2)
                    clear HSk HS9 HS8
                    go_wp2_with (at_builtin; refine wpList_append_own_at _ rfl _ _ 206 rfl Wl.heap.size 210 i1 (.agg #[.int .i64 0, .slice none 0 0, .slice none 0 0, .int .i64 0]) 4 64 Tryz.underlying206 HI.out.1 HI.out.2.1 HI.out.2.2.1 HI.out.2.2.2 rfl (by decide) _ _ _ rfl (HS4.out.og.alloc _) ⟨w4.heap.size, 0, none⟩ 1 1 [.int .i64 l.1, .slice (some ⟨gw, 0, none⟩) m cw, .slice (some ⟨ga, 0, none⟩) m ca, .int .i64 (Tx.fin (wtoks l.2))] rfl rfl ?_ ?_ ?_ ?_ ?_ ?_)
                    all_goals first
                      | exact cell_four_new _ _ _ _ _ _
                      | (show ∀ u ∈ [Value.int .i64 (l.1 : Int), Value.slice (some ⟨gw, 0, none⟩) m cw, Value.slice (some ⟨ga, 0, none⟩) m ca, Value.int .i64 (Tx.fin (wtoks l.2) : Int)], u.oneCell' = true; intro u hu; simp at hu; rcases hu with rfl | rfl | rfl | rfl <;> rfl)
                      | (show good.length + 1 ≤ maxLen; unfold maxLen; omega)
                      | (show (good.length + 1) * 64 ≤ 140737488355328; omega)
                      | (show Wl.heap.size ≤ (w4.alloc _).heap.size; have := HS4.out.old.size; simp; omega)
                      | (show Wl.heap.size ≤ w4.heap.size + 1; have := HS4.out.old.size; omega)
                      | skip
                    intro gv' w5 hown' hgrow _ hloc
                    have HS5 : Hid (Sl Wl gv' u8 (good ++ [l]) (gxs ++ [.int .i64 l.1, .slice (some ⟨gw, 0, none⟩) m cw, .slice (some ⟨ga, 0, none⟩) m ca, .int .i64 (Tx.fin (wtoks l.2))]) slips w5) := HS4.out.line _ HL4.out hown' hgrow (by
                      rcases hloc with e | e
                      · exact Or.inl e
                      · exact Or.inr (by rw [e]; simp))
                    have HG2 : Hid (∀ x ∈ good ++ [l], ∃ ks, Ok x.2 ks) := fun x hx => by
                      rcases List.mem_append.1 hx with h | h
                      · exact HG.out x h
                      · have e : x = l := by simpa using h
                        rw [e]; exact HOl.out
                    clear hown' hgrow hloc HS4 e0 e1 e2 k0 k1 k2 p0 p1 p2 p3 p4 ga4
                    go_wp2
                    go_roundg (all.length - (k + 1))
                    case measure => omega
                    case rel => exact ⟨k + 1, good ++ [l], _, slips, rn + 1, by omega, by omega, by go_num, by first | rfl | go_num, by simp; omega, by omega, by omega, HS5, HG2, HRs⟩
                  · have HRs : Hid ((olns (all.drop (k + 1))).foldl (Tx.stepDoc false Pv.isPath 20) ⟨olns good, slips ++ [(l.1, a0, 9)], k + 1, rn⟩ = R) := HS9.out rfl rfl rfl
                    clear HSk HS9 HS8
                    go_upto_region 21 with fail
                    go_region
                    have HS5 : Hid (Sl Wl (.slice go good.length gc) u8 good gxs slips ((((w4.setCell ⟨xb, 0, none⟩ (.int .i64 l.1)).setCell ⟨xb, 1, none⟩ (.int .i64 a0)).setCell ⟨xb, 2, none⟩ (.int .i64 9)).drew)) :=
                      (((HS4.out.poke hxl HNE.out.1 HNE.out.2 _).poke hxl HNE.out.1 HNE.out.2 _).poke hxl HNE.out.1 HNE.out.2 _).below (Below.refl _ _).drew
                    have hv5 : ValsAt ((((w4.setCell ⟨xb, 0, none⟩ (.int .i64 l.1)).setCell ⟨xb, 1, none⟩ (.int .i64 a0)).setCell ⟨xb, 2, none⟩ (.int .i64 9)).drew) xb 3 (fun f => if f = 0 then .int .i64 l.1 else if f = 1 then .int .i64 a0 else .int .i64 9) := (vals3s HX4.out (.int .i64 l.1) (.int .i64 a0) (.int .i64 9)).of_block rfl
                    clear e0 e1 e2 k0 k1 k2 p0 p1 p2 p3 p4 ga4 HS4 HX4 HL4 HP4
                    generalize (((w4.setCell ⟨xb, 0, none⟩ (.int .i64 l.1)).setCell ⟨xb, 1, none⟩ (.int .i64 a0)).setCell ⟨xb, 2, none⟩ (.int .i64 9)).drew = w5 at *
                    have e0 : w5.cell? ⟨xb, 0, none⟩ = some (.int .i64 l.1) := hv5.at' 0 (by omega)
                    have e1 : w5.cell? ⟨xb, 1, none⟩ = some (.int .i64 a0) := hv5.at' 1 (by omega)
                    have e2 : w5.cell? ⟨xb, 2, none⟩ = some (.int .i64 9) := hv5.at' 2 (by omega)
                    clear hv5
                    go_wp2_with (at_builtin; refine wpList_append_own_at _ rfl _ _ 38 rfl Wl.heap.size 45 i2 (.agg #[.int .i64 0, .int .i64 0, .int .i64 0]) 3 24 Tryz.underlying38 HJ.out.1 HJ.out.2.1 HJ.out.2.2.1 HJ.out.2.2.2 rfl (by decide) _ _ _ rfl (HS5.out.os.alloc _) ⟨w5.heap.size, 0, none⟩ 1 1 [.int .i64 l.1, .int .i64 a0, .int .i64 9] rfl rfl ?_ ?_ ?_ ?_ ?_ ?_)
                    all_goals first
                      | exact cell_three_new _ _ _ _ _
                      | (show ∀ u ∈ [Value.int .i64 (l.1 : Int), Value.int .i64 (a0 : Int), Value.int .i64 (9 : Int)], u.oneCell' = true; intro u hu; simp at hu; rcases hu with rfl | rfl | rfl <;> rfl)
                      | (show slips.length + 1 ≤ maxLen; unfold maxLen; omega)
                      | (show (slips.length + 1) * 24 ≤ 140737488355328; omega)
                      | (show Wl.heap.size ≤ (w5.alloc _).heap.size; have := HS5.out.old.size; simp; omega)
                      | (show Wl.heap.size ≤ w5.heap.size + 1; have := HS5.out.old.size; omega)
                      | skip
                    intro sv' w6 hown' hgrow _ hloc
                    have HS6 : Hid (Sl Wl (.slice go good.length gc) sv' good gxs (slips ++ [(l.1, a0, 9)]) w6) := HS5.out.slip _ (l.1, a0, 9) hown' hgrow (by
                      rcases hloc with e | e
                      · exact Or.inl e
                      · exact Or.inr (by rw [e]; simp))
                    clear hown' hgrow hloc HS5 e0 e1 e2
                    go_wp2
                    go_roundg (all.length - (k + 1))
                    case measure => omega
                    case rel => exact ⟨k + 1, good, gxs, slips ++ [(l.1, a0, 9)], rn, by omega, by omega, by go_num, rfl, by omega, by simp; omega, by omega, HS6, HG, HRs⟩
              · have HRs : Hid ((olns (all.drop (k + 1))).foldl (Tx.stepDoc false Pv.isPath 20) ⟨olns good, slips ++ [(l.1, a0, 8)], k + 1, rn⟩ = R) := HS8.out rfl
                clear HSk HS9 HS8
                go_upto_region 19 with fail
                go_region
                have HS5 : Hid (Sl Wl (.slice go good.length gc) u8 good gxs slips ((((w4.setCell ⟨xb, 0, none⟩ (.int .i64 l.1)).setCell ⟨xb, 1, none⟩ (.int .i64 a0)).setCell ⟨xb, 2, none⟩ (.int .i64 8)).drew)) :=
                  (((HS4.out.poke hxl HNE.out.1 HNE.out.2 _).poke hxl HNE.out.1 HNE.out.2 _).poke hxl HNE.out.1 HNE.out.2 _).below (Below.refl _ _).drew
                have hv5 : ValsAt ((((w4.setCell ⟨xb, 0, none⟩ (.int .i64 l.1)).setCell ⟨xb, 1, none⟩ (.int .i64 a0)).setCell ⟨xb, 2, none⟩ (.int .i64 8)).drew) xb 3 (fun f => if f = 0 then .int .i64 l.1 else if f = 1 then .int .i64 a0 else .int .i64 8) := (vals3s HX4.out (.int .i64 l.1) (.int .i64 a0) (.int .i64 8)).of_block rfl
                clear e0 e1 e2 k0 k1 k2 p0 p1 p2 p3 p4 ga4 HS4 HX4 HL4 HP4
                generalize (((w4.setCell ⟨xb, 0, none⟩ (.int .i64 l.1)).setCell ⟨xb, 1, none⟩ (.int .i64 a0)).setCell ⟨xb, 2, none⟩ (.int .i64 8)).drew = w5 at *
                have e0 : w5.cell? ⟨xb, 0, none⟩ = some (.int .i64 l.1) := hv5.at' 0 (by omega)
                have e1 : w5.cell? ⟨xb, 1, none⟩ = some (.int .i64 a0) := hv5.at' 1 (by omega)
                have e2 : w5.cell? ⟨xb, 2, none⟩ = some (.int .i64 8) := hv5.at' 2 (by omega)
                clear hv5
                go_wp2_with (at_builtin; refine wpList_append_own_at _ rfl _ _ 38 rfl Wl.heap.size 45 i2 (.agg #[.int .i64 0, .int .i64 0, .int .i64 0]) 3 24 Tryz.underlying38 HJ.out.1 HJ.out.2.1 HJ.out.2.2.1 HJ.out.2.2.2 rfl (by decide) _ _ _ rfl (HS5.out.os.alloc _) ⟨w5.heap.size, 0, none⟩ 1 1 [.int .i64 l.1, .int .i64 a0, .int .i64 8] rfl rfl ?_ ?_ ?_ ?_ ?_ ?_)
                all_goals first
                  | exact cell_three_new _ _ _ _ _
                  | (show ∀ u ∈ [Value.int .i64 (l.1 : Int), Value.int .i64 (a0 : Int), Value.int .i64 (8 : Int)], u.oneCell' = true; intro u hu; simp at hu; rcases hu with rfl | rfl | rfl <;> rfl)
                  | (show slips.length + 1 ≤ maxLen; unfold maxLen; omega)
                  | (show (slips.length + 1) * 24 ≤ 140737488355328; omega)
                  | (show Wl.heap.size ≤ (w5.alloc _).heap.size; have := HS5.out.old.size; simp; omega)
                  | (show Wl.heap.size ≤ w5.heap.size + 1; have := HS5.out.old.size; omega)
                  | skip
                intro sv' w6 hown' hgrow _ hloc
                have HS6 : Hid (Sl Wl (.slice go good.length gc) sv' good gxs (slips ++ [(l.1, a0, 8)]) w6) := HS5.out.slip _ (l.1, a0, 8) hown' hgrow (by
                  rcases hloc with e | e
                  · exact Or.inl e
                  · exact Or.inr (by rw [e]; simp))
                clear hown' hgrow hloc HS5 e0 e1 e2
                go_wp2
                go_roundg (all.length - (k + 1))
                case measure => omega
                case rel => exact ⟨k + 1, good, gxs, slips ++ [(l.1, a0, 8)], rn, by omega, by omega, by go_num, rfl, by omega, by simp; omega, by omega, HS6, HG, HRs⟩
          · have HRs : Hid ((olns (all.drop (k + 1))).foldl (Tx.stepDoc false Pv.isPath 20) ⟨olns good, slips ++ [(l.1, a0, 2)], k + 1, rn⟩ = R) := HStep.out _ _ (by rw [HPt.out]; rfl)
            clear HStep HKeep HPt HOW HOkk HbR HR9 HLc HGA
            obtain ⟨p0, p1, p2, p3, p4⟩ := HPc.out
            have e0 : wc.cell? ⟨xb, 0, none⟩ = some (.int .i64 l.1) := HXc.out.at' 0 (by omega)
            have e1 : wc.cell? ⟨xb, 1, none⟩ = some (.int .i64 xa) := HXc.out.at' 1 (by omega)
            have e2 : wc.cell? ⟨xb, 2, none⟩ = some (.int .i64 xk) := HXc.out.at' 2 (by omega)
            have k0 := HXc.out.fr 0 (by omega)
            have k1 := HXc.out.fr 1 (by omega)
            have k2 := HXc.out.fr 2 (by omega)
            go_upto_region 15 with fail
            go_region
            have HS5 : Hid (Sl Wl (.slice go good.length gc) u8 good gxs slips ((((wc.setCell ⟨xb, 0, none⟩ (.int .i64 l.1)).setCell ⟨xb, 1, none⟩ (.int .i64 a0)).setCell ⟨xb, 2, none⟩ (.int .i64 2)).drew)) :=
              (((HSc.out.poke hxl HNE.out.1 HNE.out.2 _).poke hxl HNE.out.1 HNE.out.2 _).poke hxl HNE.out.1 HNE.out.2 _).below (Below.refl _ _).drew
            have hv5 : ValsAt ((((wc.setCell ⟨xb, 0, none⟩ (.int .i64 l.1)).setCell ⟨xb, 1, none⟩ (.int .i64 a0)).setCell ⟨xb, 2, none⟩ (.int .i64 2)).drew) xb 3 (fun f => if f = 0 then .int .i64 l.1 else if f = 1 then .int .i64 a0 else .int .i64 2) := (vals3s HXc.out (.int .i64 l.1) (.int .i64 a0) (.int .i64 2)).of_block rfl
            clear e0 e1 e2 k0 k1 k2 p0 p1 p2 p3 p4 ga4 HSc HXc HPc
            generalize (((wc.setCell ⟨xb, 0, none⟩ (.int .i64 l.1)).setCell ⟨xb, 1, none⟩ (.int .i64 a0)).setCell ⟨xb, 2, none⟩ (.int .i64 2)).drew = w5 at *
            have e0 : w5.cell? ⟨xb, 0, none⟩ = some (.int .i64 l.1) := hv5.at' 0 (by omega)
            have e1 : w5.cell? ⟨xb, 1, none⟩ = some (.int .i64 a0) := hv5.at' 1 (by omega)
            have e2 : w5.cell? ⟨xb, 2, none⟩ = some (.int .i64 2) := hv5.at' 2 (by omega)
            clear hv5
            go_wp2_with (at_builtin; refine wpList_append_own_at _ rfl _ _ 38 rfl Wl.heap.size 45 i2 (.agg #[.int .i64 0, .int .i64 0, .int .i64 0]) 3 24 Tryz.underlying38 HJ.out.1 HJ.out.2.1 HJ.out.2.2.1 HJ.out.2.2.2 rfl (by decide) _ _ _ rfl (HS5.out.os.alloc _) ⟨w5.heap.size, 0, none⟩ 1 1 [.int .i64 l.1, .int .i64 a0, .int .i64 2] rfl rfl ?_ ?_ ?_ ?_ ?_ ?_)
            all_goals first
              | exact cell_three_new _ _ _ _ _
              | (show ∀ u ∈ [Value.int .i64 (l.1 : Int), Value.int .i64 (a0 : Int), Value.int .i64 (2 : Int)], u.oneCell' = true; intro u hu; simp at hu; rcases hu with rfl | rfl | rfl <;> rfl)
              | (show slips.length + 1 ≤ maxLen; unfold maxLen; omega)
              | (show (slips.length + 1) * 24 ≤ 140737488355328; omega)
              | (show Wl.heap.size ≤ (w5.alloc _).heap.size; have := HS5.out.old.size; simp; omega)
              | (show Wl.heap.size ≤ w5.heap.size + 1; have := HS5.out.old.size; omega)
              | skip
            intro sv' w6 hown' hgrow _ hloc
            have HS6 : Hid (Sl Wl (.slice go good.length gc) sv' good gxs (slips ++ [(l.1, a0, 2)]) w6) := HS5.out.slip _ (l.1, a0, 2) hown' hgrow (by
              rcases hloc with e | e
              · exact Or.inl e
              · exact Or.inr (by rw [e]; simp))
            clear hown' hgrow hloc HS5 e0 e1 e2
            go_wp2
            go_roundg (all.length - (k + 1))
            case measure => omega
            case rel => exact ⟨k + 1, good, gxs, slips ++ [(l.1, a0, 2)], rn, by omega, by omega, by go_num, rfl, by omega, by simp; omega, by omega, HS6, HG, HRs⟩
      · have hltI : ((k : Int) < (all.length : Int)) = False := by simp; omega
        have hRe : R = ⟨olns good, slips, k, rn⟩ := by
          have := HRk.out
          rw [List.drop_of_length_le (by omega)] at this
          exact this.symm
        have HRe : Hid (R = ⟨olns good, slips, k, rn⟩) := hRe
        clear hRe HRk
        go_wp2
        go_ret2
        exact ⟨_, _, good, gxs, slips, Wl, k, rn, rfl, HB.out, HRe.out, HG.out, by omega, by omega, Or.inr ⟨by omega, HS.out⟩⟩

end Mf
end Go.Proofs.YtelmkfkgpnadnaaGreatDoor
