/-
  The library's stable sort, at modules: two rows are merged.
-/
import Derived.Test.YtelmkfkgpnadnaaGreatDoorKSSB
import Derived.Test.YtelmkfkgpnadnaaGreatDoorKSSA
namespace Go.Proofs.YtelmkfkgpnadnaaGreatDoor
open Go.RowKit Go.Sort Go.Shelf Go.Lib
namespace Sm

variable {g : Nat} {cb : Array Value} {cf : Md → Md → Int} {blk off : Nat} {d0 : Array Md} {w0 : World}

/-- What a merge answers. -/
abbrev Merges (g : Nat) (cb : Array Value) (cf : Md → Md → Int) (blk off cap : Nat) (w0 : World) (size a m b : Nat) (d : Array Md) (w : World) : Prop :=
  Calls Tryz.prog 274 #[.slice (some ⟨blk, off, none⟩) size cap, .int .i64 a, .int .i64 m, .int .i64 b, .func (.func g) #[] cb] w fun e w' => e = .returned (.tuple #[]) ∧ ∃ d', Ss.MPost (ltOf cf) Md.tag a b d d' ∧ SWK enc 2 w0 blk off d' w'

set_option maxRecDepth 1000000 in
set_option maxHeartbeats 8000000 in
theorem sym_rec1 (T : Told g cb cf blk off d0 w0) (cap a m b : Nat) (d : Array Md) (w : World) (hs : d.size = d0.size) (S : SWK enc 2 w0 blk off d w) (hm : a + 1 < m) (hmb : m + 1 < b) (hb : b ≤ d.size) (hP : Ss.MPre (ltOf cf) Md.tag a m b d) (hc : (a + b) / 2 < m)
    (ih : ∀ a' m' b' (d' : Array Md) (w' : World), b' - a' < b - a → d'.size = d0.size → SWK enc 2 w0 blk off d' w' → a' < m' → m' < b' → b' ≤ d'.size → Ss.MPre (ltOf cf) Md.tag a' m' b' d' → Merges g cb cf blk off cap w0 d.size a' m' b' d' w') :
    Merges g cb cf blk off cap w0 d.size a m b d w := by
  have hsz : d.size < 4611686018427387904 := by have := T.sz; omega
  have eg := T.eg
  have mixed := mixedZ
  have HS : Hid (d.size = d0.size) := hs
  have S0 : Aside (SWK enc 2 w0 blk off d w) := S
  have HT : Aside (Told g cb cf blk off d0 w0) := T
  have HP : Aside (Ss.MPre (ltOf cf) Md.tag a m b d) := hP
  have IH : Aside (∀ a' m' b' (d' : Array Md) (w' : World), b' - a' < b - a → d'.size = d0.size → SWK enc 2 w0 blk off d' w' → a' < m' → m' < b' → b' ≤ d'.size → Ss.MPre (ltOf cf) Md.tag a' m' b' d' → Merges g cb cf blk off cap w0 d.size a' m' b' d' w') := ih
  obtain ⟨u, hu⟩ : ∃ u, u = m - a := ⟨_, rfl⟩
  have wm : IntKind.i64.wrap ((m : Int) - (a : Int)) = (u : Int) := by rw [IntKind.wrap_i64]; omega
  have wq : ((u : Int) == 1) = false := by rw [beq_eq_false_iff_ne]; omega
  obtain ⟨v, hv⟩ : ∃ v, v = b - m := ⟨_, rfl⟩
  have wn : IntKind.i64.wrap ((b : Int) - (m : Int)) = (v : Int) := by rw [IntKind.wrap_i64]; omega
  have wr2 : ((v : Int) == 1) = false := by rw [beq_eq_false_iff_ne]; omega
  obtain ⟨mid, hmid⟩ : ∃ mid, mid = (a + b) / 2 := ⟨_, rfl⟩
  have emid : ((a : Int) + (b : Int)) / 2 = (mid : Int) := by omega
  obtain ⟨nn, hnn⟩ : ∃ nn, nn = mid + m := ⟨_, rfl⟩
  have enn : (mid : Int) + (m : Int) = (nn : Int) := by omega
  obtain ⟨pp, hpp⟩ : ∃ pp, pp = nn - 1 := ⟨_, rfl⟩
  have epp : (nn : Int) - 1 = (pp : Int) := by omega
  obtain ⟨s0, hs0⟩ : ∃ s0, s0 = nn - b := ⟨_, rfl⟩
  have es0 : (nn : Int) - (b : Int) = (s0 : Int) := by omega
  have hcI : (m : Int) > (mid : Int) := by omega
  have HS0 : Hid (s0 + b = nn) := by show _ = _; omega
  have HN : Aside (mid = (a + b) / 2 ∧ nn = mid + m ∧ pp = nn - 1) := ⟨hmid, hnn, hpp⟩
  have hnb : nn < 9223372036854775807 := by omega
  have hpb : pp < nn := by omega
  have B0 : Aside (a ≤ s0 ∧ s0 ≤ mid ∧ mid ≤ m ∧ nn ≤ s0 + b ∧ mid + m ≤ nn) := by
    show _ ∧ _
    omega
  clear S T hP hs hu hv hmid hnn hpp ih hc hs0
  go_enter Tryz.func274, Tryz.ntmps274
  go_wp2
  go_loopg [20, 21] b (fun kx s20 s21 wr => ∃ (st r : Nat), s20 = .int .i64 st ∧ s21 = .int .i64 r ∧ s0 ≤ st ∧ st ≤ r ∧ r ≤ mid ∧ r - st ≤ kx ∧ Aside (SWK enc 2 w0 blk off d wr) ∧ Aside ((∀ x, s0 ≤ x → x < st → ltOf cf d[nn - 1 - x]! d[x]! = false) ∧ ∀ x, r ≤ x → x < mid → ltOf cf d[nn - 1 - x]! d[x]! = true))
  case atStart => exact ⟨s0, mid, rfl, rfl, Nat.le_refl _, B0.out.2.1, Nat.le_refl _, by have := B0.out; omega, S0, (⟨fun x h1 h2 => by omega, fun x h1 h2 => by omega⟩ : (∀ x, s0 ≤ x → x < s0 → ltOf cf d[nn - 1 - x]! d[x]! = false) ∧ ∀ x, mid ≤ x → x < mid → ltOf cf d[nn - 1 - x]! d[x]! = true)⟩
  case round =>
    clear S0
    obtain ⟨st, r, rfl, rfl, hst, hsr, hr0, hkx, S1, I⟩ := hrel
    by_cases hlt : st < r
    · have hltI : (st : Int) < (r : Int) := by omega
      obtain ⟨h, hh⟩ : ∃ h, h = (st + r) / 2 := ⟨_, rfl⟩
      have eh : ((st : Int) + (r : Int)) / 2 = (h : Int) := by omega
      have r1 : st ≤ h ∧ h < r := by omega
      have HH : Hid (st ≤ h ∧ h < r) := r1
      obtain ⟨t, ht⟩ : ∃ t, t = nn - 1 - h := ⟨_, rfl⟩
      have et : (pp : Int) - (h : Int) = (t : Int) := by have := B0.out; have := HN.out; omega
      have wt : IntKind.i64.wrap (t : Int) = (t : Int) := by rw [IntKind.wrap_i64]; have := B0.out; have := HN.out; omega
      have bh : (h : Int) < (d.size : Int) := by have := B0.out; omega
      have bt : (t : Int) < (d.size : Int) := by have := B0.out; omega
      obtain ⟨x0, x1⟩ := cell_in HT.out S1.out HS.out t (by omega)
      obtain ⟨y0, y1⟩ := cell_in HT.out S1.out HS.out h (by omega)
      have hcg := cmp_at HT.out S1.out HS.out d[t]! d[h]!
      have HI : Aside (∀ q : Int, q = cf d[t]! d[h]! → (¬ q < 0 → (∀ x, s0 ≤ x → x < h + 1 → ltOf cf d[nn - 1 - x]! d[x]! = false)) ∧ (q < 0 → ∀ x, h ≤ x → x < mid → ltOf cf d[nn - 1 - x]! d[x]! = true)) := fun q hq => by
        obtain ⟨b1, _, b2, b3, b4⟩ := B0.out
        refine ⟨fun hl x h1 h2 => ?_, fun hl x h1 h2 => ?_⟩
        · exact Ss.down_to HT.out.swo HP.out b1 b2 b3 b4 (c := h) h1 (by omega) (by omega) (by rw [← ht]; exact decide_eq_false (by rw [← hq]; exact hl))
        · exact Ss.up_from HT.out.swo HP.out b1 b2 b3 b4 (c := h) (by omega) h1 h2 (by rw [← ht]; exact decide_eq_true (by rw [← hq]; exact hl))
      generalize d[h]! = Y at x0 x1 y0 y1 hcg HI
      generalize d[t]! = X at x0 x1 y0 y1 hcg HI
      generalize hcv : cf X Y = cv at *
      clear hh r1 hcv ht
      by_cases hlv : cv < 0
      · have I2 : Aside ((∀ x, s0 ≤ x → x < st → ltOf cf d[nn - 1 - x]! d[x]! = false) ∧ ∀ x, h ≤ x → x < mid → ltOf cf d[nn - 1 - x]! d[x]! = true) := ⟨I.out.1, (HI.out cv rfl).2 hlv⟩
        clear HI I
        go_wp2_with fail
        go_quiet_grown (first | (go_at_fn g; refine Calls.grown_of (hcg _ _)))
        have S2 : Aside (SWK enc 2 w0 blk off d (grow (wr.drewN nq) osq)) := S1.out.grown nq osq
        clear S1 x0 x1 y0 y1 hcg
        generalize grow (wr.drewN nq) osq = w2 at S2 ⊢
        go_wp2
        go_roundg (h - st)
        case measure => have := HH.out; omega
        case rel => exact ⟨st, h, rfl, rfl, hst, by have := HH.out; omega, by have := HH.out; omega, Nat.le_refl _, S2, I2⟩
      · have hd1 : decide (cv < 0) = false := decide_eq_false hlv
        have hd2 : (cv < 0) = False := eq_false hlv
        have I2 : Aside ((∀ x, s0 ≤ x → x < h + 1 → ltOf cf d[nn - 1 - x]! d[x]! = false) ∧ ∀ x, r ≤ x → x < mid → ltOf cf d[nn - 1 - x]! d[x]! = true) := ⟨(HI.out cv rfl).1 hlv, I.out.2⟩
        clear HI I
        go_wp2_with fail
        go_quiet_grown (first | (go_at_fn g; refine Calls.grown_of (hcg _ _)))
        have S2 : Aside (SWK enc 2 w0 blk off d (grow (wr.drewN nq) osq)) := S1.out.grown nq osq
        clear S1 x0 x1 y0 y1 hcg
        generalize grow (wr.drewN nq) osq = w2 at S2 ⊢
        go_wp2
        go_roundg (r - (h + 1))
        case measure => have := HH.out; omega
        case rel => exact ⟨h + 1, r, by go_num, rfl, by have := HH.out; omega, by have := HH.out; omega, hr0, Nat.le_refl _, S2, I2⟩
    · have hltI : ¬ ((st : Int) < (r : Int)) := by omega
      obtain rfl : st = r := by omega
      obtain ⟨en, hen⟩ : ∃ en, en = nn - st := ⟨_, rfl⟩
      have een : (nn : Int) - (st : Int) = (en : Int) := by have := B0.out; omega
      have wen : IntKind.i64.wrap ((nn : Int) - (st : Int)) = (en : Int) := by rw [IntKind.wrap_i64]; have := B0.out; omega
      have HE : Aside (a ≤ st ∧ st ≤ m ∧ m ≤ en ∧ en ≤ b ∧ mid = st + (en - m) ∧ a < mid ∧ mid < b) := by
        have := B0.out; have := HN.out; show _ ∧ _; omega
      have HFo : Hid (Ss.Found (ltOf cf) a m b st en d) := by
        obtain ⟨b1, _, b2, b3, b4⟩ := B0.out
        rw [hen]
        exact Ss.found_of HT.out.swo HP.out (Or.inr HS0.out) (Or.inr (by have := HN.out; omega)) hst hr0 b1 b2 b3 b4 I.out.1 I.out.2
      have hel : en ≤ d.size := by have := HE.out; omega
      clear hen I hst hsr hr0 hkx
      by_cases hr : st < m ∧ m < en
      · have qa : (st : Int) < (m : Int) := by omega
        have qb : (m : Int) < (en : Int) := by omega
        have k1 := rotate_any g cb blk off cap st m en d0 d w0 wr HT.out.R HS.out.symm S1.out hr.1 hr.2 hel hsz
        clear hr
        go_wp2_with (go_at_call 305; fail)
        go_at_call 305
        refine k1.mono ?_
        rintro ex wA ⟨rfl, d1, h1, T1⟩
        have SA : Aside (SWK enc 2 w0 blk off d1 wA) := T1
        have RA : Hid (Ss.Rot st m en d d1) := h1
        have ZA : Hid (d1.size = d0.size) := h1.1.trans HS.out
        clear k1 h1 T1 S1 qa qb
        by_cases hB : a < st ∧ st < mid
        · have pa : (a : Int) < (st : Int) := by omega
          have pb : (st : Int) < (mid : Int) := by omega
          have L1 : Ss.MPre (ltOf cf) Md.tag a st mid d1 := by
            obtain ⟨e1, e2, e3, e4, e5, e6, e7⟩ := HE.out
            rw [e5]
            exact Ss.low_sorted HP.out RA.out e2 e3 e4
          have k2 : Merges g cb cf blk off cap w0 d.size a st mid d1 wA := IH.out a st mid d1 wA (by have := HE.out; omega) ZA.out SA.out hB.1 hB.2 (by have := ZA.out; have := HS.out; have := HE.out; omega) L1
          clear hB L1
          go_wp2_with (go_at_call 274; fail)
          go_at_call 274
          refine k2.mono ?_
          rintro ex wB ⟨rfl, d2, h2, T2⟩
          have SB : Aside (SWK enc 2 w0 blk off d2 wB) := T2
          have PB : Hid (Ss.MPost (ltOf cf) Md.tag a mid d1 d2) := h2
          have ZB : Hid (d2.size = d0.size) := h2.1.1.trans ZA.out
          clear k2 h2 T2 SA pa pb
          by_cases hC : mid < en ∧ en < b
          · have oa : (mid : Int) < (en : Int) := by omega
            have ob : (en : Int) < (b : Int) := by omega
            have L2 : Ss.MPre (ltOf cf) Md.tag mid en b d2 := by
              obtain ⟨e1, e2, e3, e4, e5, e6, e7⟩ := HE.out
              have H1 := Ss.high_sorted HP.out RA.out e1 e2 e3
              rw [← e5] at H1
              exact H1.congr (fun i hi _ => PB.out.1.2.1 i (Or.inr hi)) (by omega) (by omega)
            have k3 : Merges g cb cf blk off cap w0 d.size mid en b d2 wB := IH.out mid en b d2 wB (by have := HE.out; omega) ZB.out SB.out hC.1 hC.2 (by have := ZB.out; have := HS.out; have := HE.out; omega) L2
            clear hC L2
            go_wp2_with (go_at_call 274; fail)
            all_goals
              go_at_call 274
              refine k3.mono ?_
              rintro ex wC ⟨rfl, d3, h3, T3⟩
              have HF : Hid (Ss.MPost (ltOf cf) Md.tag a b d d3 ∧ SWK enc 2 w0 blk off d3 wC) := by
                obtain ⟨e1, e2, e3, e4, e5, e6, e7⟩ := HE.out
                exact ⟨Ss.merged HT.out.swo HP.out HFo.out RA.out e1 e2 e3 e4 hb e5 PB.out h3, T3⟩
              clear k3 h3 T3 SB
              go_wp2
              go_end0
              exact ⟨rfl, d3, HF.out⟩
          · have HF : Hid (Ss.MPost (ltOf cf) Md.tag a b d d2 ∧ SWK enc 2 w0 blk off d2 wB) := by
              obtain ⟨e1, e2, e3, e4, e5, e6, e7⟩ := HE.out
              have H1 := Ss.high_sorted HP.out RA.out e1 e2 e3
              rw [← e5] at H1
              have L2 := H1.congr (fun i hi _ => PB.out.1.2.1 i (Or.inr hi)) (by omega) (by omega)
              exact ⟨Ss.merged HT.out.swo HP.out HFo.out RA.out e1 e2 e3 e4 hb e5 PB.out (Ss.post_none L2 (by omega) e4 hC), SB.out⟩
            by_cases hC1 : mid < en
            · have oa : (mid : Int) < (en : Int) := by omega
              have ob : ¬ ((en : Int) < (b : Int)) := by omega
              clear SB hC
              go_wp2
              all_goals
                go_end0
                exact ⟨rfl, d2, HF.out⟩
            · have oa : ¬ ((mid : Int) < (en : Int)) := by omega
              clear SB hC
              go_wp2
              all_goals
                go_end0
                exact ⟨rfl, d2, HF.out⟩
        · have PB : Hid (Ss.MPost (ltOf cf) Md.tag a mid d1 d1) := by
            obtain ⟨e1, e2, e3, e4, e5, e6, e7⟩ := HE.out
            have L1 := Ss.low_sorted HP.out RA.out e2 e3 e4
            rw [← e5] at L1
            exact Ss.post_none L1 e1 (by omega) hB
          have ZB : Hid (d1.size = d0.size) := ZA
          have SB : Aside (SWK enc 2 w0 blk off d1 wA) := SA
          by_cases hB1 : a < st
          · have pa : (a : Int) < (st : Int) := by omega
            have pb : ¬ ((st : Int) < (mid : Int)) := by omega
            clear SA hB
            by_cases hC : mid < en ∧ en < b
            · have oa : (mid : Int) < (en : Int) := by omega
              have ob : (en : Int) < (b : Int) := by omega
              have L2 : Ss.MPre (ltOf cf) Md.tag mid en b d1 := by
                obtain ⟨e1, e2, e3, e4, e5, e6, e7⟩ := HE.out
                have H1 := Ss.high_sorted HP.out RA.out e1 e2 e3
                rw [← e5] at H1
                exact H1.congr (fun i hi _ => PB.out.1.2.1 i (Or.inr hi)) (by omega) (by omega)
              have k3 : Merges g cb cf blk off cap w0 d.size mid en b d1 wA := IH.out mid en b d1 wA (by have := HE.out; omega) ZB.out SB.out hC.1 hC.2 (by have := ZB.out; have := HS.out; have := HE.out; omega) L2
              clear hC L2
              go_wp2_with (go_at_call 274; fail)
              all_goals
                go_at_call 274
                refine k3.mono ?_
                rintro ex wC ⟨rfl, d3, h3, T3⟩
                have HF : Hid (Ss.MPost (ltOf cf) Md.tag a b d d3 ∧ SWK enc 2 w0 blk off d3 wC) := by
                  obtain ⟨e1, e2, e3, e4, e5, e6, e7⟩ := HE.out
                  exact ⟨Ss.merged HT.out.swo HP.out HFo.out RA.out e1 e2 e3 e4 hb e5 PB.out h3, T3⟩
                clear k3 h3 T3 SB
                go_wp2
                go_end0
                exact ⟨rfl, d3, HF.out⟩
            · have HF : Hid (Ss.MPost (ltOf cf) Md.tag a b d d1 ∧ SWK enc 2 w0 blk off d1 wA) := by
                obtain ⟨e1, e2, e3, e4, e5, e6, e7⟩ := HE.out
                have H1 := Ss.high_sorted HP.out RA.out e1 e2 e3
                rw [← e5] at H1
                have L2 := H1.congr (fun i hi _ => PB.out.1.2.1 i (Or.inr hi)) (by omega) (by omega)
                exact ⟨Ss.merged HT.out.swo HP.out HFo.out RA.out e1 e2 e3 e4 hb e5 PB.out (Ss.post_none L2 (by omega) e4 hC), SB.out⟩
              by_cases hC1 : mid < en
              · have oa : (mid : Int) < (en : Int) := by omega
                have ob : ¬ ((en : Int) < (b : Int)) := by omega
                clear SB hC
                go_wp2
                all_goals
                  go_end0
                  exact ⟨rfl, d1, HF.out⟩
              · have oa : ¬ ((mid : Int) < (en : Int)) := by omega
                clear SB hC
                go_wp2
                all_goals
                  go_end0
                  exact ⟨rfl, d1, HF.out⟩
          · have pa : ¬ ((a : Int) < (st : Int)) := by omega
            clear SA hB
            by_cases hC : mid < en ∧ en < b
            · have oa : (mid : Int) < (en : Int) := by omega
              have ob : (en : Int) < (b : Int) := by omega
              have L2 : Ss.MPre (ltOf cf) Md.tag mid en b d1 := by
                obtain ⟨e1, e2, e3, e4, e5, e6, e7⟩ := HE.out
                have H1 := Ss.high_sorted HP.out RA.out e1 e2 e3
                rw [← e5] at H1
                exact H1.congr (fun i hi _ => PB.out.1.2.1 i (Or.inr hi)) (by omega) (by omega)
              have k3 : Merges g cb cf blk off cap w0 d.size mid en b d1 wA := IH.out mid en b d1 wA (by have := HE.out; omega) ZB.out SB.out hC.1 hC.2 (by have := ZB.out; have := HS.out; have := HE.out; omega) L2
              clear hC L2
              go_wp2_with (go_at_call 274; fail)
              all_goals
                go_at_call 274
                refine k3.mono ?_
                rintro ex wC ⟨rfl, d3, h3, T3⟩
                have HF : Hid (Ss.MPost (ltOf cf) Md.tag a b d d3 ∧ SWK enc 2 w0 blk off d3 wC) := by
                  obtain ⟨e1, e2, e3, e4, e5, e6, e7⟩ := HE.out
                  exact ⟨Ss.merged HT.out.swo HP.out HFo.out RA.out e1 e2 e3 e4 hb e5 PB.out h3, T3⟩
                clear k3 h3 T3 SB
                go_wp2
                go_end0
                exact ⟨rfl, d3, HF.out⟩
            · have HF : Hid (Ss.MPost (ltOf cf) Md.tag a b d d1 ∧ SWK enc 2 w0 blk off d1 wA) := by
                obtain ⟨e1, e2, e3, e4, e5, e6, e7⟩ := HE.out
                have H1 := Ss.high_sorted HP.out RA.out e1 e2 e3
                rw [← e5] at H1
                have L2 := H1.congr (fun i hi _ => PB.out.1.2.1 i (Or.inr hi)) (by omega) (by omega)
                exact ⟨Ss.merged HT.out.swo HP.out HFo.out RA.out e1 e2 e3 e4 hb e5 PB.out (Ss.post_none L2 (by omega) e4 hC), SB.out⟩
              by_cases hC1 : mid < en
              · have oa : (mid : Int) < (en : Int) := by omega
                have ob : ¬ ((en : Int) < (b : Int)) := by omega
                clear SB hC
                go_wp2
                all_goals
                  go_end0
                  exact ⟨rfl, d1, HF.out⟩
              · have oa : ¬ ((mid : Int) < (en : Int)) := by omega
                clear SB hC
                go_wp2
                all_goals
                  go_end0
                  exact ⟨rfl, d1, HF.out⟩
      · have SA : Aside (SWK enc 2 w0 blk off d wr) := S1
        have RA : Hid (Ss.Rot st m en d d) := Ss.rot_none HE.out.2.1 HE.out.2.2.1 hr
        have ZA : Hid (d.size = d0.size) := HS.out
        by_cases hr1 : st < m
        · have qa : (st : Int) < (m : Int) := by omega
          have qb : ¬ ((m : Int) < (en : Int)) := by omega
          clear S1 hr
          by_cases hB : a < st ∧ st < mid
          · have pa : (a : Int) < (st : Int) := by omega
            have pb : (st : Int) < (mid : Int) := by omega
            have L1 : Ss.MPre (ltOf cf) Md.tag a st mid d := by
              obtain ⟨e1, e2, e3, e4, e5, e6, e7⟩ := HE.out
              rw [e5]
              exact Ss.low_sorted HP.out RA.out e2 e3 e4
            have k2 : Merges g cb cf blk off cap w0 d.size a st mid d wr := IH.out a st mid d wr (by have := HE.out; omega) ZA.out SA.out hB.1 hB.2 (by have := ZA.out; have := HS.out; have := HE.out; omega) L1
            clear hB L1
            go_wp2_with (go_at_call 274; fail)
            go_at_call 274
            refine k2.mono ?_
            rintro ex wB ⟨rfl, d2, h2, T2⟩
            have SB : Aside (SWK enc 2 w0 blk off d2 wB) := T2
            have PB : Hid (Ss.MPost (ltOf cf) Md.tag a mid d d2) := h2
            have ZB : Hid (d2.size = d0.size) := h2.1.1.trans ZA.out
            clear k2 h2 T2 SA pa pb
            by_cases hC : mid < en ∧ en < b
            · have oa : (mid : Int) < (en : Int) := by omega
              have ob : (en : Int) < (b : Int) := by omega
              have L2 : Ss.MPre (ltOf cf) Md.tag mid en b d2 := by
                obtain ⟨e1, e2, e3, e4, e5, e6, e7⟩ := HE.out
                have H1 := Ss.high_sorted HP.out RA.out e1 e2 e3
                rw [← e5] at H1
                exact H1.congr (fun i hi _ => PB.out.1.2.1 i (Or.inr hi)) (by omega) (by omega)
              have k3 : Merges g cb cf blk off cap w0 d.size mid en b d2 wB := IH.out mid en b d2 wB (by have := HE.out; omega) ZB.out SB.out hC.1 hC.2 (by have := ZB.out; have := HS.out; have := HE.out; omega) L2
              clear hC L2
              go_wp2_with (go_at_call 274; fail)
              all_goals
                go_at_call 274
                refine k3.mono ?_
                rintro ex wC ⟨rfl, d3, h3, T3⟩
                have HF : Hid (Ss.MPost (ltOf cf) Md.tag a b d d3 ∧ SWK enc 2 w0 blk off d3 wC) := by
                  obtain ⟨e1, e2, e3, e4, e5, e6, e7⟩ := HE.out
                  exact ⟨Ss.merged HT.out.swo HP.out HFo.out RA.out e1 e2 e3 e4 hb e5 PB.out h3, T3⟩
                clear k3 h3 T3 SB
                go_wp2
                go_end0
                exact ⟨rfl, d3, HF.out⟩
            · have HF : Hid (Ss.MPost (ltOf cf) Md.tag a b d d2 ∧ SWK enc 2 w0 blk off d2 wB) := by
                obtain ⟨e1, e2, e3, e4, e5, e6, e7⟩ := HE.out
                have H1 := Ss.high_sorted HP.out RA.out e1 e2 e3
                rw [← e5] at H1
                have L2 := H1.congr (fun i hi _ => PB.out.1.2.1 i (Or.inr hi)) (by omega) (by omega)
                exact ⟨Ss.merged HT.out.swo HP.out HFo.out RA.out e1 e2 e3 e4 hb e5 PB.out (Ss.post_none L2 (by omega) e4 hC), SB.out⟩
              by_cases hC1 : mid < en
              · have oa : (mid : Int) < (en : Int) := by omega
                have ob : ¬ ((en : Int) < (b : Int)) := by omega
                clear SB hC
                go_wp2
                all_goals
                  go_end0
                  exact ⟨rfl, d2, HF.out⟩
              · have oa : ¬ ((mid : Int) < (en : Int)) := by omega
                clear SB hC
                go_wp2
                all_goals
                  go_end0
                  exact ⟨rfl, d2, HF.out⟩
          · have PB : Hid (Ss.MPost (ltOf cf) Md.tag a mid d d) := by
              obtain ⟨e1, e2, e3, e4, e5, e6, e7⟩ := HE.out
              have L1 := Ss.low_sorted HP.out RA.out e2 e3 e4
              rw [← e5] at L1
              exact Ss.post_none L1 e1 (by omega) hB
            have ZB : Hid (d.size = d0.size) := ZA
            have SB : Aside (SWK enc 2 w0 blk off d wr) := SA
            by_cases hB1 : a < st
            · have pa : (a : Int) < (st : Int) := by omega
              have pb : ¬ ((st : Int) < (mid : Int)) := by omega
              clear SA hB
              by_cases hC : mid < en ∧ en < b
              · have oa : (mid : Int) < (en : Int) := by omega
                have ob : (en : Int) < (b : Int) := by omega
                have L2 : Ss.MPre (ltOf cf) Md.tag mid en b d := by
                  obtain ⟨e1, e2, e3, e4, e5, e6, e7⟩ := HE.out
                  have H1 := Ss.high_sorted HP.out RA.out e1 e2 e3
                  rw [← e5] at H1
                  exact H1.congr (fun i hi _ => PB.out.1.2.1 i (Or.inr hi)) (by omega) (by omega)
                have k3 : Merges g cb cf blk off cap w0 d.size mid en b d wr := IH.out mid en b d wr (by have := HE.out; omega) ZB.out SB.out hC.1 hC.2 (by have := ZB.out; have := HS.out; have := HE.out; omega) L2
                clear hC L2
                go_wp2_with (go_at_call 274; fail)
                all_goals
                  go_at_call 274
                  refine k3.mono ?_
                  rintro ex wC ⟨rfl, d3, h3, T3⟩
                  have HF : Hid (Ss.MPost (ltOf cf) Md.tag a b d d3 ∧ SWK enc 2 w0 blk off d3 wC) := by
                    obtain ⟨e1, e2, e3, e4, e5, e6, e7⟩ := HE.out
                    exact ⟨Ss.merged HT.out.swo HP.out HFo.out RA.out e1 e2 e3 e4 hb e5 PB.out h3, T3⟩
                  clear k3 h3 T3 SB
                  go_wp2
                  go_end0
                  exact ⟨rfl, d3, HF.out⟩
              · have HF : Hid (Ss.MPost (ltOf cf) Md.tag a b d d ∧ SWK enc 2 w0 blk off d wr) := by
                  obtain ⟨e1, e2, e3, e4, e5, e6, e7⟩ := HE.out
                  have H1 := Ss.high_sorted HP.out RA.out e1 e2 e3
                  rw [← e5] at H1
                  have L2 := H1.congr (fun i hi _ => PB.out.1.2.1 i (Or.inr hi)) (by omega) (by omega)
                  exact ⟨Ss.merged HT.out.swo HP.out HFo.out RA.out e1 e2 e3 e4 hb e5 PB.out (Ss.post_none L2 (by omega) e4 hC), SB.out⟩
                by_cases hC1 : mid < en
                · have oa : (mid : Int) < (en : Int) := by omega
                  have ob : ¬ ((en : Int) < (b : Int)) := by omega
                  clear SB hC
                  go_wp2
                  all_goals
                    go_end0
                    exact ⟨rfl, d, HF.out⟩
                · have oa : ¬ ((mid : Int) < (en : Int)) := by omega
                  clear SB hC
                  go_wp2
                  all_goals
                    go_end0
                    exact ⟨rfl, d, HF.out⟩
            · have pa : ¬ ((a : Int) < (st : Int)) := by omega
              clear SA hB
              by_cases hC : mid < en ∧ en < b
              · have oa : (mid : Int) < (en : Int) := by omega
                have ob : (en : Int) < (b : Int) := by omega
                have L2 : Ss.MPre (ltOf cf) Md.tag mid en b d := by
                  obtain ⟨e1, e2, e3, e4, e5, e6, e7⟩ := HE.out
                  have H1 := Ss.high_sorted HP.out RA.out e1 e2 e3
                  rw [← e5] at H1
                  exact H1.congr (fun i hi _ => PB.out.1.2.1 i (Or.inr hi)) (by omega) (by omega)
                have k3 : Merges g cb cf blk off cap w0 d.size mid en b d wr := IH.out mid en b d wr (by have := HE.out; omega) ZB.out SB.out hC.1 hC.2 (by have := ZB.out; have := HS.out; have := HE.out; omega) L2
                clear hC L2
                go_wp2_with (go_at_call 274; fail)
                all_goals
                  go_at_call 274
                  refine k3.mono ?_
                  rintro ex wC ⟨rfl, d3, h3, T3⟩
                  have HF : Hid (Ss.MPost (ltOf cf) Md.tag a b d d3 ∧ SWK enc 2 w0 blk off d3 wC) := by
                    obtain ⟨e1, e2, e3, e4, e5, e6, e7⟩ := HE.out
                    exact ⟨Ss.merged HT.out.swo HP.out HFo.out RA.out e1 e2 e3 e4 hb e5 PB.out h3, T3⟩
                  clear k3 h3 T3 SB
                  go_wp2
                  go_end0
                  exact ⟨rfl, d3, HF.out⟩
              · have HF : Hid (Ss.MPost (ltOf cf) Md.tag a b d d ∧ SWK enc 2 w0 blk off d wr) := by
                  obtain ⟨e1, e2, e3, e4, e5, e6, e7⟩ := HE.out
                  have H1 := Ss.high_sorted HP.out RA.out e1 e2 e3
                  rw [← e5] at H1
                  have L2 := H1.congr (fun i hi _ => PB.out.1.2.1 i (Or.inr hi)) (by omega) (by omega)
                  exact ⟨Ss.merged HT.out.swo HP.out HFo.out RA.out e1 e2 e3 e4 hb e5 PB.out (Ss.post_none L2 (by omega) e4 hC), SB.out⟩
                by_cases hC1 : mid < en
                · have oa : (mid : Int) < (en : Int) := by omega
                  have ob : ¬ ((en : Int) < (b : Int)) := by omega
                  clear SB hC
                  go_wp2
                  all_goals
                    go_end0
                    exact ⟨rfl, d, HF.out⟩
                · have oa : ¬ ((mid : Int) < (en : Int)) := by omega
                  clear SB hC
                  go_wp2
                  all_goals
                    go_end0
                    exact ⟨rfl, d, HF.out⟩
        · have qa : ¬ ((st : Int) < (m : Int)) := by omega
          clear S1 hr
          by_cases hB : a < st ∧ st < mid
          · have pa : (a : Int) < (st : Int) := by omega
            have pb : (st : Int) < (mid : Int) := by omega
            have L1 : Ss.MPre (ltOf cf) Md.tag a st mid d := by
              obtain ⟨e1, e2, e3, e4, e5, e6, e7⟩ := HE.out
              rw [e5]
              exact Ss.low_sorted HP.out RA.out e2 e3 e4
            have k2 : Merges g cb cf blk off cap w0 d.size a st mid d wr := IH.out a st mid d wr (by have := HE.out; omega) ZA.out SA.out hB.1 hB.2 (by have := ZA.out; have := HS.out; have := HE.out; omega) L1
            clear hB L1
            go_wp2_with (go_at_call 274; fail)
            go_at_call 274
            refine k2.mono ?_
            rintro ex wB ⟨rfl, d2, h2, T2⟩
            have SB : Aside (SWK enc 2 w0 blk off d2 wB) := T2
            have PB : Hid (Ss.MPost (ltOf cf) Md.tag a mid d d2) := h2
            have ZB : Hid (d2.size = d0.size) := h2.1.1.trans ZA.out
            clear k2 h2 T2 SA pa pb
            by_cases hC : mid < en ∧ en < b
            · have oa : (mid : Int) < (en : Int) := by omega
              have ob : (en : Int) < (b : Int) := by omega
              have L2 : Ss.MPre (ltOf cf) Md.tag mid en b d2 := by
                obtain ⟨e1, e2, e3, e4, e5, e6, e7⟩ := HE.out
                have H1 := Ss.high_sorted HP.out RA.out e1 e2 e3
                rw [← e5] at H1
                exact H1.congr (fun i hi _ => PB.out.1.2.1 i (Or.inr hi)) (by omega) (by omega)
              have k3 : Merges g cb cf blk off cap w0 d.size mid en b d2 wB := IH.out mid en b d2 wB (by have := HE.out; omega) ZB.out SB.out hC.1 hC.2 (by have := ZB.out; have := HS.out; have := HE.out; omega) L2
              clear hC L2
              go_wp2_with (go_at_call 274; fail)
              all_goals
                go_at_call 274
                refine k3.mono ?_
                rintro ex wC ⟨rfl, d3, h3, T3⟩
                have HF : Hid (Ss.MPost (ltOf cf) Md.tag a b d d3 ∧ SWK enc 2 w0 blk off d3 wC) := by
                  obtain ⟨e1, e2, e3, e4, e5, e6, e7⟩ := HE.out
                  exact ⟨Ss.merged HT.out.swo HP.out HFo.out RA.out e1 e2 e3 e4 hb e5 PB.out h3, T3⟩
                clear k3 h3 T3 SB
                go_wp2
                go_end0
                exact ⟨rfl, d3, HF.out⟩
            · have HF : Hid (Ss.MPost (ltOf cf) Md.tag a b d d2 ∧ SWK enc 2 w0 blk off d2 wB) := by
                obtain ⟨e1, e2, e3, e4, e5, e6, e7⟩ := HE.out
                have H1 := Ss.high_sorted HP.out RA.out e1 e2 e3
                rw [← e5] at H1
                have L2 := H1.congr (fun i hi _ => PB.out.1.2.1 i (Or.inr hi)) (by omega) (by omega)
                exact ⟨Ss.merged HT.out.swo HP.out HFo.out RA.out e1 e2 e3 e4 hb e5 PB.out (Ss.post_none L2 (by omega) e4 hC), SB.out⟩
              by_cases hC1 : mid < en
              · have oa : (mid : Int) < (en : Int) := by omega
                have ob : ¬ ((en : Int) < (b : Int)) := by omega
                clear SB hC
                go_wp2
                all_goals
                  go_end0
                  exact ⟨rfl, d2, HF.out⟩
              · have oa : ¬ ((mid : Int) < (en : Int)) := by omega
                clear SB hC
                go_wp2
                all_goals
                  go_end0
                  exact ⟨rfl, d2, HF.out⟩
          · have PB : Hid (Ss.MPost (ltOf cf) Md.tag a mid d d) := by
              obtain ⟨e1, e2, e3, e4, e5, e6, e7⟩ := HE.out
              have L1 := Ss.low_sorted HP.out RA.out e2 e3 e4
              rw [← e5] at L1
              exact Ss.post_none L1 e1 (by omega) hB
            have ZB : Hid (d.size = d0.size) := ZA
            have SB : Aside (SWK enc 2 w0 blk off d wr) := SA
            by_cases hB1 : a < st
            · have pa : (a : Int) < (st : Int) := by omega
              have pb : ¬ ((st : Int) < (mid : Int)) := by omega
              clear SA hB
              by_cases hC : mid < en ∧ en < b
              · have oa : (mid : Int) < (en : Int) := by omega
                have ob : (en : Int) < (b : Int) := by omega
                have L2 : Ss.MPre (ltOf cf) Md.tag mid en b d := by
                  obtain ⟨e1, e2, e3, e4, e5, e6, e7⟩ := HE.out
                  have H1 := Ss.high_sorted HP.out RA.out e1 e2 e3
                  rw [← e5] at H1
                  exact H1.congr (fun i hi _ => PB.out.1.2.1 i (Or.inr hi)) (by omega) (by omega)
                have k3 : Merges g cb cf blk off cap w0 d.size mid en b d wr := IH.out mid en b d wr (by have := HE.out; omega) ZB.out SB.out hC.1 hC.2 (by have := ZB.out; have := HS.out; have := HE.out; omega) L2
                clear hC L2
                go_wp2_with (go_at_call 274; fail)
                all_goals
                  go_at_call 274
                  refine k3.mono ?_
                  rintro ex wC ⟨rfl, d3, h3, T3⟩
                  have HF : Hid (Ss.MPost (ltOf cf) Md.tag a b d d3 ∧ SWK enc 2 w0 blk off d3 wC) := by
                    obtain ⟨e1, e2, e3, e4, e5, e6, e7⟩ := HE.out
                    exact ⟨Ss.merged HT.out.swo HP.out HFo.out RA.out e1 e2 e3 e4 hb e5 PB.out h3, T3⟩
                  clear k3 h3 T3 SB
                  go_wp2
                  go_end0
                  exact ⟨rfl, d3, HF.out⟩
              · have HF : Hid (Ss.MPost (ltOf cf) Md.tag a b d d ∧ SWK enc 2 w0 blk off d wr) := by
                  obtain ⟨e1, e2, e3, e4, e5, e6, e7⟩ := HE.out
                  have H1 := Ss.high_sorted HP.out RA.out e1 e2 e3
                  rw [← e5] at H1
                  have L2 := H1.congr (fun i hi _ => PB.out.1.2.1 i (Or.inr hi)) (by omega) (by omega)
                  exact ⟨Ss.merged HT.out.swo HP.out HFo.out RA.out e1 e2 e3 e4 hb e5 PB.out (Ss.post_none L2 (by omega) e4 hC), SB.out⟩
                by_cases hC1 : mid < en
                · have oa : (mid : Int) < (en : Int) := by omega
                  have ob : ¬ ((en : Int) < (b : Int)) := by omega
                  clear SB hC
                  go_wp2
                  all_goals
                    go_end0
                    exact ⟨rfl, d, HF.out⟩
                · have oa : ¬ ((mid : Int) < (en : Int)) := by omega
                  clear SB hC
                  go_wp2
                  all_goals
                    go_end0
                    exact ⟨rfl, d, HF.out⟩
            · have pa : ¬ ((a : Int) < (st : Int)) := by omega
              clear SA hB
              by_cases hC : mid < en ∧ en < b
              · have oa : (mid : Int) < (en : Int) := by omega
                have ob : (en : Int) < (b : Int) := by omega
                have L2 : Ss.MPre (ltOf cf) Md.tag mid en b d := by
                  obtain ⟨e1, e2, e3, e4, e5, e6, e7⟩ := HE.out
                  have H1 := Ss.high_sorted HP.out RA.out e1 e2 e3
                  rw [← e5] at H1
                  exact H1.congr (fun i hi _ => PB.out.1.2.1 i (Or.inr hi)) (by omega) (by omega)
                have k3 : Merges g cb cf blk off cap w0 d.size mid en b d wr := IH.out mid en b d wr (by have := HE.out; omega) ZB.out SB.out hC.1 hC.2 (by have := ZB.out; have := HS.out; have := HE.out; omega) L2
                clear hC L2
                go_wp2_with (go_at_call 274; fail)
                all_goals
                  go_at_call 274
                  refine k3.mono ?_
                  rintro ex wC ⟨rfl, d3, h3, T3⟩
                  have HF : Hid (Ss.MPost (ltOf cf) Md.tag a b d d3 ∧ SWK enc 2 w0 blk off d3 wC) := by
                    obtain ⟨e1, e2, e3, e4, e5, e6, e7⟩ := HE.out
                    exact ⟨Ss.merged HT.out.swo HP.out HFo.out RA.out e1 e2 e3 e4 hb e5 PB.out h3, T3⟩
                  clear k3 h3 T3 SB
                  go_wp2
                  go_end0
                  exact ⟨rfl, d3, HF.out⟩
              · have HF : Hid (Ss.MPost (ltOf cf) Md.tag a b d d ∧ SWK enc 2 w0 blk off d wr) := by
                  obtain ⟨e1, e2, e3, e4, e5, e6, e7⟩ := HE.out
                  have H1 := Ss.high_sorted HP.out RA.out e1 e2 e3
                  rw [← e5] at H1
                  have L2 := H1.congr (fun i hi _ => PB.out.1.2.1 i (Or.inr hi)) (by omega) (by omega)
                  exact ⟨Ss.merged HT.out.swo HP.out HFo.out RA.out e1 e2 e3 e4 hb e5 PB.out (Ss.post_none L2 (by omega) e4 hC), SB.out⟩
                by_cases hC1 : mid < en
                · have oa : (mid : Int) < (en : Int) := by omega
                  have ob : ¬ ((en : Int) < (b : Int)) := by omega
                  clear SB hC
                  go_wp2
                  all_goals
                    go_end0
                    exact ⟨rfl, d, HF.out⟩
                · have oa : ¬ ((mid : Int) < (en : Int)) := by omega
                  clear SB hC
                  go_wp2
                  all_goals
                    go_end0
                    exact ⟨rfl, d, HF.out⟩

set_option maxRecDepth 1000000 in
set_option maxHeartbeats 8000000 in
theorem sym_rec2 (T : Told g cb cf blk off d0 w0) (cap a m b : Nat) (d : Array Md) (w : World) (hs : d.size = d0.size) (S : SWK enc 2 w0 blk off d w) (hm : a + 1 < m) (hmb : m + 1 < b) (hb : b ≤ d.size) (hP : Ss.MPre (ltOf cf) Md.tag a m b d) (hc : m ≤ (a + b) / 2)
    (ih : ∀ a' m' b' (d' : Array Md) (w' : World), b' - a' < b - a → d'.size = d0.size → SWK enc 2 w0 blk off d' w' → a' < m' → m' < b' → b' ≤ d'.size → Ss.MPre (ltOf cf) Md.tag a' m' b' d' → Merges g cb cf blk off cap w0 d.size a' m' b' d' w') :
    Merges g cb cf blk off cap w0 d.size a m b d w := by
  have hsz : d.size < 4611686018427387904 := by have := T.sz; omega
  have eg := T.eg
  have mixed := mixedZ
  have HS : Hid (d.size = d0.size) := hs
  have S0 : Aside (SWK enc 2 w0 blk off d w) := S
  have HT : Aside (Told g cb cf blk off d0 w0) := T
  have HP : Aside (Ss.MPre (ltOf cf) Md.tag a m b d) := hP
  have IH : Aside (∀ a' m' b' (d' : Array Md) (w' : World), b' - a' < b - a → d'.size = d0.size → SWK enc 2 w0 blk off d' w' → a' < m' → m' < b' → b' ≤ d'.size → Ss.MPre (ltOf cf) Md.tag a' m' b' d' → Merges g cb cf blk off cap w0 d.size a' m' b' d' w') := ih
  obtain ⟨u, hu⟩ : ∃ u, u = m - a := ⟨_, rfl⟩
  have wm : IntKind.i64.wrap ((m : Int) - (a : Int)) = (u : Int) := by rw [IntKind.wrap_i64]; omega
  have wq : ((u : Int) == 1) = false := by rw [beq_eq_false_iff_ne]; omega
  obtain ⟨v, hv⟩ : ∃ v, v = b - m := ⟨_, rfl⟩
  have wn : IntKind.i64.wrap ((b : Int) - (m : Int)) = (v : Int) := by rw [IntKind.wrap_i64]; omega
  have wr2 : ((v : Int) == 1) = false := by rw [beq_eq_false_iff_ne]; omega
  obtain ⟨mid, hmid⟩ : ∃ mid, mid = (a + b) / 2 := ⟨_, rfl⟩
  have emid : ((a : Int) + (b : Int)) / 2 = (mid : Int) := by omega
  obtain ⟨nn, hnn⟩ : ∃ nn, nn = mid + m := ⟨_, rfl⟩
  have enn : (mid : Int) + (m : Int) = (nn : Int) := by omega
  obtain ⟨pp, hpp⟩ : ∃ pp, pp = nn - 1 := ⟨_, rfl⟩
  have epp : (nn : Int) - 1 = (pp : Int) := by omega
  have hcI : ¬ ((m : Int) > (mid : Int)) := by omega
  have HN : Aside (mid = (a + b) / 2 ∧ nn = mid + m ∧ pp = nn - 1) := ⟨hmid, hnn, hpp⟩
  have hnb : nn < 9223372036854775807 := by omega
  have hpb : pp < nn := by omega
  have B0 : Aside (a ≤ a ∧ a ≤ m ∧ m ≤ m ∧ nn ≤ a + b ∧ m + m ≤ nn) := by
    show _ ∧ _
    omega
  clear S T hP hs hu hv hmid hnn hpp ih hc
  go_enter Tryz.func274, Tryz.ntmps274
  go_wp2
  go_loopg [20, 21] b (fun kx s20 s21 wr => ∃ (st r : Nat), s20 = .int .i64 st ∧ s21 = .int .i64 r ∧ a ≤ st ∧ st ≤ r ∧ r ≤ m ∧ r - st ≤ kx ∧ Aside (SWK enc 2 w0 blk off d wr) ∧ Aside ((∀ x, a ≤ x → x < st → ltOf cf d[nn - 1 - x]! d[x]! = false) ∧ ∀ x, r ≤ x → x < m → ltOf cf d[nn - 1 - x]! d[x]! = true))
  case atStart => exact ⟨a, m, rfl, rfl, Nat.le_refl _, B0.out.2.1, Nat.le_refl _, by have := B0.out; omega, S0, (⟨fun x h1 h2 => by omega, fun x h1 h2 => by omega⟩ : (∀ x, a ≤ x → x < a → ltOf cf d[nn - 1 - x]! d[x]! = false) ∧ ∀ x, m ≤ x → x < m → ltOf cf d[nn - 1 - x]! d[x]! = true)⟩
  case round =>
    clear S0
    obtain ⟨st, r, rfl, rfl, hst, hsr, hr0, hkx, S1, I⟩ := hrel
    by_cases hlt : st < r
    · have hltI : (st : Int) < (r : Int) := by omega
      obtain ⟨h, hh⟩ : ∃ h, h = (st + r) / 2 := ⟨_, rfl⟩
      have eh : ((st : Int) + (r : Int)) / 2 = (h : Int) := by omega
      have r1 : st ≤ h ∧ h < r := by omega
      have HH : Hid (st ≤ h ∧ h < r) := r1
      obtain ⟨t, ht⟩ : ∃ t, t = nn - 1 - h := ⟨_, rfl⟩
      have et : (pp : Int) - (h : Int) = (t : Int) := by have := B0.out; have := HN.out; omega
      have wt : IntKind.i64.wrap (t : Int) = (t : Int) := by rw [IntKind.wrap_i64]; have := B0.out; have := HN.out; omega
      have bh : (h : Int) < (d.size : Int) := by have := B0.out; omega
      have bt : (t : Int) < (d.size : Int) := by have := B0.out; omega
      obtain ⟨x0, x1⟩ := cell_in HT.out S1.out HS.out t (by omega)
      obtain ⟨y0, y1⟩ := cell_in HT.out S1.out HS.out h (by omega)
      have hcg := cmp_at HT.out S1.out HS.out d[t]! d[h]!
      have HI : Aside (∀ q : Int, q = cf d[t]! d[h]! → (¬ q < 0 → (∀ x, a ≤ x → x < h + 1 → ltOf cf d[nn - 1 - x]! d[x]! = false)) ∧ (q < 0 → ∀ x, h ≤ x → x < m → ltOf cf d[nn - 1 - x]! d[x]! = true)) := fun q hq => by
        obtain ⟨b1, _, b2, b3, b4⟩ := B0.out
        refine ⟨fun hl x h1 h2 => ?_, fun hl x h1 h2 => ?_⟩
        · exact Ss.down_to HT.out.swo HP.out b1 b2 b3 b4 (c := h) h1 (by omega) (by omega) (by rw [← ht]; exact decide_eq_false (by rw [← hq]; exact hl))
        · exact Ss.up_from HT.out.swo HP.out b1 b2 b3 b4 (c := h) (by omega) h1 h2 (by rw [← ht]; exact decide_eq_true (by rw [← hq]; exact hl))
      generalize d[h]! = Y at x0 x1 y0 y1 hcg HI
      generalize d[t]! = X at x0 x1 y0 y1 hcg HI
      generalize hcv : cf X Y = cv at *
      clear hh r1 hcv ht
      by_cases hlv : cv < 0
      · have I2 : Aside ((∀ x, a ≤ x → x < st → ltOf cf d[nn - 1 - x]! d[x]! = false) ∧ ∀ x, h ≤ x → x < m → ltOf cf d[nn - 1 - x]! d[x]! = true) := ⟨I.out.1, (HI.out cv rfl).2 hlv⟩
        clear HI I
        go_wp2_with fail
        go_quiet_grown (first | (go_at_fn g; refine Calls.grown_of (hcg _ _)))
        have S2 : Aside (SWK enc 2 w0 blk off d (grow (wr.drewN nq) osq)) := S1.out.grown nq osq
        clear S1 x0 x1 y0 y1 hcg
        generalize grow (wr.drewN nq) osq = w2 at S2 ⊢
        go_wp2
        go_roundg (h - st)
        case measure => have := HH.out; omega
        case rel => exact ⟨st, h, rfl, rfl, hst, by have := HH.out; omega, by have := HH.out; omega, Nat.le_refl _, S2, I2⟩
      · have hd1 : decide (cv < 0) = false := decide_eq_false hlv
        have hd2 : (cv < 0) = False := eq_false hlv
        have I2 : Aside ((∀ x, a ≤ x → x < h + 1 → ltOf cf d[nn - 1 - x]! d[x]! = false) ∧ ∀ x, r ≤ x → x < m → ltOf cf d[nn - 1 - x]! d[x]! = true) := ⟨(HI.out cv rfl).1 hlv, I.out.2⟩
        clear HI I
        go_wp2_with fail
        go_quiet_grown (first | (go_at_fn g; refine Calls.grown_of (hcg _ _)))
        have S2 : Aside (SWK enc 2 w0 blk off d (grow (wr.drewN nq) osq)) := S1.out.grown nq osq
        clear S1 x0 x1 y0 y1 hcg
        generalize grow (wr.drewN nq) osq = w2 at S2 ⊢
        go_wp2
        go_roundg (r - (h + 1))
        case measure => have := HH.out; omega
        case rel => exact ⟨h + 1, r, by go_num, rfl, by have := HH.out; omega, by have := HH.out; omega, hr0, Nat.le_refl _, S2, I2⟩
    · have hltI : ¬ ((st : Int) < (r : Int)) := by omega
      obtain rfl : st = r := by omega
      obtain ⟨en, hen⟩ : ∃ en, en = nn - st := ⟨_, rfl⟩
      have een : (nn : Int) - (st : Int) = (en : Int) := by have := B0.out; omega
      have wen : IntKind.i64.wrap ((nn : Int) - (st : Int)) = (en : Int) := by rw [IntKind.wrap_i64]; have := B0.out; omega
      have HE : Aside (a ≤ st ∧ st ≤ m ∧ m ≤ en ∧ en ≤ b ∧ mid = st + (en - m) ∧ a < mid ∧ mid < b) := by
        have := B0.out; have := HN.out; show _ ∧ _; omega
      have HFo : Hid (Ss.Found (ltOf cf) a m b st en d) := by
        obtain ⟨b1, _, b2, b3, b4⟩ := B0.out
        rw [hen]
        exact Ss.found_of HT.out.swo HP.out (Or.inl rfl) (Or.inl rfl) hst hr0 b1 b2 b3 b4 I.out.1 I.out.2
      have hel : en ≤ d.size := by have := HE.out; omega
      clear hen I hst hsr hr0 hkx
      by_cases hr : st < m ∧ m < en
      · have qa : (st : Int) < (m : Int) := by omega
        have qb : (m : Int) < (en : Int) := by omega
        have k1 := rotate_any g cb blk off cap st m en d0 d w0 wr HT.out.R HS.out.symm S1.out hr.1 hr.2 hel hsz
        clear hr
        go_wp2_with (go_at_call 305; fail)
        go_at_call 305
        refine k1.mono ?_
        rintro ex wA ⟨rfl, d1, h1, T1⟩
        have SA : Aside (SWK enc 2 w0 blk off d1 wA) := T1
        have RA : Hid (Ss.Rot st m en d d1) := h1
        have ZA : Hid (d1.size = d0.size) := h1.1.trans HS.out
        clear k1 h1 T1 S1 qa qb
        by_cases hB : a < st ∧ st < mid
        · have pa : (a : Int) < (st : Int) := by omega
          have pb : (st : Int) < (mid : Int) := by omega
          have L1 : Ss.MPre (ltOf cf) Md.tag a st mid d1 := by
            obtain ⟨e1, e2, e3, e4, e5, e6, e7⟩ := HE.out
            rw [e5]
            exact Ss.low_sorted HP.out RA.out e2 e3 e4
          have k2 : Merges g cb cf blk off cap w0 d.size a st mid d1 wA := IH.out a st mid d1 wA (by have := HE.out; omega) ZA.out SA.out hB.1 hB.2 (by have := ZA.out; have := HS.out; have := HE.out; omega) L1
          clear hB L1
          go_wp2_with (go_at_call 274; fail)
          go_at_call 274
          refine k2.mono ?_
          rintro ex wB ⟨rfl, d2, h2, T2⟩
          have SB : Aside (SWK enc 2 w0 blk off d2 wB) := T2
          have PB : Hid (Ss.MPost (ltOf cf) Md.tag a mid d1 d2) := h2
          have ZB : Hid (d2.size = d0.size) := h2.1.1.trans ZA.out
          clear k2 h2 T2 SA pa pb
          by_cases hC : mid < en ∧ en < b
          · have oa : (mid : Int) < (en : Int) := by omega
            have ob : (en : Int) < (b : Int) := by omega
            have L2 : Ss.MPre (ltOf cf) Md.tag mid en b d2 := by
              obtain ⟨e1, e2, e3, e4, e5, e6, e7⟩ := HE.out
              have H1 := Ss.high_sorted HP.out RA.out e1 e2 e3
              rw [← e5] at H1
              exact H1.congr (fun i hi _ => PB.out.1.2.1 i (Or.inr hi)) (by omega) (by omega)
            have k3 : Merges g cb cf blk off cap w0 d.size mid en b d2 wB := IH.out mid en b d2 wB (by have := HE.out; omega) ZB.out SB.out hC.1 hC.2 (by have := ZB.out; have := HS.out; have := HE.out; omega) L2
            clear hC L2
            go_wp2_with (go_at_call 274; fail)
            all_goals
              go_at_call 274
              refine k3.mono ?_
              rintro ex wC ⟨rfl, d3, h3, T3⟩
              have HF : Hid (Ss.MPost (ltOf cf) Md.tag a b d d3 ∧ SWK enc 2 w0 blk off d3 wC) := by
                obtain ⟨e1, e2, e3, e4, e5, e6, e7⟩ := HE.out
                exact ⟨Ss.merged HT.out.swo HP.out HFo.out RA.out e1 e2 e3 e4 hb e5 PB.out h3, T3⟩
              clear k3 h3 T3 SB
              go_wp2
              go_end0
              exact ⟨rfl, d3, HF.out⟩
          · have HF : Hid (Ss.MPost (ltOf cf) Md.tag a b d d2 ∧ SWK enc 2 w0 blk off d2 wB) := by
              obtain ⟨e1, e2, e3, e4, e5, e6, e7⟩ := HE.out
              have H1 := Ss.high_sorted HP.out RA.out e1 e2 e3
              rw [← e5] at H1
              have L2 := H1.congr (fun i hi _ => PB.out.1.2.1 i (Or.inr hi)) (by omega) (by omega)
              exact ⟨Ss.merged HT.out.swo HP.out HFo.out RA.out e1 e2 e3 e4 hb e5 PB.out (Ss.post_none L2 (by omega) e4 hC), SB.out⟩
            by_cases hC1 : mid < en
            · have oa : (mid : Int) < (en : Int) := by omega
              have ob : ¬ ((en : Int) < (b : Int)) := by omega
              clear SB hC
              go_wp2
              all_goals
                go_end0
                exact ⟨rfl, d2, HF.out⟩
            · have oa : ¬ ((mid : Int) < (en : Int)) := by omega
              clear SB hC
              go_wp2
              all_goals
                go_end0
                exact ⟨rfl, d2, HF.out⟩
        · have PB : Hid (Ss.MPost (ltOf cf) Md.tag a mid d1 d1) := by
            obtain ⟨e1, e2, e3, e4, e5, e6, e7⟩ := HE.out
            have L1 := Ss.low_sorted HP.out RA.out e2 e3 e4
            rw [← e5] at L1
            exact Ss.post_none L1 e1 (by omega) hB
          have ZB : Hid (d1.size = d0.size) := ZA
          have SB : Aside (SWK enc 2 w0 blk off d1 wA) := SA
          by_cases hB1 : a < st
          · have pa : (a : Int) < (st : Int) := by omega
            have pb : ¬ ((st : Int) < (mid : Int)) := by omega
            clear SA hB
            by_cases hC : mid < en ∧ en < b
            · have oa : (mid : Int) < (en : Int) := by omega
              have ob : (en : Int) < (b : Int) := by omega
              have L2 : Ss.MPre (ltOf cf) Md.tag mid en b d1 := by
                obtain ⟨e1, e2, e3, e4, e5, e6, e7⟩ := HE.out
                have H1 := Ss.high_sorted HP.out RA.out e1 e2 e3
                rw [← e5] at H1
                exact H1.congr (fun i hi _ => PB.out.1.2.1 i (Or.inr hi)) (by omega) (by omega)
              have k3 : Merges g cb cf blk off cap w0 d.size mid en b d1 wA := IH.out mid en b d1 wA (by have := HE.out; omega) ZB.out SB.out hC.1 hC.2 (by have := ZB.out; have := HS.out; have := HE.out; omega) L2
              clear hC L2
              go_wp2_with (go_at_call 274; fail)
              all_goals
                go_at_call 274
                refine k3.mono ?_
                rintro ex wC ⟨rfl, d3, h3, T3⟩
                have HF : Hid (Ss.MPost (ltOf cf) Md.tag a b d d3 ∧ SWK enc 2 w0 blk off d3 wC) := by
                  obtain ⟨e1, e2, e3, e4, e5, e6, e7⟩ := HE.out
                  exact ⟨Ss.merged HT.out.swo HP.out HFo.out RA.out e1 e2 e3 e4 hb e5 PB.out h3, T3⟩
                clear k3 h3 T3 SB
                go_wp2
                go_end0
                exact ⟨rfl, d3, HF.out⟩
            · have HF : Hid (Ss.MPost (ltOf cf) Md.tag a b d d1 ∧ SWK enc 2 w0 blk off d1 wA) := by
                obtain ⟨e1, e2, e3, e4, e5, e6, e7⟩ := HE.out
                have H1 := Ss.high_sorted HP.out RA.out e1 e2 e3
                rw [← e5] at H1
                have L2 := H1.congr (fun i hi _ => PB.out.1.2.1 i (Or.inr hi)) (by omega) (by omega)
                exact ⟨Ss.merged HT.out.swo HP.out HFo.out RA.out e1 e2 e3 e4 hb e5 PB.out (Ss.post_none L2 (by omega) e4 hC), SB.out⟩
              by_cases hC1 : mid < en
              · have oa : (mid : Int) < (en : Int) := by omega
                have ob : ¬ ((en : Int) < (b : Int)) := by omega
                clear SB hC
                go_wp2
                all_goals
                  go_end0
                  exact ⟨rfl, d1, HF.out⟩
              · have oa : ¬ ((mid : Int) < (en : Int)) := by omega
                clear SB hC
                go_wp2
                all_goals
                  go_end0
                  exact ⟨rfl, d1, HF.out⟩
          · have pa : ¬ ((a : Int) < (st : Int)) := by omega
            clear SA hB
            by_cases hC : mid < en ∧ en < b
            · have oa : (mid : Int) < (en : Int) := by omega
              have ob : (en : Int) < (b : Int) := by omega
              have L2 : Ss.MPre (ltOf cf) Md.tag mid en b d1 := by
                obtain ⟨e1, e2, e3, e4, e5, e6, e7⟩ := HE.out
                have H1 := Ss.high_sorted HP.out RA.out e1 e2 e3
                rw [← e5] at H1
                exact H1.congr (fun i hi _ => PB.out.1.2.1 i (Or.inr hi)) (by omega) (by omega)
              have k3 : Merges g cb cf blk off cap w0 d.size mid en b d1 wA := IH.out mid en b d1 wA (by have := HE.out; omega) ZB.out SB.out hC.1 hC.2 (by have := ZB.out; have := HS.out; have := HE.out; omega) L2
              clear hC L2
              go_wp2_with (go_at_call 274; fail)
              all_goals
                go_at_call 274
                refine k3.mono ?_
                rintro ex wC ⟨rfl, d3, h3, T3⟩
                have HF : Hid (Ss.MPost (ltOf cf) Md.tag a b d d3 ∧ SWK enc 2 w0 blk off d3 wC) := by
                  obtain ⟨e1, e2, e3, e4, e5, e6, e7⟩ := HE.out
                  exact ⟨Ss.merged HT.out.swo HP.out HFo.out RA.out e1 e2 e3 e4 hb e5 PB.out h3, T3⟩
                clear k3 h3 T3 SB
                go_wp2
                go_end0
                exact ⟨rfl, d3, HF.out⟩
            · have HF : Hid (Ss.MPost (ltOf cf) Md.tag a b d d1 ∧ SWK enc 2 w0 blk off d1 wA) := by
                obtain ⟨e1, e2, e3, e4, e5, e6, e7⟩ := HE.out
                have H1 := Ss.high_sorted HP.out RA.out e1 e2 e3
                rw [← e5] at H1
                have L2 := H1.congr (fun i hi _ => PB.out.1.2.1 i (Or.inr hi)) (by omega) (by omega)
                exact ⟨Ss.merged HT.out.swo HP.out HFo.out RA.out e1 e2 e3 e4 hb e5 PB.out (Ss.post_none L2 (by omega) e4 hC), SB.out⟩
              by_cases hC1 : mid < en
              · have oa : (mid : Int) < (en : Int) := by omega
                have ob : ¬ ((en : Int) < (b : Int)) := by omega
                clear SB hC
                go_wp2
                all_goals
                  go_end0
                  exact ⟨rfl, d1, HF.out⟩
              · have oa : ¬ ((mid : Int) < (en : Int)) := by omega
                clear SB hC
                go_wp2
                all_goals
                  go_end0
                  exact ⟨rfl, d1, HF.out⟩
      · have SA : Aside (SWK enc 2 w0 blk off d wr) := S1
        have RA : Hid (Ss.Rot st m en d d) := Ss.rot_none HE.out.2.1 HE.out.2.2.1 hr
        have ZA : Hid (d.size = d0.size) := HS.out
        by_cases hr1 : st < m
        · have qa : (st : Int) < (m : Int) := by omega
          have qb : ¬ ((m : Int) < (en : Int)) := by omega
          clear S1 hr
          by_cases hB : a < st ∧ st < mid
          · have pa : (a : Int) < (st : Int) := by omega
            have pb : (st : Int) < (mid : Int) := by omega
            have L1 : Ss.MPre (ltOf cf) Md.tag a st mid d := by
              obtain ⟨e1, e2, e3, e4, e5, e6, e7⟩ := HE.out
              rw [e5]
              exact Ss.low_sorted HP.out RA.out e2 e3 e4
            have k2 : Merges g cb cf blk off cap w0 d.size a st mid d wr := IH.out a st mid d wr (by have := HE.out; omega) ZA.out SA.out hB.1 hB.2 (by have := ZA.out; have := HS.out; have := HE.out; omega) L1
            clear hB L1
            go_wp2_with (go_at_call 274; fail)
            go_at_call 274
            refine k2.mono ?_
            rintro ex wB ⟨rfl, d2, h2, T2⟩
            have SB : Aside (SWK enc 2 w0 blk off d2 wB) := T2
            have PB : Hid (Ss.MPost (ltOf cf) Md.tag a mid d d2) := h2
            have ZB : Hid (d2.size = d0.size) := h2.1.1.trans ZA.out
            clear k2 h2 T2 SA pa pb
            by_cases hC : mid < en ∧ en < b
            · have oa : (mid : Int) < (en : Int) := by omega
              have ob : (en : Int) < (b : Int) := by omega
              have L2 : Ss.MPre (ltOf cf) Md.tag mid en b d2 := by
                obtain ⟨e1, e2, e3, e4, e5, e6, e7⟩ := HE.out
                have H1 := Ss.high_sorted HP.out RA.out e1 e2 e3
                rw [← e5] at H1
                exact H1.congr (fun i hi _ => PB.out.1.2.1 i (Or.inr hi)) (by omega) (by omega)
              have k3 : Merges g cb cf blk off cap w0 d.size mid en b d2 wB := IH.out mid en b d2 wB (by have := HE.out; omega) ZB.out SB.out hC.1 hC.2 (by have := ZB.out; have := HS.out; have := HE.out; omega) L2
              clear hC L2
              go_wp2_with (go_at_call 274; fail)
              all_goals
                go_at_call 274
                refine k3.mono ?_
                rintro ex wC ⟨rfl, d3, h3, T3⟩
                have HF : Hid (Ss.MPost (ltOf cf) Md.tag a b d d3 ∧ SWK enc 2 w0 blk off d3 wC) := by
                  obtain ⟨e1, e2, e3, e4, e5, e6, e7⟩ := HE.out
                  exact ⟨Ss.merged HT.out.swo HP.out HFo.out RA.out e1 e2 e3 e4 hb e5 PB.out h3, T3⟩
                clear k3 h3 T3 SB
                go_wp2
                go_end0
                exact ⟨rfl, d3, HF.out⟩
            · have HF : Hid (Ss.MPost (ltOf cf) Md.tag a b d d2 ∧ SWK enc 2 w0 blk off d2 wB) := by
                obtain ⟨e1, e2, e3, e4, e5, e6, e7⟩ := HE.out
                have H1 := Ss.high_sorted HP.out RA.out e1 e2 e3
                rw [← e5] at H1
                have L2 := H1.congr (fun i hi _ => PB.out.1.2.1 i (Or.inr hi)) (by omega) (by omega)
                exact ⟨Ss.merged HT.out.swo HP.out HFo.out RA.out e1 e2 e3 e4 hb e5 PB.out (Ss.post_none L2 (by omega) e4 hC), SB.out⟩
              by_cases hC1 : mid < en
              · have oa : (mid : Int) < (en : Int) := by omega
                have ob : ¬ ((en : Int) < (b : Int)) := by omega
                clear SB hC
                go_wp2
                all_goals
                  go_end0
                  exact ⟨rfl, d2, HF.out⟩
              · have oa : ¬ ((mid : Int) < (en : Int)) := by omega
                clear SB hC
                go_wp2
                all_goals
                  go_end0
                  exact ⟨rfl, d2, HF.out⟩
          · have PB : Hid (Ss.MPost (ltOf cf) Md.tag a mid d d) := by
              obtain ⟨e1, e2, e3, e4, e5, e6, e7⟩ := HE.out
              have L1 := Ss.low_sorted HP.out RA.out e2 e3 e4
              rw [← e5] at L1
              exact Ss.post_none L1 e1 (by omega) hB
            have ZB : Hid (d.size = d0.size) := ZA
            have SB : Aside (SWK enc 2 w0 blk off d wr) := SA
            by_cases hB1 : a < st
            · have pa : (a : Int) < (st : Int) := by omega
              have pb : ¬ ((st : Int) < (mid : Int)) := by omega
              clear SA hB
              by_cases hC : mid < en ∧ en < b
              · have oa : (mid : Int) < (en : Int) := by omega
                have ob : (en : Int) < (b : Int) := by omega
                have L2 : Ss.MPre (ltOf cf) Md.tag mid en b d := by
                  obtain ⟨e1, e2, e3, e4, e5, e6, e7⟩ := HE.out
                  have H1 := Ss.high_sorted HP.out RA.out e1 e2 e3
                  rw [← e5] at H1
                  exact H1.congr (fun i hi _ => PB.out.1.2.1 i (Or.inr hi)) (by omega) (by omega)
                have k3 : Merges g cb cf blk off cap w0 d.size mid en b d wr := IH.out mid en b d wr (by have := HE.out; omega) ZB.out SB.out hC.1 hC.2 (by have := ZB.out; have := HS.out; have := HE.out; omega) L2
                clear hC L2
                go_wp2_with (go_at_call 274; fail)
                all_goals
                  go_at_call 274
                  refine k3.mono ?_
                  rintro ex wC ⟨rfl, d3, h3, T3⟩
                  have HF : Hid (Ss.MPost (ltOf cf) Md.tag a b d d3 ∧ SWK enc 2 w0 blk off d3 wC) := by
                    obtain ⟨e1, e2, e3, e4, e5, e6, e7⟩ := HE.out
                    exact ⟨Ss.merged HT.out.swo HP.out HFo.out RA.out e1 e2 e3 e4 hb e5 PB.out h3, T3⟩
                  clear k3 h3 T3 SB
                  go_wp2
                  go_end0
                  exact ⟨rfl, d3, HF.out⟩
              · have HF : Hid (Ss.MPost (ltOf cf) Md.tag a b d d ∧ SWK enc 2 w0 blk off d wr) := by
                  obtain ⟨e1, e2, e3, e4, e5, e6, e7⟩ := HE.out
                  have H1 := Ss.high_sorted HP.out RA.out e1 e2 e3
                  rw [← e5] at H1
                  have L2 := H1.congr (fun i hi _ => PB.out.1.2.1 i (Or.inr hi)) (by omega) (by omega)
                  exact ⟨Ss.merged HT.out.swo HP.out HFo.out RA.out e1 e2 e3 e4 hb e5 PB.out (Ss.post_none L2 (by omega) e4 hC), SB.out⟩
                by_cases hC1 : mid < en
                · have oa : (mid : Int) < (en : Int) := by omega
                  have ob : ¬ ((en : Int) < (b : Int)) := by omega
                  clear SB hC
                  go_wp2
                  all_goals
                    go_end0
                    exact ⟨rfl, d, HF.out⟩
                · have oa : ¬ ((mid : Int) < (en : Int)) := by omega
                  clear SB hC
                  go_wp2
                  all_goals
                    go_end0
                    exact ⟨rfl, d, HF.out⟩
            · have pa : ¬ ((a : Int) < (st : Int)) := by omega
              clear SA hB
              by_cases hC : mid < en ∧ en < b
              · have oa : (mid : Int) < (en : Int) := by omega
                have ob : (en : Int) < (b : Int) := by omega
                have L2 : Ss.MPre (ltOf cf) Md.tag mid en b d := by
                  obtain ⟨e1, e2, e3, e4, e5, e6, e7⟩ := HE.out
                  have H1 := Ss.high_sorted HP.out RA.out e1 e2 e3
                  rw [← e5] at H1
                  exact H1.congr (fun i hi _ => PB.out.1.2.1 i (Or.inr hi)) (by omega) (by omega)
                have k3 : Merges g cb cf blk off cap w0 d.size mid en b d wr := IH.out mid en b d wr (by have := HE.out; omega) ZB.out SB.out hC.1 hC.2 (by have := ZB.out; have := HS.out; have := HE.out; omega) L2
                clear hC L2
                go_wp2_with (go_at_call 274; fail)
                all_goals
                  go_at_call 274
                  refine k3.mono ?_
                  rintro ex wC ⟨rfl, d3, h3, T3⟩
                  have HF : Hid (Ss.MPost (ltOf cf) Md.tag a b d d3 ∧ SWK enc 2 w0 blk off d3 wC) := by
                    obtain ⟨e1, e2, e3, e4, e5, e6, e7⟩ := HE.out
                    exact ⟨Ss.merged HT.out.swo HP.out HFo.out RA.out e1 e2 e3 e4 hb e5 PB.out h3, T3⟩
                  clear k3 h3 T3 SB
                  go_wp2
                  go_end0
                  exact ⟨rfl, d3, HF.out⟩
              · have HF : Hid (Ss.MPost (ltOf cf) Md.tag a b d d ∧ SWK enc 2 w0 blk off d wr) := by
                  obtain ⟨e1, e2, e3, e4, e5, e6, e7⟩ := HE.out
                  have H1 := Ss.high_sorted HP.out RA.out e1 e2 e3
                  rw [← e5] at H1
                  have L2 := H1.congr (fun i hi _ => PB.out.1.2.1 i (Or.inr hi)) (by omega) (by omega)
                  exact ⟨Ss.merged HT.out.swo HP.out HFo.out RA.out e1 e2 e3 e4 hb e5 PB.out (Ss.post_none L2 (by omega) e4 hC), SB.out⟩
                by_cases hC1 : mid < en
                · have oa : (mid : Int) < (en : Int) := by omega
                  have ob : ¬ ((en : Int) < (b : Int)) := by omega
                  clear SB hC
                  go_wp2
                  all_goals
                    go_end0
                    exact ⟨rfl, d, HF.out⟩
                · have oa : ¬ ((mid : Int) < (en : Int)) := by omega
                  clear SB hC
                  go_wp2
                  all_goals
                    go_end0
                    exact ⟨rfl, d, HF.out⟩
        · have qa : ¬ ((st : Int) < (m : Int)) := by omega
          clear S1 hr
          by_cases hB : a < st ∧ st < mid
          · have pa : (a : Int) < (st : Int) := by omega
            have pb : (st : Int) < (mid : Int) := by omega
            have L1 : Ss.MPre (ltOf cf) Md.tag a st mid d := by
              obtain ⟨e1, e2, e3, e4, e5, e6, e7⟩ := HE.out
              rw [e5]
              exact Ss.low_sorted HP.out RA.out e2 e3 e4
            have k2 : Merges g cb cf blk off cap w0 d.size a st mid d wr := IH.out a st mid d wr (by have := HE.out; omega) ZA.out SA.out hB.1 hB.2 (by have := ZA.out; have := HS.out; have := HE.out; omega) L1
            clear hB L1
            go_wp2_with (go_at_call 274; fail)
            go_at_call 274
            refine k2.mono ?_
            rintro ex wB ⟨rfl, d2, h2, T2⟩
            have SB : Aside (SWK enc 2 w0 blk off d2 wB) := T2
            have PB : Hid (Ss.MPost (ltOf cf) Md.tag a mid d d2) := h2
            have ZB : Hid (d2.size = d0.size) := h2.1.1.trans ZA.out
            clear k2 h2 T2 SA pa pb
            by_cases hC : mid < en ∧ en < b
            · have oa : (mid : Int) < (en : Int) := by omega
              have ob : (en : Int) < (b : Int) := by omega
              have L2 : Ss.MPre (ltOf cf) Md.tag mid en b d2 := by
                obtain ⟨e1, e2, e3, e4, e5, e6, e7⟩ := HE.out
                have H1 := Ss.high_sorted HP.out RA.out e1 e2 e3
                rw [← e5] at H1
                exact H1.congr (fun i hi _ => PB.out.1.2.1 i (Or.inr hi)) (by omega) (by omega)
              have k3 : Merges g cb cf blk off cap w0 d.size mid en b d2 wB := IH.out mid en b d2 wB (by have := HE.out; omega) ZB.out SB.out hC.1 hC.2 (by have := ZB.out; have := HS.out; have := HE.out; omega) L2
              clear hC L2
              go_wp2_with (go_at_call 274; fail)
              all_goals
                go_at_call 274
                refine k3.mono ?_
                rintro ex wC ⟨rfl, d3, h3, T3⟩
                have HF : Hid (Ss.MPost (ltOf cf) Md.tag a b d d3 ∧ SWK enc 2 w0 blk off d3 wC) := by
                  obtain ⟨e1, e2, e3, e4, e5, e6, e7⟩ := HE.out
                  exact ⟨Ss.merged HT.out.swo HP.out HFo.out RA.out e1 e2 e3 e4 hb e5 PB.out h3, T3⟩
                clear k3 h3 T3 SB
                go_wp2
                go_end0
                exact ⟨rfl, d3, HF.out⟩
            · have HF : Hid (Ss.MPost (ltOf cf) Md.tag a b d d2 ∧ SWK enc 2 w0 blk off d2 wB) := by
                obtain ⟨e1, e2, e3, e4, e5, e6, e7⟩ := HE.out
                have H1 := Ss.high_sorted HP.out RA.out e1 e2 e3
                rw [← e5] at H1
                have L2 := H1.congr (fun i hi _ => PB.out.1.2.1 i (Or.inr hi)) (by omega) (by omega)
                exact ⟨Ss.merged HT.out.swo HP.out HFo.out RA.out e1 e2 e3 e4 hb e5 PB.out (Ss.post_none L2 (by omega) e4 hC), SB.out⟩
              by_cases hC1 : mid < en
              · have oa : (mid : Int) < (en : Int) := by omega
                have ob : ¬ ((en : Int) < (b : Int)) := by omega
                clear SB hC
                go_wp2
                all_goals
                  go_end0
                  exact ⟨rfl, d2, HF.out⟩
              · have oa : ¬ ((mid : Int) < (en : Int)) := by omega
                clear SB hC
                go_wp2
                all_goals
                  go_end0
                  exact ⟨rfl, d2, HF.out⟩
          · have PB : Hid (Ss.MPost (ltOf cf) Md.tag a mid d d) := by
              obtain ⟨e1, e2, e3, e4, e5, e6, e7⟩ := HE.out
              have L1 := Ss.low_sorted HP.out RA.out e2 e3 e4
              rw [← e5] at L1
              exact Ss.post_none L1 e1 (by omega) hB
            have ZB : Hid (d.size = d0.size) := ZA
            have SB : Aside (SWK enc 2 w0 blk off d wr) := SA
            by_cases hB1 : a < st
            · have pa : (a : Int) < (st : Int) := by omega
              have pb : ¬ ((st : Int) < (mid : Int)) := by omega
              clear SA hB
              by_cases hC : mid < en ∧ en < b
              · have oa : (mid : Int) < (en : Int) := by omega
                have ob : (en : Int) < (b : Int) := by omega
                have L2 : Ss.MPre (ltOf cf) Md.tag mid en b d := by
                  obtain ⟨e1, e2, e3, e4, e5, e6, e7⟩ := HE.out
                  have H1 := Ss.high_sorted HP.out RA.out e1 e2 e3
                  rw [← e5] at H1
                  exact H1.congr (fun i hi _ => PB.out.1.2.1 i (Or.inr hi)) (by omega) (by omega)
                have k3 : Merges g cb cf blk off cap w0 d.size mid en b d wr := IH.out mid en b d wr (by have := HE.out; omega) ZB.out SB.out hC.1 hC.2 (by have := ZB.out; have := HS.out; have := HE.out; omega) L2
                clear hC L2
                go_wp2_with (go_at_call 274; fail)
                all_goals
                  go_at_call 274
                  refine k3.mono ?_
                  rintro ex wC ⟨rfl, d3, h3, T3⟩
                  have HF : Hid (Ss.MPost (ltOf cf) Md.tag a b d d3 ∧ SWK enc 2 w0 blk off d3 wC) := by
                    obtain ⟨e1, e2, e3, e4, e5, e6, e7⟩ := HE.out
                    exact ⟨Ss.merged HT.out.swo HP.out HFo.out RA.out e1 e2 e3 e4 hb e5 PB.out h3, T3⟩
                  clear k3 h3 T3 SB
                  go_wp2
                  go_end0
                  exact ⟨rfl, d3, HF.out⟩
              · have HF : Hid (Ss.MPost (ltOf cf) Md.tag a b d d ∧ SWK enc 2 w0 blk off d wr) := by
                  obtain ⟨e1, e2, e3, e4, e5, e6, e7⟩ := HE.out
                  have H1 := Ss.high_sorted HP.out RA.out e1 e2 e3
                  rw [← e5] at H1
                  have L2 := H1.congr (fun i hi _ => PB.out.1.2.1 i (Or.inr hi)) (by omega) (by omega)
                  exact ⟨Ss.merged HT.out.swo HP.out HFo.out RA.out e1 e2 e3 e4 hb e5 PB.out (Ss.post_none L2 (by omega) e4 hC), SB.out⟩
                by_cases hC1 : mid < en
                · have oa : (mid : Int) < (en : Int) := by omega
                  have ob : ¬ ((en : Int) < (b : Int)) := by omega
                  clear SB hC
                  go_wp2
                  all_goals
                    go_end0
                    exact ⟨rfl, d, HF.out⟩
                · have oa : ¬ ((mid : Int) < (en : Int)) := by omega
                  clear SB hC
                  go_wp2
                  all_goals
                    go_end0
                    exact ⟨rfl, d, HF.out⟩
            · have pa : ¬ ((a : Int) < (st : Int)) := by omega
              clear SA hB
              by_cases hC : mid < en ∧ en < b
              · have oa : (mid : Int) < (en : Int) := by omega
                have ob : (en : Int) < (b : Int) := by omega
                have L2 : Ss.MPre (ltOf cf) Md.tag mid en b d := by
                  obtain ⟨e1, e2, e3, e4, e5, e6, e7⟩ := HE.out
                  have H1 := Ss.high_sorted HP.out RA.out e1 e2 e3
                  rw [← e5] at H1
                  exact H1.congr (fun i hi _ => PB.out.1.2.1 i (Or.inr hi)) (by omega) (by omega)
                have k3 : Merges g cb cf blk off cap w0 d.size mid en b d wr := IH.out mid en b d wr (by have := HE.out; omega) ZB.out SB.out hC.1 hC.2 (by have := ZB.out; have := HS.out; have := HE.out; omega) L2
                clear hC L2
                go_wp2_with (go_at_call 274; fail)
                all_goals
                  go_at_call 274
                  refine k3.mono ?_
                  rintro ex wC ⟨rfl, d3, h3, T3⟩
                  have HF : Hid (Ss.MPost (ltOf cf) Md.tag a b d d3 ∧ SWK enc 2 w0 blk off d3 wC) := by
                    obtain ⟨e1, e2, e3, e4, e5, e6, e7⟩ := HE.out
                    exact ⟨Ss.merged HT.out.swo HP.out HFo.out RA.out e1 e2 e3 e4 hb e5 PB.out h3, T3⟩
                  clear k3 h3 T3 SB
                  go_wp2
                  go_end0
                  exact ⟨rfl, d3, HF.out⟩
              · have HF : Hid (Ss.MPost (ltOf cf) Md.tag a b d d ∧ SWK enc 2 w0 blk off d wr) := by
                  obtain ⟨e1, e2, e3, e4, e5, e6, e7⟩ := HE.out
                  have H1 := Ss.high_sorted HP.out RA.out e1 e2 e3
                  rw [← e5] at H1
                  have L2 := H1.congr (fun i hi _ => PB.out.1.2.1 i (Or.inr hi)) (by omega) (by omega)
                  exact ⟨Ss.merged HT.out.swo HP.out HFo.out RA.out e1 e2 e3 e4 hb e5 PB.out (Ss.post_none L2 (by omega) e4 hC), SB.out⟩
                by_cases hC1 : mid < en
                · have oa : (mid : Int) < (en : Int) := by omega
                  have ob : ¬ ((en : Int) < (b : Int)) := by omega
                  clear SB hC
                  go_wp2
                  all_goals
                    go_end0
                    exact ⟨rfl, d, HF.out⟩
                · have oa : ¬ ((mid : Int) < (en : Int)) := by omega
                  clear SB hC
                  go_wp2
                  all_goals
                    go_end0
                    exact ⟨rfl, d, HF.out⟩

theorem symMerge_any (T : Told g cb cf blk off d0 w0) (cap : Nat) : ∀ (n a m b : Nat) (d : Array Md) (w : World), b - a ≤ n → d.size = d0.size → SWK enc 2 w0 blk off d w → a < m → m < b → b ≤ d.size → Ss.MPre (ltOf cf) Md.tag a m b d → Merges g cb cf blk off cap w0 d0.size a m b d w := by
  intro n
  induction n with
  | zero => intro a m b d w hn _ _ h1 h2 _ _; omega
  | succ n ih =>
    intro a m b d w hn hs S h1 h2 hb hP
    rw [← hs]
    by_cases c1 : m = a + 1
    · exact sym_one T cap a m b d w hs S c1 h2 hb hP
    · by_cases c2 : b = m + 1
      · exact sym_last T cap a m b d w hs S (by omega) c2 hb hP
      · have ih2 : ∀ a' m' b' (d' : Array Md) (w' : World), b' - a' < b - a → d'.size = d0.size → SWK enc 2 w0 blk off d' w' → a' < m' → m' < b' → b' ≤ d'.size → Ss.MPre (ltOf cf) Md.tag a' m' b' d' → Merges g cb cf blk off cap w0 d.size a' m' b' d' w' := fun a' m' b' d' w' hlt hs' S' k1 k2 k3 k4 => by
          rw [hs]
          exact ih a' m' b' d' w' (by omega) hs' S' k1 k2 k3 k4
        by_cases c3 : (a + b) / 2 < m
        · exact sym_rec1 T cap a m b d w hs S (by omega) (by omega) hb hP c3 ih2
        · exact sym_rec2 T cap a m b d w hs S (by omega) (by omega) hb hP (by omega) ih2

end Sm
end Go.Proofs.YtelmkfkgpnadnaaGreatDoor
