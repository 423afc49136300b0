/-
  The law Rounded: its walk.
-/
import Derived.Test.YtelmkfkgpnadnaaGreatDoorKRWC
import Derived.Deep.CutBlock
import Derived.Deep.RegionHeldLaw
import Derived.Deep.RegionLaw
import Derived.Deep.AppendLies
import Derived.Deep.DeepCutAuto
namespace Go.Proofs.YtelmkfkgpnadnaaGreatDoor
open Go.RowKit
namespace Rn
open Mf
open Tx (wM wR wE wP wA)

variable {w w' W W2 W3 : World}

theorem words_new (W : World) (ws : List (List UInt8)) (t : TypeId) : WordsAt (W.alloc (.cells (ws.map fun u => Value.string (ba u)).toArray t)) W.heap.size ws := by
  refine ⟨by simp, fun j hj => ?_⟩
  have h : (W.alloc (.cells (ws.map fun u => Value.string (ba u)).toArray t)).heap[W.heap.size]? = some (.cells (ws.map fun u => Value.string (ba u)).toArray t) := heap_alloc_new _ _
  simp only [World.cell?, h]
  simp [hj]

set_option maxRecDepth 100000 in
set_option maxHeartbeats 4000000 in
theorem rounded_any (tv ov sv : Value) (top out swaps : List Int) (turn c : Int) (w : World) (hml : Dr.Ml w) (l1 : top.length ≤ 9223372036854775807) (l2 : out.length ≤ 9223372036854775807) (l3 : swaps.length ≤ 9223372036854775807) (t1 : -9223372036854775808 ≤ turn ∧ turn ≤ 9223372036854775807) (t2 : -9223372036854775808 ≤ c ∧ c ≤ 9223372036854775807)
    (h1 : RdI w tv top) (h2 : RdI w ov out) (h3 : RdI w sv swaps) :
    Calls Tryz.prog 6 #[tv, ov, sv, .int .i64 turn, .int .i64 c] w fun e w' => e = .returned (.bool true) ∧ Below w.heap.size w w' := by
  obtain ⟨i3, hi1, hi2, hi3, hi4⟩ := Bm.infoOf 33 (.slice none 0 0) 1 24 (by kernel_rfl)
  have HI : Hid (Tryz.prog.info? 33 = some i3 ∧ i3.zero = some (.slice none 0 0) ∧ i3.size = 1 ∧ i3.bytes = 24) := ⟨hi1, hi2, hi3, hi4⟩
  clear hi1 hi2 hi3 hi4
  have k14 := requires_any tv top w l1 h1
  have HR : Hid (ReqOk (reqUpto top top.length)) := reqUpto_ok top _ (Nat.le_refl _)
  generalize hRR : reqUpto top top.length = R at *
  obtain ⟨oa, oc, rfl, h2⟩ := h2
  obtain ⟨sa, sc, rfl, h3⟩ := h3
  have HL1 : Hid (∀ i, i < min out.length 6 → ∃ b o x, oa = some ⟨b, o, none⟩ ∧ b < w.heap.size ∧ w.cell? ⟨b, o + i, none⟩ = some (.int .i64 x) ∧ -9223372036854775808 ≤ x ∧ x ≤ 9223372036854775807 ∧ lines1 top out (i + 1) = once (lines1 top out i) (exIt x) ∧ Stage (lines1 top out i) (7 + i)) := fun i hi => by
    have hi2 : i < out.length := by omega
    obtain ⟨hr, b, o, e, hb, hc⟩ := h2 i out[i] (List.getElem?_eq_getElem hi2)
    exact ⟨b, o, out[i], e, hb, hc, hr.1, hr.2, addUpto_next _ _ _ i _ (List.getElem?_eq_getElem hi2), stage1 top out i (by omega)⟩
  have HL2 : Hid (∀ i, i < min swaps.length 6 → ∃ b o x, sa = some ⟨b, o, none⟩ ∧ b < w.heap.size ∧ w.cell? ⟨b, o + i, none⟩ = some (.int .i64 x) ∧ -9223372036854775808 ≤ x ∧ x ≤ 9223372036854775807 ∧ lines2 top out swaps (i + 1) = once (lines2 top out swaps i) (reIt x) ∧ Stage (lines2 top out swaps i) (13 + i)) := fun i hi => by
    have hi2 : i < swaps.length := by omega
    obtain ⟨hr, b, o, e, hb, hc⟩ := h3 i swaps[i] (List.getElem?_eq_getElem hi2)
    exact ⟨b, o, swaps[i], e, hb, hc, hr.1, hr.2, addUpto_next _ _ _ i _ (List.getElem?_eq_getElem hi2), stage2 top out swaps i (by omega)⟩
  have HZ1 : Hid (lines1 top out 0 = R) := by show lines1 top out 0 = R; rw [← hRR]; rfl
  have HZ2 : Hid (lines2 top out swaps 0 = lines1 top out (min out.length 6)) := rfl
  have HIts : Hid (Its (lines2 top out swaps (min swaps.length 6)) ∧ ∀ y ∈ R, y ∈ lines2 top out swaps (min swaps.length 6)) := ⟨its_of top out swaps, fun y hy => req_mem top out swaps (by rw [hRR]; exact hy)⟩
  generalize lines1 top out = L1 at *
  generalize lines2 top out swaps = L2 at *
  have HML : Hid (Dr.Ml w) := hml
  clear h1 h2 h3 hml
  generalize hM1 : out.length = M1 at *
  generalize hM2 : swaps.length = M2 at *
  have hn7 : R.length ≤ 7 := HR.out.len
  go_enter Tryz.func6, Tryz.ntmps6
  go_wp2_with (first | (go_at_call 14; refine k14.mono ?_; rintro e W0 ⟨rv, rfl, hown, hb0⟩))
  have HS0 : Hid (St w rv R W0.heap.size (.slice none 0 0) [] [] (W0.alloc (.cells mCells 26))) :=
    ⟨hb0.alloc hb0.size _, hown.alloc _, heap_alloc_new _ _, ⟨hb0.size, by simp⟩, ⟨rfl, World.ownsRow_nil .., fun i g x h _ => by simp at h⟩, fun b e => by simp [Value.ownBlock] at e⟩
  obtain ⟨ra, rc, hrv⟩ := own_slice' hown
  subst hrv
  generalize W0.alloc (.cells mCells 26) = W1 at *
  generalize W0.heap.size = mb at *
  clear hown hb0 k14
  have HRG : Hid (∀ i, i < R.length → ∃ y, R[i]? = some y ∧ R.take (i + 1) = R.take i ++ [y] ∧ itW y = [wR, pW y.k, vW y.v] ∧ (R.map mR)[i]! = (ba (pW y.k), ba (vW y.v))) := fun i hi => by
    refine ⟨R[i], List.getElem?_eq_getElem hi, by rw [List.take_add_one, List.getElem?_eq_getElem hi]; rfl, ?_, ?_⟩
    · unfold itW; rw [if_pos (HR.out.t R[i] (List.getElem_mem hi))]
    · rw [getElem!_pos _ i (by simpa using hi), List.getElem_map]; rfl
  generalize hn : R.length = n at *
  go_loopg [13, 14] n (fun gg lv iv wr => ∃ (i : Nat) (la : Option Addr) (lc : Nat) (gs : List Nat), i ≤ n ∧ n - i ≤ gg ∧ iv = .int .i64 i ∧ lv = .slice la i lc ∧ Hid (St w (.slice ra n rc) R mb (.slice la i lc) gs (R.take i) wr))
  case atStart => exact ⟨0, none, 0, [], by omega, by omega, rfl, rfl, HS0⟩
  case round =>
    obtain ⟨i, la, lc, gs, hi, hg, rfl, rfl, HS⟩ := hrel
    by_cases hlt : i < n
    · obtain ⟨y, hy, HTk, hyw, hym⟩ := HRG.out i hlt
      have HY : Hid (R.take (i + 1) = R.take i ++ [y] ∧ itW y = [wR, pW y.k, vW y.v]) := ⟨HTk, hyw⟩
      have hltI : (i : Int) < (n : Int) := by omega
      have hrd : Sm.Rd wr (.slice ra n rc) (R.map mR) := by
        have e : (R.map mR).length = n := by rw [List.length_map, hn]
        have h := HS.out.r
        rw [hn, ← e] at h
        have := rd_of_mcs h
        rw [e] at this
        exact this
      obtain ⟨b3, o3, c3, eg, x0, x1⟩ := rd_mod hrd (Below.refl _ _) i (by rw [List.length_map, hn]; exact hlt)
      injection eg with eg1 eg2 eg3
      clear eg2
      subst eg1; subst eg3
      rw [hym] at x0 x1
      have hil : (R.take i).length = i := by rw [List.length_take, hn]; omega
      have HOE : Hid (wr.ownsRow w.heap.size 33 1 (.slice la i lc) i (lcells gs (R.take i))) := by have := HS.out.l.row; rw [hil] at this; exact this
      have hoe : (((wr.alloc (.cells #[.string ⟨#[114, 101, 113, 117, 105, 114, 101]⟩, .string (ba (pW y.k)), .string (ba (vW y.v))] 9)).alloc (.cells #[.slice (some ⟨wr.heap.size, 0, none⟩) 3 3] 33)).drew).ownsRow w.heap.size 33 1 (.slice la i lc) i (lcells gs (R.take i)) := own_of_block ((HOE.out.alloc _).alloc _) (fun _ _ => rfl)
      have hnw : ∀ j u, [Value.slice (some ⟨wr.heap.size, 0, none⟩) 3 3][j]? = some u → (((wr.alloc (.cells #[.string ⟨#[114, 101, 113, 117, 105, 114, 101]⟩, .string (ba (pW y.k)), .string (ba (vW y.v))] 9)).alloc (.cells #[.slice (some ⟨wr.heap.size, 0, none⟩) 3 3] 33)).drew).cell? ((⟨wr.heap.size + 1, 0, none⟩ : Addr).add j) = some u := fun j u hj => by
        have h := cell_one_new (wr.alloc (.cells #[.string ⟨#[114, 101, 113, 117, 105, 114, 101]⟩, .string (ba (pW y.k)), .string (ba (vW y.v))] 9)) (.slice (some ⟨wr.heap.size, 0, none⟩) 3 3) 33 j u hj
        rw [show (wr.alloc (.cells #[.string ⟨#[114, 101, 113, 117, 105, 114, 101]⟩, .string (ba (pW y.k)), .string (ba (vW y.v))] 9)).heap.size = wr.heap.size + 1 by simp] at h
        exact h
      have hB : w.heap.size ≤ wr.heap.size + 1 + 1 := by have := HS.out.b.size; omega
      clear hy HTk hyw hym hrd
      go_upto_region 7 with fail
      go_region_law
        (first | (refine step_append_lies _ rfl (.tmp 45) (.tmp 57) 32 rfl w.heap.size 33 i3 (.slice none 0 0) 1 24 Tryz.underlying32 HI.out.1 HI.out.2.1 HI.out.2.2.1 HI.out.2.2.2 rfl (by decide) _ i _ rfl hoe ⟨wr.heap.size + 1, 0, none⟩ 1 1 [.slice (some ⟨wr.heap.size, 0, none⟩) 3 3] rfl rfl hnw (fun u hu => by simp at hu; subst hu; rfl) (by decide) (by unfold maxLen; omega) (by omega) (by simpa using hB) _ rfl ?_; intro g cap w2 hown' hgrow hat hlt2))
      all_goals
        have HN : Hid (St w (.slice (some ⟨b3, o3, none⟩) n rc) R mb (.slice (some ⟨g, 0, none⟩) (i + 1) cap) (gs ++ [wr.heap.size]) (R.take (i + 1)) w2) := by
          have hb2 : Below wr.heap.size wr (((wr.alloc (.cells #[.string ⟨#[114, 101, 113, 117, 105, 114, 101]⟩, .string (ba (pW y.k)), .string (ba (vW y.v))] 9)).alloc (.cells #[.slice (some ⟨wr.heap.size, 0, none⟩) 3 3] 33)).drew) := (((Below.refl _ _).alloc (Nat.le_refl _) _).alloc (by simp) _).drew
          have hw2 : WordsAt (((wr.alloc (.cells #[.string ⟨#[114, 101, 113, 117, 105, 114, 101]⟩, .string (ba (pW y.k)), .string (ba (vW y.v))] 9)).alloc (.cells #[.slice (some ⟨wr.heap.size, 0, none⟩) 3 3] 33)).drew) wr.heap.size (itW y) := by
            rw [HY.out.2]
            exact (words_new wr [wR, pW y.k, vW y.v] 9).below (((Below.refl _ _).alloc (Nat.le_refl _) _).drew)
          have hlc : lcell wr.heap.size y = .slice (some ⟨wr.heap.size, 0, none⟩) 3 3 := by unfold lcell; rw [HY.out.2]; rfl
          have hloc : ∀ b, (Value.slice (some ⟨g, 0, none⟩) (i + 1) cap).ownBlock = some b → (Value.slice la i lc).ownBlock = some b ∨ wr.heap.size + 1 + 1 ≤ b := fun b e => by
            have e2 : g = b := by simpa [Value.ownBlock] using e
            subst e2
            rcases hat with h | h
            · exact Or.inl h
            · right; rw [h]; simp
          have hsn := HS.out.l.snoc (gx := wr.heap.size) (x := y) hb2 hw2 (fun e => by have := (HOE.out.lt _ e).2; omega) (by rw [hlc, hil]; exact hown') ⟨hgrow.os, hgrow.tape, hgrow.output, hgrow.size, hgrow.block⟩ (fun b e => by
            rcases hloc b e with h | h
            · exact Or.inl h
            · right; simp; omega)
          show St _ _ _ _ _ _ _ _
          rw [HY.out.1]
          exact HS.out.lines hsn.1 hsn.2 (fun b e => by
            rcases hloc b e with h | h
            · exact Or.inl h
            · right; omega)
        clear hown' hgrow hat hlt2 hoe hnw HOE HS HY x0 x1
        go_wp2
        go_roundg (n - (i + 1))
        case measure => omega
        case rel => exact ⟨i + 1, _, _, _, by omega, by omega, by go_num, rfl, HN⟩
    · have hltI : ((i : Int) < (n : Int)) = False := by simp; omega
      have hin : i = n := by omega
      have HS1 : Hid (St w (.slice ra n rc) R mb (.slice la n lc) gs R wr) := by
        have h := HS.out
        rw [hin, List.take_of_length_le (by omega)] at h
        exact h
      rw [hin]
      clear HS HS0 HRG hin hlt hi hg
      go_upto_block 2 with fail
      clear hltI
      have HSa : Hid (St w (.slice ra n rc) R mb (.slice la n lc) gs (L1 0) wr ∧ n = (L1 0).length) := by
        rw [HZ1.out]
        exact ⟨HS1.out, hn.symm⟩
      clear HS1
      generalize hN2 : min M1 6 = N2 at *
      generalize hN3 : min M2 6 = N3 at *
      go_cut [13] (fun lv wx => ∃ (la : Option Addr) (m lc : Nat) (gs : List Nat), lv = .slice la m lc ∧ Hid (St w (.slice ra n rc) R mb (.slice la m lc) gs (L2 0) wx ∧ m = (L2 0).length))
      case first =>
        go_wp2_with fail
        go_loopg [13, 15] N2 (fun gg lv iv wr => ∃ (i m : Nat) (la : Option Addr) (lc : Nat) (gs : List Nat), i ≤ N2 ∧ N2 - i ≤ gg ∧ iv = .int .i64 i ∧ lv = .slice la m lc ∧ Hid (St w (.slice ra n rc) R mb (.slice la m lc) gs (L1 i) wr ∧ m = (L1 i).length))
        case atStart => exact ⟨0, _, _, _, _, by omega, by omega, rfl, rfl, HSa⟩
        case round =>
          clear HSa
          obtain ⟨i, m, la, lc, gs, hi, hg, rfl, rfl, HS⟩ := hrel
          by_cases hlt : i < N2
          · obtain ⟨b, o, x, rfl, hb, hcx, hx1, hx2, hN, hSt⟩ := HL1.out i hlt
            have hltI : (i : Int) < (M1 : Int) := by omega
            have hlt6 : (i : Int) < 6 := by omega
            have hcell : wr.cell? ⟨b, o + i, none⟩ = some (.int .i64 x) := by rw [HS.out.1.b.cell (p := ⟨b, o + i, none⟩) hb]; exact hcx
            have kp := fun W => pick_any x 28 W (by omega) hx1 hx2
            have hm := pk_lt x 28 (by omega)
            have HX : Hid (L1 (i + 1) = once (L1 i) (exIt x) ∧ Stage (L1 i) (7 + i) ∧ itW (exIt x) = [wE, pW (pk x 28 / 4), vW (pk x 28 % 4)] ∧ ItOk (exIt x)) := ⟨hN, hSt, rfl, (exIt_ok x).1⟩
            clear hN hSt hx1 hx2 hcx
            generalize exIt x = X at *
            generalize pk x 28 = q at *
            have k16 := fun W => path_nat q hm W
            have k17 := fun W => version_nat q W
            generalize pW (q / 4) = pp at *
            generalize vW (q % 4) = vv at *
            go_wp2_with (first | (go_at_call 15; refine (kp _).mono ?_; rintro e w' ⟨rfl, rfl⟩) | (go_at_call 16; refine (k16 _).mono ?_; rintro e w1 ⟨rfl, hb1⟩) | (go_at_call 17; refine (k17 _).mono ?_; rintro e w2 ⟨rfl, rfl⟩) | (go_at_call 18; fail))
            have k18 := once_st (gx := w2.heap.size) (k := 3) (W2 := w2.alloc (.cells #[.string ⟨#[101, 120, 99, 108, 117, 100, 101]⟩, .string (ba pp), .string (ba vv)] 9)) HS.out (by have := HX.out.2.1.len; omega) HX.out.2.1.ok HX.out.2.2.2 (hb1.alloc hb1.size _) (by rw [HX.out.2.2.1]; exact words_new w2 [wE, pp, vv] 9) hb1.size (by rw [HX.out.2.2.1]; rfl)
            go_at_call 18
            refine k18.mono ?_
            rintro e w4 ⟨la', m', lc', gs', rfl, hS4⟩
            have HN : Hid (St w (.slice ra n rc) R mb (.slice la' m' lc') gs' (L1 (i + 1)) w4 ∧ m' = (L1 (i + 1)).length) := by
              rw [HX.out.1]
              exact hS4
            clear hS4 k18 hb1 hcell HS HX
            go_wp2
            go_roundg (N2 - (i + 1))
            case measure => omega
            case rel => exact ⟨i + 1, _, _, _, _, by omega, by omega, by go_num, rfl, HN⟩
          · have hiN : i = N2 := by omega
            have HSb : Hid (St w (.slice ra n rc) R mb (.slice la m lc) gs (L2 0) wr ∧ m = (L2 0).length) := by
              rw [HZ2.out, ← hiN]
              exact HS.out
            clear HS HL1
            have hex : (M1 : Int) ≤ (i : Int) ∨ ((i : Int) < (M1 : Int) ∧ (6 : Int) ≤ (i : Int)) := by
              by_cases h : (i : Int) < (M1 : Int)
              · right; exact ⟨h, by omega⟩
              · left; omega
            clear hiN hlt hi hg
            rcases hex with hq | ⟨hq, hq6⟩
            all_goals
              go_wp2
              go_meet
              case rel => exact ⟨_, _, _, _, rfl, HSb⟩
      case rest =>
        obtain ⟨la, m, lc, gs, rfl, HSb⟩ := hcut
        clear HSa HL1 HZ2
        go_upto_block 4 with fail
        go_cut [13] (fun lv wx => ∃ (la : Option Addr) (m lc : Nat) (gs : List Nat), lv = .slice la m lc ∧ Hid (St w (.slice ra n rc) R mb (.slice la m lc) gs (L2 N3) wx ∧ m = (L2 N3).length))
        case first =>
          go_wp2_with fail
          go_loopg [13, 18] N3 (fun gg lv iv wr => ∃ (i m : Nat) (la : Option Addr) (lc : Nat) (gs : List Nat), i ≤ N3 ∧ N3 - i ≤ gg ∧ iv = .int .i64 i ∧ lv = .slice la m lc ∧ Hid (St w (.slice ra n rc) R mb (.slice la m lc) gs (L2 i) wr ∧ m = (L2 i).length))
          case atStart => exact ⟨0, _, _, _, _, by omega, by omega, rfl, rfl, HSb⟩
          case round =>
            clear HSb
            obtain ⟨i, m, la, lc, gs, hi, hg, rfl, rfl, HS⟩ := hrel
            by_cases hlt : i < N3
            · obtain ⟨b, o, x, rfl, hb, hcx, hx1, hx2, hN, hSt⟩ := HL2.out i hlt
              have hltI : (i : Int) < (M2 : Int) := by omega
              have hlt6 : (i : Int) < 6 := by omega
              have hcell : wr.cell? ⟨b, o + i, none⟩ = some (.int .i64 x) := by rw [HS.out.1.b.cell (p := ⟨b, o + i, none⟩) hb]; exact hcx
              have hbw : b < wr.heap.size := by have := HS.out.1.b.size; omega
              have kp := fun W => pick_any x 28 W (by omega) hx1 hx2
              have kv := fun W => version_any x W hx1 hx2
              have hm := pk_lt x 28 (by omega)
              have HX : Hid (L2 (i + 1) = once (L2 i) (reIt x) ∧ Stage (L2 i) (13 + i) ∧ itW (reIt x) = [wP, pW (pk x 28 / 4), vW (pk x 28 % 4), wA, vW (pk x 4)] ∧ ItOk (reIt x)) := ⟨hN, hSt, rfl, (reIt_ok x).1⟩
              clear hN hSt hx1 hx2 hcx
              generalize reIt x = X at *
              generalize pk x 28 = q at *
              have k16 := fun W => path_nat q hm W
              have k17 := fun W => version_nat q W
              generalize pW (q / 4) = pp at *
              generalize vW (q % 4) = vv at *
              generalize vW (pk x 4) = vb at *
              go_wp2_with (first | (go_at_call 15; refine (kp _).mono ?_; rintro e w' ⟨rfl, rfl⟩) | (go_at_call 16; fail))
              have k16c : ∀ W, b < W.heap.size → W.cell? ⟨b, o + i, none⟩ = some (.int .i64 x) → Calls Tryz.prog 16 #[.int .i64 ((q : Int) / 4)] W fun e w' => e = .returned (.string (ba pp)) ∧ Below W.heap.size W w' ∧ w'.cell? ⟨b, o + i, none⟩ = some (.int .i64 x) := fun W h1 h2 => (k16 W).mono (by
                rintro e w1 ⟨rfl, hb1⟩
                exact ⟨rfl, hb1, by rw [hb1.cell (p := ⟨b, o + i, none⟩) h1]; exact h2⟩)
              have hw4 : IntKind.i64.wrap ((q : Int) / 4) = (q : Int) / 4 := wrapR _ (by omega) (by omega)
              have hw5 : IntKind.i64.wrap ((q : Int) % 4) = (q : Int) % 4 := wrapR _ (by omega) (by omega)
              go_region_held3 (fun w' => w'.cell? ⟨b, o + i, none⟩ = some (.int .i64 x))
                (first | exact hcell | exact hc1 | (rw [World.cell?_alloc_lt _ _ _ (World.block_lt_of_cell? _ _ hc1)]; exact hc1))
                (first | (go_at_call 16; refine (k16c _ (by exact hbw) (by exact hcell)).mono ?_; rintro e w1 ⟨rfl, hb1, hc1⟩) | (go_at_call_of 17 (Value.int .i64 x); refine (kv _).mono ?_; rintro e w3 ⟨rfl, rfl⟩) | (go_at_call 17; refine (k17 _).mono ?_; rintro e w2 ⟨rfl, rfl⟩))
              have hbd : Below w'.heap.size w' w3 := (Below.refl w'.heap.size w').drew.trans hb1
              have k18 := once_st (gx := w3.heap.size) (k := 5) (W2 := w3.alloc (.cells #[.string ⟨#[114, 101, 112, 108, 97, 99, 101]⟩, .string (ba pp), .string (ba vv), .string ⟨#[61, 62]⟩, .string (ba vb)] 9)) HS.out (by have := HX.out.2.1.len; omega) HX.out.2.1.ok HX.out.2.2.2 (hbd.alloc hbd.size _) (by rw [HX.out.2.2.1]; exact words_new w3 [wP, pp, vv, wA, vb] 9) hbd.size (by rw [HX.out.2.2.1]; rfl)
              go_wp2_with (go_at_call 18; fail)
              go_at_call 18
              refine k18.mono ?_
              rintro e w4 ⟨la', m', lc', gs', rfl, hS4⟩
              have HN : Hid (St w (.slice ra n rc) R mb (.slice la' m' lc') gs' (L2 (i + 1)) w4 ∧ m' = (L2 (i + 1)).length) := by
                rw [HX.out.1]
                exact hS4
              clear hS4 k18 hb1 hbd hcell HS HX
              go_wp2
              go_roundg (N3 - (i + 1))
              case measure => omega
              case rel => exact ⟨i + 1, _, _, _, _, by omega, by omega, by go_num, rfl, HN⟩
            · have hiN : i = N3 := by omega
              have HSc : Hid (St w (.slice ra n rc) R mb (.slice la m lc) gs (L2 N3) wr ∧ m = (L2 N3).length) := by
                rw [← hiN]
                exact HS.out
              clear HS HL2
              have hex : (M2 : Int) ≤ (i : Int) ∨ ((i : Int) < (M2 : Int) ∧ (6 : Int) ≤ (i : Int)) := by
                by_cases h : (i : Int) < (M2 : Int)
                · right; exact ⟨h, by omega⟩
                · left; omega
              clear hiN hlt hi hg
              rcases hex with hq | ⟨hq, hq6⟩
              all_goals
                go_wp2
                go_meet
                case rel => exact ⟨_, _, _, _, rfl, HSc⟩
        case rest =>
          obtain ⟨la, m, lc, gs, rfl, HSc⟩ := hcut
          clear HSb HL2
          generalize L2 N3 = its at *
          have hm19 : m ≤ 19 := by rw [HSc.out.2]; exact HIts.out.1.len
          go_wp2_with (go_at_call 19; fail)
          have k19 : Calls Tryz.prog 19 #[.slice (some ⟨wc.heap.size, 0, none⟩) 2 2, .int .i64 c] (wc.alloc (.cells #[.string ⟨#[109, 111, 100, 117, 108, 101]⟩, .string ⟨#[97, 47, 98]⟩] 9)) fun e w' => e = .returned (.string (ba (txt (lxOf (bitsOf c) moduleW)))) ∧ w' = (wc.alloc (.cells #[.string ⟨#[109, 111, 100, 117, 108, 101]⟩, .string ⟨#[97, 47, 98]⟩] 9)) :=
            line_val c moduleW wc.heap.size 2 _ (by decide) (by decide) (by decide) (fun i h => (words_new wc moduleW 9).2 i h)
          have kp : ∀ W, Calls Tryz.prog 15 #[.int .i64 turn, .int .i64 ((m : Int) + 1)] W fun e w' => e = .returned (.int .i64 (pk turn (m + 1))) ∧ w' = W := fun W => pick_any turn (m + 1) W (by omega) t1.1 t1.2
          have kp2 := fun W => pick_any c 1048576 W (by omega) t2.1 t2.2
          have hq := pk_lt turn (m + 1) (by omega)
          have hp := pk_lt c 1048576 (by omega)
          have HB1 : Hid (St w (.slice ra n rc) R mb (.slice la m lc) gs its (wc.alloc (.cells #[.string ⟨#[109, 111, 100, 117, 108, 101]⟩, .string ⟨#[97, 47, 98]⟩] 9)) ∧ m = its.length) := ⟨HSc.out.1.below ((Below.refl _ _).alloc (Nat.le_refl _) _), HSc.out.2⟩
          obtain ⟨T, hT0, hTl, hTm, hTr⟩ := texts_of (w := w) (rv := .slice ra n rc) (R := R) (mb := mb) (lc := lc) (pc := pk c 1048576) (la := la) (gs := gs) c HIts.out.1 HSc.out.2 hq
          have HR1 : Hid (Its (rot (pk turn (m + 1)) its) ∧ (∀ y ∈ R, y ∈ rot (pk turn (m + 1)) its) ∧ (rot (pk turn (m + 1)) its).length = m ∧ ∀ y ∈ its, y ∈ rot (pk turn (m + 1)) its) := by
            have hp := rot_perm (pk turn (m + 1)) its
            exact ⟨HIts.out.1.rot _, fun y hy => hp.mem_iff.2 (HIts.out.2 y hy), by rw [rot_len]; exact HSc.out.2.symm, fun y hy => hp.mem_iff.2 hy⟩
          generalize pk turn (m + 1) = q at *
          generalize rot q its = l at *
          generalize pk c 1048576 = pc at *
          have HT : Hid (T 0 = txt (lxOf (bitsOf c) moduleW)) := hT0
          have HTL : Hid (∀ i, (T i).length ≤ 1523) := hTl
          have HTM : Hid (∀ x : ByteArray, x.data.toList = T m → manSlips x = [] ∧ manMx x = ⟨ba [97, 47, 98], l.filterMap iR, l.filterMap iX, l.filterMap iS⟩) := hTm
          have HTR : Hid (∀ (wr : World), St w (.slice ra n rc) R mb (.slice la m lc) gs its wr → ∀ i, i < m → ∃ (j g0 gi k : Nat) (u : List UInt8), la = some ⟨g0, 0, none⟩ ∧ (((i : Int) + (q : Int)) % (m : Int) = (j : Int)) ∧ j < m ∧ wr.cell? ⟨g0, j, none⟩ = some (.slice (some ⟨gi, 0, none⟩) k k) ∧
                (∀ N, Calls Tryz.prog 19 #[.slice (some ⟨gi, 0, none⟩) k k, .int .i64 ((pc : Int) + (i : Int))] (wr.drewN N) fun e w' => e = .returned (.string (ba u)) ∧ w' = wr.drewN N) ∧ u.length ≤ 78 ∧ T (i + 1) = T i ++ u) := hTr
          clear hT0 hTl hTm hTr HSc
          generalize wc.alloc (.cells #[.string ⟨#[109, 111, 100, 117, 108, 101]⟩, .string ⟨#[97, 47, 98]⟩] 9) = W1 at *
          go_at_call 19
          refine k19.mono ?_
          rintro e w' ⟨rfl, rfl⟩
          have HT1 : Hid ((ba (txt (lxOf (bitsOf c) moduleW))).data.toList = T 0) := by
            show (ba (txt (lxOf (bitsOf c) moduleW))).data.toList = T 0
            rw [ba_data, HT.out]
          generalize ba (txt (lxOf (bitsOf c) moduleW)) = x0 at *
          go_upto_block 6 with ((go_at_call 15; refine (kp _).mono ?_; rintro e w' ⟨rfl, rfl⟩))
          go_wp2_with fail
          go_loopg [21, 23] m (fun gg sv iv wr => ∃ (i : Nat) (x : ByteArray), i ≤ m ∧ m - i ≤ gg ∧ sv = .string x ∧ iv = .int .i64 i ∧ Hid (St w (.slice ra n rc) R mb (.slice la m lc) gs its wr ∧ x.data.toList = T i))
          case atStart => exact ⟨0, _, by omega, by omega, rfl, rfl, HB1.out.1, HT1.out⟩
          case round =>
            obtain ⟨i, x, hi, hg, rfl, rfl, HS⟩ := hrel
            have hxs : x.size ≤ 1523 := by rw [ba_size HS.out.2]; exact HTL.out i
            by_cases hlt : i < m
            · obtain ⟨j, g0, gi, k, u, rfl, hrem, hj, hcj, kl, hu, hTn⟩ := HTR.out wr HS.out.1 i hlt
              have HTN : Hid (T (i + 1) = T i ++ u) := hTn
              have hltI : (i : Int) < (m : Int) := by omega
              have hus : (ba u).size ≤ 78 := by rw [ba_size (ba_data u)]; exact hu
              have hw1 : IntKind.i64.wrap ((i : Int) + (q : Int)) = (i : Int) + (q : Int) := wrapR _ (by omega) (by omega)
              have hw2 : IntKind.i64.wrap (j : Int) = (j : Int) := wrapR _ (by omega) (by omega)
              have hw3 : IntKind.i64.wrap ((pc : Int) + (i : Int)) = (pc : Int) + (i : Int) := wrapR _ (by omega) (by omega)
              have hjI : (j : Int) < (m : Int) := by omega
              have hm0 : ((m : Int) == 0) = false := by simp; omega
              have hmz : ¬ (m : Int) = 0 := by omega
              clear hTn hu
              go_upto_region 25 with fail
              go_quiet (first | (go_at_call 15; exact Calls.quiet_of_same (kp2 _)) | (go_at_call 19; exact Calls.quiet_of_same (kl _)))
              have HN : Hid (St w (.slice ra n rc) R mb (.slice (some ⟨g0, 0, none⟩) m lc) gs its (wr.drewN nq) ∧ (x ++ ba u).data.toList = T (i + 1)) := ⟨HS.out.1.below (below_drewN' (Below.refl _ _) _), by rw [appR, HS.out.2, ba_data, HTN.out]⟩
              generalize wr.drewN nq = wN at *
              clear HS HTN hcj kl hrem hw1 hw2 hw3
              go_wp2
              go_roundg (m - (i + 1))
              case measure => omega
              case rel => exact ⟨i + 1, _, by omega, by omega, rfl, by go_num, HN⟩
            · have hltI : ((i : Int) < (m : Int)) = False := by simp; omega
              have hrd := HTM.out x (by rw [show m = i by omega]; exact HS.out.2)
              have HSr : Hid (St w (.slice ra n rc) R mb (.slice la m lc) gs its wr) := HS.out.1
              have HMr : Hid (Dr.Ml wr) := Sm.ml_below HML.out HS.out.1.b
              have k20 := man_good x _ _ _ _ wr HMr.out hrd
              have h3 := three_len HR1.out.1
              rw [HR1.out.2.2.1] at h3
              clear hrd HS HTL HTM HTR HT1 HT k19 kp kp2
              go_wp2_with (go_at_call 20; refine k20.mono ?_; rintro e w2 ⟨ra1, rc1, xa1, xc1, sa1, sc1, la1, lc1, rfl, hg2, hb2⟩)
              have HA2 : Hid (Below w2.heap.size w2 (w2.alloc (.cells #[.string (ba [97, 47, 98]), .slice ra1 (l.filterMap iR).length rc1, .slice xa1 (l.filterMap iX).length xc1, .slice sa1 (l.filterMap iS).length sc1] 26)) ∧ (w2.alloc (.cells #[.string (ba [97, 47, 98]), .slice ra1 (l.filterMap iR).length rc1, .slice xa1 (l.filterMap iX).length xc1, .slice sa1 (l.filterMap iS).length sc1] 26)).heap[w2.heap.size]? = some (.cells #[.string (ba [97, 47, 98]), .slice ra1 (l.filterMap iR).length rc1, .slice xa1 (l.filterMap iX).length xc1, .slice sa1 (l.filterMap iS).length sc1] 26)) := ⟨(Below.refl _ _).alloc (Nat.le_refl _) _, heap_alloc_new _ _⟩
              have hbA := hb2.trans (HA2.out.1.mono hb2.size)
              have hgA := hg2.below HA2.out.1
              generalize w2.alloc (.cells #[.string (ba [97, 47, 98]), .slice ra1 (l.filterMap iR).length rc1, .slice xa1 (l.filterMap iX).length xc1, .slice sa1 (l.filterMap iS).length sc1] 26) = W2 at *
              have HAA : Hid (W2.heap[w2.heap.size]? = some (.cells #[.string (ba [97, 47, 98]), .slice ra1 (l.filterMap iR).length rc1, .slice xa1 (l.filterMap iX).length xc1, .slice sa1 (l.filterMap iS).length sc1] 26)) := HA2.out.2
              clear HA2 hg2 hb2
              generalize w2.heap.size = a1 at *
              have k21 := fm_good HR1.out.1 _ _ _ W2 (Sm.ml_below HMr.out hbA) hgA
              go_at_call 21
              refine k21.mono ?_
              rintro e w3 ⟨rfl, hb3⟩
              have hbB := hbA.trans (hb3.mono hbA.size)
              have hgB := hgA.below hb3
              have HAB : Hid (w3.heap[a1]? = some (.cells #[.string (ba [97, 47, 98]), .slice ra1 (l.filterMap iR).length rc1, .slice xa1 (l.filterMap iX).length xc1, .slice sa1 (l.filterMap iS).length sc1] 26)) := by
                show w3.heap[a1]? = _
                rw [hb3.block a1 (block_lt HAA.out)]; exact HAA.out
              have k20b := man_fm HR1.out.1 w3 (Sm.ml_below HMr.out hbB)
              clear hb3 hbA hgA HAA k21 k20
              go_wp2_with (go_at_call 20; refine k20b.mono ?_; rintro e w4 ⟨ra2, rc2, xa2, xc2, sa2, sc2, la2, lc2, rfl, hg4, hb4⟩)
              have HA4 : Hid (Below w4.heap.size w4 (w4.alloc (.cells #[.string (ba [97, 47, 98]), .slice ra2 (l.filterMap iR).length rc2, .slice xa2 (l.filterMap iX).length xc2, .slice sa2 (l.filterMap iS).length sc2] 26)) ∧ (w4.alloc (.cells #[.string (ba [97, 47, 98]), .slice ra2 (l.filterMap iR).length rc2, .slice xa2 (l.filterMap iX).length xc2, .slice sa2 (l.filterMap iS).length sc2] 26)).heap[w4.heap.size]? = some (.cells #[.string (ba [97, 47, 98]), .slice ra2 (l.filterMap iR).length rc2, .slice xa2 (l.filterMap iX).length xc2, .slice sa2 (l.filterMap iS).length sc2] 26)) := ⟨(Below.refl _ _).alloc (Nat.le_refl _) _, heap_alloc_new _ _⟩
              have hbC := hbB.trans ((hb4.trans (HA4.out.1.mono hb4.size)).mono hbB.size)
              have hb5 := hb4.trans (HA4.out.1.mono hb4.size)
              have hgC := hgB.below hb5
              have hgD := hg4.below HA4.out.1
              generalize w4.alloc (.cells #[.string (ba [97, 47, 98]), .slice ra2 (l.filterMap iR).length rc2, .slice xa2 (l.filterMap iX).length xc2, .slice sa2 (l.filterMap iS).length sc2] 26) = W4 at *
              have HBB : Hid (W4.heap[w4.heap.size]? = some (.cells #[.string (ba [97, 47, 98]), .slice ra2 (l.filterMap iR).length rc2, .slice xa2 (l.filterMap iX).length xc2, .slice sa2 (l.filterMap iS).length sc2] 26)) := HA4.out.2
              have HAC : Hid (W4.heap[a1]? = some (.cells #[.string (ba [97, 47, 98]), .slice ra1 (l.filterMap iR).length rc1, .slice xa1 (l.filterMap iX).length xc1, .slice sa1 (l.filterMap iS).length sc1] 26)) := by
                show W4.heap[a1]? = _
                rw [hb5.block a1 (block_lt HAB.out)]; exact HAB.out
              clear HA4 hg4 hb4 hb5 HAB hgB k20b
              generalize w4.heap.size = b1 at *
              have k21b := fm_good HR1.out.1 _ _ _ W4 (Sm.ml_below HMr.out hbC) hgD
              have HF4 : Hid (Fin5 w W4 a1 b1 mb (ba [97, 47, 98]) (.slice ra1 (l.filterMap iR).length rc1) (.slice xa1 (l.filterMap iX).length xc1) (.slice sa1 (l.filterMap iS).length sc1) (.slice ra2 (l.filterMap iR).length rc2) (.slice xa2 (l.filterMap iX).length xc2) (.slice sa2 (l.filterMap iS).length sc2) (reqs (l.filterMap iR)) (excs (l.filterMap iX)) (reps (l.filterMap iS)) (.slice ra n rc) (R.map mR) (.slice la m lc) gs its) := by
                have hS := HSr.out.below hbC
                exact ⟨hS.b, HAC.out, HBB.out, hS.m, hgC, hgD, rd_of_mcs (by rw [List.length_map]; exact hS.r), hS.l⟩
              clear HAC HBB hgC hgD hbB hbC HSr
              go_at_call 21
              refine k21b.mono ?_
              rintro e w5 ⟨rfl, hb5⟩
              have HF : Hid (Fin5 w w5 a1 b1 mb (ba [97, 47, 98]) (.slice ra1 (l.filterMap iR).length rc1) (.slice xa1 (l.filterMap iX).length xc1) (.slice sa1 (l.filterMap iS).length sc1) (.slice ra2 (l.filterMap iR).length rc2) (.slice xa2 (l.filterMap iX).length xc2) (.slice sa2 (l.filterMap iS).length sc2) (reqs (l.filterMap iR)) (excs (l.filterMap iX)) (reps (l.filterMap iS)) (.slice ra n rc) (R.map mR) (.slice la m lc) gs its) := HF4.out.below hb5
              obtain ⟨F, hF5, hLw⟩ := laws_of HML.out HR1.out.1 HR.out.t HR1.out.2.1 hn HB1.out.2 HR1.out.2.2.1 HR1.out.2.2.2 HF.out
              have LW : Hid (Laws F w a1 b1 mb n (l.filterMap iR).length (l.filterMap iX).length (l.filterMap iS).length m (ba [97, 47, 98]) (ba (fm l)) ra la ra1 xa1 sa1 ra2 xa2 sa2 rc1 xc1 sc1 rc2 xc2 sc2) := hLw
              have HF5 : Hid (F w5) := hF5
              have hfs : (ba (fm l)).size ≤ 1523 := by rw [ba_size (ba_data _)]; exact fm_len HR1.out.1
              clear HF4 hb5 k21b HMr HF hF5 hLw HR1 HB1 HIts HR HML
              generalize ba (fm l) = t at *
              generalize (l.filterMap iR).length = nr at *
              generalize (l.filterMap iX).length = nx at *
              generalize (l.filterMap iS).length = ns at *
              generalize ba [97, 47, 98] = P at *
              have qt : (t.toList == t.toList) = true := by simp
              have qP : (P.toList == P.toList) = true := by simp
              have hsum : ((nr : Int) + (nx : Int) + (ns : Int) != (m : Int)) = false := by simp; omega
              have hsum2 : (nr : Int) + (nx : Int) + (ns : Int) = (m : Int) := by omega
              obtain ⟨⟨ca0, ca1, ca2, ca3⟩, ⟨cb1, cb2, cb3⟩, cm⟩ := LW.out.cells _ HF5.out
              go_upto_block 8 with fail
              clear ca0 ca1 ca2 ca3 cb1 cb2 cb3 cm
              go_wp2_with fail
              go_loopg [30] n (fun gg iv wr => ∃ i : Nat, i ≤ n ∧ n - i ≤ gg ∧ iv = .int .i64 i ∧ Hid (F wr))
              case atStart => exact ⟨0, by omega, by omega, rfl, HF5⟩
              case round =>
                obtain ⟨i, hi, hg, rfl, HFi⟩ := hrel
                clear HF5
                by_cases hlt : i < n
                · obtain ⟨b, o, s1, s2, rfl, x0, x1, k22⟩ := LW.out.has _ HFi.out i hlt
                  obtain ⟨⟨_, ca1, _, _⟩, _, _⟩ := LW.out.cells _ HFi.out
                  have hltI : (i : Int) < (n : Int) := by omega
                  go_upto_region 35 with fail
                  go_region_held3 (fun w' => w'.cell? ⟨a1, 1, none⟩ = some (.slice ra1 nr rc1) ∧ w'.cell? ⟨b, o + i * 2, none⟩ = some (.string s1) ∧ w'.cell? ⟨b, o + i * 2 + 1, none⟩ = some (.string s2))
                    (first | exact ⟨ca1, x0, x1⟩ | exact hc6)
                    ((go_at_call 22; refine (k22 _ (by exact (Below.refl _ _).drew)).mono ?_; rintro e w6 ⟨rfl, hF6, hc6⟩))
                  have HN : Hid (F w6) := hF6
                  clear ca1 x0 x1 k22 hF6 hc6 HFi
                  go_wp2
                  go_roundg (n - (i + 1))
                  case measure => omega
                  case rel => exact ⟨i + 1, by omega, by omega, by go_num, HN⟩
                · have hltI : ((i : Int) < (n : Int)) = False := by simp; omega
                  obtain ⟨⟨_, ca1, _, _⟩, ⟨cb1, _, _⟩, _⟩ := LW.out.cells _ HFi.out
                  have k23 := LW.out.same1 _ HFi.out
                  go_upto_region 38 with ((go_at_call 23; refine k23.mono ?_; rintro e w6 ⟨rfl, hF6⟩))
                  have HF6 : Hid (F w6) := hF6
                  clear ca1 cb1 k23 hF6 HFi hltI hlt hi hg
                  obtain ⟨⟨_, _, ca2, _⟩, ⟨_, cb2, _⟩, _⟩ := LW.out.cells _ HF6.out
                  have k23b := LW.out.same2 _ HF6.out
                  go_upto_region 39 with ((go_at_call 23; refine k23b.mono ?_; rintro e w7 ⟨rfl, hF7⟩))
                  have HF7 : Hid (F w7) := hF7
                  clear ca2 cb2 k23b hF7 HF6
                  obtain ⟨⟨_, _, _, ca3⟩, ⟨_, _, cb3⟩, _⟩ := LW.out.cells _ HF7.out
                  go_upto_block 10 with fail
                  clear ca3 cb3
                  go_wp2_with fail
                  go_loopg [33] nr (fun gg iv wr => ∃ i : Nat, 1 ≤ i ∧ nr - i ≤ gg ∧ iv = .int .i64 i ∧ Hid (F wr))
                  case atStart => exact ⟨1, by omega, by omega, rfl, HF7⟩
                  case round =>
                    obtain ⟨i, hi, hg, rfl, HFi⟩ := hrel
                    clear HF7
                    obtain ⟨⟨_, ca1, _, _⟩, _, _⟩ := LW.out.cells _ HFi.out
                    by_cases hlt : i < nr
                    · obtain ⟨k, rfl⟩ : ∃ k, i = k + 1 := ⟨i - 1, by omega⟩
                      obtain ⟨b, o, s1, s2, rfl, x0, x1, hless⟩ := LW.out.up _ HFi.out k hlt
                      have hltI : (k : Int) + 1 < (nr : Int) := by omega
                      have hkI : (k : Int) < (nr : Int) := by omega
                      have hw1 : IntKind.i64.wrap ((k : Int) + 1 - 1) = (k : Int) := by rw [Int.add_sub_cancel]; exact wrapR _ (by omega) (by omega)
                      go_upto_region 44 with fail
                      go_quiet (fail)
                      have HN : Hid (F (wr.drewN nq)) := LW.out.down _ _ HFi.out (below_drewN' (Below.refl _ _) _)
                      generalize wr.drewN nq = wN at *
                      clear HFi ca1 x0 x1 hless hw1
                      go_wp2
                      go_roundg (nr - (k + 1 + 1))
                      case measure => omega
                      case rel => exact ⟨k + 1 + 1, by omega, by omega, by go_num, HN⟩
                    · have hltI : ((i : Int) < (nr : Int)) = False := by simp; omega
                      by_cases hm0 : m = 0
                      · have hmI : ((m : Int) == 0) = true := by simp; omega
                        have HBf : Hid (Below w.heap.size w wr) := LW.out.b _ HFi.out
                        go_wp2
                        go_ret
                        exact ⟨rfl, HBf.out⟩
                      · have hmI : ((m : Int) == 0) = false := by simp; omega
                        have hmz : ¬ (m : Int) = 0 := by omega
                        have hj : q % m < m := Nat.mod_lt _ (by omega)
                        have hrem : (q : Int) % (m : Int) = ((q % m : Nat) : Int) := rfl
                        obtain ⟨g0, gi, k, u, rfl, x0, kl, hu, k20⟩ := LW.out.line _ HFi.out _ hj
                        have k20c := k20 _ HFi.out
                        generalize q % m = j at *
                        have hjI : (j : Int) < (m : Int) := by omega
                        go_upto_region 49 with (first | (go_at_call 19; refine kl.mono ?_; rintro e w' ⟨rfl, rfl⟩) | (go_at_call 20; refine k20c.mono ?_; rintro e w8 ⟨p8, ra8, rn8, rc8, xa8, xn8, xc8, sa8, sn8, sc8, g8, c8, rfl, hc8, hF8⟩))
                        have y0 : (w8.alloc (.cells #[.string p8, .slice ra8 rn8 rc8, .slice xa8 xn8 xc8, .slice sa8 sn8 sc8] 26)).cell? ⟨g8, 0, none⟩ = some (.int .i64 ((m : Int) + 2)) := by
                          rw [World.cell?_alloc_lt _ _ _ (World.block_lt_of_cell? _ _ hc8.1)]; exact hc8.1
                        have y1 : (w8.alloc (.cells #[.string p8, .slice ra8 rn8 rc8, .slice xa8 xn8 xc8, .slice sa8 sn8 sc8] 26)).cell? ⟨g8, 1, none⟩ = some (.int .i64 0) := by
                          rw [World.cell?_alloc_lt _ _ _ (World.block_lt_of_cell? _ _ hc8.2.1)]; exact hc8.2.1
                        have y2 : (w8.alloc (.cells #[.string p8, .slice ra8 rn8 rc8, .slice xa8 xn8 xc8, .slice sa8 sn8 sc8] 26)).cell? ⟨g8, 2, none⟩ = some (.int .i64 8) := by
                          rw [World.cell?_alloc_lt _ _ _ (World.block_lt_of_cell? _ _ hc8.2.2)]; exact hc8.2.2
                        have HB9 : Hid (Below w.heap.size w (w8.alloc (.cells #[.string p8, .slice ra8 rn8 rc8, .slice xa8 xn8 xc8, .slice sa8 sn8 sc8] 26))) := (LW.out.b _ hF8).alloc (LW.out.b _ hF8).size _
                        generalize w8.alloc (.cells #[.string p8, .slice ra8 rn8 rc8, .slice xa8 xn8 xc8, .slice sa8 sn8 sc8] 26) = W9 at *
                        have hq2 : ((m : Int) + 2 == (m : Int) + 2) = true := by simp
                        clear hc8 hF8 HFi kl k20 k20c x0
                        go_wp2
                        go_ret
                        exact ⟨rfl, HB9.out⟩

end Rn
end Go.Proofs.YtelmkfkgpnadnaaGreatDoor
