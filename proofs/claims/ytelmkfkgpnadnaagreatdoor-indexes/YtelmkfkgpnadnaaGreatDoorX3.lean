/-
  The program's Index.
-/
import Derived.Test.YtelmkfkgpnadnaaGreatDoorX2
import Derived.Test.YtelmkfkgpnadnaaGreatDoorR4
namespace Go.Proofs.YtelmkfkgpnadnaaGreatDoor
open Go.RowKit

variable {w w' : World}

theorem stcells_get : ∀ (l : List ByteArray) (j : Nat) (h : j < l.length), (stcells l)[j * 4]? = some (.string bVer) ∧ (stcells l)[j * 4 + 1]? = some (.string ⟨#[]⟩) ∧ (stcells l)[j * 4 + 2]? = some (.string l[j]) ∧ (stcells l)[j * 4 + 3]? = some (.string ⟨#[]⟩)
  | x :: r, 0, _ => ⟨rfl, rfl, rfl, rfl⟩
  | x :: r, j + 1, h => by
    have e : stcells (x :: r) = .string bVer :: .string ⟨#[]⟩ :: .string x :: .string ⟨#[]⟩ :: stcells r := rfl
    have ih := stcells_get r j (by simpa using h)
    rw [e]
    refine ⟨?_, ?_, ?_, ?_⟩
    · rw [show (j + 1) * 4 = j * 4 + 1 + 1 + 1 + 1 by omega]; simpa using ih.1
    · rw [show (j + 1) * 4 + 1 = j * 4 + 1 + 1 + 1 + 1 + 1 by omega]; simpa using ih.2.1
    · rw [show (j + 1) * 4 + 2 = j * 4 + 2 + 1 + 1 + 1 + 1 by omega]; simpa using ih.2.2.1
    · rw [show (j + 1) * 4 + 3 = j * 4 + 3 + 1 + 1 + 1 + 1 by omega]; simpa using ih.2.2.2

theorem own_sl_cases {e : TypeId} {B sz n : Nat} {u : Value} {l : List Value} (h : w.ownsRow B e sz u n l) : u = .slice none 0 0 ∧ n = 0 ∨ ∃ g c, u = .slice (some ⟨g, 0, none⟩) n c := by
  rcases h.2 with ⟨e1, e2⟩ | ⟨g, c, _, e1, _⟩
  · exact Or.inl ⟨e1, e2⟩
  · exact Or.inr ⟨g, c, e1⟩

theorem rd_new (W : World) : ValsAt (W.alloc (.cells #[.func (.func 165) #[] #[], .string ⟨#[]⟩, .int .i64 0, .int .i64 0, .map none, .slice none 0 0] 151)) W.heap.size 6 rdF := by
  have b0 := block_new W (.cells #[.func (.func 165) #[] #[], .string ⟨#[]⟩, .int .i64 0, .int .i64 0, .map none, .slice none 0 0] 151)
  refine ⟨fun j hj => ?_, fun j hj => ?_⟩
  · simp only [World.cell?, b0]
    rcases (by omega : j = 0 ∨ j = 1 ∨ j = 2 ∨ j = 3 ∨ j = 4 ∨ j = 5) with e | e | e | e | e | e <;> rw [e] <;> rfl
  · simp only [World.frozen?, b0]; simp

set_option maxRecDepth 100000 in
set_option maxHeartbeats 4000000 in
theorem textsIndex_any (s : ByteArray) (w : World) (hs : s.size ≤ 2000) (hm : Ml w) :
    Calls Tryz.prog 121 #[.string s] w fun e w' => ∃ (good : List OLn) (slips : List (Nat × Nat × Nat)) (m : Nat) (ov sv : Value), e = .returned (.tuple #[ov, sv]) ∧ (Tx.spoken 1 (Pv.spl 10 s.data.toList)).foldl (Tx.stepDoc true ipF 20) got0 = ⟨olns good, slips, m, 0⟩ ∧ (∀ g ∈ good, TwoV g) ∧ good.length ≤ 2001 ∧ slips.length ≤ 2001 ∧ Below w.heap.size w w' ∧
      ((slips ≠ [] ∧ ov = .slice none 0 0 ∧ w'.ownsRow w.heap.size 45 3 sv slips.length (scells slips)) ∨ (slips = [] ∧ sv = .slice none 0 0 ∧ w'.ownsRow w.heap.size 9 1 ov good.length (vcells (insAll good)))) := by
  obtain ⟨i2, hi1, hi2, hi3, hi4⟩ := info9s
  have HJ : Hid (Tryz.prog.info? 9 = some i2 ∧ i2.zero = some (.string ByteArray.empty) ∧ i2.size = 1 ∧ i2.bytes = 16) := ⟨hi1, hi2, hi3, hi4⟩
  clear hi1 hi2 hi3 hi4
  generalize hR : (Tx.spoken 1 (Pv.spl 10 s.data.toList)).foldl (Tx.stepDoc true ipF 20) got0 = R
  have HM : Hid (Ml w) := hm
  clear hm
  have hst : ∀ (W : World) (a : Addr), (store a (.func (.func 165) #[] #[])).run Tryz.prog W = stored Tryz.prog W a (.func (.func 165) #[] #[]) .plain := fun W a => run_store Tryz.prog W a _ _ rfl
  go_enter Tryz.func121, Tryz.ntmps121
  go_wp2_with (go_at_call 86; fail)
  have kr := read_any s w.heap.size (w.alloc (.cells #[.func (.func 165) #[] #[], .string ⟨#[]⟩, .int .i64 0, .int .i64 0, .map none, .slice none 0 0] 151)) hs (HM.out.below ((Below.refl _ _).alloc (Nat.le_refl _) _)) (by have := HM.out.pos; omega) (rd_new w)
  rw [hR] at kr
  clear hR
  have HBa : Hid (Below w.heap.size w (w.alloc (.cells #[.func (.func 165) #[] #[], .string ⟨#[]⟩, .int .i64 0, .int .i64 0, .map none, .slice none 0 0] 151)) ∧ w.heap.size < (w.alloc (.cells #[.func (.func 165) #[] #[], .string ⟨#[]⟩, .int .i64 0, .int .i64 0, .map none, .slice none 0 0] 151)).heap.size) := ⟨(Below.refl _ _).alloc (Nat.le_refl _) _, by simp⟩
  generalize w.alloc (.cells #[.func (.func 165) #[] #[], .string ⟨#[]⟩, .int .i64 0, .int .i64 0, .map none, .slice none 0 0] 151) = W1 at *
  go_at_call 86
  refine kr.mono ?_
  rintro e w2 ⟨good, slips, m, rv, lv, rfl, hD, hT, hgl, hsl, hfr, hx⟩
  clear kr hst
  have HB2 : Hid (Below w.heap.size w w2) := by
    have h1 := HBa.out.1
    exact ⟨hfr.os.trans h1.os, hfr.tape.trans h1.tape, hfr.output.trans h1.output, Nat.le_trans h1.size hfr.size, fun b hb => by
      rw [hfr.block b (Nat.lt_of_lt_of_le hb h1.size) (by omega)]; exact h1.block b hb⟩
  have HD : Hid (R = ⟨olns good, slips, m, 0⟩ ∧ (∀ g ∈ good, TwoV g) ∧ good.length ≤ 2001 ∧ slips.length ≤ 2001) := ⟨hD, hT, hgl, hsl⟩
  clear hD hT hfr
  rcases hx with ⟨hne, rfl, hown⟩ | ⟨rfl, rfl, hown⟩
  · obtain ⟨la, lc, rfl⟩ := own_slice' hown
    have hq : (0 : Int) < (slips.length : Int) := by have := List.length_pos_iff.2 hne; omega
    have HO : Hid (slips ≠ [] ∧ w2.ownsRow w.heap.size 45 3 (.slice la slips.length lc) slips.length (scells slips)) := by
      refine ⟨hne, hown.1, ?_⟩
      rcases hown.2 with hn | ⟨g, cap, cur, hv, hg, rest⟩
      · exact .inl hn
      · exact .inr ⟨g, cap, cur, hv, by have := HBa.out.2; omega, rest⟩
    clear hne hown
    go_wp2
    go_ret2
    exact ⟨good, slips, m, _, _, rfl, HD.out.1, HD.out.2.1, HD.out.2.2.1, HD.out.2.2.2, HB2.out, Or.inl ⟨HO.out.1, rfl, HO.out.2⟩⟩
  · have HO : Hid (w2.ownsRow W1.heap.size 155 4 rv good.length (stcells (good.map word1))) := hown
    clear hown
    obtain ⟨ra, rc, rfl⟩ := own_slice' HO.out
    go_wp2
    go_loopg [7, 22] good.length (fun gg vv kv wr => ∃ k : Nat, k ≤ good.length ∧ good.length - k ≤ gg ∧ kv = .int .i64 k ∧ Hid (wr.ownsRow w2.heap.size 9 1 vv k (((good.map word1).take k).map .string)) ∧ Below w2.heap.size w2 wr)
    case atStart => exact ⟨0, by omega, by omega, rfl, World.ownsRow_nil _ _ _ _, Below.refl _ _⟩
    case round =>
      obtain ⟨k, hk, hgk, rfl, HV, hbw⟩ := hrel
      by_cases hlt : k < good.length
      · have hltI : (k : Int) < (good.length : Int) := by omega
        obtain ⟨g, c, hra⟩ := own_some HO.out (by omega)
        have hra' : ra = some ⟨g, 0, none⟩ := by injection hra
        subst hra'
        have hlm : k < (good.map word1).length := by rw [List.length_map]; exact hlt
        obtain ⟨a0, a1, a2, a3⟩ := stcells_get (good.map word1) k hlm
        have hgl2 := (HO.out.lt g rfl).2
        have d0 : wr.cell? ⟨g, k * 4, none⟩ = some (.string bVer) := by rw [hbw.cell (p := ⟨g, k * 4, none⟩) hgl2, HO.out.cellAt (k * 4) (by omega)]; exact a0
        have d1 : wr.cell? ⟨g, k * 4 + 1, none⟩ = some (.string ⟨#[]⟩) := by rw [hbw.cell (p := ⟨g, k * 4 + 1, none⟩) hgl2, HO.out.cellAt (k * 4 + 1) (by omega)]; exact a1
        have d2 : wr.cell? ⟨g, k * 4 + 2, none⟩ = some (.string (good.map word1)[k]) := by rw [hbw.cell (p := ⟨g, k * 4 + 2, none⟩) hgl2, HO.out.cellAt (k * 4 + 2) (by omega)]; exact a2
        have d3 : wr.cell? ⟨g, k * 4 + 3, none⟩ = some (.string ⟨#[]⟩) := by rw [hbw.cell (p := ⟨g, k * 4 + 3, none⟩) hgl2, HO.out.cellAt (k * 4 + 3) (by omega)]; exact a3
        have HN : Hid (((good.map word1).take k).map Value.string ++ [.string (good.map word1)[k]] = ((good.map word1).take (k + 1)).map .string) := by
          show _ = _
          rw [← List.take_append_getElem hlm, List.map_append]; rfl
        generalize (good.map word1)[k] = x at *
        clear a0 a1 a2 a3 hlm
        generalize ((good.map word1).take k).map Value.string = xs at HV HN
        have hsz : (wr.alloc (.cells #[.string bVer, .string ⟨#[]⟩, .string x, .string ⟨#[]⟩] 155)).heap.size = wr.heap.size + 1 := by simp
        have hnw : ∀ j u, [Value.string x][j]? = some u → ((wr.alloc (.cells #[.string bVer, .string ⟨#[]⟩, .string x, .string ⟨#[]⟩] 155)).alloc (.cells #[.string x] 9)).cell? ((⟨wr.heap.size + 1, 0, none⟩ : Addr).add j) = some u := fun j u hj => by
          have h := cell_one_new (wr.alloc (.cells #[.string bVer, .string ⟨#[]⟩, .string x, .string ⟨#[]⟩] 155)) (.string x) 9 j u hj
          rw [hsz] at h
          exact h
        have hbs := hbw.size
        go_wp2_with (at_builtin; refine wpList_append_own_at _ rfl _ _ 33 rfl w2.heap.size 9 i2 (.string ByteArray.empty) 1 16 Tryz.underlying33 HJ.out.1 HJ.out.2.1 HJ.out.2.2.1 HJ.out.2.2.2 rfl (by decide) _ _ _ rfl ((HV.out.alloc _).alloc _) ⟨wr.heap.size + 1, 0, none⟩ 1 1 [.string x] rfl rfl hnw ?_ ?_ ?_ ?_ ?_)
        all_goals first
          | (show ∀ u ∈ [Value.string x], u.oneCell' = true; intro u hu; simp at hu; subst hu; rfl)
          | (show k + 1 ≤ maxLen; unfold maxLen; omega)
          | (show (k + 1) * 16 ≤ 140737488355328; omega)
          | (show w2.heap.size ≤ ((wr.alloc _).alloc _).heap.size; simp; omega)
          | skip
        intro vv2 w3 hown' hgrow _ _
        have hb3 : Below w2.heap.size w2 w3 := ((hbw.alloc hbs _).alloc (by simp; omega) _).grown hgrow (by simp; omega) (fun b e => (HV.out.lt b e).1)
        have HV2 : Hid (w3.ownsRow w2.heap.size 9 1 vv2 (k + 1) (((good.map word1).take (k + 1)).map .string)) := by
          rw [← HN.out]; exact hown'
        clear hown' hgrow HV hnw hsz d0 d1 d2 d3 HN
        go_wp2
        go_roundg (good.length - (k + 1))
        case measure => omega
        case rel => exact ⟨k + 1, by omega, by omega, by go_num, HV2, hb3⟩
      · have hltI : ¬ ((k : Int) < (good.length : Int)) := by omega
        have hke : k = good.length := by omega
        have hV : wr.ownsRow w2.heap.size 9 1 u7 good.length ((good.map word1).map .string) := by
          have h := HV.out
          rw [hke, List.take_of_length_le (by rw [List.length_map]; omega)] at h
          exact h
        have HBw : Hid (Below w.heap.size w wr) := HB2.out.trans (hbw.mono HB2.out.size)
        have hml : Ml wr := HM.out.below HBw.out
        have hVl : (good.map word1).length = good.length := List.length_map ..
        have HPS : Hid ((insAll good).Perm (good.map word1) ∧ Srt (insAll good)) := ⟨insAll_perm good, insAll_sorted HD.out.2.1⟩
        have HIV : Hid (∀ x ∈ good.map word1, IsV x) := fun x hx => by
          obtain ⟨g, hg, rfl⟩ := List.mem_map.1 hx
          exact (HD.out.2.1 g hg).2.2
        have hH2 : w.heap.size ≤ w2.heap.size := HB2.out.size
        clear HV hbw
        rcases own_sl_cases hV with ⟨h7, hz⟩ | ⟨g, c, h7⟩
        · have hk0 : good = [] := List.length_eq_zero_iff.1 hz
          rw [h7]
          have ksn := fun fv W => sorting_none fv W
          subst hk0
          clear hV
          go_wp2_with (go_at_call 166; fail)
          go_at_call 166
          refine (ksn _ _).mono ?_
          rintro e w3 ⟨rfl, hw3⟩
          rw [hw3]
          go_wp2
          go_ret2
          exact ⟨[], [], m, _, _, rfl, HD.out.1, HD.out.2.1, HD.out.2.2.1, HD.out.2.2.2, HBw.out, Or.inr ⟨rfl, rfl, World.ownsRow_nil _ _ _ _⟩⟩
        · rw [h7] at hV ⊢
          have hg0 : g ≠ 0 := by have h1 := (hV.lt g rfl).1; have h2 := HM.out.pos; omega
          have hgb := (hV.lt g rfl).1
          have kso := sorting w2.heap.size g c (good.map word1) wr HIV.out hml hg0 (by rw [hVl]; exact hV) (by rw [hVl]; have := HD.out.2.2.1; omega)
          rw [hVl] at kso
          clear hV
          go_wp2_with (go_at_call 166; fail)
          go_at_call 166
          refine kso.mono ?_
          rintro e w3 ⟨rfl, M, hMp, hMu, hMo, hMt⟩
          have hMe : insAll good = M := hMu _ HPS.out.1 HPS.out.2
          have HO3 : Hid (w3.ownsRow w.heap.size 9 1 (.slice (some ⟨g, 0, none⟩) good.length c) good.length (vcells (insAll good)) ∧ Below w.heap.size w w3) := by
            rw [hMe]
            refine ⟨⟨hMo.1, ?_⟩, ?_⟩
            · rcases hMo.2 with hn | ⟨g', cap, cur, hv, hg, rest⟩
              · exact .inl hn
              · exact .inr ⟨g', cap, cur, hv, Nat.le_trans hH2 hg, rest⟩
            · have hb := HBw.out
              exact ⟨hMt.os.trans hb.os, hMt.tape.trans hb.tape, hMt.output.trans hb.output, Nat.le_trans hb.size hMt.size, fun b hbl => by
                rw [hMt.block b (Nat.lt_of_lt_of_le hbl hb.size) (by omega)]; exact hb.block b hbl⟩
          clear kso hMp hMu hMo hMt hMe
          go_wp2
          go_ret2
          exact ⟨good, [], m, _, _, rfl, HD.out.1, HD.out.2.1, HD.out.2.2.1, HD.out.2.2.2, HO3.out.2, Or.inr ⟨rfl, rfl, HO3.out.1⟩⟩

end Go.Proofs.YtelmkfkgpnadnaaGreatDoor
