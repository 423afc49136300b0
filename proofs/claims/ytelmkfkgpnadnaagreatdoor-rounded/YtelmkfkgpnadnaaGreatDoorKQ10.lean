/-
  The program's reading of a manifest: the walk over its lines.
-/
import Derived.Test.YtelmkfkgpnadnaaGreatDoorKQF
import Derived.Test.YtelmkfkgpnadnaaGreatDoorKX1
import Derived.Test.YtelmkfkgpnadnaaGreatDoorKShelf
import Derived.Shelf.Unicode.DecodeSlow
import Derived.Shelf.SlSortCmp.PartialInsertion1
import Derived.Shelf.SlSortCmp.Partition1
import Derived.Shelf.SlSortCmp.Pdq1
import Derived.Shelf.SlSortCmp.Whole1
import Derived.Shelf.SlSortCmp.NoneTotal
import Derived.Test.YtelmkfkgpnadnaaGreatDoorKRA
namespace Go.Proofs.YtelmkfkgpnadnaaGreatDoor
open Go.RowKit
namespace Mf

variable {w w' : World}

set_option maxRecDepth 100000 in
set_option maxHeartbeats 4000000 in
theorem read_any (s : ByteArray) (rp : Nat) (w : World) (hs : s.size ≤ 2000) (hm : Ml w) (h0 : rp ≠ 0) (hv : ValsAt w rp 6 rdF) :
    Calls Tryz.prog 86 #[.pointer (some ⟨rp, 0, none⟩), .string s] w fun e w' => ∃ (good : List OLn) (slips : List (Nat × Nat × Nat)) (m q : Nat) (rv lv : Value), e = .returned (.tuple #[rv, lv]) ∧ (Tx.spoken 1 (Pv.spl 10 s.data.toList)).foldl (Tx.stepDoc false Pv.isPath 20) got0 = ⟨olns good, slips, m, q⟩ ∧ (∀ g ∈ good, ∃ ks, Ok g.2 ks) ∧ good.length ≤ 2001 ∧ slips.length ≤ 2001 ∧ Fr (fun b => b = rp) w w' ∧
      ((fin2 m slips ≠ [] ∧ rv = .slice none 0 0 ∧ w'.ownsRow w.heap.size 45 3 lv (fin2 m slips).length (scells (fin2 m slips))) ∨ (fin2 m slips = [] ∧ lv = .slice none 0 0 ∧ w'.ownsRow w.heap.size 155 4 rv good.length (stcells (good.map fun g => stOf g.2)))) := by
  have hsI : ((s.size : Int) ≤ 2000) := by omega
  obtain ⟨i9, hi1, hi2, hi3, hi4⟩ := info45
  have HI : Hid (Tryz.prog.info? 45 = some i9 ∧ i9.zero = some (.agg #[.int .i64 0, .int .i64 0, .int .i64 0]) ∧ i9.size = 3 ∧ i9.bytes = 24) := ⟨hi1, hi2, hi3, hi4⟩
  clear hi1 hi2 hi3 hi4
  obtain ⟨l, hl, hz, ks⟩ := split_lines s (by omega)
  have hll : l.length ≤ 2001 := by
    have h1 := congrArg List.length hl
    have h2 := spl_len_count 10 s.data.toList
    rw [List.length_map] at h1
    rw [← Lib.size_eq] at h2
    omega
  have hrl : rp < w.heap.size := World.block_lt_of_cell? w ⟨rp, 0, none⟩ (hv.at' 0 (by omega))
  have HST : Hid (∀ o, Rs (((w.setCell ⟨rp, 4, none⟩ (.map (some w.heap.size))).alloc (.map #[] 0)).alloc o) rp w.heap.size (.slice none 0 0) (.slice none 0 0) [] [] 0 0 (((w.setCell ⟨rp, 4, none⟩ (.map (some w.heap.size))).alloc (.map #[] 0)).alloc o)) := fun o => rs_start hv hrl o
  have c4 : (w.alloc (.map #[] 0)).cell? ⟨rp, 4, none⟩ = some (.map none) := by rw [World.cell?_alloc_lt _ _ _ hrl]; exact hv.at' 4 (by omega)
  have f4 : (w.alloc (.map #[] 0)).frozen? ⟨rp, 4, none⟩ = false := by
    rw [World.frozen?_of_block (w := w) (a := ⟨rp, 4, none⟩) (Below.heap_alloc _ _ _ hrl)]; exact hv.fr 4 (by omega)
  have hmk := run_makeMap (P := Tryz.prog) 148 w
  have hml1 : Ml ((w.setCell ⟨rp, 4, none⟩ (.map (some w.heap.size))).alloc (.map #[] 0)) := by
    obtain ⟨m, e⟩ := hm
    refine ⟨m, ?_⟩
    have hlt := World.block_lt_of_cell? w _ e
    rw [World.cell?_alloc_lt _ _ _ (by simp [World.setCell]; exact hlt), World.cell?_setCell_other _ _ _ _ (fun e => h0 (by injection e))]
    exact e
  have ks := ks _ hml1
  have HR : Hid (Left ((Tx.spoken 1 (Pv.spl 10 s.data.toList)).foldl (Tx.stepDoc false Pv.isPath 20) got0) l 0 [] [] 0 0) := ⟨by rw [List.drop_zero, hl]; rfl, fun g hg => (by cases hg), Nat.le_refl _, Nat.le_refl _, Nat.le_refl _, Nat.le_refl _⟩
  generalize (Tx.spoken 1 (Pv.spl 10 s.data.toList)).foldl (Tx.stepDoc false Pv.isPath 20) got0 = R at *
  have HML : Hid (Ml ((w.setCell ⟨rp, 4, none⟩ (.map (some w.heap.size))).alloc (.map #[] 0))) := hml1
  have HZ : Hid (∀ x ∈ l, x.size ≤ 2000) := fun x hx => by have := hz x hx; omega
  have HRL : Hid (rp < w.heap.size ∧ rp ≠ 0) := ⟨hrl, h0⟩
  clear hv hml1 hm hl hz
  go_enter Tryz.func86, Tryz.ntmps86
  go_wp2
  go_step3
  go_wp2_with fail
  go_step3
  go_wp2_with (go_at_call 122; fail)
  go_at_call 122
  refine ks.mono ?_
  rintro e w1 ⟨rfl, hw1⟩
  have HS0 : Hid (Rs w1 rp w.heap.size (.slice none 0 0) (.slice none 0 0) [] [] 0 0 w1) := by
    show Rs w1 rp w.heap.size _ _ [] [] 0 0 w1
    rw [hw1]
    exact HST.out _
  have hsz1 : ((w.setCell ⟨rp, 4, none⟩ (.map (some w.heap.size))).alloc (.map #[] 0)).heap.size = w.heap.size + 1 := by rw [World.size_alloc]; simp [World.setCell]
  have HML1 : Hid (Ml w1) := by
    show Ml w1
    rw [hw1]
    exact HML.out.below ((Below.refl _ _).alloc (Nat.le_refl _) _)
  have HLC : Hid (∀ k (hk : k < l.length), w1.cell? ⟨w.heap.size + 1, k, none⟩ = some (.string l[k])) := fun k hk => by
    rw [hw1]
    have h := new_block' ((w.setCell ⟨rp, 4, none⟩ (.map (some w.heap.size))).alloc (.map #[] 0)) (.cells (l.map Value.string).toArray 9)
    rw [hsz1] at h
    unfold World.cell?
    simp only [h]
    simp [hk]
  have HFW : Hid (Fr (fun b => b = rp) w w1) := by
    show Fr _ w w1
    rw [hw1]
    exact ((Fr.of_set (X := fun b => b = rp) w rp 4 _ rfl).trans (Fr.of_below ((Below.refl _ _).alloc (Nat.le_refl _) _))).trans (Fr.of_below ((Below.refl _ _).alloc (Nat.le_refl _) _))
  have HSZ : Hid (w.heap.size + 1 < w1.heap.size ∧ rp ≠ w.heap.size + 1) := ⟨by rw [hw1, World.size_alloc, hsz1]; omega, by have := HRL.out.1; omega⟩
  rw [hsz1]
  clear ks HST HML hw1 hsz1 c4 f4 hmk
  have HM0 : Hid (w.heap.size ≠ 0 ∧ w.heap.size ≠ w.heap.size + 1) := ⟨by have := HRL.out.1; omega, by omega⟩
  have HWB : Hid (∀ b, w1.heap.size ≤ b → w.heap.size ≤ b) := fun b hb => by have := HSZ.out.1; omega
  generalize w.heap.size + 1 = lb at *
  go_wp2
  go_loopg [6, 24] l.length (fun gg lv kv wr => ∃ (k : Nat) (good : List OLn) (slips : List (Nat × Nat × Nat)) (sp rq : Nat) (sv lv0 : Value), lv0 = lv ∧ k ≤ l.length ∧ l.length - k ≤ gg ∧ kv = .int .i64 k ∧ sp ≤ k ∧ Hid (Rs w1 rp w.heap.size sv lv (good.map fun g => stOf g.2) slips sp rq wr) ∧ Hid (Left R l k good slips sp rq))
  case atStart => exact ⟨0, [], [], 0, 0, _, _, rfl, by omega, by omega, rfl, by omega, HS0, HR⟩
  case round =>
    clear HS0 HR
    obtain ⟨k, good, slips, sp, rq, sv, lv0, hlv0, hk, hgk, rfl, hspk, HS, HL⟩ := hrel
    subst hlv0
    by_cases hlt : k < l.length
    · have hltI : (k : Int) < (l.length : Int) := by omega
      have hlk : wr.cell? ⟨lb, k, none⟩ = some (.string l[k]) := HS.out.old (HLC.out k hlt) ⟨fun e => HSZ.out.2 e.symm, fun e => HM0.out.2 e.symm⟩
      have kwo := wordsOf_ml l[k] wr (HS.out.ml HML1.out ⟨HRL.out.2, HM0.out.1⟩) (by have := HZ.out l[k] (List.getElem_mem hlt); omega)
      go_wp2_with (go_at_call 123; fail)
      go_at_call 123
      refine kwo.mono ?_
      rintro e w2 ⟨v, acc, rfl, hacc, hown, hb2⟩
      clear kwo hlk
      have HS2 : Hid (Rs w1 rp w.heap.size sv lv0 (good.map fun g => stOf g.2) slips sp rq w2) := HS.out.below hb2
      have HAC : Hid (wtoks acc = Tx.words l[k].data.toList) := hacc
      have HRB : Hid (rp < wr.heap.size) := Nat.lt_of_lt_of_le HS.out.rd.lt.1 HS.out.rd.lt.2.2.1
      by_cases he : acc = []
      · have HLn : Hid (Left R l (k + 1) good slips sp rq) := HL.out.blank hlt (by rw [← hacc, he]; rfl)
        obtain ⟨va, vc, rfl⟩ := own_slice' hown
        subst he
        clear hown hb2 hacc HL HS HAC
        go_wp2
        go_roundg (l.length - (k + 1))
        case measure => omega
        case rel => exact ⟨k + 1, good, slips, sp, rq, sv, lv0, rfl, by omega, by omega, by go_num, by omega, HS2, HLn⟩
      · have hn : 0 < acc.length := List.length_pos_iff.2 he
        obtain ⟨g, vc, rfl⟩ := own_some hown hn
        have hWA := wat_own hown
        have hgb := (hown.lt g rfl).1
        have hnI : ¬ ((acc.length : Int) = 0) := by omega
        have hnq : ((acc.length : Int) == 0) = false := by rw [beq_eq_false_iff_ne]; omega
        have hc2 : w2.cell? ⟨rp, 2, none⟩ = some (.int .i64 sp) := HS2.out.rd.rd.2.2.1
        have hf2 : w2.frozen? ⟨rp, 2, none⟩ = false := HS2.out.rd.f2
        have HS3 : Hid (Rs w1 rp w.heap.size sv lv0 (good.map fun g => stOf g.2) slips (sp + 1) rq (w2.setCell ⟨rp, 2, none⟩ (.int .i64 ((sp : Int) + 1)))) := HS2.out.speak
        have HW3 : Hid (WAt (w2.setCell ⟨rp, 2, none⟩ (.int .i64 ((sp : Int) + 1))) g 0 acc ∧ acc.length ≤ vc) := by
          have hne : g ≠ rp := by have := HRB.out; omega
          have hk2 : (w2.setCell ⟨rp, 2, none⟩ (.int .i64 ((sp : Int) + 1))).heap[g]? = w2.heap[g]? := Below.heap_setCell _ _ _ _ hne
          exact ⟨⟨by simp [World.setCell]; exact hWA.1.1, fun j hj => ⟨by rw [World.cell?_of_block (w := w2) (a := ⟨g, 0 + j * 2, none⟩) hk2]; exact (hWA.1.2 j hj).1, by rw [World.cell?_of_block (w := w2) (a := ⟨g, 0 + j * 2 + 1, none⟩) hk2]; exact (hWA.1.2 j hj).2⟩⟩, hWA.2⟩
        have e2 : IntKind.i64.wrap ((sp : Int) + 1) = (sp : Int) + 1 := by simp [IntKind.wrap, IntKind.bits, IntKind.signed]; omega
        have HZA : Hid (∀ x ∈ acc, x.1 ≤ 4000 ∧ x.2.size ≤ 2000) := fun x hx => by
          have h1 := wtoks_le hacc x hx
          have h2 := HZ.out l[k] (List.getElem_mem hlt)
          omega
        have HNE : Hid (acc ≠ []) := he
        clear hown hb2 hacc hWA hgb he HS2 HS
        go_wp2_with fail
        clear hc2 hf2 e2 hnI hnq
        generalize w2.setCell ⟨rp, 2, none⟩ (.int .i64 ((sp : Int) + 1)) = W3 at *
        have HLI : Hid ((Tx.slip false Pv.isPath (sp == 0) (dupM good acc) (rq == 20) (wtoks acc) = none ∧ (∀ k, 2 ≤ k → k ≤ 9 → lineM acc (sp + 1 == 1) (dupM good acc) (rq == 20) k = -1) ∧ (∃ ks, Ok acc ks) ∧ dupM good acc = false) ∨
            (∃ a k : Nat, Tx.slip false Pv.isPath (sp == 0) (dupM good acc) (rq == 20) (wtoks acc) = some (a, k) ∧ 2 ≤ k ∧ k ≤ 9 ∧ lineM acc (sp + 1 == 1) (dupM good acc) (rq == 20) k = (a : Int) ∧ ∀ j, 2 ≤ j → j < k → lineM acc (sp + 1 == 1) (dupM good acc) (rq == 20) j = -1)) := by
          have e : (sp + 1 == 1) = (sp == 0) := by rw [Bool.eq_iff_iff]; simp
          rw [e]
          exact line_slipM acc HNE.out (sp == 0) (dupM good acc) (rq == 20)
        generalize hat : lineM acc (sp + 1 == 1) (dupM good acc) (rq == 20) = AT at *
        have HAT : Hid (lineM acc (sp + 1 == 1) (dupM good acc) (rq == 20) = AT) := hat
        clear hat
        go_loopg [6, 10] 8 (fun gg l6 kv wx => ∃ j : Nat, lv0 = l6 ∧ 2 ≤ j ∧ j ≤ 10 ∧ 10 - j ≤ gg ∧ kv = .int .i64 j ∧ Hid (∀ i, 2 ≤ i → i < j → AT i = -1) ∧ Below W3.heap.size W3 wx)
        case atStart => exact ⟨2, rfl, by omega, by omega, by omega, rfl, fun i h1 h2 => (by omega), Below.refl _ _⟩
        case round =>
          obtain ⟨j, h6, hj2, hj10, hgj, rfl, HLow, hbx⟩ := hrel
          subst h6
          have HSx : Hid (Rs w1 rp w.heap.size sv lv0 (good.map fun g => stOf g.2) slips (sp + 1) rq wr) := HS3.out.below hbx
          by_cases hj9 : j ≤ 9
          · have kk := slip_line rp (sp + 1) rq g vc w.heap.size w1.heap.size j sv _ _ acc wr (HSx.out.ml HML1.out ⟨HRL.out.2, HM0.out.1⟩) HSx.out.rd (HW3.out.1.below hbx) HNE.out HW3.out.2 HZA.out hj2 hj9 (by rw [dup_any, HAT.out]; exact HLow.out)
            rw [dup_any, HAT.out] at kk
            have hj9I : (j : Int) ≤ 9 := by omega
            by_cases hr : AT j = -1
            · rw [hr] at kk
              have HLow2 : Hid (∀ i, 2 ≤ i → i < j + 1 → AT i = -1) := fun i h1 h2 => by
                by_cases e : i = j
                · rw [e]; exact hr
                · exact HLow.out i h1 (by omega)
              clear hr HSx
              go_wp2_with (go_at_call 124; fail)
              go_at_call 124
              refine kk.mono ?_
              rintro e w4 ⟨rfl, hb4⟩
              have hb5 : Below W3.heap.size W3 w4 := hbx.trans (hb4.mono hbx.size)
              clear kk hb4
              go_wp2
              go_roundg (10 - (j + 1))
              case measure => omega
              case rel => exact ⟨j + 1, rfl, by omega, by omega, by omega, by go_num, HLow2, hb5⟩
            · obtain ⟨a, hsl, haj⟩ : ∃ a : Nat, Tx.slip false Pv.isPath (sp == 0) (dupM good acc) (rq == 20) (wtoks acc) = some (a, j) ∧ AT j = (a : Int) := by
                rcases HLI.out with ⟨_, h, _⟩ | ⟨a, q, h1, h2, h3, h4, h5⟩
                · exact absurd (h j hj2 hj9) hr
                · have e : q = j := by
                    rcases Nat.lt_trichotomy q j with e | e | e
                    · have := HLow.out q h2 e; rw [h4] at this; omega
                    · exact e
                    · exact absurd (h5 j hj2 e) hr
                  subst e
                  exact ⟨a, h1, h4⟩
              rw [haj] at kk
              have HLn : Hid (Left R l (k + 1) good (slips ++ [(k + 1, a, j)]) (sp + 1) rq) := HL.out.slip hlt HAC.out HNE.out hsl
              have haI : ((a : Int) == -1) = false := by rw [beq_eq_false_iff_ne]; omega
              have haN : ¬ ((a : Int) = -1) := by omega
              have hsl2 : slips.length ≤ 2001 := by have := HL.out.2.2.2.1; omega
              clear hr haj hsl
              go_wp2_with (go_at_call 124; fail)
              go_at_call 124
              refine kk.mono ?_
              rintro e w4 ⟨rfl, hb4⟩
              have HS4 : Hid (Rs w1 rp w.heap.size sv lv0 (good.map fun g => stOf g.2) slips (sp + 1) rq w4) := HSx.out.below hb4
              clear kk hb4 HSx hbx
              have hBs := HS4.out.rd.lt.2.2.1
              go_wp2_with (at_builtin; refine wpList_append_own_at _ rfl _ _ 38 rfl w1.heap.size 45 i9 (.agg #[.int .i64 0, .int .i64 0, .int .i64 0]) 3 24 Tryz.underlying38 HI.out.1 HI.out.2.1 HI.out.2.2.1 HI.out.2.2.2 rfl (by decide) _ _ _ rfl (HS4.out.os.alloc _) ⟨w4.heap.size, 0, none⟩ 1 1 [.int .i64 (k + 1), .int .i64 a, .int .i64 j] rfl rfl ?_ ?_ ?_ ?_ ?_ ?_)
              all_goals first
                | exact cell_three_new _ _ _ _ _
                | (show ∀ u ∈ [Value.int .i64 ((k : Int) + 1), Value.int .i64 a, Value.int .i64 j], u.oneCell' = true; intro u hu; simp at hu; rcases hu with rfl | rfl | rfl <;> rfl)
                | (show slips.length + 1 ≤ maxLen; unfold maxLen; omega)
                | (show (slips.length + 1) * 24 ≤ 140737488355328; omega)
                | (show w1.heap.size ≤ (w4.alloc _).heap.size; simp; omega)
                | skip
              intro lv1 w5 hown' hgrow _ hloc
              have HS5 : Hid (Rs w1 rp w.heap.size sv lv1 (good.map fun g => stOf g.2) (slips ++ [(k + 1, a, j)]) (sp + 1) rq w5) := HS4.out.slip _ (k + 1, a, j) hown' hgrow (by
                rcases hloc with e | e
                · exact Or.inl e
                · exact Or.inr (by rw [e]; simp))
              clear hown' hgrow hloc HS4
              go_wp2
              go_roundg (l.length - (k + 1))
              case measure => omega
              case rel => exact ⟨k + 1, good, slips ++ [(k + 1, a, j)], sp + 1, rq, sv, lv1, rfl, by omega, by omega, by go_num, by omega, HS5, HLn⟩
          · have hj9I : ¬ ((j : Int) ≤ 9) := by omega
            have hje : j = 10 := by omega
            obtain ⟨hsl, hok⟩ : Tx.slip false Pv.isPath (sp == 0) (dupM good acc) (rq == 20) (wtoks acc) = none ∧ ∃ ks, Ok acc ks := by
              rcases HLI.out with ⟨h1, _, h3, _⟩ | ⟨a, q, _, h2, h3, h4, _⟩
              · exact ⟨h1, h3⟩
              · have := HLow.out q h2 (by omega)
                rw [h4] at this
                omega
            have HLn : Hid (Left R l (k + 1) (good ++ [(k + 1, acc)]) slips (sp + 1) (if (wd acc 0).toList == [114, 101, 113, 117, 105, 114, 101] then rq + 1 else rq)) := HL.out.kept hlt HAC.out HNE.out hok hsl
            obtain ⟨ks', hok⟩ := hok
            have hw1' := HW3.out.1.below hbx
            have hgl := HL.out.2.2.1
            have hql := HL.out.2.2.2.2.2
            have hn0 : 0 < acc.length := by have := hok.len; omega
            have kt := take_any rp (sp + 1) rq g acc.length vc (acc.getD 0 pad).1 w.heap.size w1.heap.size (k + 1) sv (good.map fun g => stOf g.2) ((good.map fun g => stOf g.2).map clSt) (wd acc 0) (wd acc 1) (wd acc 2) (wd acc 4) (clOf acc).1 (clOf acc).2.1 (clOf acc).2.2 _ ks' wr hn0 (clSm_of HZA.out) (by rw [List.length_map]; omega) (by rw [List.length_map, List.length_map]; omega) (by omega) (by omega) HSx.out.rd (ok_box hw1' hn0) hok.sh rfl (fun W q hb hq => statement_ok hok q g vc W hq (hw1'.below hb)) (fun W => claim_any (wd acc 0) (wd acc 1) (wd acc 2) (wd acc 4) W)
            have HWd : Hid ((good.map fun g => stOf g.2) ++ [(wd acc 0, wd acc 1, wd acc 2, wd acc 4)] = (good ++ [(k + 1, acc)]).map fun g => stOf g.2) := by
              show _ = _
              rw [List.map_append]; rfl
            have HWc : Hid ((good.map fun g => stOf g.2).map clSt ++ [((clOf acc).1, (clOf acc).2.1, (clOf acc).2.2)] = ((good ++ [(k + 1, acc)]).map fun g => stOf g.2).map clSt) := by
              show _ = _
              rw [List.map_append, List.map_append]; rfl
            rw [HWd.out, HWc.out] at kt
            generalize (if (wd acc 0).toList == [114, 101, 113, 117, 105, 114, 101] then rq + 1 else rq) = rq2 at *
            clear hsl hok hw1' HLI HAT
            go_wp2_with (go_at_call 125; fail)
            go_at_call 125
            refine kt.mono ?_
            rintro e w4 ⟨sv2, rfl, hrd, hfr, hat⟩
            have HS5 : Hid (Rs w1 rp w.heap.size sv2 lv0 ((good ++ [(k + 1, acc)]).map fun g => stOf g.2) slips (sp + 1) rq2 w4) := by
              show Rs w1 rp w.heap.size sv2 lv0 _ slips (sp + 1) rq2 w4
              rw [← HWd.out] at hrd ⊢
              exact HSx.out.keep hrd hfr hat
            clear hrd hfr hat kt HSx
            go_wp2
            go_roundg (l.length - (k + 1))
            case measure => omega
            case rel => exact ⟨k + 1, good ++ [(k + 1, acc)], slips, sp + 1, rq2, sv2, lv0, rfl, by omega, by omega, by go_num, by omega, HS5, HLn⟩
    · have hke : k = l.length := by omega
      have hltI : ¬ ((k : Int) < (l.length : Int)) := by omega
      have hLd := HL.out
      have hfold : (⟨olns good, slips, sp, rq⟩ : Tx.Got) = R := by
        have h := hLd.1
        rw [hke, List.drop_length] at h
        exact h
      have hc1 : wr.cell? ⟨rp, 1, none⟩ = some (.string bMod) := HS.out.rd.rd.2.1
      have hc2 : wr.cell? ⟨rp, 2, none⟩ = some (.int .i64 sp) := HS.out.rd.rd.2.2.1
      have hc5 : wr.cell? ⟨rp, 5, none⟩ = some sv := HS.out.rd.fs.1
      have HFr : Hid (∀ lv sl w', Rs w1 rp w.heap.size sv lv (good.map fun g => stOf g.2) sl sp rq w' → Fr (fun b => b = rp) w w' ∧ w'.ownsRow w.heap.size 45 3 lv sl.length (scells sl)) := fun lv sl w' hR => by
        have h1 := HFW.out
        have h2 := hR.fr
        refine ⟨⟨h2.os.trans h1.os, h2.tape.trans h1.tape, h2.output.trans h1.output, Nat.le_trans h1.size h2.size, fun b hb hn => ?_⟩, hR.os.1, ?_⟩
        · rw [h2.block b (Nat.lt_of_lt_of_le hb h1.size) (fun e => by rcases e with e | e; exact hn e; omega)]
          exact h1.block b hb hn
        · rcases hR.os.2 with hn | ⟨g, cap, cur, hv, hg, rest⟩
          · exact .inl hn
          · exact .inr ⟨g, cap, cur, hv, HWB.out g hg, rest⟩
      have HO : Hid (wr.ownsRow w.heap.size 45 3 lv0 slips.length (scells slips) ∧ wr.ownsRow w.heap.size 155 4 sv good.length (stcells (good.map fun g => stOf g.2))) := by
        have h1 := HS.out.os
        have h2 := HS.out.rd.own
        rw [List.length_map] at h2
        refine ⟨⟨h1.1, ?_⟩, ⟨h2.1, ?_⟩⟩
        · rcases h1.2 with hn | ⟨g, cap, cur, hv, hg, rest⟩
          · exact .inl hn
          · exact .inr ⟨g, cap, cur, hv, HWB.out g hg, rest⟩
        · rcases h2.2 with hn | ⟨g, cap, cur, hv, hg, rest⟩
          · exact .inl hn
          · exact .inr ⟨g, cap, cur, hv, HWB.out g hg, rest⟩
      have HFin : Hid (R = ⟨olns good, slips, sp, rq⟩ ∧ (∀ g ∈ good, ∃ ks, Ok g.2 ks) ∧ good.length ≤ 2001 ∧ slips.length ≤ 2001) := ⟨hfold.symm, hLd.2.1, by have := hLd.2.2.1; omega, by have := hLd.2.2.2.1; omega⟩
      have hs0 : sp = 0 → slips = [] := fun e => List.eq_nil_of_length_eq_zero (by have := hLd.2.2.2.1; omega)
      have hws : w.heap.size ≤ wr.heap.size := Nat.le_trans HFW.out.size HS.out.fr.size
      clear hfold hLd HL hke
      by_cases hsp : sp = 0
      · have hsl := hs0 hsp
        subst hsl
        subst hsp
        clear hs0
        obtain ⟨la, lc, rfl⟩ := own_slice' HO.out.1
        have hBs := HS.out.rd.lt.2.2.1
        go_wp2_with (at_builtin; refine wpList_append_own_at _ rfl _ _ 38 rfl w1.heap.size 45 i9 (.agg #[.int .i64 0, .int .i64 0, .int .i64 0]) 3 24 Tryz.underlying38 HI.out.1 HI.out.2.1 HI.out.2.2.1 HI.out.2.2.2 rfl (by decide) _ _ _ rfl (HS.out.os.alloc _) ⟨wr.heap.size, 0, none⟩ 1 1 [.int .i64 0, .int .i64 0, .int .i64 2] rfl rfl ?_ ?_ ?_ ?_ ?_ ?_)
        all_goals first
          | exact cell_three_new _ _ _ _ _
          | (show ∀ u ∈ [Value.int .i64 0, Value.int .i64 0, Value.int .i64 2], u.oneCell' = true; intro u hu; simp at hu; rcases hu with rfl | rfl | rfl <;> rfl)
          | exact ⟨rfl, rfl⟩
          | (show w1.heap.size ≤ wr.heap.size + 1; omega)
          | (show 0 + 1 ≤ maxLen; unfold maxLen; omega)
          | (show (0 + 1) * 24 ≤ 140737488355328; omega)
          | (show w1.heap.size ≤ (wr.alloc _).heap.size; simp; omega)
          | skip
        intro lv1 w5 hown' hgrow _ hloc
        have hS5 := HS.out.slip _ (0, 0, 2) hown' hgrow (by
          rcases hloc with e | e
          · exact Or.inl e
          · exact Or.inr (by rw [e]; simp))
        have HZ5 : Hid (Fr (fun b => b = rp) w w5 ∧ w5.ownsRow w.heap.size 45 3 lv1 1 (scells [(0, 0, 2)])) := HFr.out _ _ _ hS5
        obtain ⟨ma, mc, rfl⟩ := own_slice' HZ5.out.2
        clear hown' hgrow hloc hS5 HS
        go_wp2
        (try rw [Exit.noGoto_ret])
        go_ret2
        exact ⟨good, [], 0, rq, _, _, rfl, HFin.out.1, HFin.out.2.1, HFin.out.2.2.1, HFin.out.2.2.2, HZ5.out.1, Or.inl ⟨by decide, rfl, HZ5.out.2⟩⟩
      · have hspB : ((sp : Int) == 0) = false := by rw [beq_eq_false_iff_ne]; omega
        have hf2 : fin2 sp slips = slips := if_neg hsp
        have HF2 : Hid (fin2 sp slips = slips) := hf2
        clear hf2
        have HFH : Hid (Fr (fun b => b = rp) w wr) := (HFr.out _ _ _ HS.out).1
        clear HS
        obtain ⟨la, lc, rfl⟩ := own_slice' HO.out.1
        by_cases hsl : slips = []
        · subst hsl
          have hq0 : ¬ ((([] : List (Nat × Nat × Nat)).length : Int) > 0) := by simp
          go_wp2
          (try rw [Exit.noGoto_ret])
          go_ret2
          exact ⟨good, [], sp, rq, _, _, rfl, HFin.out.1, HFin.out.2.1, HFin.out.2.2.1, HFin.out.2.2.2, HFH.out, Or.inr ⟨HF2.out, rfl, HO.out.2⟩⟩
        · have hq0 : (0 : Int) < (slips.length : Int) := by have := List.length_pos_iff.2 hsl; omega
          have HSL : Hid (slips ≠ []) := hsl
          clear hsl
          go_wp2
          (try rw [Exit.noGoto_ret])
          go_ret2
          exact ⟨good, slips, sp, rq, _, _, rfl, HFin.out.1, HFin.out.2.1, HFin.out.2.2.1, HFin.out.2.2.2, HFH.out, Or.inl ⟨by rw [HF2.out]; exact HSL.out, rfl, by rw [HF2.out]; exact HO.out.1⟩⟩

end Mf
end Go.Proofs.YtelmkfkgpnadnaaGreatDoor
