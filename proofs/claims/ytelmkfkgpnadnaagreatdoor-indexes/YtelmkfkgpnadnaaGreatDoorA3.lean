/-
  The document's answer: an index.
-/
import Derived.Test.YtelmkfkgpnadnaaGreatDoorA2
namespace Go.Proofs.YtelmkfkgpnadnaaGreatDoor
open Go.RowKit

variable {w w' : World}

def word1 (g : OLn) : ByteArray := (g.2.getD 1 pad).2
def insAll (L : List OLn) : List ByteArray := L.foldl (fun M g => insV (word1 g) M) []
def vcells (M : List ByteArray) : List Value := M.map .string

theorem insV_len (v : ByteArray) (L : List ByteArray) : (insV v L).length = L.length + 1 := by
  unfold insV
  have h := congrArg List.length (List.takeWhile_append_dropWhile (p := vlt v) (l := L.reverse))
  rw [List.length_append, List.length_reverse] at h
  simp only [List.length_append, List.length_reverse, List.length_cons, List.length_nil]
  omega

theorem insV_mem {v x : ByteArray} {L : List ByteArray} (h : x ∈ insV v L) : x = v ∨ x ∈ L := by
  unfold insV at h
  simp only [List.mem_append, List.mem_reverse, List.mem_singleton] at h
  rcases h with (h | h) | h
  · exact Or.inr (List.mem_reverse.1 ((List.dropWhile_sublist _).subset h))
  · exact Or.inl h
  · exact Or.inr (List.mem_reverse.1 ((List.takeWhile_sublist _).subset h))

theorem insAll_snoc (L : List OLn) (g : OLn) : insAll (L ++ [g]) = insV (word1 g) (insAll L) := by simp [insAll, List.foldl_append]

theorem insAll_len (L : List OLn) : (insAll L).length = L.length := by
  rw [← List.reverse_reverse L]
  induction L.reverse with
  | nil => rfl
  | cons a r ih => rw [List.reverse_cons, insAll_snoc, insV_len, ih]; simp

theorem insAll_isV {L : List OLn} (h : ∀ g ∈ L, TwoV g) : ∀ x ∈ insAll L, IsV x := by
  rw [← List.reverse_reverse L] at h ⊢
  revert h
  induction L.reverse with
  | nil => intro _ x hx; cases hx
  | cons a r ih =>
    intro h x hx
    rw [List.reverse_cons] at h hx
    rw [insAll_snoc] at hx
    rcases insV_mem hx with e | e
    · rw [e]; exact (h a (by simp)).2.2
    · exact ih (fun g hg => h g (by simp at hg ⊢; exact Or.inl hg)) x e

theorem mcells_get (M : List ByteArray) (j : Nat) (hj : j < M.length) : (mcells M)[j * 2 + 1]? = some (.string M[j]) := by
  have e : M = M.take j ++ [M[j]] ++ M.drop (j + 1) := by
    rw [List.append_assoc]
    have : [M[j]] ++ M.drop (j + 1) = M.drop j := by rw [List.drop_eq_getElem_cons hj]; rfl
    rw [this, List.take_append_drop]
  have h := (mcells_at (M.take j) (M.drop (j + 1)) M[j]).2
  rw [← e, List.length_take, Nat.min_eq_left (by omega)] at h
  exact h

set_option maxRecDepth 100000 in
set_option maxHeartbeats 4000000 in
theorem refIndex_any (s : ByteArray) (w : World) (hs : s.size ≤ 2000) :
    Calls Tryz.prog 82 #[.string s] w fun e w' => ∃ (good : List OLn) (slips : List (Nat × Nat × Nat)) (m : Nat) (ov sv : Value), e = .returned (.tuple #[ov, sv]) ∧ (Tx.docLines [] 1 [] false false 0 s.data.toList).foldl (Tx.stepDoc true ipF 20) got0 = ⟨olns good, slips, m, 0⟩ ∧ (∀ g ∈ good, TwoV g) ∧ good.length ≤ 2001 ∧ slips.length ≤ 2001 ∧ Below w.heap.size w w' ∧
      ((slips ≠ [] ∧ ov = .slice none 0 0 ∧ w'.ownsRow w.heap.size 45 3 sv slips.length (scells slips)) ∨ (slips = [] ∧ sv = .slice none 0 0 ∧ w'.ownsRow w.heap.size 9 1 ov good.length (vcells (insAll good)))) := by
  have kl := slipped_any s w hs
  generalize (Tx.docLines [] 1 [] false false 0 s.data.toList).foldl (Tx.stepDoc true ipF 20) got0 = D at *
  obtain ⟨i2, hi1, hi2, hi3, hi4⟩ := info9s
  have HJ : Hid (Tryz.prog.info? 9 = some i2 ∧ i2.zero = some (.string ByteArray.empty) ∧ i2.size = 1 ∧ i2.bytes = 16) := ⟨hi1, hi2, hi3, hi4⟩
  clear hi1 hi2 hi3 hi4
  go_enter Tryz.func82, Tryz.ntmps82
  go_wp2_with (go_at_call 117; fail)
  go_at_call 117
  refine kl.mono ?_
  rintro e w1 ⟨gv, sv, good, gxs, slips, Wl, m, rfl, hS, hb, hD, hT, hgl, hsl⟩
  clear kl
  obtain ⟨sa, sc, rfl⟩ := own_slice' hS.os
  obtain ⟨ga, gc, rfl⟩ := own_slice' hS.og
  have HS : Hid (Sl Wl (.slice ga good.length gc) (.slice sa slips.length sc) good gxs slips w1) := hS
  have HB : Hid (Below w.heap.size w w1) := hb.trans (hS.old.mono hb.size)
  have HWl : Hid (w.heap.size ≤ Wl.heap.size) := hb.size
  have HD : Hid (D = ⟨olns good, slips, m, 0⟩ ∧ ∀ g ∈ good, TwoV g) := ⟨hD, hT⟩
  clear hS hb hD hT
  by_cases h0 : slips = []
  · subst h0
    have hlt : ¬ ((([] : List (Nat × Nat × Nat)).length : Int) > 0) := by simp
    go_wp2
    go_loopg [6, 7] good.length (fun gg lv i wr => ∃ k : Nat, i = .int .i64 k ∧ k ≤ good.length ∧ good.length - k ≤ gg ∧ Hid (wr.ownsRow w1.heap.size 29 2 lv k (mcells (insAll (good.take k))) ∧ Below w1.heap.size w1 wr))
    case atStart => exact ⟨0, rfl, by omega, by omega, World.ownsRow_nil _ _ _ _, Below.refl _ _⟩
    case round =>
      obtain ⟨k, rfl, hk, hgk, HR⟩ := hrel
      by_cases hkl : k < good.length
      · obtain ⟨ob, hga⟩ : ∃ ob, ga = some ⟨ob, 0, none⟩ := by
          obtain ⟨g, c, e⟩ := own_some HS.out.og (by omega)
          injection e with e1
          exact ⟨g, e1⟩
        subst hga
        obtain ⟨gw, cw, _, _, _, a1, _, _, _, hv, hgw⟩ := lineCells HS.out.lie (own_base0 HS.out.og) k hkl
        have htk := HD.out.2 good[k] (List.getElem_mem hkl)
        rw [htk.1] at a1 hv
        have a2 := hv.at' 1 (by omega)
        have hobl := (HS.out.og.lt ob rfl).2
        have d1 : wr.cell? ⟨ob, k * 4 + 1, none⟩ = _ := (HR.out.2.cell (p := ⟨ob, k * 4 + 1, none⟩) hobl).trans a1
        have d2 : wr.cell? ⟨gw, 1, none⟩ = some (.string (word1 good[k])) := (HR.out.2.cell (p := ⟨gw, 1, none⟩) hgw).trans a2
        have hklI : (k : Int) < (good.length : Int) := by omega
        have hlen : (insAll (good.take k)).length = k := by rw [insAll_len, List.length_take]; omega
        have hown : wr.ownsRow w1.heap.size 29 2 u6 (insAll (good.take k)).length (mcells (insAll (good.take k))) := by rw [hlen]; exact HR.out.1
        have kp := put_any (word1 good[k]) u6 (insAll (good.take k)) wr w1.heap.size HR.out.2.size hown (by omega) htk.2.2 (insAll_isV fun g hg => HD.out.2 g (List.mem_of_mem_take hg))
        rw [hlen] at kp
        have HN : Hid (insV (word1 good[k]) (insAll (good.take k)) = insAll (good.take (k + 1))) := by
          show _ = _
          rw [← insAll_snoc, List.take_append_getElem hkl]
        rw [HN.out] at kp
        generalize word1 good[k] = v at *
        clear a1 a2 hv hown hlen htk HN
        go_wp2_with (go_at_call 79; fail)
        go_at_call 79
        refine kp.mono ?_
        rintro e w2 ⟨g, c, rfl, hown2, ht2, _⟩
        have HR2 : Hid (w2.ownsRow w1.heap.size 29 2 (.slice (some ⟨g, 0, none⟩) (k + 1) c) (k + 1) (mcells (insAll (good.take (k + 1)))) ∧ Below w1.heap.size w1 w2) := ⟨hown2, ⟨ht2.os.trans HR.out.2.os, ht2.tape.trans HR.out.2.tape, ht2.output.trans HR.out.2.output, Nat.le_trans HR.out.2.size ht2.size, fun b hb => (ht2.block b (Nat.lt_of_lt_of_le hb HR.out.2.size) (fun e => by have h := (HR.out.1.lt b e).1; omega)).trans (HR.out.2.block b hb)⟩⟩
        clear hown2 ht2 kp HR
        go_wp2
        go_roundg (good.length - (k + 1))
        case measure => omega
        case rel => exact ⟨k + 1, by go_num, by omega, by omega, HR2⟩
      · have hklI : ((k : Int) < (good.length : Int)) = False := by simp; omega
        have hke : k = good.length := by omega
        have hown : wr.ownsRow w1.heap.size 29 2 u6 good.length (mcells (insAll good)) := by
          have h := HR.out.1
          rw [hke, List.take_length] at h
          exact h
        obtain ⟨la, lc, hu⟩ := own_slice' hown
        subst hu
        have HM : Hid (wr.ownsRow w1.heap.size 29 2 (.slice la good.length lc) good.length (mcells (insAll good)) ∧ Below w1.heap.size w1 wr) := ⟨hown, HR.out.2⟩
        have HML : Hid ((insAll good).length = good.length) := insAll_len good
        clear hown HR hke
        rename World => w5
        go_wp2
        go_loopg [8, 9] good.length (fun gg ov i wx => ∃ j : Nat, i = .int .i64 j ∧ j ≤ good.length ∧ good.length - j ≤ gg ∧ Hid (wx.ownsRow w5.heap.size 9 1 ov j (vcells ((insAll good).take j)) ∧ Below w5.heap.size w5 wx))
        case atStart => exact ⟨0, rfl, by omega, by omega, World.ownsRow_nil _ _ _ _, Below.refl _ _⟩
        case round =>
          obtain ⟨j, rfl, hj, hgj, HR⟩ := hrel
          by_cases hjl : j < good.length
          · obtain ⟨lb, hla⟩ : ∃ lb, la = some ⟨lb, 0, none⟩ := by
              obtain ⟨g, c, e⟩ := own_some HM.out.1 (by omega)
              injection e with e1
              exact ⟨g, e1⟩
            subst hla
            have hjm : j < (insAll good).length := by rw [HML.out]; exact hjl
            have a1 : w5.cell? ⟨lb, j * 2 + 1, none⟩ = some (.string (insAll good)[j]) := by rw [HM.out.1.cellAt _ (by omega)]; exact mcells_get _ j hjm
            have hlbl := (HM.out.1.lt lb rfl).2
            have d1 : wr.cell? ⟨lb, j * 2 + 1, none⟩ = _ := (HR.out.2.cell (p := ⟨lb, j * 2 + 1, none⟩) hlbl).trans a1
            have hjI : (j : Int) < (good.length : Int) := by omega
            have HN : Hid (vcells ((insAll good).take j) ++ [.string (insAll good)[j]] = vcells ((insAll good).take (j + 1))) := by
              show _ = _
              have h := List.take_append_getElem hjm
              rw [← h]
              unfold vcells
              rw [List.map_append]
              rfl
            have hbs := HR.out.2.size
            generalize (insAll good)[j] = v at *
            clear a1
            go_wp2_with (at_builtin; refine wpList_append_own_at _ rfl _ _ 33 rfl w5.heap.size 9 i2 (.string ByteArray.empty) 1 16 Tryz.underlying33 HJ.out.1 HJ.out.2.1 HJ.out.2.2.1 HJ.out.2.2.2 rfl (by decide) _ _ _ rfl (HR.out.1.alloc _) ⟨wr.heap.size, 0, none⟩ 1 1 [.string v] rfl rfl ?_ ?_ ?_ ?_ ?_ ?_)
            all_goals first
              | exact cell_one_new _ _ _
              | (show ∀ u ∈ [Value.string v], u.oneCell' = true; intro u hu; simp at hu; subst hu; rfl)
              | (show j + 1 ≤ maxLen; unfold maxLen; omega)
              | (show (j + 1) * 16 ≤ 140737488355328; omega)
              | (show w5.heap.size ≤ (wr.alloc _).heap.size; simp; omega)
              | (show w5.heap.size ≤ wr.heap.size + 1; omega)
              | skip
            intro ov' w6 hown' hgrow _ _
            have HR2 : Hid (w6.ownsRow w5.heap.size 9 1 ov' (j + 1) (vcells ((insAll good).take (j + 1))) ∧ Below w5.heap.size w5 w6) := by
              rw [← HN.out]
              exact ⟨hown', (HR.out.2.alloc hbs _).grown hgrow (by simp; omega) (fun b e => (HR.out.1.lt b e).1)⟩
            clear hown' hgrow HR HN
            go_wp2
            go_roundg (good.length - (j + 1))
            case measure => omega
            case rel => exact ⟨j + 1, by go_num, by omega, by omega, HR2⟩
          · have hjI : ((j : Int) < (good.length : Int)) = False := by simp; omega
            have hje : j = good.length := by omega
            have hown : wr.ownsRow w5.heap.size 9 1 u8 good.length (vcells (insAll good)) := by
              have h := HR.out.1
              rw [hje, List.take_of_length_le (by rw [HML.out]; omega)] at h
              exact h
            have hbw : Below w.heap.size w wr := (HB.out.trans (HM.out.2.mono HB.out.size)).trans (HR.out.2.mono (Nat.le_trans HB.out.size HM.out.2.size))
            have HO : Hid (wr.ownsRow w.heap.size 9 1 u8 good.length (vcells (insAll good)) ∧ Below w.heap.size w wr) := by
              refine ⟨⟨hown.1, ?_⟩, hbw⟩
              rcases hown.2 with hn | ⟨g, cap, cur, hv, hg, rest⟩
              · exact .inl hn
              · exact .inr ⟨g, cap, cur, hv, Nat.le_trans (Nat.le_trans HB.out.size HM.out.2.size) hg, rest⟩
            clear hown hbw HR hje
            go_wp2
            go_ret2
            exact ⟨good, [], m, _, _, rfl, HD.out.1, HD.out.2, hgl, hsl, HO.out.2, Or.inr ⟨rfl, rfl, HO.out.1⟩⟩
  · have hlt : (0 : Int) < (slips.length : Int) := by have := List.length_pos_iff.2 h0; omega
    have hown : w1.ownsRow w.heap.size 45 3 (.slice sa slips.length sc) slips.length (scells slips) := by
      have h := HS.out.os
      refine ⟨h.1, ?_⟩
      rcases h.2 with hn | ⟨g, cap, cur, hv, hg, rest⟩
      · exact .inl hn
      · exact .inr ⟨g, cap, cur, hv, Nat.le_trans HWl.out hg, rest⟩
    have HO : Hid (w1.ownsRow w.heap.size 45 3 (.slice sa slips.length sc) slips.length (scells slips) ∧ slips ≠ []) := ⟨hown, h0⟩
    clear hown h0
    go_wp2
    go_ret2
    exact ⟨good, slips, m, _, _, rfl, HD.out.1, HD.out.2, hgl, hsl, HB.out, Or.inl ⟨HO.out.2, rfl, HO.out.1⟩⟩

end Go.Proofs.YtelmkfkgpnadnaaGreatDoor
