/-
  The law's book: a list of slips came out.
  The law's book: a list of modules came out.
  The law's book: a list of replacements came out.
-/
import Derived.Test.YtelmkfkgpnadnaaGreatDoorKBB
import Derived.Deep.RegionHeldLaw
import Derived.Deep.RegionLaw
import Derived.Deep.AppendLies
import Derived.Deep.DeepCutAuto
namespace Go.Proofs.YtelmkfkgpnadnaaGreatDoor
open Go.RowKit
open Bk (own_sl own_sl' Fl wrap_id)
namespace Bm

variable {w w' : World}

set_option maxRecDepth 100000 in
set_option maxHeartbeats 4000000 in
theorem takeSlips_any (ob k m c : Nat) (G : Nat → Value) (lv v : Value) (xs ys : List Value) (w : World)
    (hobj : ValsAt w ob 5 (fun f => if f = 3 then lv else if f = 0 then .int .i64 c else G f)) (hrows : w.ownsRow 0 139 2 lv k xs) (hown : w.ownsRow 0 45 3 v m ys)
    (hm : m ≤ 2900) (hk : k ≤ 1000) (hc : c ≤ 900000) (hd : lv.ownBlock ≠ some ob ∧ v.ownBlock ≠ some ob ∧ ∀ b, lv.ownBlock = some b → v.ownBlock ≠ some b) :
    Calls Tryz.prog 77 #[.pointer (some ⟨ob, 0, none⟩), v] w fun e w' => e = .returned (.tuple #[]) ∧ ∃ ys' lv' gv, Tk 139 45 3 slipEl ((c + 1 : Nat) : Int) w ob k (fun f => if f = 0 then .int .i64 ((c + 1 : Nat) : Int) else G f) lv v xs 4 ys' lv' gv (m + 3) w' := by
  obtain ⟨i0, hi1, hi2, hi3, hi4⟩ := infoOf 45 (.agg #[.int .i64 0, .int .i64 0, .int .i64 0]) 3 24 (by kernel_rfl)
  have HI : Hid (Tryz.prog.info? 45 = some i0 ∧ i0.zero = some (.agg #[.int .i64 0, .int .i64 0, .int .i64 0]) ∧ i0.size = 3 ∧ i0.bytes = 24) := ⟨hi1, hi2, hi3, hi4⟩
  clear hi1 hi2 hi3 hi4
  obtain ⟨i1, hi1, hi2, hi3, hi4⟩ := infoOf 139 (.agg #[.slice none 0 0, .int .i64 0]) 2 32 (by kernel_rfl)
  have HJ : Hid (Tryz.prog.info? 139 = some i1 ∧ i1.zero = some (.agg #[.slice none 0 0, .int .i64 0]) ∧ i1.size = 2 ∧ i1.bytes = 32) := ⟨hi1, hi2, hi3, hi4⟩
  clear hi1 hi2 hi3 hi4
  have c0 : w.cell? ⟨ob, 0, none⟩ = some (.int .i64 c) := hobj.at' 0 (by omega)
  have f0 := hobj.fr 0 (by omega)
  have hyl : ys.length = m * 3 := hown.1
  have hW0 := Wr.start (el := slipEl ((c + 1 : Nat) : Int)) (fo := 3) (eT := 139) (rT := 45) (by decide) hobj hrows hown hd
  obtain ⟨va, vc, hv⟩ := own_sl' hown
  have HV : Hid (v = .slice none 0 0 ∧ m = 0 ∨ ∃ g c, v = .slice (some ⟨g, 0, none⟩) m c) := own_sl hown
  have c0' : (w.setCell ⟨ob, 0, none⟩ (.int .i64 ((c + 1 : Nat) : Int))).cell? ⟨ob, 0, none⟩ = some (.int .i64 ((c + 1 : Nat) : Int)) := World.cell?_setCell_same _ _ _ c0
  have e2 : IntKind.i64.wrap ((c : Int) + 1) = ((c + 1 : Nat) : Int) := by simp [IntKind.wrap, IntKind.bits, IntKind.signed]; omega
  have e3 : IntKind.i64.wrap (-((c + 1 : Nat) : Int)) = -((c + 1 : Nat) : Int) := wrap_id _ (by omega) (by omega)
  have HD := hd
  have hszs : (w.setCell ⟨ob, 0, none⟩ (.int .i64 ((c + 1 : Nat) : Int))).heap.size = w.heap.size := by simp [World.setCell]
  have HLV : Hid (∀ xb, w.heap.size ≤ xb → ob ≠ xb ∧ lv.ownBlock ≠ some xb ∧ v.ownBlock ≠ some xb) := fun xb hxb => ⟨by have := World.block_lt_of_cell? w _ c0; simp only at this; omega, fun e => by have := (hrows.lt _ e).2; omega, fun e => by have := (hown.lt _ e).2; omega⟩
  have kw := fun W => word_all (c + 1) (by omega) W
  have HX0 : Hid (slipEl ((c + 1 : Nat) : Int) = [.int .i64 0, .int .i64 0, .int .i64 (-((c + 1 : Nat) : Int))]) := rfl
  clear hobj hrows hown hd
  rw [hv] at hW0 HV HD HLV ⊢
  clear hv
  have HQ : Hid ((1 : Int) ≤ ((c + 1 : Nat) : Int) ∧ ((c + 1 : Nat) : Int) ≤ 1000000) := by show _ ∧ _; omega
  generalize wordM (c + 1) = x at *
  generalize ((c + 1 : Nat) : Int) = q at *
  have HX : Hid (slipEl q = [.int .i64 0, .int .i64 0, .int .i64 (-q)]) := HX0
  have HOL : Hid (w.cell? ⟨ob, 0, none⟩ = some (.int .i64 c)) := c0
  have HW0 : Hid (Wr 45 3 (slipEl q) 139 w ob k m (fun f => if f = 0 then .int .i64 q else G f) lv (.slice va m vc) xs ys 0 (w.setCell ⟨ob, 0, none⟩ (.int .i64 q)) ∧ (w.setCell ⟨ob, 0, none⟩ (.int .i64 q)).heap.size = w.heap.size) := ⟨hW0, hszs⟩
  clear hW0 HX0 hszs
  go_enter Tryz.func77, Tryz.ntmps77
  clear kw
  have HWA : Hid (Wr 45 3 (slipEl q) 139 w ob k m (fun f => if f = 0 then .int .i64 q else G f) lv (.slice va m vc) xs ys 0 (w.setCell ⟨ob, 0, none⟩ (.int .i64 q)) ∧ w.heap.size ≤ (w.setCell ⟨ob, 0, none⟩ (.int .i64 q)).heap.size) := ⟨HW0.out.1, Nat.le_of_eq HW0.out.2.symm⟩
  have HXb : Hid (XA ((w.setCell ⟨ob, 0, none⟩ (.int .i64 q)).alloc (.cells #[.int .i64 0, .int .i64 0, .int .i64 (-q)] 45)) (w.setCell ⟨ob, 0, none⟩ (.int .i64 q)).heap.size #[.int .i64 0, .int .i64 0, .int .i64 (-q)] 45) := Bk.new_block (w.setCell ⟨ob, 0, none⟩ (.int .i64 q)) (.cells #[.int .i64 0, .int .i64 0, .int .i64 (-q)] 45)
  have hW1 := HWA.out.1.below ((Below.refl _ _).alloc (Nat.le_refl _) (.cells #[.int .i64 0, .int .i64 0, .int .i64 (-q)] 45))
  have HTn : Hid (Turn (fun b => b = ob ∨ lv.ownBlock = some b ∨ (Value.slice va m vc).ownBlock = some b) w ((w.setCell ⟨ob, 0, none⟩ (.int .i64 q)).alloc (.cells #[.int .i64 0, .int .i64 0, .int .i64 (-q)] 45)) ∧ (w.setCell ⟨ob, 0, none⟩ (.int .i64 q)).heap.size < ((w.setCell ⟨ob, 0, none⟩ (.int .i64 q)).alloc (.cells #[.int .i64 0, .int .i64 0, .int .i64 (-q)] 45)).heap.size) := ⟨hW1.turn, by simp⟩
  have HW1 : Hid (Wr 45 3 (slipEl q) 139 ((w.setCell ⟨ob, 0, none⟩ (.int .i64 q)).alloc (.cells #[.int .i64 0, .int .i64 0, .int .i64 (-q)] 45)) ob k m (fun f => if f = 0 then .int .i64 q else G f) lv (.slice va m vc) xs ys 0 ((w.setCell ⟨ob, 0, none⟩ (.int .i64 q)).alloc (.cells #[.int .i64 0, .int .i64 0, .int .i64 (-q)] 45))) := hW1.rebase
  have HNX : Hid (ob ≠ (w.setCell ⟨ob, 0, none⟩ (.int .i64 q)).heap.size ∧ lv.ownBlock ≠ some (w.setCell ⟨ob, 0, none⟩ (.int .i64 q)).heap.size ∧ (Value.slice va m vc).ownBlock ≠ some (w.setCell ⟨ob, 0, none⟩ (.int .i64 q)).heap.size) := HLV.out _ HWA.out.2
  clear hW1
  rw [HW0.out.2] at HXb HTn HNX
  clear HWA HW0
  go_wp2
  generalize (w.setCell ⟨ob, 0, none⟩ (.int .i64 q)).alloc (.cells #[.int .i64 0, .int .i64 0, .int .i64 (-q)] 45) = W1 at *
  generalize w.heap.size = xb at *
  have HXK : Hid (∀ wr, Turn (fun b => b = ob ∨ lv.ownBlock = some b ∨ (Value.slice va m vc).ownBlock = some b) W1 wr → wr.cell? ⟨xb, 0, none⟩ = some (.int .i64 0) ∧ wr.cell? ⟨xb, 1, none⟩ = some (.int .i64 0) ∧ wr.cell? ⟨xb, 2, none⟩ = some (.int .i64 (-q))) := fun wr ht => by
    have h : XA wr xb #[.int .i64 0, .int .i64 0, .int .i64 (-q)] 45 := by
      unfold XA
      rw [ht.block xb HTn.out.2 (fun e => by rcases e with e | e | e; exact HNX.out.1 e.symm; exact HNX.out.2.1 e; exact HNX.out.2.2 e)]
      exact HXb.out
    unfold XA at h
    simp [World.cell?, h]
  clear c0 f0 c0' e2 e3 HXb
  go_loopg [5] m (fun gg s wr => ∃ i : Nat, i ≤ m ∧ m - i ≤ gg ∧ s = .int .i64 i ∧ Hid (Wr 45 3 (slipEl q) 139 W1 ob k m (fun f => if f = 0 then .int .i64 q else G f) lv (.slice va m vc) xs ys i wr))
  case atStart => exact ⟨0, by omega, by omega, rfl, HW1⟩
  case round =>
    clear HW1
    obtain ⟨i, hi, hgi, rfl, HWi⟩ := hrel
    obtain ⟨x0, x1, x2⟩ := HXK.out wr HWi.out.turn
    by_cases hlt : i < m
    · obtain ⟨g, hva⟩ : ∃ g, va = some ⟨g, 0, none⟩ := by
        rcases HV.out with ⟨_, e⟩ | ⟨g, c2, e⟩
        · omega
        · injection e with e1
          exact ⟨g, e1⟩
      subst hva
      have hown := HWi.out.own
      rw [HX.out] at hown
      have hcell : ∀ j, j < 3 → ∃ u, wr.cell? ⟨g, i * 3 + j, none⟩ = some u := fun j hj => by
        refine ⟨ys[i * 3 + j]'(by omega), ?_⟩
        rw [hown.cellAt (i * 3 + j) (by simp; omega), List.getElem?_append_right (by rw [rep_len]; simp), rep_len]
        simp only [List.length_cons, List.length_nil, Nat.zero_add, List.getElem?_drop]
        rw [show i * 3 + (i * 3 + j - i * 3) = i * 3 + j by omega]
        exact List.getElem?_eq_getElem _
      obtain ⟨u0, hc0⟩ := hcell 0 (by omega)
      obtain ⟨u1, hc1⟩ := hcell 1 (by omega)
      obtain ⟨u2, hc2⟩ := hcell 2 (by omega)
      rw [Nat.add_zero] at hc0
      have hf0 := hown.frozenAt (i * 3)
      have hf1 := hown.frozenAt (i * 3 + 1)
      have hf2 := hown.frozenAt (i * 3 + 2)
      have HN : Hid (Wr 45 3 (slipEl q) 139 W1 ob k m (fun f => if f = 0 then .int .i64 q else G f) lv (.slice (some ⟨g, 0, none⟩) m vc) xs ys (i + 1) (((wr.setCell ⟨g, i * 3, none⟩ (.int .i64 0)).setCell ⟨g, i * 3 + 1, none⟩ (.int .i64 0)).setCell ⟨g, i * 3 + 2, none⟩ (.int .i64 (-q)))) := by
        have h := HWi.out
        show Wr 45 3 (slipEl q) 139 W1 ob k m _ lv (.slice (some ⟨g, 0, none⟩) m vc) xs ys (i + 1) _
        rw [HX.out] at h ⊢
        exact h.next3 rfl hyl hlt
      have hltI : (i : Int) < (m : Int) := by omega
      clear hown hcell
      go_wp2
      go_roundg (m - (i + 1))
      case measure => omega
      case rel => exact ⟨i + 1, by omega, by omega, by go_num, HN⟩
    · have him : i = m := by omega
      have HT0 : Hid (Tk 139 45 3 slipEl q W1 ob k (fun f => if f = 0 then .int .i64 q else G f) lv (.slice va m vc) xs 0 [] lv (.slice va m vc) m wr) := by
        have h := HWi.out
        rw [him] at h
        exact h.done (by rw [HX.out]; exact hyl)
      subst him
      clear HWi
      have hltI : ((i : Int) < (i : Int)) = False := by simp
      have hV : Value.slice va i vc = .slice none 0 0 ∨ ∃ g cap, Value.slice va i vc = .slice (some ⟨g, 0, none⟩) i cap := by
        rcases HV.out with ⟨e, _⟩ | e
        · exact Or.inl e
        · exact Or.inr e
      have HVV : Hid (Value.slice va i vc = .slice none 0 0 ∨ ∃ g cap, Value.slice va i vc = .slice (some ⟨g, 0, none⟩) i cap) := hV
      have c4 : wr.cell? ⟨ob, 3, none⟩ = some lv := HT0.out.obj.at' 3 (by omega)
      have c0 : wr.cell? ⟨ob, 0, none⟩ = some (.int .i64 q) := HT0.out.obj.at' 0 (by omega)
      have f4 := HT0.out.obj.fr 3 (by omega)
      have hobr : ob < wr.heap.size := World.block_lt_of_cell? wr _ c4
      clear hV
      go_upto_region 6 with fail
      have hoe : (wr.alloc (.cells #[.slice va i vc, .int .i64 q] 139)).drew.ownsRow 0 139 2 lv (k + 0) (xs ++ []) := own_of_block HT0.out.rows (fun b e => Below.heap_alloc _ _ _ (HT0.out.rows.lt b e).2)
      have hnw : ∀ j u, [Value.slice va i vc, .int .i64 q][j]? = some u → (wr.alloc (.cells #[.slice va i vc, .int .i64 q] 139)).drew.cell? ((⟨wr.heap.size, 0, none⟩ : Addr).add j) = some u := fun j u hj => cell_two_new wr _ _ _ j u hj
      have hF4 : Fl (wr.alloc (.cells #[.slice va i vc, .int .i64 q] 139)).drew ob 3 lv := Fl.of_block ⟨c4, f4⟩ (Below.heap_alloc _ _ _ hobr)
      have c4b : (wr.alloc (.cells #[.slice va i vc, .int .i64 q] 139)).cell? ⟨ob, 3, none⟩ = some lv := hF4.1
      have c0b : (wr.alloc (.cells #[.slice va i vc, .int .i64 q] 139)).cell? ⟨ob, 0, none⟩ = some (.int .i64 q) := by rw [World.cell?_alloc_lt _ _ _ hobr]; exact c0
      have HF4 : Hid (Fl (wr.alloc (.cells #[.slice va i vc, .int .i64 q] 139)).drew ob 3 lv) := hF4
      have HNE : Hid (some ob ≠ lv.ownBlock) := fun e => HD.1 e.symm
      have HBL : Hid (ob < (wr.alloc (.cells #[.slice va i vc, .int .i64 q] 139)).drew.heap.size) := World.block_lt_of_cell? _ _ hF4.1
      clear hF4
      go_cut [] (fun wx => ∃ gl cl ys1, Hid (Tk 139 45 3 slipEl q W1 ob k (fun f => if f = 0 then .int .i64 q else G f) lv (.slice va i vc) xs 1 ys1 (.slice (some ⟨gl, 0, none⟩) (k + 1) cl) (.slice va i vc) i wx))
      case first =>
       go_region_law
        (first | (refine step_append_lies _ rfl (.tmp 35) (.tmp 42) 97 rfl 0 139 i1 (.agg #[.slice none 0 0, .int .i64 0]) 2 32 Tryz.underlying97 HJ.out.1 HJ.out.2.1 HJ.out.2.2.1 HJ.out.2.2.2 rfl (by decide) _ (k + 0) _ rfl hoe ⟨wr.heap.size, 0, none⟩ 1 1 [.slice va i vc, .int .i64 q] rfl rfl hnw (fun u hu => by simp at hu; rcases hu with rfl | rfl <;> rfl) (by decide) (by unfold maxLen; omega) (by omega) (Nat.zero_le _) _ rfl ?_; intro g cap w2 hown' hgrow hat hlt2; have c4' : w2.cell? ⟨ob, 3, none⟩ = some lv := (HF4.out.of_block (hgrow.block ob HBL.out HNE.out)).1; have f4' : w2.frozen? ⟨ob, 3, none⟩ = false := (HF4.out.of_block (hgrow.block ob HBL.out HNE.out)).2))
       all_goals
        have HT1 : Hid (Tk 139 45 3 slipEl q W1 ob k (fun f => if f = 0 then .int .i64 q else G f) lv (.slice va i vc) xs 1 ([] ++ [.slice va i vc, .int .i64 q]) (.slice (some ⟨g, 0, none⟩) (k + 1) cap) (.slice va i vc) i (w2.setCell ⟨ob, 3, none⟩ (.slice (some ⟨g, 0, none⟩) (k + 1) cap))) :=
          HT0.out.lists (lv' := .slice (some ⟨g, 0, none⟩) (k + 1) cap) (by decide) HQ.out (by omega) HVV.out (.cells #[.slice va i vc, .int .i64 q] 139) hown' ⟨hgrow.os, hgrow.tape, hgrow.output, hgrow.size, hgrow.block⟩ (by
            rcases hat with h | h
            · exact Or.inl h.symm
            · exact Or.inr (by rw [h]; rfl))
        clear hown' hgrow hat hlt2 hnw hoe HF4 HNE HBL HT0 c4 f4 c0 c4b c0b hobr
        go_wp2_with fail
        go_meet
        exact ⟨_, _, _, HT1⟩
      case rest =>
        obtain ⟨gl1, cl1, ys1, HT1⟩ := hcut
        clear HT0 c4 f4 c0 c4b c0b hobr hnw hoe HF4 HNE HBL hgi hlt hi hltI
        go_wp2
        go_loopg [6, 7] 3 (fun gg gv s wx => ∃ (j : Nat) (ys' : List Value) (lv' : Value), j ≤ 3 ∧ 3 - j ≤ gg ∧ s = .int .i64 j ∧ (gv = .slice none 0 0 ∨ ∃ g cap, gv = .slice (some ⟨g, 0, none⟩) (i + j) cap) ∧ Hid (Tk 139 45 3 slipEl q W1 ob k (fun f => if f = 0 then .int .i64 q else G f) lv (.slice va i vc) xs (j + 1) ys' lv' gv (i + j) wx))
        case atStart => exact ⟨0, _, _, by omega, by omega, rfl, HVV.out, HT1⟩
        case round =>
          clear HT1
          obtain ⟨j, ys', lv', hj, hgj, rfl, hgv, HT⟩ := hrel
          by_cases hlt : j < 3
          · have hltI : (j : Int) < 3 := by omega
            have hown0 : wr.ownsRow 0 45 3 u6 (i + j) (rep (i + j) (slipEl q)) := HT.out.own
            clear hgv
            obtain ⟨x0, x1, x2⟩ := HXK.out wr HT.out.turn
            go_wp2_with (at_builtin; refine wpList_append_keep rfl _ _ 38 rfl 0 45 i0 (.agg #[.int .i64 0, .int .i64 0, .int .i64 0]) 3 24 Tryz.underlying38 HI.out.1 HI.out.2.1 HI.out.2.2.1 HI.out.2.2.2 rfl (by decide) _ _ _ rfl (hown0.alloc _) ⟨wr.heap.size, 0, none⟩ 1 1 [.int .i64 0, .int .i64 0, .int .i64 (-q)] rfl rfl ?_ ?_ ?_ ?_ ?_ ?_)
            all_goals first
              | exact cell_three _ _ _ _ _
              | (show ∀ u ∈ [Value.int .i64 0, .int .i64 0, .int .i64 (-q)], u.oneCell' = true; intro u hu; simp at hu; rcases hu with rfl | rfl | rfl <;> rfl)
              | (show i + j + 1 ≤ maxLen; unfold maxLen; omega)
              | (show (i + j + 1) * 24 ≤ 140737488355328; omega)
              | exact Nat.zero_le _
              | skip
            intro gv1 w1 hown' hgrow hat
            obtain ⟨g1, cap1, rfl⟩ := own_some hown' (by omega)
            have HT1 : Hid (Tk 139 45 3 slipEl q W1 ob k (fun f => if f = 0 then .int .i64 q else G f) lv (.slice va i vc) xs (j + 1) ys' lv' (.slice (some ⟨g1, 0, none⟩) (i + j + 1) cap1) (i + j + 1) w1) := HT.out.next _ (by
                rw [← HX.out] at hown'
                exact hown') hgrow (by
              rcases hat with e | e
              · exact Or.inl e
              · exact Or.inr ⟨by rw [e.1]; simp, e.2⟩)
            clear hown' hgrow hat HT hown0
            have c4 : w1.cell? ⟨ob, 3, none⟩ = some lv' := HT1.out.obj.at' 3 (by omega)
            have c0 : w1.cell? ⟨ob, 0, none⟩ = some (.int .i64 q) := HT1.out.obj.at' 0 (by omega)
            have f4 := HT1.out.obj.fr 3 (by omega)
            have hobr : ob < w1.heap.size := World.block_lt_of_cell? w1 _ c4
            go_upto_region 12 with fail
            have hoe : (w1.alloc (.cells #[.slice (some ⟨g1, 0, none⟩) (i + j + 1) cap1, .int .i64 q] 139)).drew.ownsRow 0 139 2 lv' (k + (j + 1)) (xs ++ ys') := own_of_block HT1.out.rows (fun b e => Below.heap_alloc _ _ _ (HT1.out.rows.lt b e).2)
            have hnw : ∀ z u, [Value.slice (some ⟨g1, 0, none⟩) (i + j + 1) cap1, .int .i64 q][z]? = some u → (w1.alloc (.cells #[.slice (some ⟨g1, 0, none⟩) (i + j + 1) cap1, .int .i64 q] 139)).drew.cell? ((⟨w1.heap.size, 0, none⟩ : Addr).add z) = some u := fun z u hz => cell_two_new w1 _ _ _ z u hz
            have hF4 : Fl (w1.alloc (.cells #[.slice (some ⟨g1, 0, none⟩) (i + j + 1) cap1, .int .i64 q] 139)).drew ob 3 lv' := Fl.of_block ⟨c4, f4⟩ (Below.heap_alloc _ _ _ hobr)
            have c4b : (w1.alloc (.cells #[.slice (some ⟨g1, 0, none⟩) (i + j + 1) cap1, .int .i64 q] 139)).cell? ⟨ob, 3, none⟩ = some lv' := hF4.1
            have c0b : (w1.alloc (.cells #[.slice (some ⟨g1, 0, none⟩) (i + j + 1) cap1, .int .i64 q] 139)).cell? ⟨ob, 0, none⟩ = some (.int .i64 q) := by rw [World.cell?_alloc_lt _ _ _ hobr]; exact c0
            have HF4 : Hid (Fl (w1.alloc (.cells #[.slice (some ⟨g1, 0, none⟩) (i + j + 1) cap1, .int .i64 q] 139)).drew ob 3 lv') := hF4
            have HNE : Hid (some ob ≠ lv'.ownBlock) := fun e => HT1.out.no.1 e.symm
            have HBL : Hid (ob < (w1.alloc (.cells #[.slice (some ⟨g1, 0, none⟩) (i + j + 1) cap1, .int .i64 q] 139)).drew.heap.size) := World.block_lt_of_cell? _ _ hF4.1
            clear hF4
            go_region_law
              (first | (refine step_append_lies _ rfl (.tmp 59) (.tmp 66) 97 rfl 0 139 i1 (.agg #[.slice none 0 0, .int .i64 0]) 2 32 Tryz.underlying97 HJ.out.1 HJ.out.2.1 HJ.out.2.2.1 HJ.out.2.2.2 rfl (by decide) _ (k + (j + 1)) _ rfl hoe ⟨w1.heap.size, 0, none⟩ 1 1 [.slice (some ⟨g1, 0, none⟩) (i + j + 1) cap1, .int .i64 q] rfl rfl hnw (fun u hu => by simp at hu; rcases hu with rfl | rfl <;> rfl) (by decide) (by unfold maxLen; omega) (by omega) (Nat.zero_le _) _ rfl ?_; intro g cap w2 hown' hgrow hat hlt2; have c4' : w2.cell? ⟨ob, 3, none⟩ = some lv' := (HF4.out.of_block (hgrow.block ob HBL.out HNE.out)).1; have f4' : w2.frozen? ⟨ob, 3, none⟩ = false := (HF4.out.of_block (hgrow.block ob HBL.out HNE.out)).2))
            all_goals
              have HT2 : Hid (Tk 139 45 3 slipEl q W1 ob k (fun f => if f = 0 then .int .i64 q else G f) lv (.slice va i vc) xs (j + 1 + 1) (ys' ++ [.slice (some ⟨g1, 0, none⟩) (i + j + 1) cap1, .int .i64 q]) (.slice (some ⟨g, 0, none⟩) (k + (j + 1) + 1) cap) (.slice (some ⟨g1, 0, none⟩) (i + j + 1) cap1) (i + j + 1) (w2.setCell ⟨ob, 3, none⟩ (.slice (some ⟨g, 0, none⟩) (k + (j + 1) + 1) cap))) :=
                HT1.out.lists (lv' := .slice (some ⟨g, 0, none⟩) (k + (j + 1) + 1) cap) (by decide) HQ.out (by omega) (Or.inr ⟨g1, cap1, rfl⟩) (.cells #[.slice (some ⟨g1, 0, none⟩) (i + j + 1) cap1, .int .i64 q] 139) hown' ⟨hgrow.os, hgrow.tape, hgrow.output, hgrow.size, hgrow.block⟩ (by
                  rcases hat with h | h
                  · exact Or.inl h.symm
                  · exact Or.inr (by rw [h]; rfl))
              clear hown' hgrow hat hlt2 hnw hoe HF4 HNE HBL HT1 c4 f4 c0 c4b c0b hobr
              go_wp2
              go_roundg (3 - (j + 1))
              case measure => omega
              case rel => exact ⟨j + 1, _, _, by omega, by omega, by go_num, Or.inr ⟨g1, cap1, rfl⟩, HT2⟩
          · have hj3 : j = 3 := by omega
            subst hj3
            clear hgv
            go_wp2
            go_end0
            exact ⟨rfl, _, _, _, HT.out.rebase HTn.out.1 (World.block_lt_of_cell? w _ HOL.out)⟩

end Bm
end Go.Proofs.YtelmkfkgpnadnaaGreatDoor

namespace Go.Proofs.YtelmkfkgpnadnaaGreatDoor
open Go.RowKit
open Bk (own_sl own_sl' Fl wrap_id)
namespace Bm

variable {w w' : World}

set_option maxRecDepth 100000 in
set_option maxHeartbeats 4000000 in
theorem takeModules_any (ob k m c : Nat) (G : Nat → Value) (lv v : Value) (xs ys : List Value) (w : World)
    (hobj : ValsAt w ob 5 (fun f => if f = 1 then lv else if f = 0 then .int .i64 c else G f)) (hrows : w.ownsRow 0 133 2 lv k xs) (hown : w.ownsRow 0 29 2 v m ys)
    (hm : m ≤ 2900) (hk : k ≤ 1000) (hc : c ≤ 900000) (hd : lv.ownBlock ≠ some ob ∧ v.ownBlock ≠ some ob ∧ ∀ b, lv.ownBlock = some b → v.ownBlock ≠ some b) :
    Calls Tryz.prog 75 #[.pointer (some ⟨ob, 0, none⟩), v] w fun e w' => e = .returned (.tuple #[]) ∧ ∃ ys' lv' gv, Tk 133 29 1 modEl ((c + 1 : Nat) : Int) w ob k (fun f => if f = 0 then .int .i64 ((c + 1 : Nat) : Int) else G f) lv v xs 4 ys' lv' gv (m + 3) w' := by
  obtain ⟨i0, hi1, hi2, hi3, hi4⟩ := infoOf 29 (.agg #[.string ⟨#[]⟩, .string ⟨#[]⟩]) 2 32 (by kernel_rfl)
  have HI : Hid (Tryz.prog.info? 29 = some i0 ∧ i0.zero = some (.agg #[.string ⟨#[]⟩, .string ⟨#[]⟩]) ∧ i0.size = 2 ∧ i0.bytes = 32) := ⟨hi1, hi2, hi3, hi4⟩
  clear hi1 hi2 hi3 hi4
  obtain ⟨i1, hi1, hi2, hi3, hi4⟩ := infoOf 133 (.agg #[.slice none 0 0, .int .i64 0]) 2 32 (by kernel_rfl)
  have HJ : Hid (Tryz.prog.info? 133 = some i1 ∧ i1.zero = some (.agg #[.slice none 0 0, .int .i64 0]) ∧ i1.size = 2 ∧ i1.bytes = 32) := ⟨hi1, hi2, hi3, hi4⟩
  clear hi1 hi2 hi3 hi4
  have c0 : w.cell? ⟨ob, 0, none⟩ = some (.int .i64 c) := hobj.at' 0 (by omega)
  have f0 := hobj.fr 0 (by omega)
  have hyl : ys.length = m * 2 := hown.1
  have hW0 := Wr.start (el := modEl ((c + 1 : Nat) : Int)) (fo := 1) (eT := 133) (rT := 29) (by decide) hobj hrows hown hd
  obtain ⟨va, vc, hv⟩ := own_sl' hown
  have HV : Hid (v = .slice none 0 0 ∧ m = 0 ∨ ∃ g c, v = .slice (some ⟨g, 0, none⟩) m c) := own_sl hown
  have c0' : (w.setCell ⟨ob, 0, none⟩ (.int .i64 ((c + 1 : Nat) : Int))).cell? ⟨ob, 0, none⟩ = some (.int .i64 ((c + 1 : Nat) : Int)) := World.cell?_setCell_same _ _ _ c0
  have e2 : IntKind.i64.wrap ((c : Int) + 1) = ((c + 1 : Nat) : Int) := by simp [IntKind.wrap, IntKind.bits, IntKind.signed]; omega
  have e3 : IntKind.i64.wrap (-((c + 1 : Nat) : Int)) = -((c + 1 : Nat) : Int) := wrap_id _ (by omega) (by omega)
  have HD := hd
  have hszs : (w.setCell ⟨ob, 0, none⟩ (.int .i64 ((c + 1 : Nat) : Int))).heap.size = w.heap.size := by simp [World.setCell]
  have HLV : Hid (∀ xb, w.heap.size ≤ xb → ob ≠ xb ∧ lv.ownBlock ≠ some xb ∧ v.ownBlock ≠ some xb) := fun xb hxb => ⟨by have := World.block_lt_of_cell? w _ c0; simp only at this; omega, fun e => by have := (hrows.lt _ e).2; omega, fun e => by have := (hown.lt _ e).2; omega⟩
  have kw := fun W => word_all (c + 1) (by omega) W
  have HX0 : Hid (modEl ((c + 1 : Nat) : Int) = [.string (wordM (c + 1)), .string ⟨#[]⟩]) := rfl
  clear hobj hrows hown hd
  rw [hv] at hW0 HV HD HLV ⊢
  clear hv
  have HQ : Hid ((1 : Int) ≤ ((c + 1 : Nat) : Int) ∧ ((c + 1 : Nat) : Int) ≤ 1000000) := by show _ ∧ _; omega
  generalize wordM (c + 1) = x at *
  generalize ((c + 1 : Nat) : Int) = q at *
  have HX : Hid (modEl q = [.string x, .string ⟨#[]⟩]) := HX0
  have HOL : Hid (w.cell? ⟨ob, 0, none⟩ = some (.int .i64 c)) := c0
  have HW0 : Hid (Wr 29 1 (modEl q) 133 w ob k m (fun f => if f = 0 then .int .i64 q else G f) lv (.slice va m vc) xs ys 0 (w.setCell ⟨ob, 0, none⟩ (.int .i64 q)) ∧ (w.setCell ⟨ob, 0, none⟩ (.int .i64 q)).heap.size = w.heap.size) := ⟨hW0, hszs⟩
  clear hW0 HX0 hszs
  go_enter Tryz.func75, Tryz.ntmps75
  go_wp2_with (go_at_call 78; fail)
  go_at_call 78
  refine (kw _).mono ?_
  rintro e wA ⟨rfl, hbA⟩
  have HWA : Hid (Wr 29 1 (modEl q) 133 w ob k m (fun f => if f = 0 then .int .i64 q else G f) lv (.slice va m vc) xs ys 0 wA ∧ w.heap.size ≤ wA.heap.size) := ⟨HW0.out.1.below hbA, by rw [← HW0.out.2]; exact hbA.size⟩
  clear hbA kw HW0
  have HXb : Hid (XA (wA.alloc (.cells #[.string x, .string ⟨#[]⟩] 29)) wA.heap.size #[.string x, .string ⟨#[]⟩] 29) := Bk.new_block wA (.cells #[.string x, .string ⟨#[]⟩] 29)
  have hW1 := HWA.out.1.below ((Below.refl _ _).alloc (Nat.le_refl _) (.cells #[.string x, .string ⟨#[]⟩] 29))
  have HTn : Hid (Turn (fun b => b = ob ∨ lv.ownBlock = some b ∨ (Value.slice va m vc).ownBlock = some b) w (wA.alloc (.cells #[.string x, .string ⟨#[]⟩] 29)) ∧ wA.heap.size < (wA.alloc (.cells #[.string x, .string ⟨#[]⟩] 29)).heap.size) := ⟨hW1.turn, by simp⟩
  have HW1 : Hid (Wr 29 1 (modEl q) 133 (wA.alloc (.cells #[.string x, .string ⟨#[]⟩] 29)) ob k m (fun f => if f = 0 then .int .i64 q else G f) lv (.slice va m vc) xs ys 0 (wA.alloc (.cells #[.string x, .string ⟨#[]⟩] 29))) := hW1.rebase
  have HNX : Hid (ob ≠ wA.heap.size ∧ lv.ownBlock ≠ some wA.heap.size ∧ (Value.slice va m vc).ownBlock ≠ some wA.heap.size) := HLV.out _ HWA.out.2
  clear hW1
  clear HWA
  go_wp2
  generalize wA.alloc (.cells #[.string x, .string ⟨#[]⟩] 29) = W1 at *
  generalize wA.heap.size = xb at *
  have HXK : Hid (∀ wr, Turn (fun b => b = ob ∨ lv.ownBlock = some b ∨ (Value.slice va m vc).ownBlock = some b) W1 wr → wr.cell? ⟨xb, 0, none⟩ = some (.string x) ∧ wr.cell? ⟨xb, 1, none⟩ = some (.string ⟨#[]⟩)) := fun wr ht => by
    have h : XA wr xb #[.string x, .string ⟨#[]⟩] 29 := by
      unfold XA
      rw [ht.block xb HTn.out.2 (fun e => by rcases e with e | e | e; exact HNX.out.1 e.symm; exact HNX.out.2.1 e; exact HNX.out.2.2 e)]
      exact HXb.out
    unfold XA at h
    simp [World.cell?, h]
  clear c0 f0 c0' e2 e3 HXb
  go_loopg [5] m (fun gg s wr => ∃ i : Nat, i ≤ m ∧ m - i ≤ gg ∧ s = .int .i64 i ∧ Hid (Wr 29 1 (modEl q) 133 W1 ob k m (fun f => if f = 0 then .int .i64 q else G f) lv (.slice va m vc) xs ys i wr))
  case atStart => exact ⟨0, by omega, by omega, rfl, HW1⟩
  case round =>
    clear HW1
    obtain ⟨i, hi, hgi, rfl, HWi⟩ := hrel
    obtain ⟨x0, x1⟩ := HXK.out wr HWi.out.turn
    by_cases hlt : i < m
    · obtain ⟨g, hva⟩ : ∃ g, va = some ⟨g, 0, none⟩ := by
        rcases HV.out with ⟨_, e⟩ | ⟨g, c2, e⟩
        · omega
        · injection e with e1
          exact ⟨g, e1⟩
      subst hva
      have hown := HWi.out.own
      rw [HX.out] at hown
      have hcell : ∀ j, j < 2 → ∃ u, wr.cell? ⟨g, i * 2 + j, none⟩ = some u := fun j hj => by
        refine ⟨ys[i * 2 + j]'(by omega), ?_⟩
        rw [hown.cellAt (i * 2 + j) (by simp; omega), List.getElem?_append_right (by rw [rep_len]; simp), rep_len]
        simp only [List.length_cons, List.length_nil, Nat.zero_add, List.getElem?_drop]
        rw [show i * 2 + (i * 2 + j - i * 2) = i * 2 + j by omega]
        exact List.getElem?_eq_getElem _
      obtain ⟨u0, hc0⟩ := hcell 0 (by omega)
      obtain ⟨u1, hc1⟩ := hcell 1 (by omega)
      rw [Nat.add_zero] at hc0
      have hf0 := hown.frozenAt (i * 2)
      have hf1 := hown.frozenAt (i * 2 + 1)
      have HN : Hid (Wr 29 1 (modEl q) 133 W1 ob k m (fun f => if f = 0 then .int .i64 q else G f) lv (.slice (some ⟨g, 0, none⟩) m vc) xs ys (i + 1) ((wr.setCell ⟨g, i * 2, none⟩ (.string x)).setCell ⟨g, i * 2 + 1, none⟩ (.string ⟨#[]⟩))) := by
        have h := HWi.out
        show Wr 29 1 (modEl q) 133 W1 ob k m _ lv (.slice (some ⟨g, 0, none⟩) m vc) xs ys (i + 1) _
        rw [HX.out] at h ⊢
        exact h.next2 rfl hyl hlt
      have hltI : (i : Int) < (m : Int) := by omega
      clear hown hcell
      go_wp2
      go_roundg (m - (i + 1))
      case measure => omega
      case rel => exact ⟨i + 1, by omega, by omega, by go_num, HN⟩
    · have him : i = m := by omega
      have HT0 : Hid (Tk 133 29 1 modEl q W1 ob k (fun f => if f = 0 then .int .i64 q else G f) lv (.slice va m vc) xs 0 [] lv (.slice va m vc) m wr) := by
        have h := HWi.out
        rw [him] at h
        exact h.done (by rw [HX.out]; exact hyl)
      subst him
      clear HWi
      have hltI : ((i : Int) < (i : Int)) = False := by simp
      have hV : Value.slice va i vc = .slice none 0 0 ∨ ∃ g cap, Value.slice va i vc = .slice (some ⟨g, 0, none⟩) i cap := by
        rcases HV.out with ⟨e, _⟩ | e
        · exact Or.inl e
        · exact Or.inr e
      have HVV : Hid (Value.slice va i vc = .slice none 0 0 ∨ ∃ g cap, Value.slice va i vc = .slice (some ⟨g, 0, none⟩) i cap) := hV
      have c4 : wr.cell? ⟨ob, 1, none⟩ = some lv := HT0.out.obj.at' 1 (by omega)
      have c0 : wr.cell? ⟨ob, 0, none⟩ = some (.int .i64 q) := HT0.out.obj.at' 0 (by omega)
      have f4 := HT0.out.obj.fr 1 (by omega)
      have hobr : ob < wr.heap.size := World.block_lt_of_cell? wr _ c4
      clear hV
      go_upto_region 6 with fail
      have hoe : (wr.alloc (.cells #[.slice va i vc, .int .i64 q] 133)).drew.ownsRow 0 133 2 lv (k + 0) (xs ++ []) := own_of_block HT0.out.rows (fun b e => Below.heap_alloc _ _ _ (HT0.out.rows.lt b e).2)
      have hnw : ∀ j u, [Value.slice va i vc, .int .i64 q][j]? = some u → (wr.alloc (.cells #[.slice va i vc, .int .i64 q] 133)).drew.cell? ((⟨wr.heap.size, 0, none⟩ : Addr).add j) = some u := fun j u hj => cell_two_new wr _ _ _ j u hj
      have hF4 : Fl (wr.alloc (.cells #[.slice va i vc, .int .i64 q] 133)).drew ob 1 lv := Fl.of_block ⟨c4, f4⟩ (Below.heap_alloc _ _ _ hobr)
      have c4b : (wr.alloc (.cells #[.slice va i vc, .int .i64 q] 133)).cell? ⟨ob, 1, none⟩ = some lv := hF4.1
      have c0b : (wr.alloc (.cells #[.slice va i vc, .int .i64 q] 133)).cell? ⟨ob, 0, none⟩ = some (.int .i64 q) := by rw [World.cell?_alloc_lt _ _ _ hobr]; exact c0
      have HF4 : Hid (Fl (wr.alloc (.cells #[.slice va i vc, .int .i64 q] 133)).drew ob 1 lv) := hF4
      have HNE : Hid (some ob ≠ lv.ownBlock) := fun e => HD.1 e.symm
      have HBL : Hid (ob < (wr.alloc (.cells #[.slice va i vc, .int .i64 q] 133)).drew.heap.size) := World.block_lt_of_cell? _ _ hF4.1
      clear hF4
      go_cut [] (fun wx => ∃ gl cl ys1, Hid (Tk 133 29 1 modEl q W1 ob k (fun f => if f = 0 then .int .i64 q else G f) lv (.slice va i vc) xs 1 ys1 (.slice (some ⟨gl, 0, none⟩) (k + 1) cl) (.slice va i vc) i wx))
      case first =>
       go_region_law
        (first | (refine step_append_lies _ rfl (.tmp 35) (.tmp 42) 95 rfl 0 133 i1 (.agg #[.slice none 0 0, .int .i64 0]) 2 32 Tryz.underlying95 HJ.out.1 HJ.out.2.1 HJ.out.2.2.1 HJ.out.2.2.2 rfl (by decide) _ (k + 0) _ rfl hoe ⟨wr.heap.size, 0, none⟩ 1 1 [.slice va i vc, .int .i64 q] rfl rfl hnw (fun u hu => by simp at hu; rcases hu with rfl | rfl <;> rfl) (by decide) (by unfold maxLen; omega) (by omega) (Nat.zero_le _) _ rfl ?_; intro g cap w2 hown' hgrow hat hlt2; have c4' : w2.cell? ⟨ob, 1, none⟩ = some lv := (HF4.out.of_block (hgrow.block ob HBL.out HNE.out)).1; have f4' : w2.frozen? ⟨ob, 1, none⟩ = false := (HF4.out.of_block (hgrow.block ob HBL.out HNE.out)).2))
       all_goals
        have HT1 : Hid (Tk 133 29 1 modEl q W1 ob k (fun f => if f = 0 then .int .i64 q else G f) lv (.slice va i vc) xs 1 ([] ++ [.slice va i vc, .int .i64 q]) (.slice (some ⟨g, 0, none⟩) (k + 1) cap) (.slice va i vc) i (w2.setCell ⟨ob, 1, none⟩ (.slice (some ⟨g, 0, none⟩) (k + 1) cap))) :=
          HT0.out.lists (lv' := .slice (some ⟨g, 0, none⟩) (k + 1) cap) (by decide) HQ.out (by omega) HVV.out (.cells #[.slice va i vc, .int .i64 q] 133) hown' ⟨hgrow.os, hgrow.tape, hgrow.output, hgrow.size, hgrow.block⟩ (by
            rcases hat with h | h
            · exact Or.inl h.symm
            · exact Or.inr (by rw [h]; rfl))
        clear hown' hgrow hat hlt2 hnw hoe HF4 HNE HBL HT0 c4 f4 c0 c4b c0b hobr
        go_wp2_with fail
        go_meet
        exact ⟨_, _, _, HT1⟩
      case rest =>
        obtain ⟨gl1, cl1, ys1, HT1⟩ := hcut
        clear HT0 c4 f4 c0 c4b c0b hobr hnw hoe HF4 HNE HBL hgi hlt hi hltI
        go_wp2
        go_loopg [6, 7] 3 (fun gg gv s wx => ∃ (j : Nat) (ys' : List Value) (lv' : Value), j ≤ 3 ∧ 3 - j ≤ gg ∧ s = .int .i64 j ∧ (gv = .slice none 0 0 ∨ ∃ g cap, gv = .slice (some ⟨g, 0, none⟩) (i + j) cap) ∧ Hid (Tk 133 29 1 modEl q W1 ob k (fun f => if f = 0 then .int .i64 q else G f) lv (.slice va i vc) xs (j + 1) ys' lv' gv (i + j) wx))
        case atStart => exact ⟨0, _, _, by omega, by omega, rfl, HVV.out, HT1⟩
        case round =>
          clear HT1
          obtain ⟨j, ys', lv', hj, hgj, rfl, hgv, HT⟩ := hrel
          by_cases hlt : j < 3
          · have hltI : (j : Int) < 3 := by omega
            have hown0 : wr.ownsRow 0 29 2 u6 (i + j) (rep (i + j) (modEl q)) := HT.out.own
            clear hgv
            obtain ⟨x0, x1⟩ := HXK.out wr HT.out.turn
            go_wp2_with (at_builtin; refine wpList_append_keep rfl _ _ 23 rfl 0 29 i0 (.agg #[.string ⟨#[]⟩, .string ⟨#[]⟩]) 2 32 Tryz.underlying23 HI.out.1 HI.out.2.1 HI.out.2.2.1 HI.out.2.2.2 rfl (by decide) _ _ _ rfl (hown0.alloc _) ⟨wr.heap.size, 0, none⟩ 1 1 [.string x, .string ⟨#[]⟩] rfl rfl ?_ ?_ ?_ ?_ ?_ ?_)
            all_goals first
              | exact cell_two_new _ _ _ _
              | (show ∀ u ∈ [Value.string x, .string ⟨#[]⟩], u.oneCell' = true; intro u hu; simp at hu; rcases hu with rfl | rfl <;> rfl)
              | (show i + j + 1 ≤ maxLen; unfold maxLen; omega)
              | (show (i + j + 1) * 32 ≤ 140737488355328; omega)
              | exact Nat.zero_le _
              | skip
            intro gv1 w1 hown' hgrow hat
            obtain ⟨g1, cap1, rfl⟩ := own_some hown' (by omega)
            have HT1 : Hid (Tk 133 29 1 modEl q W1 ob k (fun f => if f = 0 then .int .i64 q else G f) lv (.slice va i vc) xs (j + 1) ys' lv' (.slice (some ⟨g1, 0, none⟩) (i + j + 1) cap1) (i + j + 1) w1) := HT.out.next _ (by
                rw [← HX.out] at hown'
                exact hown') hgrow (by
              rcases hat with e | e
              · exact Or.inl e
              · exact Or.inr ⟨by rw [e.1]; simp, e.2⟩)
            clear hown' hgrow hat HT hown0
            have c4 : w1.cell? ⟨ob, 1, none⟩ = some lv' := HT1.out.obj.at' 1 (by omega)
            have c0 : w1.cell? ⟨ob, 0, none⟩ = some (.int .i64 q) := HT1.out.obj.at' 0 (by omega)
            have f4 := HT1.out.obj.fr 1 (by omega)
            have hobr : ob < w1.heap.size := World.block_lt_of_cell? w1 _ c4
            go_upto_region 12 with fail
            have hoe : (w1.alloc (.cells #[.slice (some ⟨g1, 0, none⟩) (i + j + 1) cap1, .int .i64 q] 133)).drew.ownsRow 0 133 2 lv' (k + (j + 1)) (xs ++ ys') := own_of_block HT1.out.rows (fun b e => Below.heap_alloc _ _ _ (HT1.out.rows.lt b e).2)
            have hnw : ∀ z u, [Value.slice (some ⟨g1, 0, none⟩) (i + j + 1) cap1, .int .i64 q][z]? = some u → (w1.alloc (.cells #[.slice (some ⟨g1, 0, none⟩) (i + j + 1) cap1, .int .i64 q] 133)).drew.cell? ((⟨w1.heap.size, 0, none⟩ : Addr).add z) = some u := fun z u hz => cell_two_new w1 _ _ _ z u hz
            have hF4 : Fl (w1.alloc (.cells #[.slice (some ⟨g1, 0, none⟩) (i + j + 1) cap1, .int .i64 q] 133)).drew ob 1 lv' := Fl.of_block ⟨c4, f4⟩ (Below.heap_alloc _ _ _ hobr)
            have c4b : (w1.alloc (.cells #[.slice (some ⟨g1, 0, none⟩) (i + j + 1) cap1, .int .i64 q] 133)).cell? ⟨ob, 1, none⟩ = some lv' := hF4.1
            have c0b : (w1.alloc (.cells #[.slice (some ⟨g1, 0, none⟩) (i + j + 1) cap1, .int .i64 q] 133)).cell? ⟨ob, 0, none⟩ = some (.int .i64 q) := by rw [World.cell?_alloc_lt _ _ _ hobr]; exact c0
            have HF4 : Hid (Fl (w1.alloc (.cells #[.slice (some ⟨g1, 0, none⟩) (i + j + 1) cap1, .int .i64 q] 133)).drew ob 1 lv') := hF4
            have HNE : Hid (some ob ≠ lv'.ownBlock) := fun e => HT1.out.no.1 e.symm
            have HBL : Hid (ob < (w1.alloc (.cells #[.slice (some ⟨g1, 0, none⟩) (i + j + 1) cap1, .int .i64 q] 133)).drew.heap.size) := World.block_lt_of_cell? _ _ hF4.1
            clear hF4
            go_region_law
              (first | (refine step_append_lies _ rfl (.tmp 59) (.tmp 66) 95 rfl 0 133 i1 (.agg #[.slice none 0 0, .int .i64 0]) 2 32 Tryz.underlying95 HJ.out.1 HJ.out.2.1 HJ.out.2.2.1 HJ.out.2.2.2 rfl (by decide) _ (k + (j + 1)) _ rfl hoe ⟨w1.heap.size, 0, none⟩ 1 1 [.slice (some ⟨g1, 0, none⟩) (i + j + 1) cap1, .int .i64 q] rfl rfl hnw (fun u hu => by simp at hu; rcases hu with rfl | rfl <;> rfl) (by decide) (by unfold maxLen; omega) (by omega) (Nat.zero_le _) _ rfl ?_; intro g cap w2 hown' hgrow hat hlt2; have c4' : w2.cell? ⟨ob, 1, none⟩ = some lv' := (HF4.out.of_block (hgrow.block ob HBL.out HNE.out)).1; have f4' : w2.frozen? ⟨ob, 1, none⟩ = false := (HF4.out.of_block (hgrow.block ob HBL.out HNE.out)).2))
            all_goals
              have HT2 : Hid (Tk 133 29 1 modEl q W1 ob k (fun f => if f = 0 then .int .i64 q else G f) lv (.slice va i vc) xs (j + 1 + 1) (ys' ++ [.slice (some ⟨g1, 0, none⟩) (i + j + 1) cap1, .int .i64 q]) (.slice (some ⟨g, 0, none⟩) (k + (j + 1) + 1) cap) (.slice (some ⟨g1, 0, none⟩) (i + j + 1) cap1) (i + j + 1) (w2.setCell ⟨ob, 1, none⟩ (.slice (some ⟨g, 0, none⟩) (k + (j + 1) + 1) cap))) :=
                HT1.out.lists (lv' := .slice (some ⟨g, 0, none⟩) (k + (j + 1) + 1) cap) (by decide) HQ.out (by omega) (Or.inr ⟨g1, cap1, rfl⟩) (.cells #[.slice (some ⟨g1, 0, none⟩) (i + j + 1) cap1, .int .i64 q] 133) hown' ⟨hgrow.os, hgrow.tape, hgrow.output, hgrow.size, hgrow.block⟩ (by
                  rcases hat with h | h
                  · exact Or.inl h.symm
                  · exact Or.inr (by rw [h]; rfl))
              clear hown' hgrow hat hlt2 hnw hoe HF4 HNE HBL HT1 c4 f4 c0 c4b c0b hobr
              go_wp2
              go_roundg (3 - (j + 1))
              case measure => omega
              case rel => exact ⟨j + 1, _, _, by omega, by omega, by go_num, Or.inr ⟨g1, cap1, rfl⟩, HT2⟩
          · have hj3 : j = 3 := by omega
            subst hj3
            clear hgv
            go_wp2
            go_end0
            exact ⟨rfl, _, _, _, HT.out.rebase HTn.out.1 (World.block_lt_of_cell? w _ HOL.out)⟩

end Bm
end Go.Proofs.YtelmkfkgpnadnaaGreatDoor

namespace Go.Proofs.YtelmkfkgpnadnaaGreatDoor
open Go.RowKit
open Bk (own_sl own_sl' Fl wrap_id)
namespace Bm

variable {w w' : World}

set_option maxRecDepth 100000 in
set_option maxHeartbeats 4000000 in
theorem takeSwaps_any (ob k m c : Nat) (G : Nat → Value) (lv v : Value) (xs ys : List Value) (w : World)
    (hobj : ValsAt w ob 5 (fun f => if f = 2 then lv else if f = 0 then .int .i64 c else G f)) (hrows : w.ownsRow 0 135 2 lv k xs) (hown : w.ownsRow 0 137 3 v m ys)
    (hm : m ≤ 2900) (hk : k ≤ 1000) (hc : c ≤ 900000) (hd : lv.ownBlock ≠ some ob ∧ v.ownBlock ≠ some ob ∧ ∀ b, lv.ownBlock = some b → v.ownBlock ≠ some b) :
    Calls Tryz.prog 76 #[.pointer (some ⟨ob, 0, none⟩), v] w fun e w' => e = .returned (.tuple #[]) ∧ ∃ ys' lv' gv, Tk 135 137 2 swapEl ((c + 1 : Nat) : Int) w ob k (fun f => if f = 0 then .int .i64 ((c + 1 : Nat) : Int) else G f) lv v xs 4 ys' lv' gv (m + 3) w' := by
  obtain ⟨i0, hi1, hi2, hi3, hi4⟩ := infoOf 137 (.agg #[.string ⟨#[]⟩, .string ⟨#[]⟩, .string ⟨#[]⟩]) 3 48 (by kernel_rfl)
  have HI : Hid (Tryz.prog.info? 137 = some i0 ∧ i0.zero = some (.agg #[.string ⟨#[]⟩, .string ⟨#[]⟩, .string ⟨#[]⟩]) ∧ i0.size = 3 ∧ i0.bytes = 48) := ⟨hi1, hi2, hi3, hi4⟩
  clear hi1 hi2 hi3 hi4
  obtain ⟨i1, hi1, hi2, hi3, hi4⟩ := infoOf 135 (.agg #[.slice none 0 0, .int .i64 0]) 2 32 (by kernel_rfl)
  have HJ : Hid (Tryz.prog.info? 135 = some i1 ∧ i1.zero = some (.agg #[.slice none 0 0, .int .i64 0]) ∧ i1.size = 2 ∧ i1.bytes = 32) := ⟨hi1, hi2, hi3, hi4⟩
  clear hi1 hi2 hi3 hi4
  have c0 : w.cell? ⟨ob, 0, none⟩ = some (.int .i64 c) := hobj.at' 0 (by omega)
  have f0 := hobj.fr 0 (by omega)
  have hyl : ys.length = m * 3 := hown.1
  have hW0 := Wr.start (el := swapEl ((c + 1 : Nat) : Int)) (fo := 2) (eT := 135) (rT := 137) (by decide) hobj hrows hown hd
  obtain ⟨va, vc, hv⟩ := own_sl' hown
  have HV : Hid (v = .slice none 0 0 ∧ m = 0 ∨ ∃ g c, v = .slice (some ⟨g, 0, none⟩) m c) := own_sl hown
  have c0' : (w.setCell ⟨ob, 0, none⟩ (.int .i64 ((c + 1 : Nat) : Int))).cell? ⟨ob, 0, none⟩ = some (.int .i64 ((c + 1 : Nat) : Int)) := World.cell?_setCell_same _ _ _ c0
  have e2 : IntKind.i64.wrap ((c : Int) + 1) = ((c + 1 : Nat) : Int) := by simp [IntKind.wrap, IntKind.bits, IntKind.signed]; omega
  have e3 : IntKind.i64.wrap (-((c + 1 : Nat) : Int)) = -((c + 1 : Nat) : Int) := wrap_id _ (by omega) (by omega)
  have HD := hd
  have hszs : (w.setCell ⟨ob, 0, none⟩ (.int .i64 ((c + 1 : Nat) : Int))).heap.size = w.heap.size := by simp [World.setCell]
  have HLV : Hid (∀ xb, w.heap.size ≤ xb → ob ≠ xb ∧ lv.ownBlock ≠ some xb ∧ v.ownBlock ≠ some xb) := fun xb hxb => ⟨by have := World.block_lt_of_cell? w _ c0; simp only at this; omega, fun e => by have := (hrows.lt _ e).2; omega, fun e => by have := (hown.lt _ e).2; omega⟩
  have kw := fun W => word_all (c + 1) (by omega) W
  have HX0 : Hid (swapEl ((c + 1 : Nat) : Int) = [.string (wordM (c + 1)), .string ⟨#[]⟩, .string ⟨#[]⟩]) := rfl
  clear hobj hrows hown hd
  rw [hv] at hW0 HV HD HLV ⊢
  clear hv
  have HQ : Hid ((1 : Int) ≤ ((c + 1 : Nat) : Int) ∧ ((c + 1 : Nat) : Int) ≤ 1000000) := by show _ ∧ _; omega
  generalize wordM (c + 1) = x at *
  generalize ((c + 1 : Nat) : Int) = q at *
  have HX : Hid (swapEl q = [.string x, .string ⟨#[]⟩, .string ⟨#[]⟩]) := HX0
  have HOL : Hid (w.cell? ⟨ob, 0, none⟩ = some (.int .i64 c)) := c0
  have HW0 : Hid (Wr 137 2 (swapEl q) 135 w ob k m (fun f => if f = 0 then .int .i64 q else G f) lv (.slice va m vc) xs ys 0 (w.setCell ⟨ob, 0, none⟩ (.int .i64 q)) ∧ (w.setCell ⟨ob, 0, none⟩ (.int .i64 q)).heap.size = w.heap.size) := ⟨hW0, hszs⟩
  clear hW0 HX0 hszs
  go_enter Tryz.func76, Tryz.ntmps76
  go_wp2_with (go_at_call 78; fail)
  go_at_call 78
  refine (kw _).mono ?_
  rintro e wA ⟨rfl, hbA⟩
  have HWA : Hid (Wr 137 2 (swapEl q) 135 w ob k m (fun f => if f = 0 then .int .i64 q else G f) lv (.slice va m vc) xs ys 0 wA ∧ w.heap.size ≤ wA.heap.size) := ⟨HW0.out.1.below hbA, by rw [← HW0.out.2]; exact hbA.size⟩
  clear hbA kw HW0
  have HXb : Hid (XA (wA.alloc (.cells #[.string x, .string ⟨#[]⟩, .string ⟨#[]⟩] 137)) wA.heap.size #[.string x, .string ⟨#[]⟩, .string ⟨#[]⟩] 137) := Bk.new_block wA (.cells #[.string x, .string ⟨#[]⟩, .string ⟨#[]⟩] 137)
  have hW1 := HWA.out.1.below ((Below.refl _ _).alloc (Nat.le_refl _) (.cells #[.string x, .string ⟨#[]⟩, .string ⟨#[]⟩] 137))
  have HTn : Hid (Turn (fun b => b = ob ∨ lv.ownBlock = some b ∨ (Value.slice va m vc).ownBlock = some b) w (wA.alloc (.cells #[.string x, .string ⟨#[]⟩, .string ⟨#[]⟩] 137)) ∧ wA.heap.size < (wA.alloc (.cells #[.string x, .string ⟨#[]⟩, .string ⟨#[]⟩] 137)).heap.size) := ⟨hW1.turn, by simp⟩
  have HW1 : Hid (Wr 137 2 (swapEl q) 135 (wA.alloc (.cells #[.string x, .string ⟨#[]⟩, .string ⟨#[]⟩] 137)) ob k m (fun f => if f = 0 then .int .i64 q else G f) lv (.slice va m vc) xs ys 0 (wA.alloc (.cells #[.string x, .string ⟨#[]⟩, .string ⟨#[]⟩] 137))) := hW1.rebase
  have HNX : Hid (ob ≠ wA.heap.size ∧ lv.ownBlock ≠ some wA.heap.size ∧ (Value.slice va m vc).ownBlock ≠ some wA.heap.size) := HLV.out _ HWA.out.2
  clear hW1
  clear HWA
  go_wp2
  generalize wA.alloc (.cells #[.string x, .string ⟨#[]⟩, .string ⟨#[]⟩] 137) = W1 at *
  generalize wA.heap.size = xb at *
  have HXK : Hid (∀ wr, Turn (fun b => b = ob ∨ lv.ownBlock = some b ∨ (Value.slice va m vc).ownBlock = some b) W1 wr → wr.cell? ⟨xb, 0, none⟩ = some (.string x) ∧ wr.cell? ⟨xb, 1, none⟩ = some (.string ⟨#[]⟩) ∧ wr.cell? ⟨xb, 2, none⟩ = some (.string ⟨#[]⟩)) := fun wr ht => by
    have h : XA wr xb #[.string x, .string ⟨#[]⟩, .string ⟨#[]⟩] 137 := by
      unfold XA
      rw [ht.block xb HTn.out.2 (fun e => by rcases e with e | e | e; exact HNX.out.1 e.symm; exact HNX.out.2.1 e; exact HNX.out.2.2 e)]
      exact HXb.out
    unfold XA at h
    simp [World.cell?, h]
  clear c0 f0 c0' e2 e3 HXb
  go_loopg [5] m (fun gg s wr => ∃ i : Nat, i ≤ m ∧ m - i ≤ gg ∧ s = .int .i64 i ∧ Hid (Wr 137 2 (swapEl q) 135 W1 ob k m (fun f => if f = 0 then .int .i64 q else G f) lv (.slice va m vc) xs ys i wr))
  case atStart => exact ⟨0, by omega, by omega, rfl, HW1⟩
  case round =>
    clear HW1
    obtain ⟨i, hi, hgi, rfl, HWi⟩ := hrel
    obtain ⟨x0, x1, x2⟩ := HXK.out wr HWi.out.turn
    by_cases hlt : i < m
    · obtain ⟨g, hva⟩ : ∃ g, va = some ⟨g, 0, none⟩ := by
        rcases HV.out with ⟨_, e⟩ | ⟨g, c2, e⟩
        · omega
        · injection e with e1
          exact ⟨g, e1⟩
      subst hva
      have hown := HWi.out.own
      rw [HX.out] at hown
      have hcell : ∀ j, j < 3 → ∃ u, wr.cell? ⟨g, i * 3 + j, none⟩ = some u := fun j hj => by
        refine ⟨ys[i * 3 + j]'(by omega), ?_⟩
        rw [hown.cellAt (i * 3 + j) (by simp; omega), List.getElem?_append_right (by rw [rep_len]; simp), rep_len]
        simp only [List.length_cons, List.length_nil, Nat.zero_add, List.getElem?_drop]
        rw [show i * 3 + (i * 3 + j - i * 3) = i * 3 + j by omega]
        exact List.getElem?_eq_getElem _
      obtain ⟨u0, hc0⟩ := hcell 0 (by omega)
      obtain ⟨u1, hc1⟩ := hcell 1 (by omega)
      obtain ⟨u2, hc2⟩ := hcell 2 (by omega)
      rw [Nat.add_zero] at hc0
      have hf0 := hown.frozenAt (i * 3)
      have hf1 := hown.frozenAt (i * 3 + 1)
      have hf2 := hown.frozenAt (i * 3 + 2)
      have HN : Hid (Wr 137 2 (swapEl q) 135 W1 ob k m (fun f => if f = 0 then .int .i64 q else G f) lv (.slice (some ⟨g, 0, none⟩) m vc) xs ys (i + 1) (((wr.setCell ⟨g, i * 3, none⟩ (.string x)).setCell ⟨g, i * 3 + 1, none⟩ (.string ⟨#[]⟩)).setCell ⟨g, i * 3 + 2, none⟩ (.string ⟨#[]⟩))) := by
        have h := HWi.out
        show Wr 137 2 (swapEl q) 135 W1 ob k m _ lv (.slice (some ⟨g, 0, none⟩) m vc) xs ys (i + 1) _
        rw [HX.out] at h ⊢
        exact h.next3 rfl hyl hlt
      have hltI : (i : Int) < (m : Int) := by omega
      clear hown hcell
      go_wp2
      go_roundg (m - (i + 1))
      case measure => omega
      case rel => exact ⟨i + 1, by omega, by omega, by go_num, HN⟩
    · have him : i = m := by omega
      have HT0 : Hid (Tk 135 137 2 swapEl q W1 ob k (fun f => if f = 0 then .int .i64 q else G f) lv (.slice va m vc) xs 0 [] lv (.slice va m vc) m wr) := by
        have h := HWi.out
        rw [him] at h
        exact h.done (by rw [HX.out]; exact hyl)
      subst him
      clear HWi
      have hltI : ((i : Int) < (i : Int)) = False := by simp
      have hV : Value.slice va i vc = .slice none 0 0 ∨ ∃ g cap, Value.slice va i vc = .slice (some ⟨g, 0, none⟩) i cap := by
        rcases HV.out with ⟨e, _⟩ | e
        · exact Or.inl e
        · exact Or.inr e
      have HVV : Hid (Value.slice va i vc = .slice none 0 0 ∨ ∃ g cap, Value.slice va i vc = .slice (some ⟨g, 0, none⟩) i cap) := hV
      have c4 : wr.cell? ⟨ob, 2, none⟩ = some lv := HT0.out.obj.at' 2 (by omega)
      have c0 : wr.cell? ⟨ob, 0, none⟩ = some (.int .i64 q) := HT0.out.obj.at' 0 (by omega)
      have f4 := HT0.out.obj.fr 2 (by omega)
      have hobr : ob < wr.heap.size := World.block_lt_of_cell? wr _ c4
      clear hV
      go_upto_region 6 with fail
      have hoe : (wr.alloc (.cells #[.slice va i vc, .int .i64 q] 135)).drew.ownsRow 0 135 2 lv (k + 0) (xs ++ []) := own_of_block HT0.out.rows (fun b e => Below.heap_alloc _ _ _ (HT0.out.rows.lt b e).2)
      have hnw : ∀ j u, [Value.slice va i vc, .int .i64 q][j]? = some u → (wr.alloc (.cells #[.slice va i vc, .int .i64 q] 135)).drew.cell? ((⟨wr.heap.size, 0, none⟩ : Addr).add j) = some u := fun j u hj => cell_two_new wr _ _ _ j u hj
      have hF4 : Fl (wr.alloc (.cells #[.slice va i vc, .int .i64 q] 135)).drew ob 2 lv := Fl.of_block ⟨c4, f4⟩ (Below.heap_alloc _ _ _ hobr)
      have c4b : (wr.alloc (.cells #[.slice va i vc, .int .i64 q] 135)).cell? ⟨ob, 2, none⟩ = some lv := hF4.1
      have c0b : (wr.alloc (.cells #[.slice va i vc, .int .i64 q] 135)).cell? ⟨ob, 0, none⟩ = some (.int .i64 q) := by rw [World.cell?_alloc_lt _ _ _ hobr]; exact c0
      have HF4 : Hid (Fl (wr.alloc (.cells #[.slice va i vc, .int .i64 q] 135)).drew ob 2 lv) := hF4
      have HNE : Hid (some ob ≠ lv.ownBlock) := fun e => HD.1 e.symm
      have HBL : Hid (ob < (wr.alloc (.cells #[.slice va i vc, .int .i64 q] 135)).drew.heap.size) := World.block_lt_of_cell? _ _ hF4.1
      clear hF4
      go_cut [] (fun wx => ∃ gl cl ys1, Hid (Tk 135 137 2 swapEl q W1 ob k (fun f => if f = 0 then .int .i64 q else G f) lv (.slice va i vc) xs 1 ys1 (.slice (some ⟨gl, 0, none⟩) (k + 1) cl) (.slice va i vc) i wx))
      case first =>
       go_region_law
        (first | (refine step_append_lies _ rfl (.tmp 35) (.tmp 42) 96 rfl 0 135 i1 (.agg #[.slice none 0 0, .int .i64 0]) 2 32 Tryz.underlying96 HJ.out.1 HJ.out.2.1 HJ.out.2.2.1 HJ.out.2.2.2 rfl (by decide) _ (k + 0) _ rfl hoe ⟨wr.heap.size, 0, none⟩ 1 1 [.slice va i vc, .int .i64 q] rfl rfl hnw (fun u hu => by simp at hu; rcases hu with rfl | rfl <;> rfl) (by decide) (by unfold maxLen; omega) (by omega) (Nat.zero_le _) _ rfl ?_; intro g cap w2 hown' hgrow hat hlt2; have c4' : w2.cell? ⟨ob, 2, none⟩ = some lv := (HF4.out.of_block (hgrow.block ob HBL.out HNE.out)).1; have f4' : w2.frozen? ⟨ob, 2, none⟩ = false := (HF4.out.of_block (hgrow.block ob HBL.out HNE.out)).2))
       all_goals
        have HT1 : Hid (Tk 135 137 2 swapEl q W1 ob k (fun f => if f = 0 then .int .i64 q else G f) lv (.slice va i vc) xs 1 ([] ++ [.slice va i vc, .int .i64 q]) (.slice (some ⟨g, 0, none⟩) (k + 1) cap) (.slice va i vc) i (w2.setCell ⟨ob, 2, none⟩ (.slice (some ⟨g, 0, none⟩) (k + 1) cap))) :=
          HT0.out.lists (lv' := .slice (some ⟨g, 0, none⟩) (k + 1) cap) (by decide) HQ.out (by omega) HVV.out (.cells #[.slice va i vc, .int .i64 q] 135) hown' ⟨hgrow.os, hgrow.tape, hgrow.output, hgrow.size, hgrow.block⟩ (by
            rcases hat with h | h
            · exact Or.inl h.symm
            · exact Or.inr (by rw [h]; rfl))
        clear hown' hgrow hat hlt2 hnw hoe HF4 HNE HBL HT0 c4 f4 c0 c4b c0b hobr
        go_wp2_with fail
        go_meet
        exact ⟨_, _, _, HT1⟩
      case rest =>
        obtain ⟨gl1, cl1, ys1, HT1⟩ := hcut
        clear HT0 c4 f4 c0 c4b c0b hobr hnw hoe HF4 HNE HBL hgi hlt hi hltI
        go_wp2
        go_loopg [6, 7] 3 (fun gg gv s wx => ∃ (j : Nat) (ys' : List Value) (lv' : Value), j ≤ 3 ∧ 3 - j ≤ gg ∧ s = .int .i64 j ∧ (gv = .slice none 0 0 ∨ ∃ g cap, gv = .slice (some ⟨g, 0, none⟩) (i + j) cap) ∧ Hid (Tk 135 137 2 swapEl q W1 ob k (fun f => if f = 0 then .int .i64 q else G f) lv (.slice va i vc) xs (j + 1) ys' lv' gv (i + j) wx))
        case atStart => exact ⟨0, _, _, by omega, by omega, rfl, HVV.out, HT1⟩
        case round =>
          clear HT1
          obtain ⟨j, ys', lv', hj, hgj, rfl, hgv, HT⟩ := hrel
          by_cases hlt : j < 3
          · have hltI : (j : Int) < 3 := by omega
            have hown0 : wr.ownsRow 0 137 3 u6 (i + j) (rep (i + j) (swapEl q)) := HT.out.own
            clear hgv
            obtain ⟨x0, x1, x2⟩ := HXK.out wr HT.out.turn
            go_wp2_with (at_builtin; refine wpList_append_keep rfl _ _ 24 rfl 0 137 i0 (.agg #[.string ⟨#[]⟩, .string ⟨#[]⟩, .string ⟨#[]⟩]) 3 48 Tryz.underlying24 HI.out.1 HI.out.2.1 HI.out.2.2.1 HI.out.2.2.2 rfl (by decide) _ _ _ rfl (hown0.alloc _) ⟨wr.heap.size, 0, none⟩ 1 1 [.string x, .string ⟨#[]⟩, .string ⟨#[]⟩] rfl rfl ?_ ?_ ?_ ?_ ?_ ?_)
            all_goals first
              | exact cell_three _ _ _ _ _
              | (show ∀ u ∈ [Value.string x, .string ⟨#[]⟩, .string ⟨#[]⟩], u.oneCell' = true; intro u hu; simp at hu; rcases hu with rfl | rfl <;> rfl)
              | (show i + j + 1 ≤ maxLen; unfold maxLen; omega)
              | (show (i + j + 1) * 48 ≤ 140737488355328; omega)
              | exact Nat.zero_le _
              | skip
            intro gv1 w1 hown' hgrow hat
            obtain ⟨g1, cap1, rfl⟩ := own_some hown' (by omega)
            have HT1 : Hid (Tk 135 137 2 swapEl q W1 ob k (fun f => if f = 0 then .int .i64 q else G f) lv (.slice va i vc) xs (j + 1) ys' lv' (.slice (some ⟨g1, 0, none⟩) (i + j + 1) cap1) (i + j + 1) w1) := HT.out.next _ (by
                rw [← HX.out] at hown'
                exact hown') hgrow (by
              rcases hat with e | e
              · exact Or.inl e
              · exact Or.inr ⟨by rw [e.1]; simp, e.2⟩)
            clear hown' hgrow hat HT hown0
            have c4 : w1.cell? ⟨ob, 2, none⟩ = some lv' := HT1.out.obj.at' 2 (by omega)
            have c0 : w1.cell? ⟨ob, 0, none⟩ = some (.int .i64 q) := HT1.out.obj.at' 0 (by omega)
            have f4 := HT1.out.obj.fr 2 (by omega)
            have hobr : ob < w1.heap.size := World.block_lt_of_cell? w1 _ c4
            go_upto_region 12 with fail
            have hoe : (w1.alloc (.cells #[.slice (some ⟨g1, 0, none⟩) (i + j + 1) cap1, .int .i64 q] 135)).drew.ownsRow 0 135 2 lv' (k + (j + 1)) (xs ++ ys') := own_of_block HT1.out.rows (fun b e => Below.heap_alloc _ _ _ (HT1.out.rows.lt b e).2)
            have hnw : ∀ z u, [Value.slice (some ⟨g1, 0, none⟩) (i + j + 1) cap1, .int .i64 q][z]? = some u → (w1.alloc (.cells #[.slice (some ⟨g1, 0, none⟩) (i + j + 1) cap1, .int .i64 q] 135)).drew.cell? ((⟨w1.heap.size, 0, none⟩ : Addr).add z) = some u := fun z u hz => cell_two_new w1 _ _ _ z u hz
            have hF4 : Fl (w1.alloc (.cells #[.slice (some ⟨g1, 0, none⟩) (i + j + 1) cap1, .int .i64 q] 135)).drew ob 2 lv' := Fl.of_block ⟨c4, f4⟩ (Below.heap_alloc _ _ _ hobr)
            have c4b : (w1.alloc (.cells #[.slice (some ⟨g1, 0, none⟩) (i + j + 1) cap1, .int .i64 q] 135)).cell? ⟨ob, 2, none⟩ = some lv' := hF4.1
            have c0b : (w1.alloc (.cells #[.slice (some ⟨g1, 0, none⟩) (i + j + 1) cap1, .int .i64 q] 135)).cell? ⟨ob, 0, none⟩ = some (.int .i64 q) := by rw [World.cell?_alloc_lt _ _ _ hobr]; exact c0
            have HF4 : Hid (Fl (w1.alloc (.cells #[.slice (some ⟨g1, 0, none⟩) (i + j + 1) cap1, .int .i64 q] 135)).drew ob 2 lv') := hF4
            have HNE : Hid (some ob ≠ lv'.ownBlock) := fun e => HT1.out.no.1 e.symm
            have HBL : Hid (ob < (w1.alloc (.cells #[.slice (some ⟨g1, 0, none⟩) (i + j + 1) cap1, .int .i64 q] 135)).drew.heap.size) := World.block_lt_of_cell? _ _ hF4.1
            clear hF4
            go_region_law
              (first | (refine step_append_lies _ rfl (.tmp 59) (.tmp 66) 96 rfl 0 135 i1 (.agg #[.slice none 0 0, .int .i64 0]) 2 32 Tryz.underlying96 HJ.out.1 HJ.out.2.1 HJ.out.2.2.1 HJ.out.2.2.2 rfl (by decide) _ (k + (j + 1)) _ rfl hoe ⟨w1.heap.size, 0, none⟩ 1 1 [.slice (some ⟨g1, 0, none⟩) (i + j + 1) cap1, .int .i64 q] rfl rfl hnw (fun u hu => by simp at hu; rcases hu with rfl | rfl <;> rfl) (by decide) (by unfold maxLen; omega) (by omega) (Nat.zero_le _) _ rfl ?_; intro g cap w2 hown' hgrow hat hlt2; have c4' : w2.cell? ⟨ob, 2, none⟩ = some lv' := (HF4.out.of_block (hgrow.block ob HBL.out HNE.out)).1; have f4' : w2.frozen? ⟨ob, 2, none⟩ = false := (HF4.out.of_block (hgrow.block ob HBL.out HNE.out)).2))
            all_goals
              have HT2 : Hid (Tk 135 137 2 swapEl q W1 ob k (fun f => if f = 0 then .int .i64 q else G f) lv (.slice va i vc) xs (j + 1 + 1) (ys' ++ [.slice (some ⟨g1, 0, none⟩) (i + j + 1) cap1, .int .i64 q]) (.slice (some ⟨g, 0, none⟩) (k + (j + 1) + 1) cap) (.slice (some ⟨g1, 0, none⟩) (i + j + 1) cap1) (i + j + 1) (w2.setCell ⟨ob, 2, none⟩ (.slice (some ⟨g, 0, none⟩) (k + (j + 1) + 1) cap))) :=
                HT1.out.lists (lv' := .slice (some ⟨g, 0, none⟩) (k + (j + 1) + 1) cap) (by decide) HQ.out (by omega) (Or.inr ⟨g1, cap1, rfl⟩) (.cells #[.slice (some ⟨g1, 0, none⟩) (i + j + 1) cap1, .int .i64 q] 135) hown' ⟨hgrow.os, hgrow.tape, hgrow.output, hgrow.size, hgrow.block⟩ (by
                  rcases hat with h | h
                  · exact Or.inl h.symm
                  · exact Or.inr (by rw [h]; rfl))
              clear hown' hgrow hat hlt2 hnw hoe HF4 HNE HBL HT1 c4 f4 c0 c4b c0b hobr
              go_wp2
              go_roundg (3 - (j + 1))
              case measure => omega
              case rel => exact ⟨j + 1, _, _, by omega, by omega, by go_num, Or.inr ⟨g1, cap1, rfl⟩, HT2⟩
          · have hj3 : j = 3 := by omega
            subst hj3
            clear hgv
            go_wp2
            go_end0
            exact ⟨rfl, _, _, _, HT.out.rebase HTn.out.1 (World.block_lt_of_cell? w _ HOL.out)⟩

end Bm
end Go.Proofs.YtelmkfkgpnadnaaGreatDoor
