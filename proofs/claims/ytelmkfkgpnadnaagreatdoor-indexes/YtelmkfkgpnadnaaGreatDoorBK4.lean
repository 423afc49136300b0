/-
  The law's book: a list of texts came out.
-/
import Derived.Test.YtelmkfkgpnadnaaGreatDoorBK3
import Derived.Deep.RegionHeldLaw
import Derived.Deep.RegionLaw
import Derived.Deep.AppendLies
import Derived.Deep.DeepCutAuto
namespace Go.Proofs.YtelmkfkgpnadnaaGreatDoor
open Go.RowKit
namespace Bk

variable {w w' : World}

/-- The list, as far as it is written over. -/
structure Wr (rT : TypeId) (fo : Nat) (el : List Value) (eT : TypeId) (w0 : World) (ob k m : Nat) (F : Nat → Value) (lv v : Value) (xs ys : List Value) (i : Nat) (wr : World) : Prop where
  obj : ValsAt wr ob 5 (fun f => if f = fo then lv else F f)
  rows : wr.ownsRow 0 eT 2 lv k xs
  own : wr.ownsRow 0 rT el.length v m (rep i el ++ ys.drop (i * el.length))
  turn : Turn (fun b => b = ob ∨ lv.ownBlock = some b ∨ v.ownBlock = some b) w0 wr
  obl : ob < w0.heap.size
  ne : lv.ownBlock ≠ some ob ∧ v.ownBlock ≠ some ob ∧ ∀ b, lv.ownBlock = some b → v.ownBlock ≠ some b

variable {rT eT : TypeId} {fo : Nat} {el : List Value} {w0 wr : World} {ob k m i : Nat} {F : Nat → Value} {lv v : Value} {xs ys : List Value} {E : Int → List Value} {q : Int}

theorem Wr.below (h : Wr rT fo el eT w0 ob k m F lv v xs ys i wr) (hb : Below wr.heap.size wr w') : Wr rT fo el eT w0 ob k m F lv v xs ys i w' :=
  ⟨h.obj.of_block (hb.block ob (Nat.lt_of_lt_of_le h.obl h.turn.size)), own_of_block h.rows (fun b e => hb.block b (h.rows.lt b e).2), own_of_block h.own (fun b e => hb.block b (h.own.lt b e).2), h.turn.more hb, h.obl, h.ne⟩

theorem Wr.done (h : Wr rT fo (E q) eT w0 ob k m F lv v xs ys m wr) (hl : ys.length = m * (E q).length) : Tk eT rT fo E q w0 ob k F lv v xs 0 [] lv v m wr := by
  have e : rep m (E q) ++ ys.drop (m * (E q).length) = rep m (E q) := by rw [← hl]; simp
  have ho := h.own
  rw [e] at ho
  exact ⟨h.obj, by simpa using h.rows, rfl, fun j hj => by omega, ho, fun j hj => by omega, h.turn, fun b hb => Or.inl hb, fun b hb => Or.inl hb, h.ne.2.2, ⟨h.ne.1, h.ne.2.1⟩, h.obl⟩

/-- What is written over a text. -/
def nameEl (c : Int) : List Value := [.string (wordB c.toNat)]
def slipEl (c : Int) : List Value := [.int .i64 0, .int .i64 0, .int .i64 (-c)]

theorem set_rep1 (u : Value) (ys : List Value) (i : Nat) (hi : i < ys.length) : (rep i [u] ++ ys.drop (i * 1)).set i u = rep (i + 1) [u] ++ ys.drop ((i + 1) * 1) := by
  have hl : (rep i [u]).length = i := by rw [rep_len]; simp
  rw [List.set_append_right _ _ (by omega), hl, Nat.sub_self, Nat.mul_one, Nat.mul_one, List.drop_eq_getElem_cons hi, List.set_cons_zero, rep, List.append_assoc]
  rfl

theorem Wr.next1 {u : Value} (h : Wr rT fo [u] eT w0 ob k m F lv v xs ys i wr) {g cap : Nat} (hv : v = .slice (some ⟨g, 0, none⟩) m cap) (hl : ys.length = m * 1) (hi : i < m) : Wr rT fo [u] eT w0 ob k m F lv v xs ys (i + 1) (wr.setCell ⟨g, i, none⟩ u) := by
  subst hv
  have hne1 : g ≠ ob := fun e => h.ne.2.1 (by rw [e]; rfl)
  have hne2 : lv.ownBlock ≠ some g := fun e => h.ne.2.2 g e rfl
  refine ⟨h.obj.of_block (Below.heap_setCell _ _ _ _ (fun e => hne1 e.symm)), ownsRow_setCell_other h.rows hne2 _, ?_, h.turn.set (a := ⟨g, i, none⟩) (fun _ => Or.inr (Or.inr rfl)) _, h.obl, h.ne⟩
  have := (h.own.stored i u).1
  have e := set_rep1 u ys i (by omega)
  simp only [List.length_cons, List.length_nil, Nat.zero_add] at this ⊢
  rw [e] at this
  exact this

/-- A field that may be read and written. -/
def Fl (W : World) (b o : Nat) (u : Value) : Prop := W.cell? ⟨b, o, none⟩ = some u ∧ W.frozen? ⟨b, o, none⟩ = false

theorem Fl.of_block {W W' : World} {b o : Nat} {u : Value} (h : Fl W b o u) (e : W'.heap[b]? = W.heap[b]?) : Fl W' b o u :=
  ⟨by rw [World.cell?_of_block (w := W) (a := ⟨b, o, none⟩) e]; exact h.1, by rw [World.frozen?_of_block (w := W) (a := ⟨b, o, none⟩) e]; exact h.2⟩

theorem info141 : ∃ i, Tryz.prog.info? 141 = some i ∧ i.zero = some (.agg #[.slice none 0 0, .int .i64 0]) ∧ i.size = 2 ∧ i.bytes = 32 := by
  have h : (Tryz.prog.info? 141).map (fun i => (i.zero, i.size, i.bytes)) = some (some (.agg #[.slice none 0 0, .int .i64 0]), 2, 32) := by kernel_rfl
  rw [Option.map_eq_some_iff] at h
  obtain ⟨i, h1, h2⟩ := h
  simp only [Prod.mk.injEq] at h2
  exact ⟨i, h1, h2.1, h2.2.1, h2.2.2⟩

theorem info9b : ∃ i, Tryz.prog.info? 9 = some i ∧ i.zero = some (.string ByteArray.empty) ∧ i.size = 1 ∧ i.bytes = 16 := by
  have h : (Tryz.prog.info? 9).map (fun i => (i.zero, i.size, i.bytes)) = some (some (.string ByteArray.empty), 1, 16) := by kernel_rfl
  rw [Option.map_eq_some_iff] at h
  obtain ⟨i, h1, h2⟩ := h
  simp only [Prod.mk.injEq] at h2
  exact ⟨i, h1, h2.1, h2.2.1, h2.2.2⟩

theorem own_sl {e : TypeId} {B sz n : Nat} {u : Value} {l : List Value} (h : w.ownsRow B e sz u n l) : u = .slice none 0 0 ∧ n = 0 ∨ ∃ g c, u = .slice (some ⟨g, 0, none⟩) n c := by
  rcases h.2 with ⟨e1, e2⟩ | ⟨g, c, _, e1, _⟩
  · exact Or.inl ⟨e1, e2⟩
  · exact Or.inr ⟨g, c, e1⟩

theorem own_sl' {e : TypeId} {B sz n : Nat} {u : Value} {l : List Value} (h : w.ownsRow B e sz u n l) : ∃ a c, u = .slice a n c := by
  rcases own_sl h with ⟨e1, e2⟩ | ⟨g, c, e1⟩
  · exact ⟨none, 0, by rw [e1, e2]⟩
  · exact ⟨_, _, e1⟩

theorem Wr.start {c : Nat} {G : Nat → Value} (hfo : fo ≠ 0) (hobj : ValsAt w ob 5 (fun f => if f = fo then lv else if f = 0 then .int .i64 c else G f)) (hrows : w.ownsRow 0 eT 2 lv k xs) (hown : w.ownsRow 0 rT el.length v m ys)
    (hd : lv.ownBlock ≠ some ob ∧ v.ownBlock ≠ some ob ∧ ∀ b, lv.ownBlock = some b → v.ownBlock ≠ some b) :
    Wr rT fo el eT w ob k m (fun f => if f = 0 then .int .i64 ((c + 1 : Nat) : Int) else G f) lv v xs ys 0 (w.setCell ⟨ob, 0, none⟩ (.int .i64 ((c + 1 : Nat) : Int))) := by
  have hl : ob < w.heap.size := World.block_lt_of_cell? w ⟨ob, 0, none⟩ (hobj.at' 0 (by omega))
  refine ⟨?_, ownsRow_setCell_other hrows hd.1 _, ?_, (Turn.refl _ w).set (fun _ => Or.inl rfl) _, hl, hd⟩
  · refine (hobj.set (p := 0) (by omega) _).ext fun f _ => ?_
    by_cases e : f = 0
    · subst e
      rw [if_pos rfl, if_neg (fun e => hfo e.symm), if_pos rfl]
    · simp [e]
  · have : rep 0 el ++ ys.drop (0 * el.length) = ys := by simp [rep]
    rw [this]
    exact ownsRow_setCell_other hown hd.2.1 _

set_option maxRecDepth 100000 in
set_option maxHeartbeats 4000000 in
theorem takeNames_any (ob k m c : Nat) (G : Nat → Value) (lv v : Value) (xs ys : List Value) (w : World)
    (hobj : ValsAt w ob 5 (fun f => if f = 4 then lv else if f = 0 then .int .i64 c else G f)) (hrows : w.ownsRow 0 141 2 lv k xs) (hown : w.ownsRow 0 9 1 v m ys)
    (hm : m ≤ 2900) (hk : k ≤ 1000) (hc : c ≤ 8) (hd : lv.ownBlock ≠ some ob ∧ v.ownBlock ≠ some ob ∧ ∀ b, lv.ownBlock = some b → v.ownBlock ≠ some b) :
    Calls Tryz.prog 84 #[.pointer (some ⟨ob, 0, none⟩), v] w fun e w' => e = .returned (.tuple #[]) ∧ ∃ ys' lv' gv, Tk 141 9 4 nameEl ((c + 1 : Nat) : Int) w ob k (fun f => if f = 0 then .int .i64 ((c + 1 : Nat) : Int) else G f) lv v xs 4 ys' lv' gv (m + 3) w' := by
  obtain ⟨i0, hi1, hi2, hi3, hi4⟩ := info9b
  have HI : Hid (Tryz.prog.info? 9 = some i0 ∧ i0.zero = some (.string ByteArray.empty) ∧ i0.size = 1 ∧ i0.bytes = 16) := ⟨hi1, hi2, hi3, hi4⟩
  clear hi1 hi2 hi3 hi4
  obtain ⟨i1, hi1, hi2, hi3, hi4⟩ := info141
  have HJ : Hid (Tryz.prog.info? 141 = some i1 ∧ i1.zero = some (.agg #[.slice none 0 0, .int .i64 0]) ∧ i1.size = 2 ∧ i1.bytes = 32) := ⟨hi1, hi2, hi3, hi4⟩
  clear hi1 hi2 hi3 hi4
  have c0 : w.cell? ⟨ob, 0, none⟩ = some (.int .i64 c) := hobj.at' 0 (by omega)
  have f0 := hobj.fr 0 (by omega)
  have hyl : ys.length = m * 1 := hown.1
  have HW : Hid (Wr 9 4 (nameEl ((c + 1 : Nat) : Int)) 141 w ob k m (fun f => if f = 0 then .int .i64 ((c + 1 : Nat) : Int) else G f) lv v xs ys 0 (w.setCell ⟨ob, 0, none⟩ (.int .i64 ((c + 1 : Nat) : Int)))) := Wr.start (el := nameEl ((c + 1 : Nat) : Int)) (by decide) hobj hrows hown hd
  have HD := hd
  obtain ⟨va, vc, hv⟩ := own_sl' hown
  have HV : Hid (v = .slice none 0 0 ∧ m = 0 ∨ ∃ g c, v = .slice (some ⟨g, 0, none⟩) m c) := own_sl hown
  have c0' : (w.setCell ⟨ob, 0, none⟩ (.int .i64 ((c + 1 : Nat) : Int))).cell? ⟨ob, 0, none⟩ = some (.int .i64 ((c + 1 : Nat) : Int)) := World.cell?_setCell_same _ _ _ c0
  have e2 : IntKind.i64.wrap ((c : Int) + 1) = ((c + 1 : Nat) : Int) := by simp [IntKind.wrap, IntKind.bits, IntKind.signed]; omega
  have kw := fun W => word_any (c + 1) (by omega) (by omega) W
  clear hobj hrows hown hd
  rw [hv] at HW HV HD ⊢
  clear hv
  have HX : Hid (nameEl ((c + 1 : Nat) : Int) = [.string (wordB (c + 1))]) := rfl
  have hq : (1 : Int) ≤ ((c + 1 : Nat) : Int) ∧ ((c + 1 : Nat) : Int) ≤ 9 := by omega
  generalize ((c + 1 : Nat) : Int) = q at *
  generalize wordB (c + 1) = x at *
  have HQ : Hid (1 ≤ q ∧ q ≤ 9) := hq
  clear hq
  go_enter Tryz.func84, Tryz.ntmps84
  go_wp2_with (go_at_call 78; fail)
  go_at_call 78
  refine (kw _).mono ?_
  rintro e w1 ⟨rfl, hb1⟩
  have HW1 : Hid (Wr 9 4 (nameEl q) 141 w ob k m (fun f => if f = 0 then .int .i64 q else G f) lv (.slice va m vc) xs ys 0 w1) := HW.out.below hb1
  clear kw hb1 c0 f0 c0' HW e2
  go_wp2
  go_loopg [5] m (fun gg s wr => ∃ i : Nat, i ≤ m ∧ m - i ≤ gg ∧ s = .int .i64 i ∧ Hid (Wr 9 4 (nameEl q) 141 w ob k m (fun f => if f = 0 then .int .i64 q else G f) lv (.slice va m vc) xs ys i wr))
  case atStart => exact ⟨0, by omega, by omega, rfl, HW1⟩
  case round =>
    clear HW1
    obtain ⟨i, hi, hgi, rfl, HWi⟩ := hrel
    by_cases hlt : i < m
    · obtain ⟨g, hva⟩ : ∃ g, va = some ⟨g, 0, none⟩ := by
        rcases HV.out with ⟨_, e⟩ | ⟨g, c2, e⟩
        · omega
        · injection e with e1
          exact ⟨g, e1⟩
      subst hva
      have hown := HWi.out.own
      rw [HX.out] at hown
      have hcell : wr.cell? ⟨g, i, none⟩ = some (ys[i]'(by omega)) := by
        rw [hown.cellAt i (by simp; omega), List.getElem?_append_right (by rw [rep_len]; simp), rep_len]
        simp [hlt, hyl]
      have hfr := hown.frozenAt i
      have HN : Hid (Wr 9 4 (nameEl q) 141 w ob k m (fun f => if f = 0 then .int .i64 q else G f) lv (.slice (some ⟨g, 0, none⟩) m vc) xs ys (i + 1) (wr.setCell ⟨g, i, none⟩ (.string x))) := by
        have h := HWi.out
        show Wr 9 4 (nameEl q) 141 w ob k m _ lv (.slice (some ⟨g, 0, none⟩) m vc) xs ys (i + 1) (wr.setCell ⟨g, i, none⟩ (.string x))
        rw [HX.out] at h ⊢
        exact h.next1 rfl hyl hlt
      have hltI : (i : Int) < (m : Int) := by omega
      generalize ys[i]'(by omega) = u at hcell
      clear hown
      go_wp2
      go_roundg (m - (i + 1))
      case measure => omega
      case rel => exact ⟨i + 1, by omega, by omega, by go_num, HN⟩
    · have him : i = m := by omega
      have HT0 : Hid (Tk 141 9 4 nameEl q w ob k (fun f => if f = 0 then .int .i64 q else G f) lv (.slice va m vc) xs 0 [] lv (.slice va m vc) m wr) := by
        have h := HWi.out
        rw [him] at h
        exact h.done (by rw [HX.out]; exact hyl)
      subst him
      clear HWi
      have hltI : ((i : Int) < (i : Int)) = False := by simp
      have hV : Value.slice va i vc = .slice none 0 0 ∨ ∃ g cap, Value.slice va i vc = .slice (some ⟨g, 0, none⟩) i cap := by
        rcases HV.out with ⟨e, _⟩ | e
        · exact Or.inl e
        · exact Or.inr e
      have HVV : Hid (Value.slice va i vc = .slice none 0 0 ∨ ∃ g cap, Value.slice va i vc = .slice (some ⟨g, 0, none⟩) i cap) := hV
      have c4 : wr.cell? ⟨ob, 4, none⟩ = some lv := HT0.out.obj.at' 4 (by omega)
      have c0 : wr.cell? ⟨ob, 0, none⟩ = some (.int .i64 q) := HT0.out.obj.at' 0 (by omega)
      have f4 := HT0.out.obj.fr 4 (by omega)
      have hobr : ob < wr.heap.size := World.block_lt_of_cell? wr _ c4
      clear hV
      go_upto_region 6 with fail
      have hoe : (wr.alloc (.cells #[.slice va i vc, .int .i64 q] 141)).drew.ownsRow 0 141 2 lv (k + 0) (xs ++ []) := own_of_block HT0.out.rows (fun b e => Below.heap_alloc _ _ _ (HT0.out.rows.lt b e).2)
      have hnw : ∀ j u, [Value.slice va i vc, .int .i64 q][j]? = some u → (wr.alloc (.cells #[.slice va i vc, .int .i64 q] 141)).drew.cell? ((⟨wr.heap.size, 0, none⟩ : Addr).add j) = some u := fun j u hj => cell_two_new wr _ _ _ j u hj
      have hF4 : Fl (wr.alloc (.cells #[.slice va i vc, .int .i64 q] 141)).drew ob 4 lv := Fl.of_block ⟨c4, f4⟩ (Below.heap_alloc _ _ _ hobr)
      have c4b : (wr.alloc (.cells #[.slice va i vc, .int .i64 q] 141)).cell? ⟨ob, 4, none⟩ = some lv := hF4.1
      have c0b : (wr.alloc (.cells #[.slice va i vc, .int .i64 q] 141)).cell? ⟨ob, 0, none⟩ = some (.int .i64 q) := by rw [World.cell?_alloc_lt _ _ _ hobr]; exact c0
      have HF4 : Hid (Fl (wr.alloc (.cells #[.slice va i vc, .int .i64 q] 141)).drew ob 4 lv) := hF4
      have HNE : Hid (some ob ≠ lv.ownBlock) := fun e => HD.1 e.symm
      have HBL : Hid (ob < (wr.alloc (.cells #[.slice va i vc, .int .i64 q] 141)).drew.heap.size) := World.block_lt_of_cell? _ _ hF4.1
      clear hF4
      go_cut [] (fun wx => ∃ gl cl ys1, Hid (Tk 141 9 4 nameEl q w ob k (fun f => if f = 0 then .int .i64 q else G f) lv (.slice va i vc) xs 1 ys1 (.slice (some ⟨gl, 0, none⟩) (k + 1) cl) (.slice va i vc) i wx))
      case first =>
       go_region_law
        (first | (refine step_append_lies _ rfl (.tmp 34) (.tmp 41) 98 rfl 0 141 i1 (.agg #[.slice none 0 0, .int .i64 0]) 2 32 Tryz.underlying98 HJ.out.1 HJ.out.2.1 HJ.out.2.2.1 HJ.out.2.2.2 rfl (by decide) _ (k + 0) _ rfl hoe ⟨wr.heap.size, 0, none⟩ 1 1 [.slice va i vc, .int .i64 q] rfl rfl hnw (fun u hu => by simp at hu; rcases hu with rfl | rfl <;> rfl) (by decide) (by unfold maxLen; omega) (by omega) (Nat.zero_le _) _ rfl ?_; intro g cap w2 hown' hgrow hat hlt2; have c4' : w2.cell? ⟨ob, 4, none⟩ = some lv := (HF4.out.of_block (hgrow.block ob HBL.out HNE.out)).1; have f4' : w2.frozen? ⟨ob, 4, none⟩ = false := (HF4.out.of_block (hgrow.block ob HBL.out HNE.out)).2))
       all_goals
        have HT1 : Hid (Tk 141 9 4 nameEl q w ob k (fun f => if f = 0 then .int .i64 q else G f) lv (.slice va i vc) xs 1 ([] ++ [.slice va i vc, .int .i64 q]) (.slice (some ⟨g, 0, none⟩) (k + 1) cap) (.slice va i vc) i (w2.setCell ⟨ob, 4, none⟩ (.slice (some ⟨g, 0, none⟩) (k + 1) cap))) :=
          HT0.out.lists (lv' := .slice (some ⟨g, 0, none⟩) (k + 1) cap) (by decide) HQ.out (by omega) HVV.out (.cells #[.slice va i vc, .int .i64 q] 141) hown' ⟨hgrow.os, hgrow.tape, hgrow.output, hgrow.size, hgrow.block⟩ (by
            rcases hat with h | h
            · exact Or.inl h.symm
            · exact Or.inr (by rw [h]; rfl))
        clear hown' hgrow hat hlt2 hnw hoe HF4 HNE HBL HT0 c4 f4 c0 c4b c0b hobr
        go_wp2_with fail
        go_meet
        exact ⟨_, _, _, HT1⟩
      case rest =>
        obtain ⟨gl1, cl1, ys1, HT1⟩ := hcut
        clear HT0 c4 f4 c0 c4b c0b hobr hnw hoe HF4 HNE HBL hgi hlt hi hltI
        go_wp2
        go_loopg [6, 7] 3 (fun gg gv s wx => ∃ (j : Nat) (ys' : List Value) (lv' : Value), j ≤ 3 ∧ 3 - j ≤ gg ∧ s = .int .i64 j ∧ (gv = .slice none 0 0 ∨ ∃ g cap, gv = .slice (some ⟨g, 0, none⟩) (i + j) cap) ∧ Hid (Tk 141 9 4 nameEl q w ob k (fun f => if f = 0 then .int .i64 q else G f) lv (.slice va i vc) xs (j + 1) ys' lv' gv (i + j) wx))
        case atStart => exact ⟨0, _, _, by omega, by omega, rfl, HVV.out, HT1⟩
        case round =>
          clear HT1
          obtain ⟨j, ys', lv', hj, hgj, rfl, hgv, HT⟩ := hrel
          by_cases hlt : j < 3
          · have hltI : (j : Int) < 3 := by omega
            have hown0 : wr.ownsRow 0 9 1 u6 (i + j) (rep (i + j) (nameEl q)) := HT.out.own
            clear hgv
            go_wp2_with (at_builtin; refine wpList_append_keep rfl _ _ 33 rfl 0 9 i0 (.string ByteArray.empty) 1 16 Tryz.underlying33 HI.out.1 HI.out.2.1 HI.out.2.2.1 HI.out.2.2.2 rfl (by decide) _ _ _ rfl (hown0.alloc _) ⟨wr.heap.size, 0, none⟩ 1 1 [.string x] rfl rfl ?_ ?_ ?_ ?_ ?_ ?_)
            all_goals first
              | exact cell_one_new _ _ _
              | (show ∀ u ∈ [Value.string x], u.oneCell' = true; intro u hu; simp at hu; subst hu; rfl)
              | (show i + j + 1 ≤ maxLen; unfold maxLen; omega)
              | (show (i + j + 1) * 16 ≤ 140737488355328; omega)
              | exact Nat.zero_le _
              | skip
            intro gv1 w1 hown' hgrow hat
            obtain ⟨g1, cap1, rfl⟩ := own_some hown' (by omega)
            have HT1 : Hid (Tk 141 9 4 nameEl q w ob k (fun f => if f = 0 then .int .i64 q else G f) lv (.slice va i vc) xs (j + 1) ys' lv' (.slice (some ⟨g1, 0, none⟩) (i + j + 1) cap1) (i + j + 1) w1) := HT.out.next _ (by
                rw [← HX.out] at hown'
                exact hown') hgrow (by
              rcases hat with e | e
              · exact Or.inl e
              · exact Or.inr ⟨by rw [e.1]; simp, e.2⟩)
            clear hown' hgrow hat HT hown0
            have c4 : w1.cell? ⟨ob, 4, none⟩ = some lv' := HT1.out.obj.at' 4 (by omega)
            have c0 : w1.cell? ⟨ob, 0, none⟩ = some (.int .i64 q) := HT1.out.obj.at' 0 (by omega)
            have f4 := HT1.out.obj.fr 4 (by omega)
            have hobr : ob < w1.heap.size := World.block_lt_of_cell? w1 _ c4
            go_upto_region 12 with fail
            have hoe : (w1.alloc (.cells #[.slice (some ⟨g1, 0, none⟩) (i + j + 1) cap1, .int .i64 q] 141)).drew.ownsRow 0 141 2 lv' (k + (j + 1)) (xs ++ ys') := own_of_block HT1.out.rows (fun b e => Below.heap_alloc _ _ _ (HT1.out.rows.lt b e).2)
            have hnw : ∀ z u, [Value.slice (some ⟨g1, 0, none⟩) (i + j + 1) cap1, .int .i64 q][z]? = some u → (w1.alloc (.cells #[.slice (some ⟨g1, 0, none⟩) (i + j + 1) cap1, .int .i64 q] 141)).drew.cell? ((⟨w1.heap.size, 0, none⟩ : Addr).add z) = some u := fun z u hz => cell_two_new w1 _ _ _ z u hz
            have hF4 : Fl (w1.alloc (.cells #[.slice (some ⟨g1, 0, none⟩) (i + j + 1) cap1, .int .i64 q] 141)).drew ob 4 lv' := Fl.of_block ⟨c4, f4⟩ (Below.heap_alloc _ _ _ hobr)
            have c4b : (w1.alloc (.cells #[.slice (some ⟨g1, 0, none⟩) (i + j + 1) cap1, .int .i64 q] 141)).cell? ⟨ob, 4, none⟩ = some lv' := hF4.1
            have c0b : (w1.alloc (.cells #[.slice (some ⟨g1, 0, none⟩) (i + j + 1) cap1, .int .i64 q] 141)).cell? ⟨ob, 0, none⟩ = some (.int .i64 q) := by rw [World.cell?_alloc_lt _ _ _ hobr]; exact c0
            have HF4 : Hid (Fl (w1.alloc (.cells #[.slice (some ⟨g1, 0, none⟩) (i + j + 1) cap1, .int .i64 q] 141)).drew ob 4 lv') := hF4
            have HNE : Hid (some ob ≠ lv'.ownBlock) := fun e => HT1.out.no.1 e.symm
            have HBL : Hid (ob < (w1.alloc (.cells #[.slice (some ⟨g1, 0, none⟩) (i + j + 1) cap1, .int .i64 q] 141)).drew.heap.size) := World.block_lt_of_cell? _ _ hF4.1
            clear hF4
            go_region_law
              (first | (refine step_append_lies _ rfl (.tmp 58) (.tmp 65) 98 rfl 0 141 i1 (.agg #[.slice none 0 0, .int .i64 0]) 2 32 Tryz.underlying98 HJ.out.1 HJ.out.2.1 HJ.out.2.2.1 HJ.out.2.2.2 rfl (by decide) _ (k + (j + 1)) _ rfl hoe ⟨w1.heap.size, 0, none⟩ 1 1 [.slice (some ⟨g1, 0, none⟩) (i + j + 1) cap1, .int .i64 q] rfl rfl hnw (fun u hu => by simp at hu; rcases hu with rfl | rfl <;> rfl) (by decide) (by unfold maxLen; omega) (by omega) (Nat.zero_le _) _ rfl ?_; intro g cap w2 hown' hgrow hat hlt2; have c4' : w2.cell? ⟨ob, 4, none⟩ = some lv' := (HF4.out.of_block (hgrow.block ob HBL.out HNE.out)).1; have f4' : w2.frozen? ⟨ob, 4, none⟩ = false := (HF4.out.of_block (hgrow.block ob HBL.out HNE.out)).2))
            all_goals
              have HT2 : Hid (Tk 141 9 4 nameEl q w ob k (fun f => if f = 0 then .int .i64 q else G f) lv (.slice va i vc) xs (j + 1 + 1) (ys' ++ [.slice (some ⟨g1, 0, none⟩) (i + j + 1) cap1, .int .i64 q]) (.slice (some ⟨g, 0, none⟩) (k + (j + 1) + 1) cap) (.slice (some ⟨g1, 0, none⟩) (i + j + 1) cap1) (i + j + 1) (w2.setCell ⟨ob, 4, none⟩ (.slice (some ⟨g, 0, none⟩) (k + (j + 1) + 1) cap))) :=
                HT1.out.lists (lv' := .slice (some ⟨g, 0, none⟩) (k + (j + 1) + 1) cap) (by decide) HQ.out (by omega) (Or.inr ⟨g1, cap1, rfl⟩) (.cells #[.slice (some ⟨g1, 0, none⟩) (i + j + 1) cap1, .int .i64 q] 141) hown' ⟨hgrow.os, hgrow.tape, hgrow.output, hgrow.size, hgrow.block⟩ (by
                  rcases hat with h | h
                  · exact Or.inl h.symm
                  · exact Or.inr (by rw [h]; rfl))
              clear hown' hgrow hat hlt2 hnw hoe HF4 HNE HBL HT1 c4 f4 c0 c4b c0b hobr
              go_wp2
              go_roundg (3 - (j + 1))
              case measure => omega
              case rel => exact ⟨j + 1, _, _, by omega, by omega, by go_num, Or.inr ⟨g1, cap1, rfl⟩, HT2⟩
          · have hj3 : j = 3 := by omega
            subst hj3
            clear hgv
            go_wp2
            go_end0
            exact ⟨rfl, _, _, _, HT.out⟩

end Bk
end Go.Proofs.YtelmkfkgpnadnaaGreatDoor
