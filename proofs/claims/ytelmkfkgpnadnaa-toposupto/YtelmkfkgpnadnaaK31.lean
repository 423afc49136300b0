/-
  The law's take: a list that came out is written over, and laid down four times.
-/
import Derived.Test.YtelmkfkgpnadnaaK26
namespace Go.Proofs.Ytelmkfkgpnadnaa
open Go.RowKit

variable {w w' : World}

theorem info73' : (Try.prog.info? 73).map (fun i => (i.zero, i.size, i.bytes)) = some (some (.agg #[.slice none 0 0, .int .i64 0]), 2, 32) := by kernel_rfl

theorem info73 : ∃ i, Try.prog.info? 73 = some i ∧ i.zero = some (.agg #[.slice none 0 0, .int .i64 0]) ∧ i.size = 2 ∧ i.bytes = 32 := by
  have h := info73'
  cases hi : Try.prog.info? 73 with
  | none => rw [hi] at h; cases h
  | some i =>
    rw [hi] at h
    simp only [Option.map_some, Option.some.injEq, Prod.mk.injEq] at h
    exact ⟨i, rfl, h.1, h.2.1, h.2.2⟩

theorem cell_two_new (w : World) (x y : Value) (t : TypeId) : ∀ j u, [x, y][j]? = some u → (w.alloc (.cells #[x, y] t)).cell? ((⟨w.heap.size, 0, none⟩ : Addr).add j) = some u := by
  intro j u hj
  match j, hj with
  | 0, hj => simp at hj; subst hj; simp [Addr.add]
  | 1, hj => simp at hj; subst hj; simp [Addr.add]

theorem own_some {B e s m : Nat} {u : Value} {xs : List Value} (h : w.ownsRow B e s u m xs) (hm : 0 < m) : ∃ g cap, u = .slice (some ⟨g, 0, none⟩) m cap := by
  rcases h.2 with ⟨_, h0⟩ | ⟨g, cap, cur, hu, _⟩
  · omega
  · exact ⟨g, cap, hu⟩

/-- The list, as far as it is written over. -/
structure Wr (w0 : World) (ob k g m cap : Nat) (F : Nat → Value) (lv : Value) (xs ys : List Value) (cn q : Int) (i : Nat) (wr : World) : Prop where
  obj : ValsAt wr ob 4 (fun f => if f = 2 then lv else if f = 3 then .int .i64 cn else F f)
  rows : wr.ownsRow 0 73 2 lv k xs
  own : wr.ownsRow 0 3 1 (.slice (some ⟨g, 0, none⟩) m cap) m (List.replicate i (.int .i64 q) ++ ys.drop i)
  turn : Turn (fun b => b = ob ∨ lv.ownBlock = some b ∨ some g = some b) w0 wr
  obl : ob < w0.heap.size

variable {w0 wr : World} {ob k g m cap : Nat} {F : Nat → Value} {lv : Value} {xs ys : List Value} {c cn q : Int} {i : Nat}

theorem Wr.start (hobj : ValsAt w ob 4 (fun f => if f = 2 then lv else if f = 3 then .int .i64 c else F f)) (hrows : w.ownsRow 0 73 2 lv k xs) (hown : w.ownsRow 0 3 1 (.slice (some ⟨g, 0, none⟩) m cap) m ys) (hd1 : lv.ownBlock ≠ some ob) (hd3 : g ≠ ob) :
    Wr w ob k g m cap F lv xs ys cn q 0 (w.setCell ⟨ob, 3, none⟩ (.int .i64 cn)) := by
  have hl : ob < w.heap.size := World.block_lt_of_cell? w ⟨ob, 0, none⟩ (hobj.at' 0 (by omega))
  refine ⟨?_, ownsRow_setCell_other hrows hd1 _, ?_, (Turn.refl _ w).set (fun _ => Or.inl rfl) _, hl⟩
  · refine (hobj.set (p := 3) (by omega) _).ext fun f _ => ?_
    by_cases e : f = 3
    · simp [e]
    · simp [e]
  · have : List.replicate 0 (Value.int .i64 q) ++ ys.drop 0 = ys := by simp
    rw [this]
    exact ownsRow_setCell_other hown (fun e => hd3 (by simpa [Value.ownBlock] using e)) _

theorem Wr.next (h : Wr w0 ob k g m cap F lv xs ys cn q i wr) (hl : ys.length = m) (hi : i < m) (hd2 : lv.ownBlock ≠ some g) (hd3 : g ≠ ob) : Wr w0 ob k g m cap F lv xs ys cn q (i + 1) (wr.setCell ⟨g, i, none⟩ (.int .i64 q)) := by
  refine ⟨h.obj.of_block (Below.heap_setCell _ _ _ _ (fun e => hd3 e.symm)), ownsRow_setCell_other h.rows hd2 _, ?_, h.turn.set (fun _ => Or.inr (Or.inr rfl)) _, h.obl⟩
  have := (h.own.stored i (.int .i64 q)).1
  have e : (List.replicate i (Value.int .i64 q) ++ ys.drop i).set i (.int .i64 q) = List.replicate (i + 1) (.int .i64 q) ++ ys.drop (i + 1) := by
    rw [List.set_append_right (h := by simp), List.length_replicate, Nat.sub_self, List.drop_eq_getElem_cons (show i < ys.length by omega), List.set_cons_zero, List.replicate_succ', List.append_assoc]
    rfl
  rw [e] at this
  exact this

theorem Wr.done (h : Wr w0 ob k g m cap F lv xs ys cn q m wr) (hl : ys.length = m) (hd1 : lv.ownBlock ≠ some ob) (hd2 : lv.ownBlock ≠ some g) (hd3 : g ≠ ob) :
    Tk 73 w0 ob k F lv (.slice (some ⟨g, 0, none⟩) m cap) xs cn q 0 [] lv (.slice (some ⟨g, 0, none⟩) m cap) m wr := by
  have e : List.replicate m (Value.int .i64 q) ++ ys.drop m = List.replicate m (Value.int .i64 q) := by rw [← hl]; simp
  have ho := h.own
  rw [e] at ho
  refine ⟨h.obj, by simpa using h.rows, rfl, fun j hj => by omega, ho, h.turn, fun b hb => Or.inl hb, fun b hb => Or.inl hb, fun b hb he => ?_, ⟨hd1, fun e => hd3 (by simpa [Value.ownBlock] using e)⟩, h.obl⟩
  have : g = b := by simpa [Value.ownBlock] using he
  exact hd2 (by rw [this]; exact hb)

set_option maxRecDepth 100000 in
set_option maxHeartbeats 4000000 in
theorem take_any (ob k g m cap : Nat) (F : Nat → Value) (lv : Value) (xs ys : List Value) (c : Int) (w : World)
    (hobj : ValsAt w ob 4 (fun f => if f = 2 then lv else if f = 3 then .int .i64 c else F f)) (hrows : w.ownsRow 0 73 2 lv k xs) (hown : w.ownsRow 0 3 1 (.slice (some ⟨g, 0, none⟩) m cap) m ys)
    (hm : m ≤ 90) (hk : k + 4 ≤ 1099511627776) (hc : 0 ≤ c) (hc' : c < 4611686018427387904) (hd1 : lv.ownBlock ≠ some ob) (hd2 : lv.ownBlock ≠ some g) (hd3 : g ≠ ob) :
    Calls Try.prog 24 #[.pointer (some ⟨ob, 0, none⟩), .slice (some ⟨g, 0, none⟩) m cap] w fun e w' => e = .returned (.tuple #[]) ∧ ∃ ys' lv' gv, Tk 73 w ob k F lv (.slice (some ⟨g, 0, none⟩) m cap) xs (c + 1) (-(c + 1)) 4 ys' lv' gv (m + 3) w' := by
  obtain ⟨i0, hi1, hi2, hi3, hi4⟩ := info3
  have HI : Hid (Try.prog.info? 3 = some i0 ∧ i0.zero = some (.int .i64 0) ∧ i0.size = 1 ∧ i0.bytes = 8) := ⟨hi1, hi2, hi3, hi4⟩
  clear hi1 hi2 hi3 hi4
  obtain ⟨i1, hi1, hi2, hi3, hi4⟩ := info73
  have HJ : Hid (Try.prog.info? 73 = some i1 ∧ i1.zero = some (.agg #[.slice none 0 0, .int .i64 0]) ∧ i1.size = 2 ∧ i1.bytes = 32) := ⟨hi1, hi2, hi3, hi4⟩
  clear hi1 hi2 hi3 hi4
  have c3 : w.cell? ⟨ob, 3, none⟩ = some (.int .i64 c) := hobj.at' 3 (by omega)
  have f3 := hobj.fr 3 (by omega)
  have hyl : ys.length = m := by have := hown.1; omega
  have hgl : g < w.heap.size := (hown.lt g rfl).2
  have HW : Hid (Wr w ob k g m cap F lv xs ys (c + 1) (-(c + 1)) 0 (w.setCell ⟨ob, 3, none⟩ (.int .i64 (c + 1)))) := Wr.start hobj hrows hown hd1 hd3
  have HD : Hid (lv.ownBlock ≠ some ob ∧ lv.ownBlock ≠ some g ∧ g ≠ ob) := ⟨hd1, hd2, hd3⟩
  have e1 : (1 : Int) + c = c + 1 := by omega
  have e2 : IntKind.i64.wrap (c + 1) = c + 1 := wrap_id _ (by omega) (by omega)
  have e3 : IntKind.i64.wrap (-(c + 1)) = -(c + 1) := wrap_id _ (by omega) (by omega)
  have c3' : (w.setCell ⟨ob, 3, none⟩ (.int .i64 (c + 1))).cell? ⟨ob, 3, none⟩ = some (.int .i64 (c + 1)) := World.cell?_setCell_same _ _ _ c3
  clear hobj hrows hown hd1 hd2 hd3
  go_enter Try.func24, Try.ntmps24
  go_wp2
  clear c3 f3 c3' e1
  go_loopg [5] m (fun gg s wr => ∃ i : Nat, i ≤ m ∧ m - i ≤ gg ∧ s = .int .i64 i ∧ Hid (Wr w ob k g m cap F lv xs ys (c + 1) (-(c + 1)) i wr))
  case atStart => exact ⟨0, by omega, by omega, rfl, HW⟩
  case round =>
    clear HW
    obtain ⟨i, hi, hgi, rfl, HWi⟩ := hrel
    by_cases hlt : i < m
    · have hcell : wr.cell? ⟨g, i, none⟩ = some (ys[i]'(by omega)) := by
        rw [HWi.out.own.cellAt i (by omega), List.getElem?_append_right (by simp)]
        simp [hyl, hlt]
      have hfr := HWi.out.own.frozenAt i
      have HN : Hid (Wr w ob k g m cap F lv xs ys (c + 1) (-(c + 1)) (i + 1) (wr.setCell ⟨g, i, none⟩ (.int .i64 (-(c + 1))))) := HWi.out.next hyl hlt HD.out.2.1 HD.out.2.2
      have hltI : (i : Int) < (m : Int) := by omega
      generalize ys[i]'(by omega) = u at hcell
      go_wp2
      go_roundg (m - (i + 1))
      case measure => omega
      case rel => exact ⟨i + 1, by omega, by omega, by go_num, HN⟩
    · have him : i = m := by omega
      have HT0 : Hid (Tk 73 w ob k F lv (.slice (some ⟨g, 0, none⟩) m cap) xs (c + 1) (-(c + 1)) 0 [] lv (.slice (some ⟨g, 0, none⟩) m cap) m wr) := by
        have := HWi.out
        rw [him] at this
        exact this.done hyl HD.out.1 HD.out.2.1 HD.out.2.2
      subst him
      clear HWi
      have c2 : wr.cell? ⟨ob, 2, none⟩ = some lv := HT0.out.obj.at' 2 (by omega)
      have f2 := HT0.out.obj.fr 2 (by omega)
      have hobr : ob < wr.heap.size := World.block_lt_of_cell? wr _ c2
      go_wp2_with (at_builtin; refine wpList_append_keep rfl _ _ 49 rfl 0 73 i1 (.agg #[.slice none 0 0, .int .i64 0]) 2 32 Try.underlying49 HJ.out.1 HJ.out.2.1 HJ.out.2.2.1 HJ.out.2.2.2 rfl (by decide) _ _ _ rfl (HT0.out.rows.alloc _) ⟨wr.heap.size, 0, none⟩ 1 1 [.slice (some ⟨g, 0, none⟩) i cap, .int .i64 (-(c + 1))] rfl rfl ?_ ?_ ?_ ?_ ?_ ?_)
      all_goals first
        | exact cell_two_new _ _ _ _
        | (show ∀ u ∈ [Value.slice (some ⟨g, 0, none⟩) i cap, Value.int .i64 (-(c + 1))], u.oneCell' = true; intro u hu; simp at hu; rcases hu with rfl | rfl <;> rfl)
        | (show k + 0 + 1 ≤ maxLen; unfold maxLen; omega)
        | (show (k + 0 + 1) * 32 ≤ 140737488355328; omega)
        | exact Nat.zero_le _
        | skip
      intro lv1 w1 hown' hgrow hat
      obtain ⟨gl1, cl1, rfl⟩ := own_some hown' (by omega)
      have hne : some ob ≠ lv.ownBlock := fun e => HD.out.1 e.symm
      have c2' : w1.cell? ⟨ob, 2, none⟩ = some lv := hgrow.cell (by rw [World.cell?_alloc_lt _ _ _ hobr]; exact c2) hne
      have f2' : w1.frozen? ⟨ob, 2, none⟩ = false := by
        rw [World.frozen?_of_block (w := wr) (a := ⟨ob, 2, none⟩) (by rw [hgrow.block ob (by simp; omega) hne, Below.heap_alloc _ _ _ hobr])]; exact f2
      have HT1 : Hid (Tk 73 w ob k F lv (.slice (some ⟨g, 0, none⟩) i cap) xs (c + 1) (-(c + 1)) 1 ([] ++ [.slice (some ⟨g, 0, none⟩) i cap, .int .i64 (-(c + 1))]) (.slice (some ⟨gl1, 0, none⟩) (k + 1) cl1) (.slice (some ⟨g, 0, none⟩) i cap) i (w1.setCell ⟨ob, 2, none⟩ (.slice (some ⟨gl1, 0, none⟩) (k + 1) cl1))) :=
        HT0.out.lists (by omega) ⟨g, cap, rfl⟩ _ (by simpa using hown') hgrow (by
          rcases hat with e | e
          · exact Or.inl e
          · exact Or.inr (by rw [e.1]; simp))
      clear hown' hgrow hat HT0 c2 f2 hobr hne hgi hlt hi
      go_wp2
      go_loopg [6, 7] 3 (fun gg gv s wx => ∃ (j : Nat) (ys' : List Value) (lv' : Value), j ≤ 3 ∧ 3 - j ≤ gg ∧ s = .int .i64 j ∧ (∃ g' cap', gv = .slice (some ⟨g', 0, none⟩) (i + j) cap') ∧ Hid (Tk 73 w ob k F lv (.slice (some ⟨g, 0, none⟩) i cap) xs (c + 1) (-(c + 1)) (j + 1) ys' lv' gv (i + j) wx))
      case atStart => exact ⟨0, _, _, by omega, by omega, rfl, ⟨g, cap, rfl⟩, HT1⟩
      case round =>
        clear HT1 c2' f2'
        obtain ⟨j, ys', lv', hj, hgj, rfl, ⟨g', cap', rfl⟩, HT⟩ := hrel
        by_cases hlt : j < 3
        · have hltI : (j : Int) < 3 := by omega
          go_wp2_with (at_builtin; refine wpList_append_keep rfl _ _ 34 rfl 0 3 i0 (.int .i64 0) 1 8 Try.underlying34 HI.out.1 HI.out.2.1 HI.out.2.2.1 HI.out.2.2.2 rfl (by decide) _ _ _ rfl (HT.out.own.alloc _) ⟨wr.heap.size, 0, none⟩ 1 1 [.int .i64 (-(c + 1))] rfl rfl ?_ ?_ ?_ ?_ ?_ ?_)
          all_goals first
            | exact cell_one_new _ _ _
            | (show ∀ u ∈ [Value.int .i64 (-(c + 1))], u.oneCell' = true; intro u hu; simp at hu; subst hu; rfl)
            | (show i + j + 1 ≤ maxLen; unfold maxLen; omega)
            | (show (i + j + 1) * 8 ≤ 140737488355328; omega)
            | exact Nat.zero_le _
            | skip
          intro gv1 w1 hown' hgrow hat
          obtain ⟨g1, cap1, rfl, _, _⟩ := own_shape hown' (by omega)
          have HT1 : Hid (Tk 73 w ob k F lv (.slice (some ⟨g, 0, none⟩) i cap) xs (c + 1) (-(c + 1)) (j + 1) ys' lv' (.slice (some ⟨g1, 0, none⟩) (i + j + 1) cap1) (i + j + 1) w1) := HT.out.next _ hown' hgrow (by
            rcases hat with e | e
            · exact Or.inl e
            · exact Or.inr ⟨by rw [e.1]; simp, e.2⟩)
          clear hown' hgrow hat HT
          have c2 : w1.cell? ⟨ob, 2, none⟩ = some lv' := HT1.out.obj.at' 2 (by omega)
          have f2 := HT1.out.obj.fr 2 (by omega)
          have hobr : ob < w1.heap.size := World.block_lt_of_cell? w1 _ c2
          go_wp2_with (at_builtin; refine wpList_append_keep rfl _ _ 49 rfl 0 73 i1 (.agg #[.slice none 0 0, .int .i64 0]) 2 32 Try.underlying49 HJ.out.1 HJ.out.2.1 HJ.out.2.2.1 HJ.out.2.2.2 rfl (by decide) _ _ _ rfl (HT1.out.rows.alloc _) ⟨w1.heap.size, 0, none⟩ 1 1 [.slice (some ⟨g1, 0, none⟩) (i + j + 1) cap1, .int .i64 (-(c + 1))] rfl rfl ?_ ?_ ?_ ?_ ?_ ?_)
          all_goals first
            | exact cell_two_new _ _ _ _
            | (show ∀ u ∈ [Value.slice (some ⟨g1, 0, none⟩) (i + j + 1) cap1, Value.int .i64 (-(c + 1))], u.oneCell' = true; intro u hu; simp at hu; rcases hu with rfl | rfl <;> rfl)
            | (show k + (j + 1) + 1 ≤ maxLen; unfold maxLen; omega)
            | (show (k + (j + 1) + 1) * 32 ≤ 140737488355328; omega)
            | exact Nat.zero_le _
            | skip
          intro lv2 w2 hown2 hgrow2 hat2
          obtain ⟨gl2, cl2, rfl⟩ := own_some hown2 (by omega)
          have hne : some ob ≠ lv'.ownBlock := fun e => HT1.out.no.1 e.symm
          have c2' : w2.cell? ⟨ob, 2, none⟩ = some lv' := hgrow2.cell (by rw [World.cell?_alloc_lt _ _ _ hobr]; exact c2) hne
          have f2' : w2.frozen? ⟨ob, 2, none⟩ = false := by
            rw [World.frozen?_of_block (w := w1) (a := ⟨ob, 2, none⟩) (by rw [hgrow2.block ob (by simp; omega) hne, Below.heap_alloc _ _ _ hobr])]; exact f2
          have HT2 : Hid (Tk 73 w ob k F lv (.slice (some ⟨g, 0, none⟩) i cap) xs (c + 1) (-(c + 1)) (j + 1 + 1) (ys' ++ [.slice (some ⟨g1, 0, none⟩) (i + j + 1) cap1, .int .i64 (-(c + 1))]) (.slice (some ⟨gl2, 0, none⟩) (k + (j + 1) + 1) cl2) (.slice (some ⟨g1, 0, none⟩) (i + j + 1) cap1) (i + j + 1) (w2.setCell ⟨ob, 2, none⟩ (.slice (some ⟨gl2, 0, none⟩) (k + (j + 1) + 1) cl2))) :=
            HT1.out.lists (by omega) ⟨g1, cap1, rfl⟩ _ (by rw [List.append_assoc]; exact hown2) hgrow2 (by
              rcases hat2 with e | e
              · exact Or.inl e
              · exact Or.inr (by rw [e.1]; simp))
          clear hown2 hgrow2 hat2 HT1 c2 f2 hobr hne
          go_wp2
          go_roundg (3 - (j + 1))
          case measure => omega
          case rel => exact ⟨j + 1, _, _, by omega, by omega, by go_num, ⟨g1, cap1, rfl⟩, HT2⟩
        · have hj3 : j = 3 := by omega
          subst hj3
          go_wp2
          go_end0
          exact ⟨rfl, _, _, _, HT.out⟩

end Go.Proofs.Ytelmkfkgpnadnaa
