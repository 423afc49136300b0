/-
  Edits: the document lays a text down.
-/
import Derived.Test.YtiamomiafekihaaGreatDoorE2
namespace Go.Proofs.YtiamomiafekihaaGreatDoor
open Go.RowKit
namespace Ed

variable {w w' : World}

/-- A field that may be read and written. -/
def Fd (W : World) (b o : Nat) (u : Value) : Prop := W.cell? ⟨b, o, none⟩ = some u ∧ W.frozen? ⟨b, o, none⟩ = false

theorem Fd.of_block {W W' : World} {b o : Nat} {u : Value} (h : Fd W b o u) (e : W'.heap[b]? = W.heap[b]?) : Fd W' b o u :=
  ⟨by rw [World.cell?_of_block (w := W) (a := ⟨b, o, none⟩) e]; exact h.1, by rw [World.frozen?_of_block (w := W) (a := ⟨b, o, none⟩) e]; exact h.2⟩

theorem Fd.set {W : World} {b o o' : Nat} {u v : Value} (h : Fd W b o u) (hne : o ≠ o') : Fd (W.setCell ⟨b, o', none⟩ v) b o u :=
  ⟨by rw [World.cell?_setCell_other _ _ _ _ (fun e => hne (by injection e with _ e; exact e.symm))]; exact h.1, by rw [World.frozen?_setCell]; exact h.2⟩

theorem Fd.lt {W : World} {b o : Nat} {u : Value} (h : Fd W b o u) : b < W.heap.size := World.block_lt_of_cell? W _ h.1

/-- What laid answers: the list, the error, by how much the revision rises. -/
def laidOf (l : List Tt) (t : Tt) (most : Nat) : List Tt × Int × Nat :=
  match l.findIdx? (hit t.path t.ver) with
  | none => if most ≤ l.length then (l, 4, 0) else (l ++ [t], 0, 1)
  | some i => if ((l.getD i t).s.toList == t.s.toList) = true then (l, 0, 0) else (l.modify i (fun x => { x with s := t.s }), 0, 1)

theorem tcells_set : ∀ (l : List Tt) (i : Nat) (y : ByteArray), i < l.length → (tcells l).set (i * 3 + 2) (.string y) = tcells (l.modify i (fun x => { x with s := y }))
  | x :: r, 0, y, _ => by simp [tcells]
  | x :: r, i + 1, y, h => by
    have e : tcells (x :: r) = .string x.path :: .string x.ver :: .string x.s :: tcells r := rfl
    have ih := tcells_set r i y (by simpa using h)
    rw [e, show (i + 1) * 3 + 2 = i * 3 + 2 + 1 + 1 + 1 by omega]
    simp only [List.set_cons_succ, ih, List.modify_succ_cons]
    rfl

set_option maxRecDepth 100000 in
set_option maxHeartbeats 2000000 in
theorem laid_any (eb B most rev : Nat) (l : List Tt) (t : Tt) (lv : Value) (w : World) (hown : w.ownsRow B 84 3 lv l.length (tcells l)) (hB : B ≤ w.heap.size) (hl : l.length ≤ 90000) (hrev : Fd w eb 3 (.int .i64 rev)) (hr : rev < 4611686018427387904) (hne : lv.ownBlock ≠ some eb) :
    Calls Tryz.prog 33 #[.pointer (some ⟨eb, 0, none⟩), lv, .agg #[.string t.path, .string t.ver, .string t.s], .int .i64 most] w fun e w' => ∃ ov, e = .returned (.tuple #[ov, .int .i64 (laidOf l t most).2.1]) ∧ w'.ownsRow B 84 3 ov (laidOf l t most).1.length (tcells (laidOf l t most).1) ∧ Fd w' eb 3 (.int .i64 ((rev + (laidOf l t most).2.2 : Nat) : Int)) ∧ (∀ b, ov.ownBlock = some b → lv.ownBlock = some b ∨ w.heap.size ≤ b) ∧ Turn (fun b => b = eb ∨ lv.ownBlock = some b) w w' ∧ (∀ o u, o ≠ 3 → Fd w eb o u → Fd w' eb o u) := by
  obtain ⟨la, lc, hlv⟩ : ∃ a c, lv = .slice a l.length c := by
    rcases hown.2 with ⟨e1, e2⟩ | ⟨g, c, _, e1, _⟩
    · exact ⟨none, 0, by rw [e1, e2]⟩
    · exact ⟨_, c, e1⟩
  subst hlv
  have kf : ∀ W, Below w.heap.size w W → Calls Tryz.prog 35 #[.slice la l.length lc, .string t.path, .string t.ver] W fun e w' => e = .returned (.int .i64 (at? t.path t.ver l)) ∧ Below W.heap.size W w' := fun W hb => find_any t.path t.ver l _ B W (own_of_block hown (fun b e => hb.block b (hown.lt b e).2)) (by omega)
  have HO : Hid (w.ownsRow B 84 3 (.slice la l.length lc) l.length (tcells l)) := hown
  have HF : Hid (Fd w eb 3 (.int .i64 rev)) := hrev
  have HNE : Hid ((Value.slice la l.length lc).ownBlock ≠ some eb) := hne
  clear hown hrev hne
  generalize hLL : laidOf l t most = L
  have HLL : Hid (laidOf l t most = L) := hLL
  clear hLL
  go_enter Tryz.func33, Tryz.ntmps33
  go_wp2_with (go_at_call 35; fail)
  have HB0 : Hid (Below w.heap.size w (w.alloc (.cells #[.string t.path, .string t.ver, .string t.s] 84))) := (Below.refl _ _).alloc (Nat.le_refl _) _
  have HX0 : Hid (∀ W, Below (w.alloc (.cells #[.string t.path, .string t.ver, .string t.s] 84)).heap.size (w.alloc (.cells #[.string t.path, .string t.ver, .string t.s] 84)) W → W.cell? ⟨w.heap.size, 0, none⟩ = some (.string t.path) ∧ W.cell? ⟨w.heap.size, 1, none⟩ = some (.string t.ver) ∧ W.cell? ⟨w.heap.size, 2, none⟩ = some (.string t.s)) := fun W hb => by
    have hbl : w.heap.size < (w.alloc (.cells #[.string t.path, .string t.ver, .string t.s] 84)).heap.size := by simp
    have h := cell_three' w (.string t.path) (.string t.ver) (.string t.s) 84
    exact ⟨(hb.cell (p := ⟨w.heap.size, 0, none⟩) hbl).trans (h 0 _ rfl), (hb.cell (p := ⟨w.heap.size, 1, none⟩) hbl).trans (h 1 _ rfl), (hb.cell (p := ⟨w.heap.size, 2, none⟩) hbl).trans (h 2 _ rfl)⟩
  go_at_call 35
  refine (kf _ HB0.out).mono ?_
  rintro e w1 ⟨rfl, hb1⟩
  obtain ⟨x0, x1, x2⟩ := HX0.out w1 hb1
  have HB1 : Hid (Below w.heap.size w w1) := HB0.out.trans (hb1.mono HB0.out.size)
  have HO1 : Hid (w1.ownsRow B 84 3 (.slice la l.length lc) l.length (tcells l)) := own_of_block HO.out (fun b e => HB1.out.block b (HO.out.lt b e).2)
  have HF1 : Hid (Fd w1 eb 3 (.int .i64 rev)) := HF.out.of_block (HB1.out.block eb HF.out.lt)
  have HT1 : Hid (Turn (fun b => b = eb ∨ (Value.slice la l.length lc).ownBlock = some b) w w1) := Turn.of_below HB1.out
  clear kf HX0 hb1 HB0
  cases hfi : l.findIdx? (hit t.path t.ver) with
  | none =>
    have hat : at? t.path t.ver l = -1 := by unfold at?; rw [hfi]
    rw [hat]
    clear hat
    by_cases hmo : most ≤ l.length
    · have hmoI : (l.length : Int) ≥ (most : Int) := by omega
      have HL : Hid (L = (l, 4, 0)) := by
        show L = _
        rw [← HLL.out]
        unfold laidOf
        rw [hfi]
        exact if_pos hmo
      clear HLL hfi
      go_wp2
      go_ret2
      have e := HL.out
      subst e
      exact ⟨_, rfl, HO1.out, HF1.out, fun b e => Or.inl e, HT1.out, fun o u _ h => h.of_block (HB1.out.block eb h.lt)⟩
    · have hmoI : ¬ ((l.length : Int) ≥ (most : Int)) := by omega
      have HL : Hid (L = (l ++ [t], 0, 1)) := by
        show L = _
        rw [← HLL.out]
        unfold laidOf
        rw [hfi]
        exact if_neg hmo
      have c3 := HF1.out.1
      have f3 := HF1.out.2
      have e2 : IntKind.i64.wrap ((rev : Int) + 1) = (rev : Int) + 1 := by simp [IntKind.wrap, IntKind.bits, IntKind.signed]; omega
      have hel := HF1.out.lt
      have HW2 : Hid (Fd (w1.setCell ⟨eb, 3, none⟩ (.int .i64 ((rev : Int) + 1))) eb 3 (.int .i64 ((rev : Int) + 1)) ∧ (w1.setCell ⟨eb, 3, none⟩ (.int .i64 ((rev : Int) + 1))).ownsRow B 84 3 (.slice la l.length lc) l.length (tcells l) ∧ Turn (fun b => b = eb ∨ (Value.slice la l.length lc).ownBlock = some b) w (w1.setCell ⟨eb, 3, none⟩ (.int .i64 ((rev : Int) + 1)))) :=
        ⟨⟨World.cell?_setCell_same _ _ _ c3, by rw [World.frozen?_setCell]; exact f3⟩, ownsRow_setCell_other HO1.out HNE.out _, HT1.out.set (fun _ => Or.inl rfl) _⟩
      have HK2 : Hid (∀ o u, o ≠ 3 → Fd w eb o u → Fd (w1.setCell ⟨eb, 3, none⟩ (.int .i64 ((rev : Int) + 1))) eb o u) := fun o u ho h => (h.of_block (HB1.out.block eb h.lt)).set ho
      have hx : ∀ o, (w1.setCell ⟨eb, 3, none⟩ (.int .i64 ((rev : Int) + 1))).cell? ⟨w.heap.size, o, none⟩ = w1.cell? ⟨w.heap.size, o, none⟩ := fun o => World.cell?_setCell_other _ _ _ _ (fun e => by
        injection e with e1
        have := HF.out.lt
        omega)
      have y0 := (hx 0).trans x0
      have y1 := (hx 1).trans x1
      have y2 := (hx 2).trans x2
      have hsz1 : w.heap.size ≤ w1.heap.size := HB1.out.size
      have HZ : Hid ((w1.setCell ⟨eb, 3, none⟩ (.int .i64 ((rev : Int) + 1))).heap.size = w1.heap.size) := by show _ = _; simp [World.setCell]
      clear HLL hfi hx x0 x1 x2
      obtain ⟨i9, hi1, hi2, hi3, hi4⟩ := info234
      go_upto_region 6 with fail
      clear c3 f3
      generalize w1.setCell ⟨eb, 3, none⟩ (.int .i64 ((rev : Int) + 1)) = W2 at *
      go_wp2_with (at_builtin; refine wpList_append_own_at _ rfl _ _ 54 rfl B 84 i9 (.agg #[.string ByteArray.empty, .string ByteArray.empty, .string ByteArray.empty]) 3 48 Tryz.underlying54 hi1 hi2 hi3 hi4 rfl (by decide) _ _ _ rfl (HW2.out.2.1.alloc _) ⟨W2.heap.size, 0, none⟩ 1 1 [.string t.path, .string t.ver, .string t.s] rfl rfl ?_ ?_ ?_ ?_ ?_ ?_)
      all_goals first
        | exact cell_three' _ _ _ _ _
        | (show ∀ u ∈ [Value.string t.path, Value.string t.ver, Value.string t.s], u.oneCell' = true; intro u hu; simp at hu; rcases hu with rfl | rfl | rfl <;> rfl)
        | (show l.length + 1 ≤ maxLen; unfold maxLen; omega)
        | (show (l.length + 1) * 48 ≤ 140737488355328; omega)
        | (show B ≤ (W2.alloc _).heap.size; have := HZ.out; simp; omega)
        | skip
      intro ov w5 hown' hgrow _ hloc
      have hzz := HZ.out
      have hel2 : eb < W2.heap.size := HW2.out.1.lt
      have HFin : Hid (w5.ownsRow B 84 3 ov (l ++ [t]).length (tcells (l ++ [t])) ∧ Fd w5 eb 3 (.int .i64 ((rev : Int) + 1)) ∧ (∀ b, ov.ownBlock = some b → (Value.slice la l.length lc).ownBlock = some b ∨ w.heap.size ≤ b) ∧ Turn (fun b => b = eb ∨ (Value.slice la l.length lc).ownBlock = some b) w w5) := by
        refine ⟨by rw [tcells_snoc, List.length_append]; exact hown', HW2.out.1.of_block ?_, ?_, ?_⟩
        · rw [hgrow.block eb (by simp; omega) (fun e => HNE.out e.symm), Below.heap_alloc _ _ _ hel2]
        · intro b e
          rcases hloc with e2 | e2
          · exact Or.inl (by rw [← e2]; exact e)
          · rw [e2] at e
            injection e with e
            exact Or.inr (by omega)
        · exact (HW2.out.2.2.alloc _).grown hgrow (fun b _ e => Or.inr e)
      have HK : Hid (∀ o u, o ≠ 3 → Fd w eb o u → Fd w5 eb o u) := fun o u ho h => by
        refine (HK2.out o u ho h).of_block ?_
        rw [hgrow.block eb (by simp; omega) (fun e => HNE.out e.symm), Below.heap_alloc _ _ _ hel2]
      clear hown' hgrow hloc HW2 hzz HK2
      go_wp2
      go_ret2
      have e := HL.out
      subst e
      exact ⟨_, rfl, HFin.out.1, HFin.out.2.1, HFin.out.2.2.1, HFin.out.2.2.2, HK.out⟩
  | some i =>
    have hat : at? t.path t.ver l = i := by unfold at?; rw [hfi]
    obtain ⟨hil, _, _⟩ := List.findIdx?_eq_some_iff_getElem.1 hfi
    rw [hat]
    clear hat
    have hgd : l.getD i t = l[i] := by simp [List.getD, hil]
    obtain ⟨g, hla⟩ : ∃ g, la = some ⟨g, 0, none⟩ := by
      obtain ⟨g, c, e⟩ := own_some HO1.out (by omega)
      injection e with e1
      exact ⟨g, e1⟩
    subst hla
    obtain ⟨_, _, a3⟩ := tcells_get l i hil
    have d3 : w1.cell? ⟨g, i * 3 + 2, none⟩ = some (.string l[i].s) := by rw [HO1.out.cellAt (i * 3 + 2) (by omega)]; exact a3
    have hi0 : ¬ ((i : Int) < 0) := by omega
    have hilI : (i : Int) < (l.length : Int) := by omega
    have hgs := (HO1.out.lt g rfl).2
    cases hq : (l[i].s.toList == t.s.toList)
    · have HL : Hid (L = (l.modify i (fun x => { x with s := t.s }), 0, 1)) := by
        show L = _
        rw [← HLL.out]
        unfold laidOf
        rw [hfi]
        simp only [hgd]
        exact if_neg (by rw [hq]; decide)
      have c3 := HF1.out.1
      have f3 := HF1.out.2
      have e2 : IntKind.i64.wrap ((rev : Int) + 1) = (rev : Int) + 1 := by simp [IntKind.wrap, IntKind.bits, IntKind.signed]; omega
      have hge : g ≠ eb := fun e => HNE.out (by rw [← e]; rfl)
      have hf2 := HO1.out.frozenAt (i * 3 + 2)
      have HW2 : Hid (Fd (w1.setCell ⟨eb, 3, none⟩ (.int .i64 ((rev : Int) + 1))) eb 3 (.int .i64 ((rev : Int) + 1)) ∧ (w1.setCell ⟨eb, 3, none⟩ (.int .i64 ((rev : Int) + 1))).ownsRow B 84 3 (.slice (some ⟨g, 0, none⟩) l.length lc) l.length (tcells l) ∧ Turn (fun b => b = eb ∨ (Value.slice (some ⟨g, 0, none⟩) l.length lc).ownBlock = some b) w (w1.setCell ⟨eb, 3, none⟩ (.int .i64 ((rev : Int) + 1)))) :=
        ⟨⟨World.cell?_setCell_same _ _ _ c3, by rw [World.frozen?_setCell]; exact f3⟩, ownsRow_setCell_other HO1.out HNE.out _, HT1.out.set (fun _ => Or.inl rfl) _⟩
      have HFin : Hid (((w1.setCell ⟨eb, 3, none⟩ (.int .i64 ((rev : Int) + 1))).setCell ⟨g, i * 3 + 2, none⟩ (.string t.s)).ownsRow B 84 3 (.slice (some ⟨g, 0, none⟩) l.length lc) l.length (tcells (l.modify i (fun x => { x with s := t.s }))) ∧ Fd ((w1.setCell ⟨eb, 3, none⟩ (.int .i64 ((rev : Int) + 1))).setCell ⟨g, i * 3 + 2, none⟩ (.string t.s)) eb 3 (.int .i64 ((rev : Int) + 1)) ∧ Turn (fun b => b = eb ∨ (Value.slice (some ⟨g, 0, none⟩) l.length lc).ownBlock = some b) w ((w1.setCell ⟨eb, 3, none⟩ (.int .i64 ((rev : Int) + 1))).setCell ⟨g, i * 3 + 2, none⟩ (.string t.s))) := by
        refine ⟨?_, HW2.out.1.of_block (Below.heap_setCell _ _ _ _ (fun e => hge e.symm)), HW2.out.2.2.set (a := ⟨g, i * 3 + 2, none⟩) (fun _ => Or.inr rfl) _⟩
        have h := (HW2.out.2.1.stored (i * 3 + 2) (.string t.s)).1
        rw [tcells_set l i t.s hil] at h
        exact h
      have HK : Hid (∀ o u, o ≠ 3 → Fd w eb o u → Fd ((w1.setCell ⟨eb, 3, none⟩ (.int .i64 ((rev : Int) + 1))).setCell ⟨g, i * 3 + 2, none⟩ (.string t.s)).drew eb o u) := fun o u ho h => ((h.of_block (HB1.out.block eb h.lt)).set ho).of_block (Below.heap_setCell _ _ _ _ (fun e => hge e.symm))
      have hml : (l.modify i (fun x => { x with s := t.s })).length = l.length := by simp
      have HML : Hid ((l.modify i (fun x => { x with s := t.s })).length = l.length) := hml
      clear hml HW2
      generalize l[i].s = xs at *
      generalize l.modify i (fun x => { x with s := t.s }) = l2 at *
      clear HLL hfi a3 hgd
      go_upto_region 7 with fail
      go_region
      go_wp2
      go_ret2
      have e := HL.out
      subst e
      exact ⟨_, rfl, by rw [HML.out]; exact own_of_block HFin.out.1 (fun _ _ => rfl), HFin.out.2.1.of_block rfl, fun b e => Or.inl e, HFin.out.2.2.more ((Below.refl _ _).drew), fun o u ho h => HK.out o u ho h⟩
    · have HL : Hid (L = (l, 0, 0)) := by
        show L = _
        rw [← HLL.out]
        unfold laidOf
        rw [hfi]
        simp only [hgd]
        exact if_pos hq
      generalize l[i].s = xs at *
      clear HLL hfi a3 hgd
      go_upto_region 7 with fail
      go_region
      go_wp2
      go_ret2
      have e := HL.out
      subst e
      exact ⟨_, rfl, own_of_block HO1.out (fun _ _ => rfl), HF1.out.of_block rfl, fun b e => Or.inl e, HT1.out.more ((Below.refl _ _).drew), fun o u _ h => (h.of_block (HB1.out.block eb h.lt)).of_block rfl⟩

end Ed
end Go.Proofs.YtiamomiafekihaaGreatDoor
