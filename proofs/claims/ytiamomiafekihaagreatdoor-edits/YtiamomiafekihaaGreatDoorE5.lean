/-
  Edits: the document's engine: texts that are taken away, the root, a new one.
-/
import Derived.Test.YtiamomiafekihaaGreatDoorE4
namespace Go.Proofs.YtiamomiafekihaaGreatDoor
open Go.RowKit
namespace Ed

variable {w w' : World} {B eb rev : Nat} {mv iv : Value} {ms ix : List Tt} {root : ByteArray}

theorem own_mono {B B' n sz : Nat} {e : TypeId} {v : Value} {xs : List Value} (h : w.ownsRow B e sz v n xs) (hb : B' ≤ B) : w.ownsRow B' e sz v n xs := by
  rcases h with ⟨h1, h | ⟨g, cap, cur, e1, e2, r⟩⟩
  · exact ⟨h1, .inl h⟩
  · exact ⟨h1, .inr ⟨g, cap, cur, e1, Nat.le_trans hb e2, r⟩⟩

/-- What an edit that takes a text away makes of a list. -/
def dropOf (l : List Tt) (p v : ByteArray) (err : Int) : List Tt × Nat :=
  if err = 0 then (match l.findIdx? (hit p v) with | some i => (l.eraseIdx i, 1) | none => (l, 0)) else (l, 0)

theorem dropOf_len (l : List Tt) (p v : ByteArray) (err : Int) : (dropOf l p v err).1.length ≤ l.length := by
  unfold dropOf
  split
  · split
    · exact List.length_eraseIdx_le _ _
    · exact Nat.le_refl _
  · exact Nat.le_refl _

set_option maxRecDepth 100000 in
set_option maxHeartbeats 2000000 in
theorem docDropManifest (p v : ByteArray) (w : World) (h : DocAt w B eb mv iv ms ix root rev) (hp : p.size ≤ 4611686018427387904) (hl : ms.length ≤ 90000) (hr : rev < 4611686018427387904) :
    Calls Tryz.prog 16 #[.pointer (some ⟨eb, 0, none⟩), .string p, .string v] w fun e w' => e = .returned (.int .i64 (nameErr p v)) ∧ ∃ mv', DocAt w' B eb mv' iv (dropOf ms p v (nameErr p v)).1 ix root (rev + (dropOf ms p v (nameErr p v)).2) ∧ Turn (fun b => b = eb ∨ mv.ownBlock = some b) w w' ∧ Near w mv mv' := by
  have kn := named_any p v w hp
  have HD : Hid (DocAt w B eb mv iv ms ix root rev) := h
  clear h
  generalize nameErr p v = er at *
  generalize hPP : dropOf ms p v er = PP
  have HPP : Hid (dropOf ms p v er = PP) := hPP
  clear hPP
  go_enter Tryz.func16, Tryz.ntmps16
  go_wp2_with (go_at_call 32; fail)
  go_at_call 32
  refine kn.mono ?_
  rintro e w1 ⟨rfl, hb1⟩
  clear kn
  have HD1 : Hid (DocAt w1 B eb mv iv ms ix root rev) := HD.out.below hb1
  have HT1 : Hid (Turn (fun b => b = eb ∨ mv.ownBlock = some b) w w1) := Turn.of_below hb1
  clear hb1
  have c0 := HD1.out.f0.1
  have kf := find_any p v ms mv B w1 HD1.out.om (by omega)
  go_wp2_with (go_at_call 35; fail)
  go_at_call 35
  refine kf.mono ?_
  rintro e w2 ⟨rfl, hb2⟩
  have HD2 : Hid (DocAt w2 B eb mv iv ms ix root rev) := HD1.out.below hb2
  have HT2 : Hid (Turn (fun b => b = eb ∨ mv.ownBlock = some b) w w2) := HT1.out.more hb2
  clear kf hb2 c0 HD1 HT1
  by_cases h0 : er = 0
  · subst h0
    cases hfi : ms.findIdx? (hit p v) with
    | none =>
      have hat : at? p v ms = -1 := by unfold at?; rw [hfi]
      rw [hat]
      have HP : Hid (PP = (ms, 0)) := by
        show PP = _
        rw [← HPP.out]
        unfold dropOf
        rw [if_pos rfl, hfi]
      clear HPP hat hfi
      go_wp2
      go_ret
      have e := HP.out
      subst e
      exact ⟨rfl, mv, HD2.out, HT2.out, Near.refl _ _⟩
    | some i =>
      have hat : at? p v ms = i := by unfold at?; rw [hfi]
      rw [hat]
      have HP : Hid (PP = (ms.eraseIdx i, 1)) := by
        show PP = _
        rw [← HPP.out]
        unfold dropOf
        rw [if_pos rfl, hfi]
      have hi0 : (i : Int) ≥ 0 := by omega
      have hi1 : decide ((i : Int) ≥ 0) = true := decide_eq_true hi0
      clear HPP hat hfi
      have c0 := HD2.out.f0.1
      have fr0 := HD2.out.f0.2
      have kw := without_any ms i mv B w2 HD2.out.om (by omega)
      generalize ms.eraseIdx i = ms2 at *
      go_wp2_with (go_at_call 36; fail)
      go_at_call 36
      refine kw.mono ?_
      rintro e w3 ⟨ov, rfl, ho, hb3⟩
      obtain ⟨oa, oc, rfl⟩ := own_slice2 ho
      clear kw c0 fr0
      have HD3 : Hid (DocAt w3 B eb mv iv ms ix root rev) := HD2.out.below hb3
      have HN3 : Hid (Near w mv (.slice oa ms2.length oc)) := fun b e => Or.inr (Nat.le_trans HT2.out.size (ho.lt b e).1)
      have HT3 : Hid (Turn (fun b => b = eb ∨ mv.ownBlock = some b) w w3) := HT2.out.more hb3
      have c0 := HD3.out.f0.1
      have fr0 := HD3.out.f0.2
      have hgo : (Value.slice oa ms2.length oc).ownBlock ≠ some eb := fun e => by
        have h1 := (ho.lt eb e).1
        have h2 := HD2.out.f0.lt
        omega
      have hio : ∀ b, (Value.slice oa ms2.length oc).ownBlock = some b → iv.ownBlock ≠ some b := fun b e e2 => by
        have h1 := (ho.lt b e).1
        have h2 := (HD2.out.oi.lt b e2).2
        omega
      have HD4 : Hid (DocAt (w3.setCell ⟨eb, 0, none⟩ (.slice oa ms2.length oc)) B eb (.slice oa ms2.length oc) iv ms2 ix root rev) :=
        ⟨⟨World.cell?_setCell_same _ _ _ c0, by rw [World.frozen?_setCell]; exact fr0⟩, HD3.out.f1.set (by decide), HD3.out.f2.set (by decide), HD3.out.f3.set (by decide), ownsRow_setCell_other (own_mono ho HD2.out.ba) hgo _, ownsRow_setCell_other HD3.out.oi HD3.out.ne.2.1 _, ⟨hgo, HD3.out.ne.2.1, hio⟩, by have := HD3.out.ba; simpa [World.setCell] using this⟩
      have HT4 : Hid (Turn (fun b => b = eb ∨ mv.ownBlock = some b) w (w3.setCell ⟨eb, 0, none⟩ (.slice oa ms2.length oc))) := HT3.out.set (fun _ => Or.inl rfl) _
      clear HD3 HT3 ho hb3 hgo hio HD2 HT2 HD
      have c3 := HD4.out.f3.1
      have fr3 := HD4.out.f3.2
      have e2 : IntKind.i64.wrap ((rev : Int) + 1) = (rev : Int) + 1 := by simp [IntKind.wrap, IntKind.bits, IntKind.signed]; omega
      have HD5 : Hid (DocAt ((w3.setCell ⟨eb, 0, none⟩ (.slice oa ms2.length oc)).setCell ⟨eb, 3, none⟩ (.int .i64 ((rev : Int) + 1))) B eb (.slice oa ms2.length oc) iv ms2 ix root (rev + 1)) :=
        ⟨HD4.out.f0.set (by decide), HD4.out.f1.set (by decide), HD4.out.f2.set (by decide), ⟨World.cell?_setCell_same _ _ _ c3, by rw [World.frozen?_setCell]; exact fr3⟩, ownsRow_setCell_other HD4.out.om HD4.out.ne.1 _, ownsRow_setCell_other HD4.out.oi HD4.out.ne.2.1 _, HD4.out.ne, by have := HD4.out.ba; simpa [World.setCell] using this⟩
      have HT5 : Hid (Turn (fun b => b = eb ∨ mv.ownBlock = some b) w ((w3.setCell ⟨eb, 0, none⟩ (.slice oa ms2.length oc)).setCell ⟨eb, 3, none⟩ (.int .i64 ((rev : Int) + 1)))) := HT4.out.set (fun _ => Or.inl rfl) _
      clear HD4 HT4
      go_wp2
      go_ret
      have e := HP.out
      subst e
      exact ⟨rfl, _, HD5.out, HT5.out, HN3.out⟩
  · have HP : Hid (PP = (ms, 0)) := by
      show PP = _
      rw [← HPP.out]
      exact if_neg h0
    clear HPP
    have hq : (er == 0) = false := by rw [beq_eq_false_iff_ne]; exact h0
    go_wp2
    go_ret
    have e := HP.out
    subst e
    exact ⟨rfl, mv, HD2.out, HT2.out, Near.refl _ _⟩

set_option maxRecDepth 100000 in
set_option maxHeartbeats 2000000 in
theorem docDropIndex (p : ByteArray) (w : World) (h : DocAt w B eb mv iv ms ix root rev) (hp : p.size ≤ 4611686018427387904) (hl : ix.length ≤ 90000) (hr : rev < 4611686018427387904) :
    Calls Tryz.prog 20 #[.pointer (some ⟨eb, 0, none⟩), .string p] w fun e w' => e = .returned (.int .i64 (nameErr p ⟨#[]⟩)) ∧ ∃ iv', DocAt w' B eb mv iv' ms (dropOf ix p ⟨#[]⟩ (nameErr p ⟨#[]⟩)).1 root (rev + (dropOf ix p ⟨#[]⟩ (nameErr p ⟨#[]⟩)).2) ∧ Turn (fun b => b = eb ∨ iv.ownBlock = some b) w w' ∧ Near w iv iv' := by
  have kn := named_any p ⟨#[]⟩ w hp
  have HD : Hid (DocAt w B eb mv iv ms ix root rev) := h
  clear h
  generalize nameErr p ⟨#[]⟩ = er at *
  generalize hPP : dropOf ix p ⟨#[]⟩ er = PP
  have HPP : Hid (dropOf ix p ⟨#[]⟩ er = PP) := hPP
  clear hPP
  go_enter Tryz.func20, Tryz.ntmps20
  go_wp2_with (go_at_call 32; fail)
  go_at_call 32
  refine kn.mono ?_
  rintro e w1 ⟨rfl, hb1⟩
  clear kn
  have HD1 : Hid (DocAt w1 B eb mv iv ms ix root rev) := HD.out.below hb1
  have HT1 : Hid (Turn (fun b => b = eb ∨ iv.ownBlock = some b) w w1) := Turn.of_below hb1
  clear hb1
  have c0 := HD1.out.f1.1
  have kf := find_any p ⟨#[]⟩ ix iv B w1 HD1.out.oi (by omega)
  go_wp2_with (go_at_call 35; fail)
  go_at_call 35
  refine kf.mono ?_
  rintro e w2 ⟨rfl, hb2⟩
  have HD2 : Hid (DocAt w2 B eb mv iv ms ix root rev) := HD1.out.below hb2
  have HT2 : Hid (Turn (fun b => b = eb ∨ iv.ownBlock = some b) w w2) := HT1.out.more hb2
  clear kf hb2 c0 HD1 HT1
  by_cases h0 : er = 0
  · subst h0
    cases hfi : ix.findIdx? (hit p ⟨#[]⟩) with
    | none =>
      have hat : at? p ⟨#[]⟩ ix = -1 := by unfold at?; rw [hfi]
      rw [hat]
      have HP : Hid (PP = (ix, 0)) := by
        show PP = _
        rw [← HPP.out]
        unfold dropOf
        rw [if_pos rfl, hfi]
      clear HPP hat hfi
      go_wp2
      go_ret
      have e := HP.out
      subst e
      exact ⟨rfl, iv, HD2.out, HT2.out, Near.refl _ _⟩
    | some i =>
      have hat : at? p ⟨#[]⟩ ix = i := by unfold at?; rw [hfi]
      rw [hat]
      have HP : Hid (PP = (ix.eraseIdx i, 1)) := by
        show PP = _
        rw [← HPP.out]
        unfold dropOf
        rw [if_pos rfl, hfi]
      have hi0 : (i : Int) ≥ 0 := by omega
      have hi1 : decide ((i : Int) ≥ 0) = true := decide_eq_true hi0
      clear HPP hat hfi
      have c0 := HD2.out.f1.1
      have fr0 := HD2.out.f1.2
      have kw := without_any ix i iv B w2 HD2.out.oi (by omega)
      generalize ix.eraseIdx i = ix2 at *
      go_wp2_with (go_at_call 36; fail)
      go_at_call 36
      refine kw.mono ?_
      rintro e w3 ⟨ov, rfl, ho, hb3⟩
      obtain ⟨oa, oc, rfl⟩ := own_slice2 ho
      clear kw c0 fr0
      have HD3 : Hid (DocAt w3 B eb mv iv ms ix root rev) := HD2.out.below hb3
      have HN3 : Hid (Near w iv (.slice oa ix2.length oc)) := fun b e => Or.inr (Nat.le_trans HT2.out.size (ho.lt b e).1)
      have HT3 : Hid (Turn (fun b => b = eb ∨ iv.ownBlock = some b) w w3) := HT2.out.more hb3
      have c0 := HD3.out.f1.1
      have fr0 := HD3.out.f1.2
      have hgo : (Value.slice oa ix2.length oc).ownBlock ≠ some eb := fun e => by
        have h1 := (ho.lt eb e).1
        have h2 := HD2.out.f0.lt
        omega
      have hio : ∀ b, mv.ownBlock = some b → (Value.slice oa ix2.length oc).ownBlock ≠ some b := fun b e2 e => by
        have h1 := (ho.lt b e).1
        have h2 := (HD2.out.om.lt b e2).2
        omega
      have HD4 : Hid (DocAt (w3.setCell ⟨eb, 1, none⟩ (.slice oa ix2.length oc)) B eb mv (.slice oa ix2.length oc) ms ix2 root rev) :=
        ⟨HD3.out.f0.set (by decide), ⟨World.cell?_setCell_same _ _ _ c0, by rw [World.frozen?_setCell]; exact fr0⟩, HD3.out.f2.set (by decide), HD3.out.f3.set (by decide), ownsRow_setCell_other HD3.out.om HD3.out.ne.1 _, ownsRow_setCell_other (own_mono ho HD2.out.ba) hgo _, ⟨HD3.out.ne.1, hgo, hio⟩, by have := HD3.out.ba; simpa [World.setCell] using this⟩
      have HT4 : Hid (Turn (fun b => b = eb ∨ iv.ownBlock = some b) w (w3.setCell ⟨eb, 1, none⟩ (.slice oa ix2.length oc))) := HT3.out.set (fun _ => Or.inl rfl) _
      clear HD3 HT3 ho hb3 hgo hio HD2 HT2 HD
      have c3 := HD4.out.f3.1
      have fr3 := HD4.out.f3.2
      have e2 : IntKind.i64.wrap ((rev : Int) + 1) = (rev : Int) + 1 := by simp [IntKind.wrap, IntKind.bits, IntKind.signed]; omega
      have HD5 : Hid (DocAt ((w3.setCell ⟨eb, 1, none⟩ (.slice oa ix2.length oc)).setCell ⟨eb, 3, none⟩ (.int .i64 ((rev : Int) + 1))) B eb mv (.slice oa ix2.length oc) ms ix2 root (rev + 1)) :=
        ⟨HD4.out.f0.set (by decide), HD4.out.f1.set (by decide), HD4.out.f2.set (by decide), ⟨World.cell?_setCell_same _ _ _ c3, by rw [World.frozen?_setCell]; exact fr3⟩, ownsRow_setCell_other HD4.out.om HD4.out.ne.1 _, ownsRow_setCell_other HD4.out.oi HD4.out.ne.2.1 _, HD4.out.ne, by have := HD4.out.ba; simpa [World.setCell] using this⟩
      have HT5 : Hid (Turn (fun b => b = eb ∨ iv.ownBlock = some b) w ((w3.setCell ⟨eb, 1, none⟩ (.slice oa ix2.length oc)).setCell ⟨eb, 3, none⟩ (.int .i64 ((rev : Int) + 1)))) := HT4.out.set (fun _ => Or.inl rfl) _
      clear HD4 HT4
      go_wp2
      go_ret
      have e := HP.out
      subst e
      exact ⟨rfl, _, HD5.out, HT5.out, HN3.out⟩
  · have HP : Hid (PP = (ix, 0)) := by
      show PP = _
      rw [← HPP.out]
      exact if_neg h0
    clear HPP
    have hq : (er == 0) = false := by rw [beq_eq_false_iff_ne]; exact h0
    go_wp2
    go_ret
    have e := HP.out
    subst e
    exact ⟨rfl, iv, HD2.out, HT2.out, Near.refl _ _⟩

/-- What is wrong with a root's path. -/
def rootErr (p : ByteArray) : Int := if p.size ≠ 0 ∧ Pv.isPath p.data.toList = false then 2 else 0

/-- The root behind SetRoot, and by how much the revision rises. -/
def rootOf (root p : ByteArray) : ByteArray × Nat := if rootErr p = 0 then (if (p.toList == root.toList) = true then (root, 0) else (p, 1)) else (root, 0)

set_option maxRecDepth 100000 in
set_option maxHeartbeats 2000000 in
theorem docSetRoot (p : ByteArray) (w : World) (h : DocAt w B eb mv iv ms ix root rev) (hp : p.size ≤ 4611686018427387904) (hr : rev < 4611686018427387904) :
    Calls Tryz.prog 22 #[.pointer (some ⟨eb, 0, none⟩), .string p] w fun e w' => e = .returned (.int .i64 (rootErr p)) ∧ DocAt w' B eb mv iv ms ix (rootOf root p).1 (rev + (rootOf root p).2) ∧ Turn (fun b => b = eb) w w' := by
  have k1 := isPath_doc p w hp
  have HD : Hid (DocAt w B eb mv iv ms ix root rev) := h
  clear h
  have he := empty_list p
  have HE : Hid (rootErr p = if p.size ≠ 0 ∧ Pv.isPath p.data.toList = false then 2 else 0) := rfl
  generalize hRR : rootOf root p = RR
  have HRR : Hid ((if rootErr p = 0 then (if (p.toList == root.toList) = true then (root, 0) else (p, 1)) else (root, 0)) = RR) := hRR
  clear hRR
  generalize rootErr p = er at *
  generalize Pv.isPath p.data.toList = a at *
  have c2 := HD.out.f2.1
  have fr2 := HD.out.f2.2
  have c3 := HD.out.f3.1
  have fr3 := HD.out.f3.2
  go_enter Tryz.func22, Tryz.ntmps22
  go_wp2_with (go_at_call 40; fail)
  go_at_call 40
  refine k1.mono ?_
  intro e1 w1 h1
  rw [h1.1, h1.2]
  clear h1 k1
  by_cases hbad : p.size ≠ 0 ∧ a = false
  · obtain ⟨hs, rfl⟩ := hbad
    rw [decide_eq_false hs] at he
    have HF : Hid (2 = er) := by show 2 = er; rw [HE.out, if_pos ⟨hs, rfl⟩]
    have HP : Hid (RR = (root, 0)) := by
      show RR = _
      rw [← HRR.out, ← HF.out]
      exact if_neg (by decide)
    clear HE HRR
    go_wp2
    go_ret
    have e := HP.out
    subst e
    exact ⟨ret_int HF.out, HD.out, Turn.refl _ _⟩
  · have HF : Hid (0 = er) := by show 0 = er; rw [HE.out, if_neg hbad]
    have hor : p.size = 0 ∨ a = true := by
      by_cases h1 : p.size = 0
      · exact Or.inl h1
      · cases a
        · exact absurd ⟨h1, rfl⟩ hbad
        · exact Or.inr rfl
    clear HE hbad
    cases hq : (p.toList == root.toList)
    · have HP : Hid (RR = (p, 1)) := by
        show RR = _
        rw [← HRR.out, ← HF.out, if_pos rfl]
        exact if_neg (by rw [hq]; decide)
      clear HRR
      have e2 : IntKind.i64.wrap ((rev : Int) + 1) = (rev : Int) + 1 := by simp [IntKind.wrap, IntKind.bits, IntKind.signed]; omega
      have HD1 : Hid (DocAt (w.setCell ⟨eb, 3, none⟩ (.int .i64 ((rev : Int) + 1))) B eb mv iv ms ix root (rev + 1)) :=
        ⟨HD.out.f0.set (by decide), HD.out.f1.set (by decide), HD.out.f2.set (by decide), ⟨World.cell?_setCell_same _ _ _ c3, by rw [World.frozen?_setCell]; exact fr3⟩, ownsRow_setCell_other HD.out.om HD.out.ne.1 _, ownsRow_setCell_other HD.out.oi HD.out.ne.2.1 _, HD.out.ne, by have := HD.out.ba; simpa [World.setCell] using this⟩
      have HD2 : Hid (DocAt ((w.setCell ⟨eb, 3, none⟩ (.int .i64 ((rev : Int) + 1))).setCell ⟨eb, 2, none⟩ (.string p)) B eb mv iv ms ix p (rev + 1)) :=
        ⟨HD1.out.f0.set (by decide), HD1.out.f1.set (by decide), ⟨World.cell?_setCell_same _ _ _ HD1.out.f2.1, by rw [World.frozen?_setCell]; exact HD1.out.f2.2⟩, HD1.out.f3.set (by decide), ownsRow_setCell_other HD1.out.om HD1.out.ne.1 _, ownsRow_setCell_other HD1.out.oi HD1.out.ne.2.1 _, HD1.out.ne, by have := HD1.out.ba; simpa [World.setCell] using this⟩
      have HT2 : Hid (Turn (fun b => b = eb) w ((w.setCell ⟨eb, 3, none⟩ (.int .i64 ((rev : Int) + 1))).setCell ⟨eb, 2, none⟩ (.string p))) := ((Turn.refl (fun b => b = eb) w).set (a := ⟨eb, 3, none⟩) (fun _ => rfl) _).set (a := ⟨eb, 2, none⟩) (fun _ => rfl) _
      clear HD1 HD
      rcases hor with hs | rfl
      · rw [decide_eq_true hs] at he
        go_wp2
        go_ret
        have e := HP.out
        subst e
        exact ⟨ret_int HF.out, HD2.out, HT2.out⟩
      · cases hs : (p.toList == [])
        all_goals
          clear he
          go_wp2
          go_ret
          have e := HP.out
          subst e
          exact ⟨ret_int HF.out, HD2.out, HT2.out⟩
    · have HP : Hid (RR = (root, 0)) := by
        show RR = _
        rw [← HRR.out, ← HF.out, if_pos rfl]
        exact if_pos hq
      clear HRR
      rcases hor with hs | rfl
      · rw [decide_eq_true hs] at he
        go_wp2
        go_ret
        have e := HP.out
        subst e
        exact ⟨ret_int HF.out, HD.out, Turn.refl _ _⟩
      · cases hs : (p.toList == [])
        all_goals
          clear he
          go_wp2
          go_ret
          have e := HP.out
          subst e
          exact ⟨ret_int HF.out, HD.out, Turn.refl _ _⟩

abbrev newDoc : Obj := .cells #[.slice none 0 0, .slice none 0 0, .string ⟨#[]⟩, .int .i64 0, .slice none 0 0, .slice none 0 0, .slice none 0 0] 61

set_option maxRecDepth 100000 in
theorem docNew_no (c : Int) (w : World) (hc : c < 1) : Calls Tryz.prog 11 #[.int .i64 c] w fun e w' => e = .returned (.tuple #[.pointer none, .int .i64 1]) ∧ w' = w := by
  go_enter Tryz.func11, Tryz.ntmps11
  go_wp2
  go_ret2
  exact ⟨rfl, rfl⟩

set_option maxRecDepth 100000 in
theorem docNew_yes (c : Int) (w : World) (hc : ¬ c < 1) : Calls Tryz.prog 11 #[.int .i64 c] w fun e w' => e = .returned (.tuple #[.pointer (some ⟨w.heap.size, 0, none⟩), .int .i64 0]) ∧ w' = w.alloc newDoc := by
  go_enter Tryz.func11, Tryz.ntmps11
  go_wp2
  go_ret2
  exact ⟨rfl, rfl⟩

end Ed
end Go.Proofs.YtiamomiafekihaaGreatDoor
