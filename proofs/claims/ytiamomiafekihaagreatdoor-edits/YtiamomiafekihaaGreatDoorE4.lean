/-
  Edits: the document's engine.
-/
import Derived.Test.YtiamomiafekihaaGreatDoorE3
namespace Go.Proofs.YtiamomiafekihaaGreatDoor
open Go.RowKit
namespace Ed

variable {w w' : World}

/-- The document's engine in memory. -/
structure DocAt (w : World) (B eb : Nat) (mv iv : Value) (ms ix : List Tt) (root : ByteArray) (rev : Nat) : Prop where
  f0 : Fd w eb 0 mv
  f1 : Fd w eb 1 iv
  f2 : Fd w eb 2 (.string root)
  f3 : Fd w eb 3 (.int .i64 rev)
  om : w.ownsRow B 84 3 mv ms.length (tcells ms)
  oi : w.ownsRow B 84 3 iv ix.length (tcells ix)
  ne : mv.ownBlock ≠ some eb ∧ iv.ownBlock ≠ some eb ∧ ∀ b, mv.ownBlock = some b → iv.ownBlock ≠ some b
  ba : B ≤ w.heap.size

variable {B eb rev : Nat} {mv iv : Value} {ms ix : List Tt} {root : ByteArray}

theorem DocAt.below (h : DocAt w B eb mv iv ms ix root rev) (hb : Below w.heap.size w w') : DocAt w' B eb mv iv ms ix root rev :=
  have k := hb.block eb h.f0.lt
  ⟨h.f0.of_block k, h.f1.of_block k, h.f2.of_block k, h.f3.of_block k, own_of_block h.om (fun b e => hb.block b (h.om.lt b e).2), own_of_block h.oi (fun b e => hb.block b (h.oi.lt b e).2), h.ne, Nat.le_trans h.ba hb.size⟩

theorem own_slice2 {e : TypeId} {sz m : Nat} {u : Value} {l : List Value} (h : w.ownsRow B e sz u m l) : ∃ a c, u = .slice a m c := by
  rcases h.2 with ⟨e1, e2⟩ | ⟨g, c, _, e1, _⟩
  · exact ⟨none, 0, by rw [e1, e2]⟩
  · exact ⟨_, c, e1⟩

/-- A list lies where it lay, or in a new block. -/
def Near (w : World) (v v' : Value) : Prop := ∀ b, v'.ownBlock = some b → v.ownBlock = some b ∨ w.heap.size ≤ b

theorem Near.refl (w : World) (v : Value) : Near w v v := fun _ e => Or.inl e

/-- What an edit that lays a text down makes of a list. -/
def putOf (l : List Tt) (t : Tt) (most : Nat) (err : Int) : List Tt × Int × Nat := if err = 0 then laidOf l t most else (l, err, 0)

set_option maxRecDepth 100000 in
set_option maxHeartbeats 2000000 in
theorem docPutManifest (p v s : ByteArray) (w : World) (h : DocAt w B eb mv iv ms ix root rev) (hp : p.size ≤ 4611686018427387904) (hl : ms.length ≤ 90000) (hr : rev < 4611686018427387904) :
    Calls Tryz.prog 14 #[.pointer (some ⟨eb, 0, none⟩), .string p, .string v, .string s] w fun e w' => e = .returned (.int .i64 (putOf ms ⟨p, v, s⟩ 60 (nameErr p v)).2.1) ∧ ∃ mv', DocAt w' B eb mv' iv (putOf ms ⟨p, v, s⟩ 60 (nameErr p v)).1 ix root (rev + (putOf ms ⟨p, v, s⟩ 60 (nameErr p v)).2.2) ∧ Turn (fun b => b = eb ∨ mv.ownBlock = some b) w w' ∧ Near w mv mv' := by
  have kn := named_any p v w hp
  have HD : Hid (DocAt w B eb mv iv ms ix root rev) := h
  clear h
  generalize nameErr p v = er at *
  generalize hPP : putOf ms ⟨p, v, s⟩ 60 er = PP
  have HPP : Hid (putOf ms ⟨p, v, s⟩ 60 er = PP) := hPP
  clear hPP
  go_enter Tryz.func14, Tryz.ntmps14
  go_wp2_with (go_at_call 32; fail)
  go_at_call 32
  refine kn.mono ?_
  rintro e w1 ⟨rfl, hb1⟩
  clear kn
  have HD1 : Hid (DocAt w1 B eb mv iv ms ix root rev) := HD.out.below hb1
  have HT1 : Hid (Turn (fun b => b = eb ∨ mv.ownBlock = some b) w w1) := Turn.of_below hb1
  clear hb1
  by_cases h0 : er = 0
  · subst h0
    have c0 := HD1.out.f0.1
    have fr0 := HD1.out.f0.2
    have kl := laid_any eb B 60 rev ms ⟨p, v, s⟩ mv w1 HD1.out.om HD1.out.ba hl HD1.out.f3 hr HD1.out.ne.1
    have HP : Hid (PP = laidOf ms ⟨p, v, s⟩ 60) := by
      show PP = _
      rw [← HPP.out]
      exact if_pos rfl
    clear HPP
    generalize laidOf ms ⟨p, v, s⟩ 60 = LL at *
    go_wp2_with (go_at_call 33; fail)
    go_at_call 33
    refine kl.mono ?_
    rintro e w2 ⟨ov, rfl, ho, hf3, hloc, ht, hkeep⟩
    obtain ⟨oa, oc, rfl⟩ := own_slice2 ho
    clear kl c0 fr0
    have hel := HD1.out.f0.lt
    have hgo : (Value.slice oa LL.1.length oc).ownBlock ≠ some eb := fun e => by
      rcases hloc eb e with e2 | e2
      · exact HD1.out.ne.1 e2
      · omega
    have g0 := hkeep 0 _ (by decide) HD1.out.f0
    have hsz := ht.size
    have hoi : w2.ownsRow B 84 3 iv ix.length (tcells ix) := own_of_block HD1.out.oi (fun b e => ht.block b (HD1.out.oi.lt b e).2 (fun h => by
      rcases h with h | h
      · exact HD1.out.ne.2.1 (by rw [← h]; exact e)
      · exact HD1.out.ne.2.2 b h e))
    have HD2 : Hid (DocAt (w2.setCell ⟨eb, 0, none⟩ (.slice oa LL.1.length oc)) B eb (.slice oa LL.1.length oc) iv LL.1 ix root (rev + LL.2.2)) := by
      refine ⟨⟨World.cell?_setCell_same _ _ _ g0.1, by rw [World.frozen?_setCell]; exact g0.2⟩, (hkeep 1 _ (by decide) HD1.out.f1).set (by decide), (hkeep 2 _ (by decide) HD1.out.f2).set (by decide), hf3.set (by decide), ownsRow_setCell_other ho hgo _, ownsRow_setCell_other hoi HD1.out.ne.2.1 _, ⟨hgo, HD1.out.ne.2.1, fun b e e2 => ?_⟩, ?_⟩
      · rcases hloc b e with e3 | e3
        · exact HD1.out.ne.2.2 b e3 e2
        · have := (HD1.out.oi.lt b e2).2; omega
      · simp [World.setCell]; exact Nat.le_trans HD1.out.ba hsz
    have HN2 : Hid (Near w mv (.slice oa LL.1.length oc)) := fun b e => (hloc b e).imp id (fun h => Nat.le_trans HT1.out.size h)
    have HT2 : Hid (Turn (fun b => b = eb ∨ mv.ownBlock = some b) w (w2.setCell ⟨eb, 0, none⟩ (.slice oa LL.1.length oc))) := (HT1.out.trans ht (fun _ _ e => e) (fun _ _ e => e)).set (fun _ => Or.inl rfl) _
    have c0 := g0.1
    have fr0 := g0.2
    clear ho hf3 hloc ht hkeep hoi g0
    go_wp2
    go_ret
    have e := HP.out
    subst e
    exact ⟨rfl, _, HD2.out, HT2.out, HN2.out⟩
  · have HP : Hid (PP = (ms, er, 0)) := by
      show PP = _
      rw [← HPP.out]
      exact if_neg h0
    clear HPP
    have hq : (er == 0) = false := by rw [beq_eq_false_iff_ne]; exact h0
    go_wp2
    go_ret
    have e := HP.out
    subst e
    exact ⟨rfl, mv, HD1.out, HT1.out, Near.refl _ _⟩

set_option maxRecDepth 100000 in
set_option maxHeartbeats 2000000 in
theorem docPutIndex (p s : ByteArray) (w : World) (h : DocAt w B eb mv iv ms ix root rev) (hp : p.size ≤ 4611686018427387904) (hl : ix.length ≤ 90000) (hr : rev < 4611686018427387904) :
    Calls Tryz.prog 18 #[.pointer (some ⟨eb, 0, none⟩), .string p, .string s] w fun e w' => e = .returned (.int .i64 (putOf ix ⟨p, ⟨#[]⟩, s⟩ 30 (nameErr p ⟨#[]⟩)).2.1) ∧ ∃ iv', DocAt w' B eb mv iv' ms (putOf ix ⟨p, ⟨#[]⟩, s⟩ 30 (nameErr p ⟨#[]⟩)).1 root (rev + (putOf ix ⟨p, ⟨#[]⟩, s⟩ 30 (nameErr p ⟨#[]⟩)).2.2) ∧ Turn (fun b => b = eb ∨ iv.ownBlock = some b) w w' ∧ Near w iv iv' := by
  have kn := named_any p ⟨#[]⟩ w hp
  have HD : Hid (DocAt w B eb mv iv ms ix root rev) := h
  clear h
  generalize nameErr p ⟨#[]⟩ = er at *
  generalize hPP : putOf ix ⟨p, ⟨#[]⟩, s⟩ 30 er = PP
  have HPP : Hid (putOf ix ⟨p, ⟨#[]⟩, s⟩ 30 er = PP) := hPP
  clear hPP
  go_enter Tryz.func18, Tryz.ntmps18
  go_wp2_with (go_at_call 32; fail)
  go_at_call 32
  refine kn.mono ?_
  rintro e w1 ⟨rfl, hb1⟩
  clear kn
  have HD1 : Hid (DocAt w1 B eb mv iv ms ix root rev) := HD.out.below hb1
  have HT1 : Hid (Turn (fun b => b = eb ∨ iv.ownBlock = some b) w w1) := Turn.of_below hb1
  clear hb1
  by_cases h0 : er = 0
  · subst h0
    have c0 := HD1.out.f1.1
    have fr0 := HD1.out.f1.2
    have kl := laid_any eb B 30 rev ix ⟨p, ⟨#[]⟩, s⟩ iv w1 HD1.out.oi HD1.out.ba hl HD1.out.f3 hr HD1.out.ne.2.1
    have HP : Hid (PP = laidOf ix ⟨p, ⟨#[]⟩, s⟩ 30) := by
      show PP = _
      rw [← HPP.out]
      exact if_pos rfl
    clear HPP
    generalize laidOf ix ⟨p, ⟨#[]⟩, s⟩ 30 = LL at *
    go_wp2_with (go_at_call 33; fail)
    go_at_call 33
    refine kl.mono ?_
    rintro e w2 ⟨ov, rfl, ho, hf3, hloc, ht, hkeep⟩
    obtain ⟨oa, oc, rfl⟩ := own_slice2 ho
    clear kl c0 fr0
    have hel := HD1.out.f0.lt
    have hgo : (Value.slice oa LL.1.length oc).ownBlock ≠ some eb := fun e => by
      rcases hloc eb e with e2 | e2
      · exact HD1.out.ne.2.1 e2
      · omega
    have g0 := hkeep 1 _ (by decide) HD1.out.f1
    have hsz := ht.size
    have hoi : w2.ownsRow B 84 3 mv ms.length (tcells ms) := own_of_block HD1.out.om (fun b e => ht.block b (HD1.out.om.lt b e).2 (fun h => by
      rcases h with h | h
      · exact HD1.out.ne.1 (by rw [← h]; exact e)
      · exact HD1.out.ne.2.2 b e h))
    have HD2 : Hid (DocAt (w2.setCell ⟨eb, 1, none⟩ (.slice oa LL.1.length oc)) B eb mv (.slice oa LL.1.length oc) ms LL.1 root (rev + LL.2.2)) := by
      refine ⟨(hkeep 0 _ (by decide) HD1.out.f0).set (by decide), ⟨World.cell?_setCell_same _ _ _ g0.1, by rw [World.frozen?_setCell]; exact g0.2⟩, (hkeep 2 _ (by decide) HD1.out.f2).set (by decide), hf3.set (by decide), ownsRow_setCell_other hoi HD1.out.ne.1 _, ownsRow_setCell_other ho hgo _, ⟨HD1.out.ne.1, hgo, fun b e2 e => ?_⟩, ?_⟩
      · rcases hloc b e with e3 | e3
        · exact HD1.out.ne.2.2 b e2 e3
        · have := (HD1.out.om.lt b e2).2; omega
      · simp [World.setCell]; exact Nat.le_trans HD1.out.ba hsz
    have HN2 : Hid (Near w iv (.slice oa LL.1.length oc)) := fun b e => (hloc b e).imp id (fun h => Nat.le_trans HT1.out.size h)
    have HT2 : Hid (Turn (fun b => b = eb ∨ iv.ownBlock = some b) w (w2.setCell ⟨eb, 1, none⟩ (.slice oa LL.1.length oc))) := (HT1.out.trans ht (fun _ _ e => e) (fun _ _ e => e)).set (fun _ => Or.inl rfl) _
    have c0 := g0.1
    have fr0 := g0.2
    clear ho hf3 hloc ht hkeep hoi g0
    go_wp2
    go_ret
    have e := HP.out
    subst e
    exact ⟨rfl, _, HD2.out, HT2.out, HN2.out⟩
  · have HP : Hid (PP = (ix, er, 0)) := by
      show PP = _
      rw [← HPP.out]
      exact if_neg h0
    clear HPP
    have hq : (er == 0) = false := by rw [beq_eq_false_iff_ne]; exact h0
    go_wp2
    go_ret
    have e := HP.out
    subst e
    exact ⟨rfl, iv, HD1.out, HT1.out, Near.refl _ _⟩

end Ed
end Go.Proofs.YtiamomiafekihaaGreatDoor
