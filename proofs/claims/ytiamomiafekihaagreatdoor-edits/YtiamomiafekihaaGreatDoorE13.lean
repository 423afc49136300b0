/-
  Edits: the program's engine and the document's, side by side.
-/
import Derived.Test.YtiamomiafekihaaGreatDoorE12
namespace Go.Proofs.YtiamomiafekihaaGreatDoor
open Go.RowKit
namespace Ed

/-- One engine of the program and one of the document, in memory: X are all of their blocks. -/
structure PairAt (w : World) (X : Nat → Prop) (gb pb sb mb rb : Nat) (mv iv : Value) (ms ix : List Tt) (root : ByteArray) (rev : Nat) : Prop where
  g0 : w.cell? ⟨gb, 0, none⟩ = some (.pointer (some ⟨pb, 0, none⟩))
  g1 : w.cell? ⟨gb, 1, none⟩ = some (.pointer (some ⟨rb, 0, none⟩))
  p0 : w.cell? ⟨pb, 0, none⟩ = some (.pointer (some ⟨sb, 0, none⟩))
  sh : ShelfAt w sb mb rev (ents ms ix root)
  dc : DocAt w 0 rb mv iv ms ix root rev
  own : ∀ b, (b = gb ∨ b = pb ∨ b = sb ∨ b = mb ∨ b = rb ∨ mv.ownBlock = some b ∨ iv.ownBlock = some b) → X b
  lt : ∀ b, X b → b < w.heap.size
  sp : ∀ b, (b = sb ∨ b = mb) → b ≠ gb ∧ b ≠ pb ∧ b ≠ rb ∧ mv.ownBlock ≠ some b ∧ iv.ownBlock ≠ some b
  dp : ∀ b, (b = rb ∨ mv.ownBlock = some b ∨ iv.ownBlock = some b) → b ≠ gb ∧ b ≠ pb
  len : ms.length ≤ 60 ∧ ix.length ≤ 30

variable {w w1 w2 : World} {X p : Nat → Prop} {gb pb sb mb rb rev rev' : Nat} {mv iv mv' iv' : Value} {ms ix ms' ix' : List Tt} {root root' : ByteArray}

theorem DocAt.of_turn {B eb : Nat} (h : DocAt w B eb mv iv ms ix root rev) (ht : Turn p w w1) (hp : ∀ b, (b = eb ∨ mv.ownBlock = some b ∨ iv.ownBlock = some b) → ¬ p b) : DocAt w1 B eb mv iv ms ix root rev :=
  have k := ht.block eb h.f0.lt (hp eb (Or.inl rfl))
  ⟨h.f0.of_block k, h.f1.of_block k, h.f2.of_block k, h.f3.of_block k, own_of_block h.om (fun b e => ht.block b (h.om.lt b e).2 (hp b (Or.inr (Or.inl e)))), own_of_block h.oi (fun b e => ht.block b (h.oi.lt b e).2 (hp b (Or.inr (Or.inr e)))), h.ne, Nat.le_trans h.ba ht.size⟩

theorem PairAt.of_turn (h : PairAt w X gb pb sb mb rb mv iv ms ix root rev) (ht : Turn p w w1) (hp : ∀ b, X b → ¬ p b) : PairAt w1 X gb pb sb mb rb mv iv ms ix root rev :=
  have lt : ∀ b, X b → b < w1.heap.size := fun b hb => Nat.lt_of_lt_of_le (h.lt b hb) ht.size
  have hg : X gb := h.own gb (Or.inl rfl)
  have hpb : X pb := h.own pb (Or.inr (Or.inl rfl))
  have hsb : X sb := h.own sb (Or.inr (Or.inr (Or.inl rfl)))
  have hmb : X mb := h.own mb (Or.inr (Or.inr (Or.inr (Or.inl rfl))))
  ⟨by rw [ht.cell (a := ⟨gb, 0, none⟩) (h.lt _ hg) (hp _ hg)]; exact h.g0, by rw [ht.cell (a := ⟨gb, 1, none⟩) (h.lt _ hg) (hp _ hg)]; exact h.g1, by rw [ht.cell (a := ⟨pb, 0, none⟩) (h.lt _ hpb) (hp _ hpb)]; exact h.p0,
    h.sh.of_block (ht.block sb (h.lt _ hsb) (hp _ hsb)) (ht.block mb (h.lt _ hmb) (hp _ hmb)),
    h.dc.of_turn ht (fun b hb => hp b (h.own b (Or.inr (Or.inr (Or.inr (Or.inr hb)))))), h.own, lt, h.sp, h.dp, h.len⟩

theorem PairAt.below (h : PairAt w X gb pb sb mb rb mv iv ms ix root rev) (hb : Below w.heap.size w w1) : PairAt w1 X gb pb sb mb rb mv iv ms ix root rev :=
  h.of_turn (p := fun _ => False) (Turn.of_below hb) (fun _ _ h => h)

/-- The document's half behind the program's edit. -/
theorem PairAt.half (h : PairAt w X gb pb sb mb rb mv iv ms ix root rev) (ht : Turn (fun b => b = sb ∨ b = mb) w w1) : DocAt w1 0 rb mv iv ms ix root rev ∧ w1.cell? ⟨gb, 1, none⟩ = some (.pointer (some ⟨rb, 0, none⟩)) := by
  refine ⟨h.dc.of_turn ht (fun b hb hb2 => ?_), ?_⟩
  · obtain ⟨_, _, n1, n2, n3⟩ := h.sp b hb2
    rcases hb with e | e | e
    · exact n1 e
    · exact n2 e
    · exact n3 e
  · have hg := h.lt _ (h.own gb (Or.inl rfl))
    rw [ht.cell (a := ⟨gb, 1, none⟩) hg (fun e => (h.sp gb e).1 rfl)]
    exact h.g1

/-- Both have edited. -/
theorem PairAt.done (h : PairAt w X gb pb sb mb rb mv iv ms ix root rev) (ht1 : Turn (fun b => b = sb ∨ b = mb) w w1) (hs : ShelfAt w1 sb mb rev' (ents ms' ix' root')) (hd : DocAt w2 0 rb mv' iv' ms' ix' root' rev')
    (ht2 : Turn (fun b => b = rb ∨ mv.ownBlock = some b ∨ iv.ownBlock = some b) w1 w2) (hm : Near w1 mv mv') (hi : Near w1 iv iv') (hl : ms'.length ≤ 60 ∧ ix'.length ≤ 30) :
    PairAt w2 (fun b => X b ∨ (w.heap.size ≤ b ∧ b < w2.heap.size)) gb pb sb mb rb mv' iv' ms' ix' root' rev' ∧ Turn X w w2 := by
  have hg : X gb := h.own gb (Or.inl rfl)
  have hpb : X pb := h.own pb (Or.inr (Or.inl rfl))
  have hsb : X sb := h.own sb (Or.inr (Or.inr (Or.inl rfl)))
  have hmb : X mb := h.own mb (Or.inr (Or.inr (Or.inr (Or.inl rfl))))
  have hrb : X rb := h.own rb (Or.inr (Or.inr (Or.inr (Or.inr (Or.inl rfl)))))
  have sz1 := ht1.size
  have sz2 := ht2.size
  have ht : Turn X w w2 := ht1.trans ht2 (fun b _ e => e.elim (fun e => by rw [e]; exact hsb) (fun e => by rw [e]; exact hmb)) (fun b _ e => h.own b (Or.inr (Or.inr (Or.inr (Or.inr e)))))
  have gl := h.lt _ hg
  have pl := h.lt _ hpb
  have sl := h.lt _ hsb
  have ml := h.lt _ hmb
  have cg : ∀ o, w2.cell? ⟨gb, o, none⟩ = w.cell? ⟨gb, o, none⟩ := fun o => by
    rw [ht2.cell (a := ⟨gb, o, none⟩) (Nat.lt_of_lt_of_le gl sz1) (fun e => (h.dp gb e).1 rfl), ht1.cell (a := ⟨gb, o, none⟩) gl (fun e => (h.sp gb e).1 rfl)]
  have cp : w2.cell? ⟨pb, 0, none⟩ = w.cell? ⟨pb, 0, none⟩ := by
    rw [ht2.cell (a := ⟨pb, 0, none⟩) (Nat.lt_of_lt_of_le pl sz1) (fun e => (h.dp pb e).2 rfl), ht1.cell (a := ⟨pb, 0, none⟩) pl (fun e => (h.sp pb e).2.1 rfl)]
  have off : ∀ b, (b = sb ∨ b = mb) → ¬ (b = rb ∨ mv.ownBlock = some b ∨ iv.ownBlock = some b) := fun b hb e => by
    obtain ⟨_, _, n1, n2, n3⟩ := h.sp b hb
    rcases e with e | e | e
    · exact n1 e
    · exact n2 e
    · exact n3 e
  refine ⟨⟨by rw [cg]; exact h.g0, by rw [cg]; exact h.g1, by rw [cp]; exact h.p0, hs.of_block (ht2.block sb (Nat.lt_of_lt_of_le sl sz1) (off sb (Or.inl rfl))) (ht2.block mb (Nat.lt_of_lt_of_le ml sz1) (off mb (Or.inr rfl))), hd, ?_, ?_, ?_, ?_, hl⟩, ht⟩
  · intro b hb
    rcases hb with e | e | e | e | e | e | e
    · exact Or.inl (by rw [e]; exact hg)
    · exact Or.inl (by rw [e]; exact hpb)
    · exact Or.inl (by rw [e]; exact hsb)
    · exact Or.inl (by rw [e]; exact hmb)
    · exact Or.inl (by rw [e]; exact hrb)
    · rcases hm b e with k | k
      · exact Or.inl (h.own b (Or.inr (Or.inr (Or.inr (Or.inr (Or.inr (Or.inl k)))))))
      · exact Or.inr ⟨by omega, (hd.om.lt b e).2⟩
    · rcases hi b e with k | k
      · exact Or.inl (h.own b (Or.inr (Or.inr (Or.inr (Or.inr (Or.inr (Or.inr k)))))))
      · exact Or.inr ⟨by omega, (hd.oi.lt b e).2⟩
  · intro b hb
    rcases hb with k | k
    · have := h.lt b k; omega
    · exact k.2
  · intro b hb
    obtain ⟨n1, n2, n3, n4, n5⟩ := h.sp b hb
    have hbl : b < w.heap.size := hb.elim (fun e => by rw [e]; exact sl) (fun e => by rw [e]; exact ml)
    refine ⟨n1, n2, n3, fun e => ?_, fun e => ?_⟩
    · rcases hm b e with k | k
      · exact n4 k
      · omega
    · rcases hi b e with k | k
      · exact n5 k
      · omega
  · intro b hb
    rcases hb with e | e | e
    · exact h.dp b (Or.inl e)
    · rcases hm b e with k | k
      · exact h.dp b (Or.inr (Or.inl k))
      · exact ⟨by omega, by omega⟩
    · rcases hi b e with k | k
      · exact h.dp b (Or.inr (Or.inr k))
      · exact ⟨by omega, by omega⟩

set_option maxRecDepth 100000 in
theorem num_any (n : Int) (w : World) : Calls Tryz.prog 12 #[.int .i64 n] w fun e w' => e = .returned (.int .i64 n) ∧ w' = w := by
  go_enter Tryz.func12, Tryz.ntmps12
  go_wp2
  go_ret
  exact ⟨rfl, rfl⟩

set_option maxRecDepth 100000 in
set_option maxHeartbeats 2000000 in
theorem begin_no (c : Int) (w : World) (hc : c < 1) : Calls Tryz.prog 6 #[.int .i64 c] w fun e w' => e = .returned (.tuple #[.pointer none, .bool true]) ∧ w' = w := by
  have k1 := eNew_no c w hc
  have k2 := docNew_no c w hc
  have kn := fun W => num_any 1 W
  clear hc
  go_enter Tryz.func6, Tryz.ntmps6
  go_wp2_with (go_at_call 10; fail)
  go_at_call 10
  refine k1.mono ?_
  intro e w1 h1
  rw [h1.1, h1.2]
  clear k1 h1
  go_wp2_with (go_at_call 11; fail)
  go_at_call 11
  refine k2.mono ?_
  intro e w1 h1
  rw [h1.1, h1.2]
  clear k2 h1
  go_wp2_with (go_at_call 12; refine (kn _).mono ?_; rintro e w' ⟨rfl, rfl⟩)
  go_ret2
  exact ⟨rfl, rfl⟩

set_option maxRecDepth 100000 in
set_option maxHeartbeats 2000000 in
theorem begin_yes (c : Int) (w : World) (hc : ¬ c < 1) : Calls Tryz.prog 6 #[.int .i64 c] w fun e w' => ∃ gb pb sb mb rb, e = .returned (.tuple #[.pointer (some ⟨gb, 0, none⟩), .bool true]) ∧ PairAt w' (fun b => w.heap.size ≤ b ∧ b < w'.heap.size) gb pb sb mb rb (.slice none 0 0) (.slice none 0 0) [] [] ⟨#[]⟩ 0 ∧ Below w.heap.size w w' := by
  have k1 := eNew_yes c w hc
  have k2 := fun W => docNew_yes c W hc
  have kn := fun W => num_any 0 W
  clear hc
  go_enter Tryz.func6, Tryz.ntmps6
  go_wp2_with (go_at_call 10; fail)
  go_at_call 10
  refine k1.mono ?_
  rintro e w1 ⟨pb, sb, mb, rfl, hc0, hs, hb, l1, l2, l3, l4, l5⟩
  have H1 : Hid (w1.cell? ⟨pb, 0, none⟩ = some (.pointer (some ⟨sb, 0, none⟩)) ∧ ShelfAt w1 sb mb 0 [] ∧ Below w.heap.size w w1 ∧ w.heap.size ≤ sb ∧ w.heap.size ≤ mb ∧ sb < pb ∧ mb < pb ∧ pb < w1.heap.size) := ⟨hc0, hs, hb, l1, l2, l3, l4, l5⟩
  clear k1 hc0 hs hb l1 l2 l3 l4 l5
  go_wp2_with (go_at_call 11; fail)
  go_at_call 11
  refine (k2 _).mono ?_
  intro e w2 h1
  rw [h1.1, h1.2]
  clear k2 h1
  go_wp2_with (go_at_call 12; refine (kn _).mono ?_; rintro e w' ⟨rfl, rfl⟩)
  go_ret2
  obtain ⟨hc0, hs, hb, l1, l2, l3, l4, l5⟩ := H1.out
  have hbA : Below w1.heap.size w1 (w1.alloc newDoc) := (Below.refl _ _).alloc (Nat.le_refl _) _
  have sA : (w1.alloc newDoc).heap.size = w1.heap.size + 1 := by simp
  have hd : DocAt (w1.alloc newDoc) 0 w1.heap.size (.slice none 0 0) (.slice none 0 0) [] [] ⟨#[]⟩ 0 :=
    ⟨new_cell w1 _ 61 rfl, new_cell w1 _ 61 rfl, new_cell w1 _ 61 rfl, new_cell w1 _ 61 rfl, World.ownsRow_nil _ _ _ _, World.ownsRow_nil _ _ _ _, ⟨(fun e => by cases e), (fun e => by cases e), (fun _ e => by cases e)⟩, Nat.zero_le _⟩
  have hbB : Below (w1.alloc newDoc).heap.size (w1.alloc newDoc) ((w1.alloc newDoc).alloc (.cells #[.pointer (some ⟨pb, 0, none⟩), .pointer (some ⟨w1.heap.size, 0, none⟩), .int .i64 c] 49)) := (Below.refl _ _).alloc (Nat.le_refl _) _
  have sB : ((w1.alloc newDoc).alloc (.cells #[.pointer (some ⟨pb, 0, none⟩), .pointer (some ⟨w1.heap.size, 0, none⟩), .int .i64 c] 49)).heap.size = w1.heap.size + 2 := by simp
  have gc := fun j u => new_cell (w1.alloc newDoc) #[.pointer (some ⟨pb, 0, none⟩), .pointer (some ⟨w1.heap.size, 0, none⟩), .int .i64 c] 49 (j := j) (u := u)
  rw [sA] at gc
  have hb1 := hb.size
  have hall : Below w1.heap.size w1 ((w1.alloc newDoc).alloc (.cells #[.pointer (some ⟨pb, 0, none⟩), .pointer (some ⟨w1.heap.size, 0, none⟩), .int .i64 c] 49)) := hbA.trans (hbB.mono hbA.size)
  refine ⟨w1.heap.size + 1, pb, sb, mb, w1.heap.size, rfl, ⟨(gc 0 _ rfl).1, (gc 1 _ rfl).1, ?_, (hs.below hall), hd.below hbB, ?_, fun b h => h.2, ?_, ?_, by simp⟩, hb.trans (hall.mono hb1)⟩
  · rw [hall.cell (p := ⟨pb, 0, none⟩) l5]; exact hc0
  · intro b h
    rw [sB]
    rcases h with e | e | e | e | e | e | e
    · omega
    · omega
    · omega
    · omega
    · omega
    · cases e
    · cases e
  · intro b h
    refine ⟨by omega, by omega, by omega, (fun e => by cases e), (fun e => by cases e)⟩
  · intro b h
    rcases h with e | e | e
    · exact ⟨by omega, by omega⟩
    · cases e
    · cases e

end Ed
end Go.Proofs.YtiamomiafekihaaGreatDoor
