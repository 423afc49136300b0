/-
  Edits: one step of a script.
-/
import Derived.Test.YtiamomiafekihaaGreatDoorE13
namespace Go.Proofs.YtiamomiafekihaaGreatDoor
open Go.RowKit
namespace Ed

/-- A step in a block of its own. -/
structure BoxO (W : World) (b : Nat) (kd hh : Int) (p v s : ByteArray) : Prop where
  c0 : W.cell? ⟨b, 0, none⟩ = some (.int .i64 kd)
  c1 : W.cell? ⟨b, 1, none⟩ = some (.int .i64 hh)
  c2 : W.cell? ⟨b, 2, none⟩ = some (.string p)
  c3 : W.cell? ⟨b, 3, none⟩ = some (.string v)
  c4 : W.cell? ⟨b, 4, none⟩ = some (.string s)
  lt : b < W.heap.size

variable {w w1 w2 : World} {X : Nat → Prop} {gb pb sb mb rb rev wb bx j : Nat} {mv iv : Value} {ms ix : List Tt} {root p v s : ByteArray} {kd hh : Int}

theorem BoxO.of_block {W W' : World} (h : BoxO W bx kd hh p v s) (e : W'.heap[bx]? = W.heap[bx]?) (hs : W.heap.size ≤ W'.heap.size) : BoxO W' bx kd hh p v s :=
  ⟨by rw [World.cell?_of_block (w := W) (a := ⟨bx, 0, none⟩) e]; exact h.c0, by rw [World.cell?_of_block (w := W) (a := ⟨bx, 1, none⟩) e]; exact h.c1, by rw [World.cell?_of_block (w := W) (a := ⟨bx, 2, none⟩) e]; exact h.c2, by rw [World.cell?_of_block (w := W) (a := ⟨bx, 3, none⟩) e]; exact h.c3, by rw [World.cell?_of_block (w := W) (a := ⟨bx, 4, none⟩) e]; exact h.c4, Nat.lt_of_lt_of_le h.lt hs⟩

theorem BoxO.new (w : World) (kd hh nn : Int) (p v s : ByteArray) : BoxO (w.alloc (.cells #[.int .i64 kd, .int .i64 hh, .string p, .string v, .string s, .int .i64 nn] 37)) w.heap.size kd hh p v s :=
  have h := fun j u => new_cell w #[.int .i64 kd, .int .i64 hh, .string p, .string v, .string s, .int .i64 nn] 37 (j := j) (u := u)
  ⟨(h 0 _ rfl).1, (h 1 _ rfl).1, (h 2 _ rfl).1, (h 3 _ rfl).1, (h 4 _ rfl).1, by simp⟩

theorem bit_one (h : Int) : bits .and .i64 h 1 = 0 ∨ bits .and .i64 h 1 = 1 := by
  have e : (BitVec.ofInt 64 h &&& BitVec.ofInt 64 1).toNat = (BitVec.ofInt 64 h).toNat % 2 := by
    rw [BitVec.toNat_and]
    have h1 : (BitVec.ofInt 64 1).toNat = 1 := by decide
    rw [h1, Nat.and_one_is_mod]
  have k : bits .and .i64 h 1 = IntKind.i64.wrap (((BitVec.ofInt 64 h &&& BitVec.ofInt 64 1).toNat : Nat) : Int) := rfl
  rw [k, e]
  rcases Nat.mod_two_eq_zero_or_one (BitVec.ofInt 64 h).toNat with e | e <;> rw [e]
  · left; decide
  · right; decide

/-- Behind a step. -/
def After (X : Nat → Prop) (w : World) (gb pb sb mb rb rev : Nat) (w' : World) : Prop :=
  Turn X w w' ∧ ∃ (mv iv : Value) (ms ix : List Tt) (root : ByteArray) (rev' : Nat), PairAt w' (fun b => X b ∨ (w.heap.size ≤ b ∧ b < w'.heap.size)) gb pb sb mb rb mv iv ms ix root rev' ∧ rev' ≤ rev + 1

theorem PairAt.mono {Y : Nat → Prop} (h : PairAt w X gb pb sb mb rb mv iv ms ix root rev) (hy : ∀ b, X b → Y b) (hl : ∀ b, Y b → b < w.heap.size) : PairAt w Y gb pb sb mb rb mv iv ms ix root rev :=
  ⟨h.g0, h.g1, h.p0, h.sh, h.dc, fun b hb => hy b (h.own b hb), hl, h.sp, h.dp, h.len⟩

theorem drew_below (w : World) : Below w.heap.size w w.drew := (Below.refl _ _).drew

theorem after_done {WA w3 w4 : World} {p2 : Nat → Prop} {mv' iv' : Value} {ms' ix' : List Tt} {root' : ByteArray} {rev' : Nat} (h : PairAt WA X gb pb sb mb rb mv iv ms ix root rev) (hbA : Below w.heap.size w WA) (ht1 : Turn (fun b => b = sb ∨ b = mb) WA.drew w3) (hs : ShelfAt w3 sb mb rev' (ents ms' ix' root')) (ht2 : Turn p2 w3.drew w4)
    (hp2 : ∀ b, p2 b → b = rb ∨ mv.ownBlock = some b ∨ iv.ownBlock = some b) (hd : DocAt w4 0 rb mv' iv' ms' ix' root' rev') (hm : Near w3.drew mv mv') (hi : Near w3.drew iv iv') (hl : ms'.length ≤ 60 ∧ ix'.length ≤ 30) (hr : rev' ≤ rev + 1) (hX : ∀ b, X b → b < w.heap.size) : After X w gb pb sb mb rb rev w4 := by
  have ht1' : Turn (fun b => b = sb ∨ b = mb) WA w3 := (Turn.of_below (p := fun b => b = sb ∨ b = mb) (drew_below WA)).trans ht1 (fun _ _ e => e) (fun _ _ e => e)
  have ht2' : Turn (fun b => b = rb ∨ mv.ownBlock = some b ∨ iv.ownBlock = some b) w3 w4 := (Turn.of_below (p := fun _ => False) (drew_below w3)).trans ht2 (fun _ _ e => e.elim) (fun b _ e => hp2 b e)
  obtain ⟨h1, h2⟩ := h.done ht1' hs hd ht2' hm hi hl
  have sA := hbA.size
  have s4 := h2.size
  refine ⟨(Turn.of_below (p := X) hbA).trans h2 (fun _ _ e => e) (fun _ _ e => e), mv', iv', ms', ix', root', rev', h1.mono (fun b hb => ?_) (fun b hb => ?_), hr⟩
  · rcases hb with k | k
    · exact Or.inl k
    · exact Or.inr ⟨by omega, k.2⟩
  · rcases hb with k | k
    · have := hX b k; omega
    · exact k.2

theorem after_same {WA : World} (h : PairAt WA X gb pb sb mb rb mv iv ms ix root rev) (hbA : Below w.heap.size w WA) : After X w gb pb sb mb rb rev WA := by
  refine ⟨Turn.of_below hbA, mv, iv, ms, ix, root, rev, h.mono (fun b hb => Or.inl hb) (fun b hb => ?_), by omega⟩
  rcases hb with k | k
  · exact h.lt b k
  · exact k.2

theorem BoxO.turn {W W' : World} {q : Nat → Prop} (h : BoxO W bx kd hh p v s) (ht : Turn q W.drew W') (hn : ¬ q bx) : BoxO W' bx kd hh p v s := h.of_block (ht.block bx h.lt hn) ht.size

theorem PairAt.gcell {WA w3 : World} (h : PairAt WA X gb pb sb mb rb mv iv ms ix root rev) (ht : Turn (fun b => b = sb ∨ b = mb) WA.drew w3) (o : Nat) : w3.cell? ⟨gb, o, none⟩ = WA.cell? ⟨gb, o, none⟩ :=
  ht.cell (a := ⟨gb, o, none⟩) (h.lt _ (h.own gb (Or.inl rfl))) (fun e => (h.sp gb e).1 rfl)

theorem PairAt.gcell2 {WA w3 w4 : World} {p2 : Nat → Prop} (h : PairAt WA X gb pb sb mb rb mv iv ms ix root rev) (hs : WA.heap.size ≤ w3.heap.size) (ht : Turn p2 w3.drew w4) (hp2 : ∀ b, p2 b → b = rb ∨ mv.ownBlock = some b ∨ iv.ownBlock = some b) (o : Nat) : w4.cell? ⟨gb, o, none⟩ = w3.cell? ⟨gb, o, none⟩ :=
  ht.cell (a := ⟨gb, o, none⟩) (Nat.lt_of_lt_of_le (h.lt _ (h.own gb (Or.inl rfl))) hs) (fun e => (h.dp gb (hp2 gb e)).1 rfl)

theorem PairAt.off {WA : World} (h : PairAt WA X gb pb sb mb rb mv iv ms ix root rev) (hX : ¬ X bx) : ∀ b, (b = rb ∨ mv.ownBlock = some b ∨ iv.ownBlock = some b) → b ≠ bx := fun b e k => hX (k ▸ h.own b (Or.inr (Or.inr (Or.inr (Or.inr e)))))

theorem putOf_len (l : List Tt) (t : Tt) (most : Nat) (er : Int) (h : l.length ≤ most) : (putOf l t most er).1.length ≤ most := by
  unfold putOf
  split
  · exact laidOf_len l t most h
  · exact h

theorem putOf_rise (l : List Tt) (t : Tt) (most : Nat) (er : Int) : (putOf l t most er).2.2 ≤ 1 := by
  unfold putOf laidOf
  split
  · split
    · split <;> simp
    · split <;> simp
  · simp

theorem dropOf_rise (l : List Tt) (p v : ByteArray) (er : Int) : (dropOf l p v er).2 ≤ 1 := by
  unfold dropOf
  split
  · split <;> simp
  · simp

theorem rootOf_rise (r p : ByteArray) : (rootOf r p).2 ≤ 1 := by
  unfold rootOf
  split
  · split <;> simp
  · simp

set_option maxRecDepth 100000 in
set_option maxHeartbeats 4000000 in
theorem step1 (hh nn : Int) (p v s : ByteArray) (w : World) (h : PairAt w X gb pb sb mb rb mv iv ms ix root rev) (hm : Ml w) (hj : bits BinOp.and IntKind.i64 hh 1 = ((j : Nat) : Int)) (hjl : j < 2) (hw : w.cell? ⟨wb, j, none⟩ = some (.pointer (some ⟨gb, 0, none⟩))) (hp : p.size < 281474976710656) (hv : v.size < 281474976710656) (hs : s.size < 281474976710656) (hr : rev < 4611686018427387900) :
    Calls Tryz.prog 7 #[.pointer (some ⟨wb, 0, none⟩), .agg #[.int .i64 1, .int .i64 hh, .string p, .string v, .string s, .int .i64 nn]] w fun e w' => e = .returned (.bool true) ∧ After X w gb pb sb mb rb rev w' := by
  have hj0 : (0 : Int) ≤ (j : Int) := by omega
  have hj2 : (j : Int) < 2 := by omega
  have hbB : Below w.heap.size w (w.alloc (.cells #[.int .i64 1, .int .i64 hh, .string p, .string v, .string s, .int .i64 nn] 37)) := (Below.refl _ _).alloc (Nat.le_refl _) _
  have HB : Hid (Below w.heap.size w (w.alloc (.cells #[.int .i64 1, .int .i64 hh, .string p, .string v, .string s, .int .i64 nn] 37)).drew) := hbB.drew
  have HX : Hid (BoxO (w.alloc (.cells #[.int .i64 1, .int .i64 hh, .string p, .string v, .string s, .int .i64 nn] 37)).drew w.heap.size 1 hh p v s) := (BoxO.new w 1 hh nn p v s).of_block rfl (Nat.le_refl _)
  have HP : Hid (PairAt (w.alloc (.cells #[.int .i64 1, .int .i64 hh, .string p, .string v, .string s, .int .i64 nn] 37)).drew X gb pb sb mb rb mv iv ms ix root rev) := h.below HB.out
  have HM : Hid (Ml (w.alloc (.cells #[.int .i64 1, .int .i64 hh, .string p, .string v, .string s, .int .i64 nn] 37)).drew) := hm.below HB.out
  have hw1 : (w.alloc (.cells #[.int .i64 1, .int .i64 hh, .string p, .string v, .string s, .int .i64 nn] 37)).cell? ⟨wb, j, none⟩ = some (.pointer (some ⟨gb, 0, none⟩)) := by
    rw [hbB.cell (p := ⟨wb, j, none⟩) (World.block_lt_of_cell? w _ hw)]; exact hw
  have HLT : Hid ((∀ b, X b → b < w.heap.size) ∧ sb < w.heap.size ∧ mb < w.heap.size) := ⟨h.lt, h.sh.f0.lt, h.sh.map.lt⟩
  clear h hm hw hbB
  go_enter Tryz.func7, Tryz.ntmps7
  go_upto_region 1 with fail
  go_region
  all_goals
    clear hw1 hj hj0 hj2 hjl
    generalize (w.alloc (.cells #[.int .i64 1, .int .i64 hh, .string p, .string v, .string s, .int .i64 nn] 37)).drew = WA at *
    generalize hbx : w.heap.size = bx at HX
    have HBX : Hid (w.heap.size = bx) := hbx
    clear hbx
    obtain ⟨x0, x1, x2, x3, x4, _⟩ := HX.out
    have a0 := HP.out.g0
    have k1 := ePutManifest (pb := pb) (sb := sb) p v s WA.drew HP.out.p0 (sPutManifest p v s WA.drew (HP.out.sh.of_block rfl rfl) (HM.out.below (drew_below WA)) (by have := HP.out.len; omega) hp (by omega) (by omega) (by omega))
    have HNX : Hid (¬ X bx ∧ ¬ (bx = sb ∨ bx = mb)) := by
      have h1 := HLT.out
      have h2 := HBX.out
      exact ⟨fun h => by have := h1.1 bx h; omega, by omega⟩
    go_upto_region 4 with fail
    go_region_held3 (fun w' => w'.cell? ⟨gb, 0, none⟩ = some (.pointer (some ⟨pb, 0, none⟩)) ∧ w'.cell? ⟨bx, 2, none⟩ = some (.string p) ∧ w'.cell? ⟨bx, 3, none⟩ = some (.string v) ∧ w'.cell? ⟨bx, 4, none⟩ = some (.string s))
      (first | exact ⟨a0, x2, x3, x4⟩ | exact ⟨HG3.out, HX3.out.c2, HX3.out.c3, HX3.out.c4⟩)
      (first | (go_at_call 13; refine k1.mono ?_; rintro e w3 ⟨rfl, hs3, ht3⟩; have HG3 : Hid (w3.cell? ⟨gb, 0, none⟩ = some (.pointer (some ⟨pb, 0, none⟩))) := (HP.out.gcell ht3 0).trans a0; have HX3 : Hid (BoxO w3 bx 1 hh p v s) := HX.out.turn ht3 HNX.out.2))
    all_goals
      have HS3 : Hid (ShelfAt w3 sb mb (rev + (putOf ms ⟨p, v, s⟩ 60 (nameErr p v)).2.2) (ents (putOf ms ⟨p, v, s⟩ 60 (nameErr p v)).1 ix root)) := hs3
      have HT3 : Hid (Turn (fun b => b = sb ∨ b = mb) WA.drew w3) := ht3
      have HT3' : Hid (Turn (fun b => b = sb ∨ b = mb) WA w3) := (Turn.of_below (p := fun b => b = sb ∨ b = mb) (drew_below WA)).trans ht3 (fun _ _ e => e) (fun _ _ e => e)
      have HD3 : Hid (DocAt w3 0 rb mv iv ms ix root rev ∧ w3.cell? ⟨gb, 1, none⟩ = some (.pointer (some ⟨rb, 0, none⟩))) := HP.out.half HT3'.out
      clear k1 hs3 ht3 HT3' x0 x1 x2 x3 x4 a0 HG3
      obtain ⟨x0, x1, x2, x3, x4, _⟩ := HX3.out
      have a1 := HD3.out.2
      have hlen := HP.out.len
      have k2 := docPutManifest p v s w3.drew (HD3.out.1.below (drew_below w3)) (by omega) (by omega) (by omega)
      go_upto_region 5 with fail
      go_region_held3 (fun w' => w'.cell? ⟨gb, 1, none⟩ = some (.pointer (some ⟨rb, 0, none⟩)) ∧ w'.cell? ⟨bx, 2, none⟩ = some (.string p) ∧ w'.cell? ⟨bx, 3, none⟩ = some (.string v) ∧ w'.cell? ⟨bx, 4, none⟩ = some (.string s))
        (first | exact ⟨a1, x2, x3, x4⟩ | exact ⟨HG4.out, HX4.out.c2, HX4.out.c3, HX4.out.c4⟩)
        (first | (go_at_call 14; refine k2.mono ?_; rintro e w4 ⟨rfl, mv', hd4, ht4, hn4⟩; have HG4 : Hid (w4.cell? ⟨gb, 1, none⟩ = some (.pointer (some ⟨rb, 0, none⟩))) := (HP.out.gcell2 HT3.out.size ht4 (fun b e => e.elim Or.inl (fun e => Or.inr (Or.inl e))) 1).trans a1; have HX4 : Hid (BoxO w4 bx 1 hh p v s) := HX3.out.turn ht4 (fun e => HP.out.off HNX.out.1 bx ((fun b e => e.elim Or.inl (fun e => Or.inr (Or.inl e))) bx e) rfl)))
      all_goals
        have HA : Hid (After X w gb pb sb mb rb rev w4) := after_done HP.out HB.out HT3.out HS3.out ht4 (fun b e => e.elim Or.inl (fun e => Or.inr (Or.inl e))) hd4 hn4 (Near.refl _ _) ⟨putOf_len _ _ _ _ hlen.1, hlen.2⟩ (by have := putOf_rise ms ⟨p, v, s⟩ 60 (nameErr p v); omega) HLT.out.1
        clear k2 x0 x1 x2 x3 x4 a1 HX3 HX HS3 HT3 HD3 HP HM HB HG4 HX4 hd4 ht4 hn4
        go_wp2_with (go_at_call 12; refine (num_any _ _).mono ?_; rintro e w' ⟨rfl, rfl⟩)
        go_ret
        exact ⟨rfl, HA.out⟩

set_option maxRecDepth 100000 in
set_option maxHeartbeats 4000000 in
theorem step2 (hh nn : Int) (p v s : ByteArray) (w : World) (h : PairAt w X gb pb sb mb rb mv iv ms ix root rev) (hm : Ml w) (hj : bits BinOp.and IntKind.i64 hh 1 = ((j : Nat) : Int)) (hjl : j < 2) (hw : w.cell? ⟨wb, j, none⟩ = some (.pointer (some ⟨gb, 0, none⟩))) (hp : p.size < 281474976710656) (hv : v.size < 281474976710656) (_hs : s.size < 281474976710656) (hr : rev < 4611686018427387900) :
    Calls Tryz.prog 7 #[.pointer (some ⟨wb, 0, none⟩), .agg #[.int .i64 2, .int .i64 hh, .string p, .string v, .string s, .int .i64 nn]] w fun e w' => e = .returned (.bool true) ∧ After X w gb pb sb mb rb rev w' := by
  have hj0 : (0 : Int) ≤ (j : Int) := by omega
  have hj2 : (j : Int) < 2 := by omega
  have hbB : Below w.heap.size w (w.alloc (.cells #[.int .i64 2, .int .i64 hh, .string p, .string v, .string s, .int .i64 nn] 37)) := (Below.refl _ _).alloc (Nat.le_refl _) _
  have HB : Hid (Below w.heap.size w (w.alloc (.cells #[.int .i64 2, .int .i64 hh, .string p, .string v, .string s, .int .i64 nn] 37)).drew) := hbB.drew
  have HX : Hid (BoxO (w.alloc (.cells #[.int .i64 2, .int .i64 hh, .string p, .string v, .string s, .int .i64 nn] 37)).drew w.heap.size 2 hh p v s) := (BoxO.new w 2 hh nn p v s).of_block rfl (Nat.le_refl _)
  have HP : Hid (PairAt (w.alloc (.cells #[.int .i64 2, .int .i64 hh, .string p, .string v, .string s, .int .i64 nn] 37)).drew X gb pb sb mb rb mv iv ms ix root rev) := h.below HB.out
  have HM : Hid (Ml (w.alloc (.cells #[.int .i64 2, .int .i64 hh, .string p, .string v, .string s, .int .i64 nn] 37)).drew) := hm.below HB.out
  have hw1 : (w.alloc (.cells #[.int .i64 2, .int .i64 hh, .string p, .string v, .string s, .int .i64 nn] 37)).cell? ⟨wb, j, none⟩ = some (.pointer (some ⟨gb, 0, none⟩)) := by
    rw [hbB.cell (p := ⟨wb, j, none⟩) (World.block_lt_of_cell? w _ hw)]; exact hw
  have HLT : Hid ((∀ b, X b → b < w.heap.size) ∧ sb < w.heap.size ∧ mb < w.heap.size) := ⟨h.lt, h.sh.f0.lt, h.sh.map.lt⟩
  clear h hm hw hbB
  go_enter Tryz.func7, Tryz.ntmps7
  go_upto_region 1 with fail
  go_region
  all_goals
    clear hw1 hj hj0 hj2 hjl
    generalize (w.alloc (.cells #[.int .i64 2, .int .i64 hh, .string p, .string v, .string s, .int .i64 nn] 37)).drew = WA at *
    generalize hbx : w.heap.size = bx at HX
    have HBX : Hid (w.heap.size = bx) := hbx
    clear hbx
    obtain ⟨x0, x1, x2, x3, x4, _⟩ := HX.out
    have a0 := HP.out.g0
    have k1 := eDropManifest (pb := pb) (sb := sb) p v WA.drew HP.out.p0 (sDropManifest (ms := ms) (ix := ix) (root := root) p v WA.drew (HP.out.sh.of_block rfl rfl) (HM.out.below (drew_below WA)) hp (by omega) (by omega))
    have HNX : Hid (¬ X bx ∧ ¬ (bx = sb ∨ bx = mb)) := by
      have h1 := HLT.out
      have h2 := HBX.out
      exact ⟨fun h => by have := h1.1 bx h; omega, by omega⟩
    go_upto_region 8 with fail
    go_region_held3 (fun w' => w'.cell? ⟨gb, 0, none⟩ = some (.pointer (some ⟨pb, 0, none⟩)) ∧ w'.cell? ⟨bx, 2, none⟩ = some (.string p) ∧ w'.cell? ⟨bx, 3, none⟩ = some (.string v) ∧ w'.cell? ⟨bx, 4, none⟩ = some (.string s))
      (first | exact ⟨a0, x2, x3, x4⟩ | exact ⟨HG3.out, HX3.out.c2, HX3.out.c3, HX3.out.c4⟩)
      (first | (go_at_call 15; refine k1.mono ?_; rintro e w3 ⟨rfl, hs3, ht3⟩; have HG3 : Hid (w3.cell? ⟨gb, 0, none⟩ = some (.pointer (some ⟨pb, 0, none⟩))) := (HP.out.gcell ht3 0).trans a0; have HX3 : Hid (BoxO w3 bx 2 hh p v s) := HX.out.turn ht3 HNX.out.2))
    all_goals
      have HS3 : Hid (ShelfAt w3 sb mb (rev + (dropOf ms p v (nameErr p v)).2) (ents (dropOf ms p v (nameErr p v)).1 ix root)) := hs3
      have HT3 : Hid (Turn (fun b => b = sb ∨ b = mb) WA.drew w3) := ht3
      have HT3' : Hid (Turn (fun b => b = sb ∨ b = mb) WA w3) := (Turn.of_below (p := fun b => b = sb ∨ b = mb) (drew_below WA)).trans ht3 (fun _ _ e => e) (fun _ _ e => e)
      have HD3 : Hid (DocAt w3 0 rb mv iv ms ix root rev ∧ w3.cell? ⟨gb, 1, none⟩ = some (.pointer (some ⟨rb, 0, none⟩))) := HP.out.half HT3'.out
      clear k1 hs3 ht3 HT3' x0 x1 x2 x3 x4 a0 HG3
      obtain ⟨x0, x1, x2, x3, x4, _⟩ := HX3.out
      have a1 := HD3.out.2
      have hlen := HP.out.len
      have k2 := docDropManifest p v w3.drew (HD3.out.1.below (drew_below w3)) (by omega) (by omega) (by omega)
      go_upto_region 9 with fail
      go_region_held3 (fun w' => w'.cell? ⟨gb, 1, none⟩ = some (.pointer (some ⟨rb, 0, none⟩)) ∧ w'.cell? ⟨bx, 2, none⟩ = some (.string p) ∧ w'.cell? ⟨bx, 3, none⟩ = some (.string v) ∧ w'.cell? ⟨bx, 4, none⟩ = some (.string s))
        (first | exact ⟨a1, x2, x3, x4⟩ | exact ⟨HG4.out, HX4.out.c2, HX4.out.c3, HX4.out.c4⟩)
        (first | (go_at_call 16; refine k2.mono ?_; rintro e w4 ⟨rfl, mv', hd4, ht4, hn4⟩; have HG4 : Hid (w4.cell? ⟨gb, 1, none⟩ = some (.pointer (some ⟨rb, 0, none⟩))) := (HP.out.gcell2 HT3.out.size ht4 (fun b e => e.elim Or.inl (fun e => Or.inr (Or.inl e))) 1).trans a1; have HX4 : Hid (BoxO w4 bx 2 hh p v s) := HX3.out.turn ht4 (fun e => HP.out.off HNX.out.1 bx ((fun b e => e.elim Or.inl (fun e => Or.inr (Or.inl e))) bx e) rfl)))
      all_goals
        have HA : Hid (After X w gb pb sb mb rb rev w4) := after_done HP.out HB.out HT3.out HS3.out ht4 (fun b e => e.elim Or.inl (fun e => Or.inr (Or.inl e))) hd4 hn4 (Near.refl _ _) ⟨Nat.le_trans (dropOf_len _ _ _ _) hlen.1, hlen.2⟩ (by have := dropOf_rise ms p v (nameErr p v); omega) HLT.out.1
        clear k2 x0 x1 x2 x3 x4 a1 HX3 HX HS3 HT3 HD3 HP HM HB HG4 HX4 hd4 ht4 hn4
        go_wp2_with (go_at_call 12; refine (num_any _ _).mono ?_; rintro e w' ⟨rfl, rfl⟩)
        go_ret
        exact ⟨rfl, HA.out⟩

set_option maxRecDepth 100000 in
set_option maxHeartbeats 4000000 in
theorem step3 (hh nn : Int) (p v s : ByteArray) (w : World) (h : PairAt w X gb pb sb mb rb mv iv ms ix root rev) (hm : Ml w) (hj : bits BinOp.and IntKind.i64 hh 1 = ((j : Nat) : Int)) (hjl : j < 2) (hw : w.cell? ⟨wb, j, none⟩ = some (.pointer (some ⟨gb, 0, none⟩))) (hp : p.size < 281474976710656) (_hv : v.size < 281474976710656) (hs : s.size < 281474976710656) (hr : rev < 4611686018427387900) :
    Calls Tryz.prog 7 #[.pointer (some ⟨wb, 0, none⟩), .agg #[.int .i64 3, .int .i64 hh, .string p, .string v, .string s, .int .i64 nn]] w fun e w' => e = .returned (.bool true) ∧ After X w gb pb sb mb rb rev w' := by
  have hj0 : (0 : Int) ≤ (j : Int) := by omega
  have hj2 : (j : Int) < 2 := by omega
  have hbB : Below w.heap.size w (w.alloc (.cells #[.int .i64 3, .int .i64 hh, .string p, .string v, .string s, .int .i64 nn] 37)) := (Below.refl _ _).alloc (Nat.le_refl _) _
  have HB : Hid (Below w.heap.size w (w.alloc (.cells #[.int .i64 3, .int .i64 hh, .string p, .string v, .string s, .int .i64 nn] 37)).drew) := hbB.drew
  have HX : Hid (BoxO (w.alloc (.cells #[.int .i64 3, .int .i64 hh, .string p, .string v, .string s, .int .i64 nn] 37)).drew w.heap.size 3 hh p v s) := (BoxO.new w 3 hh nn p v s).of_block rfl (Nat.le_refl _)
  have HP : Hid (PairAt (w.alloc (.cells #[.int .i64 3, .int .i64 hh, .string p, .string v, .string s, .int .i64 nn] 37)).drew X gb pb sb mb rb mv iv ms ix root rev) := h.below HB.out
  have HM : Hid (Ml (w.alloc (.cells #[.int .i64 3, .int .i64 hh, .string p, .string v, .string s, .int .i64 nn] 37)).drew) := hm.below HB.out
  have hw1 : (w.alloc (.cells #[.int .i64 3, .int .i64 hh, .string p, .string v, .string s, .int .i64 nn] 37)).cell? ⟨wb, j, none⟩ = some (.pointer (some ⟨gb, 0, none⟩)) := by
    rw [hbB.cell (p := ⟨wb, j, none⟩) (World.block_lt_of_cell? w _ hw)]; exact hw
  have HLT : Hid ((∀ b, X b → b < w.heap.size) ∧ sb < w.heap.size ∧ mb < w.heap.size) := ⟨h.lt, h.sh.f0.lt, h.sh.map.lt⟩
  clear h hm hw hbB
  go_enter Tryz.func7, Tryz.ntmps7
  go_upto_region 1 with fail
  go_region
  all_goals
    clear hw1 hj hj0 hj2 hjl
    generalize (w.alloc (.cells #[.int .i64 3, .int .i64 hh, .string p, .string v, .string s, .int .i64 nn] 37)).drew = WA at *
    generalize hbx : w.heap.size = bx at HX
    have HBX : Hid (w.heap.size = bx) := hbx
    clear hbx
    obtain ⟨x0, x1, x2, x3, x4, _⟩ := HX.out
    have a0 := HP.out.g0
    have k1 := ePutIndex (pb := pb) (sb := sb) p s WA.drew HP.out.p0 (sPutIndex p s WA.drew (HP.out.sh.of_block rfl rfl) (HM.out.below (drew_below WA)) (by have := HP.out.len; omega) hp (by omega) (by omega))
    have HNX : Hid (¬ X bx ∧ ¬ (bx = sb ∨ bx = mb)) := by
      have h1 := HLT.out
      have h2 := HBX.out
      exact ⟨fun h => by have := h1.1 bx h; omega, by omega⟩
    go_upto_region 12 with fail
    go_region_held3 (fun w' => w'.cell? ⟨gb, 0, none⟩ = some (.pointer (some ⟨pb, 0, none⟩)) ∧ w'.cell? ⟨bx, 2, none⟩ = some (.string p) ∧ w'.cell? ⟨bx, 3, none⟩ = some (.string v) ∧ w'.cell? ⟨bx, 4, none⟩ = some (.string s))
      (first | exact ⟨a0, x2, x3, x4⟩ | exact ⟨HG3.out, HX3.out.c2, HX3.out.c3, HX3.out.c4⟩)
      (first | (go_at_call 17; refine k1.mono ?_; rintro e w3 ⟨rfl, hs3, ht3⟩; have HG3 : Hid (w3.cell? ⟨gb, 0, none⟩ = some (.pointer (some ⟨pb, 0, none⟩))) := (HP.out.gcell ht3 0).trans a0; have HX3 : Hid (BoxO w3 bx 3 hh p v s) := HX.out.turn ht3 HNX.out.2))
    all_goals
      have HS3 : Hid (ShelfAt w3 sb mb (rev + (putOf ix ⟨p, ⟨#[]⟩, s⟩ 30 (nameErr p ⟨#[]⟩)).2.2) (ents ms (putOf ix ⟨p, ⟨#[]⟩, s⟩ 30 (nameErr p ⟨#[]⟩)).1 root)) := hs3
      have HT3 : Hid (Turn (fun b => b = sb ∨ b = mb) WA.drew w3) := ht3
      have HT3' : Hid (Turn (fun b => b = sb ∨ b = mb) WA w3) := (Turn.of_below (p := fun b => b = sb ∨ b = mb) (drew_below WA)).trans ht3 (fun _ _ e => e) (fun _ _ e => e)
      have HD3 : Hid (DocAt w3 0 rb mv iv ms ix root rev ∧ w3.cell? ⟨gb, 1, none⟩ = some (.pointer (some ⟨rb, 0, none⟩))) := HP.out.half HT3'.out
      clear k1 hs3 ht3 HT3' x0 x1 x2 x3 x4 a0 HG3
      obtain ⟨x0, x1, x2, x3, x4, _⟩ := HX3.out
      have a1 := HD3.out.2
      have hlen := HP.out.len
      have k2 := docPutIndex p s w3.drew (HD3.out.1.below (drew_below w3)) (by omega) (by omega) (by omega)
      go_upto_region 13 with fail
      go_region_held3 (fun w' => w'.cell? ⟨gb, 1, none⟩ = some (.pointer (some ⟨rb, 0, none⟩)) ∧ w'.cell? ⟨bx, 2, none⟩ = some (.string p) ∧ w'.cell? ⟨bx, 3, none⟩ = some (.string v) ∧ w'.cell? ⟨bx, 4, none⟩ = some (.string s))
        (first | exact ⟨a1, x2, x3, x4⟩ | exact ⟨HG4.out, HX4.out.c2, HX4.out.c3, HX4.out.c4⟩)
        (first | (go_at_call 18; refine k2.mono ?_; rintro e w4 ⟨rfl, iv', hd4, ht4, hn4⟩; have HG4 : Hid (w4.cell? ⟨gb, 1, none⟩ = some (.pointer (some ⟨rb, 0, none⟩))) := (HP.out.gcell2 HT3.out.size ht4 (fun b e => e.elim Or.inl (fun e => Or.inr (Or.inr e))) 1).trans a1; have HX4 : Hid (BoxO w4 bx 3 hh p v s) := HX3.out.turn ht4 (fun e => HP.out.off HNX.out.1 bx ((fun b e => e.elim Or.inl (fun e => Or.inr (Or.inr e))) bx e) rfl)))
      all_goals
        have HA : Hid (After X w gb pb sb mb rb rev w4) := after_done HP.out HB.out HT3.out HS3.out ht4 (fun b e => e.elim Or.inl (fun e => Or.inr (Or.inr e))) hd4 (Near.refl _ _) hn4 ⟨hlen.1, putOf_len _ _ _ _ hlen.2⟩ (by have := putOf_rise ix ⟨p, ⟨#[]⟩, s⟩ 30 (nameErr p ⟨#[]⟩); omega) HLT.out.1
        clear k2 x0 x1 x2 x3 x4 a1 HX3 HX HS3 HT3 HD3 HP HM HB HG4 HX4 hd4 ht4 hn4
        go_wp2_with (go_at_call 12; refine (num_any _ _).mono ?_; rintro e w' ⟨rfl, rfl⟩)
        go_ret
        exact ⟨rfl, HA.out⟩

set_option maxRecDepth 100000 in
set_option maxHeartbeats 4000000 in
theorem step4 (hh nn : Int) (p v s : ByteArray) (w : World) (h : PairAt w X gb pb sb mb rb mv iv ms ix root rev) (hm : Ml w) (hj : bits BinOp.and IntKind.i64 hh 1 = ((j : Nat) : Int)) (hjl : j < 2) (hw : w.cell? ⟨wb, j, none⟩ = some (.pointer (some ⟨gb, 0, none⟩))) (hp : p.size < 281474976710656) (_hv : v.size < 281474976710656) (_hs : s.size < 281474976710656) (hr : rev < 4611686018427387900) :
    Calls Tryz.prog 7 #[.pointer (some ⟨wb, 0, none⟩), .agg #[.int .i64 4, .int .i64 hh, .string p, .string v, .string s, .int .i64 nn]] w fun e w' => e = .returned (.bool true) ∧ After X w gb pb sb mb rb rev w' := by
  have hj0 : (0 : Int) ≤ (j : Int) := by omega
  have hj2 : (j : Int) < 2 := by omega
  have hbB : Below w.heap.size w (w.alloc (.cells #[.int .i64 4, .int .i64 hh, .string p, .string v, .string s, .int .i64 nn] 37)) := (Below.refl _ _).alloc (Nat.le_refl _) _
  have HB : Hid (Below w.heap.size w (w.alloc (.cells #[.int .i64 4, .int .i64 hh, .string p, .string v, .string s, .int .i64 nn] 37)).drew) := hbB.drew
  have HX : Hid (BoxO (w.alloc (.cells #[.int .i64 4, .int .i64 hh, .string p, .string v, .string s, .int .i64 nn] 37)).drew w.heap.size 4 hh p v s) := (BoxO.new w 4 hh nn p v s).of_block rfl (Nat.le_refl _)
  have HP : Hid (PairAt (w.alloc (.cells #[.int .i64 4, .int .i64 hh, .string p, .string v, .string s, .int .i64 nn] 37)).drew X gb pb sb mb rb mv iv ms ix root rev) := h.below HB.out
  have HM : Hid (Ml (w.alloc (.cells #[.int .i64 4, .int .i64 hh, .string p, .string v, .string s, .int .i64 nn] 37)).drew) := hm.below HB.out
  have hw1 : (w.alloc (.cells #[.int .i64 4, .int .i64 hh, .string p, .string v, .string s, .int .i64 nn] 37)).cell? ⟨wb, j, none⟩ = some (.pointer (some ⟨gb, 0, none⟩)) := by
    rw [hbB.cell (p := ⟨wb, j, none⟩) (World.block_lt_of_cell? w _ hw)]; exact hw
  have HLT : Hid ((∀ b, X b → b < w.heap.size) ∧ sb < w.heap.size ∧ mb < w.heap.size) := ⟨h.lt, h.sh.f0.lt, h.sh.map.lt⟩
  clear h hm hw hbB
  go_enter Tryz.func7, Tryz.ntmps7
  go_upto_region 1 with fail
  go_region
  all_goals
    clear hw1 hj hj0 hj2 hjl
    generalize (w.alloc (.cells #[.int .i64 4, .int .i64 hh, .string p, .string v, .string s, .int .i64 nn] 37)).drew = WA at *
    generalize hbx : w.heap.size = bx at HX
    have HBX : Hid (w.heap.size = bx) := hbx
    clear hbx
    obtain ⟨x0, x1, x2, x3, x4, _⟩ := HX.out
    have a0 := HP.out.g0
    have k1 := eDropIndex (pb := pb) (sb := sb) p WA.drew HP.out.p0 (sDropIndex (ms := ms) (ix := ix) (root := root) p WA.drew (HP.out.sh.of_block rfl rfl) (HM.out.below (drew_below WA)) hp (by omega))
    have HNX : Hid (¬ X bx ∧ ¬ (bx = sb ∨ bx = mb)) := by
      have h1 := HLT.out
      have h2 := HBX.out
      exact ⟨fun h => by have := h1.1 bx h; omega, by omega⟩
    go_upto_region 16 with fail
    go_region_held3 (fun w' => w'.cell? ⟨gb, 0, none⟩ = some (.pointer (some ⟨pb, 0, none⟩)) ∧ w'.cell? ⟨bx, 2, none⟩ = some (.string p) ∧ w'.cell? ⟨bx, 3, none⟩ = some (.string v) ∧ w'.cell? ⟨bx, 4, none⟩ = some (.string s))
      (first | exact ⟨a0, x2, x3, x4⟩ | exact ⟨HG3.out, HX3.out.c2, HX3.out.c3, HX3.out.c4⟩)
      (first | (go_at_call 19; refine k1.mono ?_; rintro e w3 ⟨rfl, hs3, ht3⟩; have HG3 : Hid (w3.cell? ⟨gb, 0, none⟩ = some (.pointer (some ⟨pb, 0, none⟩))) := (HP.out.gcell ht3 0).trans a0; have HX3 : Hid (BoxO w3 bx 4 hh p v s) := HX.out.turn ht3 HNX.out.2))
    all_goals
      have HS3 : Hid (ShelfAt w3 sb mb (rev + (dropOf ix p ⟨#[]⟩ (nameErr p ⟨#[]⟩)).2) (ents ms (dropOf ix p ⟨#[]⟩ (nameErr p ⟨#[]⟩)).1 root)) := hs3
      have HT3 : Hid (Turn (fun b => b = sb ∨ b = mb) WA.drew w3) := ht3
      have HT3' : Hid (Turn (fun b => b = sb ∨ b = mb) WA w3) := (Turn.of_below (p := fun b => b = sb ∨ b = mb) (drew_below WA)).trans ht3 (fun _ _ e => e) (fun _ _ e => e)
      have HD3 : Hid (DocAt w3 0 rb mv iv ms ix root rev ∧ w3.cell? ⟨gb, 1, none⟩ = some (.pointer (some ⟨rb, 0, none⟩))) := HP.out.half HT3'.out
      clear k1 hs3 ht3 HT3' x0 x1 x2 x3 x4 a0 HG3
      obtain ⟨x0, x1, x2, x3, x4, _⟩ := HX3.out
      have a1 := HD3.out.2
      have hlen := HP.out.len
      have k2 := docDropIndex p w3.drew (HD3.out.1.below (drew_below w3)) (by omega) (by omega) (by omega)
      go_upto_region 17 with fail
      go_region_held3 (fun w' => w'.cell? ⟨gb, 1, none⟩ = some (.pointer (some ⟨rb, 0, none⟩)) ∧ w'.cell? ⟨bx, 2, none⟩ = some (.string p) ∧ w'.cell? ⟨bx, 3, none⟩ = some (.string v) ∧ w'.cell? ⟨bx, 4, none⟩ = some (.string s))
        (first | exact ⟨a1, x2, x3, x4⟩ | exact ⟨HG4.out, HX4.out.c2, HX4.out.c3, HX4.out.c4⟩)
        (first | (go_at_call 20; refine k2.mono ?_; rintro e w4 ⟨rfl, iv', hd4, ht4, hn4⟩; have HG4 : Hid (w4.cell? ⟨gb, 1, none⟩ = some (.pointer (some ⟨rb, 0, none⟩))) := (HP.out.gcell2 HT3.out.size ht4 (fun b e => e.elim Or.inl (fun e => Or.inr (Or.inr e))) 1).trans a1; have HX4 : Hid (BoxO w4 bx 4 hh p v s) := HX3.out.turn ht4 (fun e => HP.out.off HNX.out.1 bx ((fun b e => e.elim Or.inl (fun e => Or.inr (Or.inr e))) bx e) rfl)))
      all_goals
        have HA : Hid (After X w gb pb sb mb rb rev w4) := after_done HP.out HB.out HT3.out HS3.out ht4 (fun b e => e.elim Or.inl (fun e => Or.inr (Or.inr e))) hd4 (Near.refl _ _) hn4 ⟨hlen.1, Nat.le_trans (dropOf_len _ _ _ _) hlen.2⟩ (by have := dropOf_rise ix p ⟨#[]⟩ (nameErr p ⟨#[]⟩); omega) HLT.out.1
        clear k2 x0 x1 x2 x3 x4 a1 HX3 HX HS3 HT3 HD3 HP HM HB HG4 HX4 hd4 ht4 hn4
        go_wp2_with (go_at_call 12; refine (num_any _ _).mono ?_; rintro e w' ⟨rfl, rfl⟩)
        go_ret
        exact ⟨rfl, HA.out⟩

set_option maxRecDepth 100000 in
set_option maxHeartbeats 4000000 in
theorem step5 (hh nn : Int) (p v s : ByteArray) (w : World) (h : PairAt w X gb pb sb mb rb mv iv ms ix root rev) (hm : Ml w) (hj : bits BinOp.and IntKind.i64 hh 1 = ((j : Nat) : Int)) (hjl : j < 2) (hw : w.cell? ⟨wb, j, none⟩ = some (.pointer (some ⟨gb, 0, none⟩))) (hp : p.size < 281474976710656) (_hv : v.size < 281474976710656) (_hs : s.size < 281474976710656) (hr : rev < 4611686018427387900) :
    Calls Tryz.prog 7 #[.pointer (some ⟨wb, 0, none⟩), .agg #[.int .i64 5, .int .i64 hh, .string p, .string v, .string s, .int .i64 nn]] w fun e w' => e = .returned (.bool true) ∧ After X w gb pb sb mb rb rev w' := by
  have hj0 : (0 : Int) ≤ (j : Int) := by omega
  have hj2 : (j : Int) < 2 := by omega
  have hbB : Below w.heap.size w (w.alloc (.cells #[.int .i64 5, .int .i64 hh, .string p, .string v, .string s, .int .i64 nn] 37)) := (Below.refl _ _).alloc (Nat.le_refl _) _
  have HB : Hid (Below w.heap.size w (w.alloc (.cells #[.int .i64 5, .int .i64 hh, .string p, .string v, .string s, .int .i64 nn] 37)).drew) := hbB.drew
  have HX : Hid (BoxO (w.alloc (.cells #[.int .i64 5, .int .i64 hh, .string p, .string v, .string s, .int .i64 nn] 37)).drew w.heap.size 5 hh p v s) := (BoxO.new w 5 hh nn p v s).of_block rfl (Nat.le_refl _)
  have HP : Hid (PairAt (w.alloc (.cells #[.int .i64 5, .int .i64 hh, .string p, .string v, .string s, .int .i64 nn] 37)).drew X gb pb sb mb rb mv iv ms ix root rev) := h.below HB.out
  have HM : Hid (Ml (w.alloc (.cells #[.int .i64 5, .int .i64 hh, .string p, .string v, .string s, .int .i64 nn] 37)).drew) := hm.below HB.out
  have hw1 : (w.alloc (.cells #[.int .i64 5, .int .i64 hh, .string p, .string v, .string s, .int .i64 nn] 37)).cell? ⟨wb, j, none⟩ = some (.pointer (some ⟨gb, 0, none⟩)) := by
    rw [hbB.cell (p := ⟨wb, j, none⟩) (World.block_lt_of_cell? w _ hw)]; exact hw
  have HLT : Hid ((∀ b, X b → b < w.heap.size) ∧ sb < w.heap.size ∧ mb < w.heap.size) := ⟨h.lt, h.sh.f0.lt, h.sh.map.lt⟩
  clear h hm hw hbB
  go_enter Tryz.func7, Tryz.ntmps7
  go_upto_region 1 with fail
  go_region
  all_goals
    clear hw1 hj hj0 hj2 hjl
    generalize (w.alloc (.cells #[.int .i64 5, .int .i64 hh, .string p, .string v, .string s, .int .i64 nn] 37)).drew = WA at *
    generalize hbx : w.heap.size = bx at HX
    have HBX : Hid (w.heap.size = bx) := hbx
    clear hbx
    obtain ⟨x0, x1, x2, x3, x4, _⟩ := HX.out
    have a0 := HP.out.g0
    have k1 := eSetRoot (pb := pb) (sb := sb) p WA.drew HP.out.p0 (sSetRoot (ms := ms) (ix := ix) (root := root) p WA.drew (HP.out.sh.of_block rfl rfl) (HM.out.below (drew_below WA)) (by have := HP.out.len; omega) hp (by omega))
    have HNX : Hid (¬ X bx ∧ ¬ (bx = sb ∨ bx = mb)) := by
      have h1 := HLT.out
      have h2 := HBX.out
      exact ⟨fun h => by have := h1.1 bx h; omega, by omega⟩
    go_upto_region 20 with fail
    go_region_held3 (fun w' => w'.cell? ⟨gb, 0, none⟩ = some (.pointer (some ⟨pb, 0, none⟩)) ∧ w'.cell? ⟨bx, 2, none⟩ = some (.string p) ∧ w'.cell? ⟨bx, 3, none⟩ = some (.string v) ∧ w'.cell? ⟨bx, 4, none⟩ = some (.string s))
      (first | exact ⟨a0, x2, x3, x4⟩ | exact ⟨HG3.out, HX3.out.c2, HX3.out.c3, HX3.out.c4⟩)
      (first | (go_at_call 21; refine k1.mono ?_; rintro e w3 ⟨rfl, hs3, ht3⟩; have HG3 : Hid (w3.cell? ⟨gb, 0, none⟩ = some (.pointer (some ⟨pb, 0, none⟩))) := (HP.out.gcell ht3 0).trans a0; have HX3 : Hid (BoxO w3 bx 5 hh p v s) := HX.out.turn ht3 HNX.out.2))
    all_goals
      have HS3 : Hid (ShelfAt w3 sb mb (rev + (rootOf root p).2) (ents ms ix (rootOf root p).1)) := hs3
      have HT3 : Hid (Turn (fun b => b = sb ∨ b = mb) WA.drew w3) := ht3
      have HT3' : Hid (Turn (fun b => b = sb ∨ b = mb) WA w3) := (Turn.of_below (p := fun b => b = sb ∨ b = mb) (drew_below WA)).trans ht3 (fun _ _ e => e) (fun _ _ e => e)
      have HD3 : Hid (DocAt w3 0 rb mv iv ms ix root rev ∧ w3.cell? ⟨gb, 1, none⟩ = some (.pointer (some ⟨rb, 0, none⟩))) := HP.out.half HT3'.out
      clear k1 hs3 ht3 HT3' x0 x1 x2 x3 x4 a0 HG3
      obtain ⟨x0, x1, x2, x3, x4, _⟩ := HX3.out
      have a1 := HD3.out.2
      have hlen := HP.out.len
      have k2 := docSetRoot p w3.drew (HD3.out.1.below (drew_below w3)) (by omega) (by omega)
      go_upto_region 21 with fail
      go_region_held3 (fun w' => w'.cell? ⟨gb, 1, none⟩ = some (.pointer (some ⟨rb, 0, none⟩)) ∧ w'.cell? ⟨bx, 2, none⟩ = some (.string p) ∧ w'.cell? ⟨bx, 3, none⟩ = some (.string v) ∧ w'.cell? ⟨bx, 4, none⟩ = some (.string s))
        (first | exact ⟨a1, x2, x3, x4⟩ | exact ⟨HG4.out, HX4.out.c2, HX4.out.c3, HX4.out.c4⟩)
        (first | (go_at_call 22; refine k2.mono ?_; rintro e w4 ⟨rfl, hd4, ht4⟩; have HG4 : Hid (w4.cell? ⟨gb, 1, none⟩ = some (.pointer (some ⟨rb, 0, none⟩))) := (HP.out.gcell2 HT3.out.size ht4 (fun b e => Or.inl e) 1).trans a1; have HX4 : Hid (BoxO w4 bx 5 hh p v s) := HX3.out.turn ht4 (fun e => HP.out.off HNX.out.1 bx ((fun b e => Or.inl e) bx e) rfl)))
      all_goals
        have HA : Hid (After X w gb pb sb mb rb rev w4) := after_done HP.out HB.out HT3.out HS3.out ht4 (fun b e => Or.inl e) hd4 (Near.refl _ _) (Near.refl _ _) hlen (by have := rootOf_rise root p; omega) HLT.out.1
        clear k2 x0 x1 x2 x3 x4 a1 HX3 HX HS3 HT3 HD3 HP HM HB HG4 HX4 hd4 ht4
        go_wp2_with (go_at_call 12; refine (num_any _ _).mono ?_; rintro e w' ⟨rfl, rfl⟩)
        go_ret
        exact ⟨rfl, HA.out⟩

set_option maxRecDepth 100000 in
set_option maxHeartbeats 4000000 in
theorem step6 (hh nn : Int) (p v s : ByteArray) (w : World) (h : PairAt w X gb pb sb mb rb mv iv ms ix root rev) (hm : Ml w) (hj : bits BinOp.and IntKind.i64 hh 1 = ((j : Nat) : Int)) (hjl : j < 2) (hw : w.cell? ⟨wb, j, none⟩ = some (.pointer (some ⟨gb, 0, none⟩))) (_hp : p.size < 281474976710656) (_hv : v.size < 281474976710656) (_hs : s.size < 281474976710656) (_hr : rev < 4611686018427387900) :
    Calls Tryz.prog 7 #[.pointer (some ⟨wb, 0, none⟩), .agg #[.int .i64 6, .int .i64 hh, .string p, .string v, .string s, .int .i64 nn]] w fun e w' => e = .returned (.bool true) ∧ After X w gb pb sb mb rb rev w' := by
  have hj0 : (0 : Int) ≤ (j : Int) := by omega
  have hj2 : (j : Int) < 2 := by omega
  have hbB : Below w.heap.size w (w.alloc (.cells #[.int .i64 6, .int .i64 hh, .string p, .string v, .string s, .int .i64 nn] 37)) := (Below.refl _ _).alloc (Nat.le_refl _) _
  have HB : Hid (Below w.heap.size w (w.alloc (.cells #[.int .i64 6, .int .i64 hh, .string p, .string v, .string s, .int .i64 nn] 37)).drew) := hbB.drew
  have HX : Hid (BoxO (w.alloc (.cells #[.int .i64 6, .int .i64 hh, .string p, .string v, .string s, .int .i64 nn] 37)).drew w.heap.size 6 hh p v s) := (BoxO.new w 6 hh nn p v s).of_block rfl (Nat.le_refl _)
  have HP : Hid (PairAt (w.alloc (.cells #[.int .i64 6, .int .i64 hh, .string p, .string v, .string s, .int .i64 nn] 37)).drew X gb pb sb mb rb mv iv ms ix root rev) := h.below HB.out
  have HM : Hid (Ml (w.alloc (.cells #[.int .i64 6, .int .i64 hh, .string p, .string v, .string s, .int .i64 nn] 37)).drew) := hm.below HB.out
  have hw1 : (w.alloc (.cells #[.int .i64 6, .int .i64 hh, .string p, .string v, .string s, .int .i64 nn] 37)).cell? ⟨wb, j, none⟩ = some (.pointer (some ⟨gb, 0, none⟩)) := by
    rw [hbB.cell (p := ⟨wb, j, none⟩) (World.block_lt_of_cell? w _ hw)]; exact hw
  have HLT : Hid ((∀ b, X b → b < w.heap.size) ∧ sb < w.heap.size ∧ mb < w.heap.size) := ⟨h.lt, h.sh.f0.lt, h.sh.map.lt⟩
  clear h hm hw hbB
  go_enter Tryz.func7, Tryz.ntmps7
  go_upto_region 1 with fail
  go_region
  all_goals
    clear hw1 hj hj0 hj2 hjl
    generalize (w.alloc (.cells #[.int .i64 6, .int .i64 hh, .string p, .string v, .string s, .int .i64 nn] 37)).drew = WA at *
    generalize hbx : w.heap.size = bx at HX
    have HBX : Hid (w.heap.size = bx) := hbx
    clear hbx
    obtain ⟨x0, x1, x2, x3, x4, _⟩ := HX.out
    have a0 := HP.out.g0
    have a1 := HP.out.g1
    have a3 := HP.out.dc.f3.1
    have k1 := eRevision (pb := pb) (sb := sb) WA HP.out.p0 HP.out.sh
    go_wp2_with (go_at_call 23; fail)
    go_at_call 23
    refine k1.mono ?_
    intro e w3 h3
    rw [h3.1, h3.2]
    have HA : Hid (After X w gb pb sb mb rb rev WA) := after_same HP.out HB.out
    clear h3 k1 HP HM HB HX
    go_wp2
    go_ret
    exact ⟨rfl, HA.out⟩

set_option maxRecDepth 100000 in
set_option maxHeartbeats 4000000 in
theorem step0 (kd hh nn : Int) (hkd : kd ≤ 0) (p v s : ByteArray) (w : World) (h : PairAt w X gb pb sb mb rb mv iv ms ix root rev) (hm : Ml w) (hj : bits BinOp.and IntKind.i64 hh 1 = ((j : Nat) : Int)) (hjl : j < 2) (hw : w.cell? ⟨wb, j, none⟩ = some (.pointer (some ⟨gb, 0, none⟩))) (_hp : p.size < 281474976710656) (_hv : v.size < 281474976710656) (_hs : s.size < 281474976710656) (_hr : rev < 4611686018427387900) :
    Calls Tryz.prog 7 #[.pointer (some ⟨wb, 0, none⟩), .agg #[.int .i64 kd, .int .i64 hh, .string p, .string v, .string s, .int .i64 nn]] w fun e w' => e = .returned (.bool true) ∧ After X w gb pb sb mb rb rev w' := by
  have hj0 : (0 : Int) ≤ (j : Int) := by omega
  have hj2 : (j : Int) < 2 := by omega
  have hbB : Below w.heap.size w (w.alloc (.cells #[.int .i64 kd, .int .i64 hh, .string p, .string v, .string s, .int .i64 nn] 37)) := (Below.refl _ _).alloc (Nat.le_refl _) _
  have HB : Hid (Below w.heap.size w (w.alloc (.cells #[.int .i64 kd, .int .i64 hh, .string p, .string v, .string s, .int .i64 nn] 37)).drew) := hbB.drew
  have HX : Hid (BoxO (w.alloc (.cells #[.int .i64 kd, .int .i64 hh, .string p, .string v, .string s, .int .i64 nn] 37)).drew w.heap.size kd hh p v s) := (BoxO.new w kd hh nn p v s).of_block rfl (Nat.le_refl _)
  have HP : Hid (PairAt (w.alloc (.cells #[.int .i64 kd, .int .i64 hh, .string p, .string v, .string s, .int .i64 nn] 37)).drew X gb pb sb mb rb mv iv ms ix root rev) := h.below HB.out
  have HM : Hid (Ml (w.alloc (.cells #[.int .i64 kd, .int .i64 hh, .string p, .string v, .string s, .int .i64 nn] 37)).drew) := hm.below HB.out
  have hw1 : (w.alloc (.cells #[.int .i64 kd, .int .i64 hh, .string p, .string v, .string s, .int .i64 nn] 37)).cell? ⟨wb, j, none⟩ = some (.pointer (some ⟨gb, 0, none⟩)) := by
    rw [hbB.cell (p := ⟨wb, j, none⟩) (World.block_lt_of_cell? w _ hw)]; exact hw
  have HLT : Hid ((∀ b, X b → b < w.heap.size) ∧ sb < w.heap.size ∧ mb < w.heap.size) := ⟨h.lt, h.sh.f0.lt, h.sh.map.lt⟩
  clear h hm hw hbB
  have q1 : (kd == 1) = false := by rw [beq_eq_false_iff_ne]; omega
  have q2 : (kd == 2) = false := by rw [beq_eq_false_iff_ne]; omega
  have q3 : (kd == 3) = false := by rw [beq_eq_false_iff_ne]; omega
  have q4 : (kd == 4) = false := by rw [beq_eq_false_iff_ne]; omega
  have q5 : (kd == 5) = false := by rw [beq_eq_false_iff_ne]; omega
  have q6 : (kd == 6) = false := by rw [beq_eq_false_iff_ne]; omega
  have q7 : (kd == 7) = false := by rw [beq_eq_false_iff_ne]; omega
  have q8 : (kd == 8) = false := by rw [beq_eq_false_iff_ne]; omega
  have q9 : (kd == 9) = false := by rw [beq_eq_false_iff_ne]; omega
  have q10 : (kd == 10) = false := by rw [beq_eq_false_iff_ne]; omega
  have q11 : (kd == 11) = false := by rw [beq_eq_false_iff_ne]; omega
  clear hkd
  go_enter Tryz.func7, Tryz.ntmps7
  go_upto_region 1 with fail
  go_region
  all_goals
    clear hw1 hj hj0 hj2 hjl
    generalize (w.alloc (.cells #[.int .i64 kd, .int .i64 hh, .string p, .string v, .string s, .int .i64 nn] 37)).drew = WA at *
    generalize hbx : w.heap.size = bx at HX
    have HBX : Hid (w.heap.size = bx) := hbx
    clear hbx
    obtain ⟨x0, x1, x2, x3, x4, _⟩ := HX.out
    have HA : Hid (After X w gb pb sb mb rb rev WA) := after_same HP.out HB.out
    clear HP HM HB HX
    go_wp2
    go_ret
    exact ⟨rfl, HA.out⟩

/-- Every step of an edit, or of none. -/
theorem step_any (kd hh nn : Int) (hkd : kd ≤ 6) (p v s : ByteArray) (w : World) (h : PairAt w X gb pb sb mb rb mv iv ms ix root rev) (hm : Ml w) (hj : bits BinOp.and IntKind.i64 hh 1 = ((j : Nat) : Int)) (hjl : j < 2) (hw : w.cell? ⟨wb, j, none⟩ = some (.pointer (some ⟨gb, 0, none⟩))) (hp : p.size < 281474976710656) (hv : v.size < 281474976710656) (hs : s.size < 281474976710656) (hr : rev < 4611686018427387900) :
    Calls Tryz.prog 7 #[.pointer (some ⟨wb, 0, none⟩), .agg #[.int .i64 kd, .int .i64 hh, .string p, .string v, .string s, .int .i64 nn]] w fun e w' => e = .returned (.bool true) ∧ After X w gb pb sb mb rb rev w' := by
  by_cases h0 : kd ≤ 0
  · exact step0 kd hh nn h0 p v s w h hm hj hjl hw hp hv hs hr
  · rcases (by omega : kd = 1 ∨ kd = 2 ∨ kd = 3 ∨ kd = 4 ∨ kd = 5 ∨ kd = 6) with e | e | e | e | e | e
    · rw [e]; exact step1 hh nn p v s w h hm hj hjl hw hp hv hs hr
    · rw [e]; exact step2 hh nn p v s w h hm hj hjl hw hp hv hs hr
    · rw [e]; exact step3 hh nn p v s w h hm hj hjl hw hp hv hs hr
    · rw [e]; exact step4 hh nn p v s w h hm hj hjl hw hp hv hs hr
    · rw [e]; exact step5 hh nn p v s w h hm hj hjl hw hp hv hs hr
    · rw [e]; exact step6 hh nn p v s w h hm hj hjl hw hp hv hs hr

end Ed
end Go.Proofs.YtiamomiafekihaaGreatDoor
