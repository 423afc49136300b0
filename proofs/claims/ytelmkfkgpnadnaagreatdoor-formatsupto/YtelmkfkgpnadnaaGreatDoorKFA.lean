/-
  The document's answer, of an index: what must stand behind a first word; the slip of a line's words.
  The document's answer, of an index: the slip of a line's words, whatever they are.
  The document's answer, of an index: does a line say what an earlier one says?
-/
import Derived.Test.YtelmkfkgpnadnaaGreatDoorKLA
import Derived.Test.YtelmkfkgpnadnaaGreatDoorKVA
import Derived.BigQuiet
namespace Go.Proofs.YtelmkfkgpnadnaaGreatDoor
open Go.RowKit

variable {w w' : World}

set_option maxHeartbeats 400000 in
theorem form_yes (x : ByteArray) (w : World) (h : (x.toList == [118, 101, 114, 115, 105, 111, 110]) = true) :
    Calls Tryz.prog 162 #[.string x, .bool true] w fun e w' => e = .returned (.string ⟨#[118]⟩) ∧ w' = w := by
  go_enter Tryz.func162, Tryz.ntmps162
  go_wp2
  go_ret
  exact ⟨rfl, rfl⟩

set_option maxHeartbeats 400000 in
theorem form_no (x : ByteArray) (w : World) (h : (x.toList == [118, 101, 114, 115, 105, 111, 110]) = false) :
    Calls Tryz.prog 162 #[.string x, .bool true] w fun e w' => e = .returned (.string ⟨#[]⟩) ∧ w' = w := by
  go_enter Tryz.func162, Tryz.ntmps162
  go_wp2
  go_ret
  exact ⟨rfl, rfl⟩

theorem cell3 {b o : Nat} {v : Value} (h : w.cell? ⟨b, o, none⟩ = some v) : ∀ o1 o2 o3 : Obj, (((w.alloc o1).alloc o2).alloc o3).cell? ⟨b, o, none⟩ = some v := fun o1 o2 o3 => by
  have hl := World.block_lt_of_cell? w _ h
  have hb : Below w.heap.size w (((w.alloc o1).alloc o2).alloc o3) := (((Below.refl _ _).alloc (Nat.le_refl _) _).alloc (by simp) _).alloc (by simp; omega) _
  rw [hb.cell (p := ⟨b, o, none⟩) hl]; exact h

theorem below3 (w : World) (o1 o2 o3 : Obj) : Below w.heap.size w (((w.alloc o1).alloc o2).alloc o3) := (((Below.refl _ _).alloc (Nat.le_refl _) _).alloc (by simp) _).alloc (by simp; omega) _

set_option maxRecDepth 100000 in
set_option maxHeartbeats 1000000 in
theorem wrong_word (n gw ga m cw ca : Nat) (a0 : Nat) (en : Int) (w : World) (hm : 0 < m) (h0 : w.cell? ⟨ga, 0, none⟩ = some (.int .i64 a0)) :
    Calls Tryz.prog 161 #[.agg #[.int .i64 n, .slice (some ⟨gw, 0, none⟩) m cw, .slice (some ⟨ga, 0, none⟩) m ca, .int .i64 en], .string ⟨#[]⟩] w fun e w' => e = .returned (.agg #[.int .i64 n, .int .i64 a0, .int .i64 3]) ∧ Below w.heap.size w w' := by
  have H0 := cell3 h0
  have hmI : (0 : Int) < (m : Int) := by omega
  have hb3 := below3 w
  have HB : Hid (∀ o1 o2 o3 : Obj, Below w.heap.size w (((w.alloc o1).alloc o2).alloc o3)) := hb3
  clear h0 hb3
  go_enter Tryz.func161, Tryz.ntmps161
  go_wp2
  exact bodyPost_ret (v := .agg #[.int .i64 n, .int .i64 a0, .int .i64 3]) (by simp [results, Tryz.results161, go_sem]) rfl ⟨rfl, HB.out _ _ _⟩

set_option maxRecDepth 100000 in
set_option maxHeartbeats 1000000 in
theorem wrong_many (n gw ga m cw ca : Nat) (a2 : Nat) (en : Int) (w : World) (hm : 2 < m) (h0 : w.cell? ⟨ga, 2, none⟩ = some (.int .i64 a2)) :
    Calls Tryz.prog 161 #[.agg #[.int .i64 n, .slice (some ⟨gw, 0, none⟩) m cw, .slice (some ⟨ga, 0, none⟩) m ca, .int .i64 en], .string ⟨#[118]⟩] w fun e w' => e = .returned (.agg #[.int .i64 n, .int .i64 a2, .int .i64 4]) ∧ Below w.heap.size w w' := by
  have H0 := cell3 h0
  have hmI : (2 : Int) < (m : Int) := by omega
  have hmn : ((m : Int) != 2) = true := by simp; omega
  have HB : Hid (∀ o1 o2 o3 : Obj, Below w.heap.size w (((w.alloc o1).alloc o2).alloc o3)) := below3 w
  clear h0
  go_enter Tryz.func161, Tryz.ntmps161
  go_wp2
  exact bodyPost_ret (v := .agg #[.int .i64 n, .int .i64 a2, .int .i64 4]) (by simp [results, Tryz.results161, go_sem]) rfl ⟨rfl, HB.out _ _ _⟩

set_option maxRecDepth 100000 in
set_option maxHeartbeats 1000000 in
theorem wrong_few (n gw ga cw ca : Nat) (en : Int) (w : World) :
    Calls Tryz.prog 161 #[.agg #[.int .i64 n, .slice (some ⟨gw, 0, none⟩) 1 cw, .slice (some ⟨ga, 0, none⟩) 1 ca, .int .i64 en], .string ⟨#[118]⟩] w fun e w' => e = .returned (.agg #[.int .i64 n, .int .i64 en, .int .i64 4]) ∧ Below w.heap.size w w' := by
  have HB : Hid (∀ o1 o2 o3 : Obj, Below w.heap.size w (((w.alloc o1).alloc o2).alloc o3)) := below3 w
  go_enter Tryz.func161, Tryz.ntmps161
  go_wp2
  exact bodyPost_ret (v := .agg #[.int .i64 n, .int .i64 en, .int .i64 4]) (by simp [results, Tryz.results161, go_sem]) rfl ⟨rfl, HB.out _ _ _⟩

/-- What a look at a line of two words has laid. -/
structure Wx (W : World) (L gw ga cw ca n : Nat) (v : ByteArray) (a1 : Nat) : Prop where
  l1 : W.cell? ⟨L, 1, none⟩ = some (.slice (some ⟨gw, 0, none⟩) 2 cw)
  l2 : W.cell? ⟨L, 2, none⟩ = some (.slice (some ⟨ga, 0, none⟩) 2 ca)
  r : ValsAt W (L + 1) 3 (fun _ => .int .i64 0)
  x : ValsAt W (L + 2) 3 (fun f => if f = 0 then .int .i64 n else .int .i64 0)
  k1 : W.cell? ⟨L + 3, 1, none⟩ = some (.int .i64 6)
  wv : W.cell? ⟨gw, 1, none⟩ = some (.string v)
  av : W.cell? ⟨ga, 1, none⟩ = some (.int .i64 a1)

theorem Wx.below {W W' : World} {L gw ga cw ca n : Nat} {v : ByteArray} {a1 : Nat} (h : Wx W L gw ga cw ca n v a1) (hb : Below W.heap.size W W') : Wx W' L gw ga cw ca n v a1 := by
  have h1 := World.block_lt_of_cell? W _ h.l1
  have h2 := World.block_lt_of_cell? W _ (h.r.at' 0 (by omega))
  have h3 := World.block_lt_of_cell? W _ (h.x.at' 0 (by omega))
  have h4 := World.block_lt_of_cell? W _ h.k1
  have h5 := World.block_lt_of_cell? W _ h.wv
  have h6 := World.block_lt_of_cell? W _ h.av
  exact ⟨by rw [hb.cell (p := ⟨L, 1, none⟩) h1]; exact h.l1, by rw [hb.cell (p := ⟨L, 2, none⟩) h1]; exact h.l2, h.r.of_block (hb.block _ h2), h.x.of_block (hb.block _ h3), by rw [hb.cell (p := ⟨L + 3, 1, none⟩) h4]; exact h.k1, by rw [hb.cell (p := ⟨gw, 1, none⟩) h5]; exact h.wv, by rw [hb.cell (p := ⟨ga, 1, none⟩) h6]; exact h.av⟩

theorem block_new (w : World) (o : Obj) : (w.alloc o).heap[w.heap.size]? = some o := by
  show (w.heap.push _)[w.heap.size]? = _
  simp

theorem wx_new {n gw ga cw ca a1 : Nat} {en : Int} {v : ByteArray} (h0 : w.cell? ⟨ga, 1, none⟩ = some (.int .i64 a1)) (h1 : w.cell? ⟨gw, 1, none⟩ = some (.string v)) :
    Wx ((((w.alloc (.cells #[.int .i64 n, .slice (some ⟨gw, 0, none⟩) 2 cw, .slice (some ⟨ga, 0, none⟩) 2 ca, .int .i64 en] 210)).alloc (.cells #[.int .i64 0, .int .i64 0, .int .i64 0] 45)).alloc (.cells #[.int .i64 n, .int .i64 0, .int .i64 0] 45)).alloc (.cells #[.int .i64 5, .int .i64 6, .int .i64 7] 3)) w.heap.size gw ga cw ca n v a1 ∧ Below w.heap.size w ((((w.alloc (.cells #[.int .i64 n, .slice (some ⟨gw, 0, none⟩) 2 cw, .slice (some ⟨ga, 0, none⟩) 2 ca, .int .i64 en] 210)).alloc (.cells #[.int .i64 0, .int .i64 0, .int .i64 0] 45)).alloc (.cells #[.int .i64 n, .int .i64 0, .int .i64 0] 45)).alloc (.cells #[.int .i64 5, .int .i64 6, .int .i64 7] 3)) := by
  have g1 := World.block_lt_of_cell? w _ h0
  have g2 := World.block_lt_of_cell? w _ h1
  have hb : Below w.heap.size w ((((w.alloc (.cells #[.int .i64 n, .slice (some ⟨gw, 0, none⟩) 2 cw, .slice (some ⟨ga, 0, none⟩) 2 ca, .int .i64 en] 210)).alloc (.cells #[.int .i64 0, .int .i64 0, .int .i64 0] 45)).alloc (.cells #[.int .i64 n, .int .i64 0, .int .i64 0] 45)).alloc (.cells #[.int .i64 5, .int .i64 6, .int .i64 7] 3)) := ((((Below.refl _ _).alloc (Nat.le_refl _) _).alloc (by simp) _).alloc (by simp; omega) _).alloc (by simp; omega) _
  have b0 : ((((w.alloc (.cells #[.int .i64 n, .slice (some ⟨gw, 0, none⟩) 2 cw, .slice (some ⟨ga, 0, none⟩) 2 ca, .int .i64 en] 210)).alloc (.cells #[.int .i64 0, .int .i64 0, .int .i64 0] 45)).alloc (.cells #[.int .i64 n, .int .i64 0, .int .i64 0] 45)).alloc (.cells #[.int .i64 5, .int .i64 6, .int .i64 7] 3)).heap[w.heap.size]? = some (.cells #[.int .i64 n, .slice (some ⟨gw, 0, none⟩) 2 cw, .slice (some ⟨ga, 0, none⟩) 2 ca, .int .i64 en] 210) := by
    rw [Below.heap_alloc _ _ _ (by simp; omega), Below.heap_alloc _ _ _ (by simp; omega), Below.heap_alloc _ _ _ (by simp)]
    exact block_new _ _
  have e1 : (w.alloc (.cells #[.int .i64 n, .slice (some ⟨gw, 0, none⟩) 2 cw, .slice (some ⟨ga, 0, none⟩) 2 ca, .int .i64 en] 210)).heap.size = w.heap.size + 1 := by simp
  have b1 : ((((w.alloc (.cells #[.int .i64 n, .slice (some ⟨gw, 0, none⟩) 2 cw, .slice (some ⟨ga, 0, none⟩) 2 ca, .int .i64 en] 210)).alloc (.cells #[.int .i64 0, .int .i64 0, .int .i64 0] 45)).alloc (.cells #[.int .i64 n, .int .i64 0, .int .i64 0] 45)).alloc (.cells #[.int .i64 5, .int .i64 6, .int .i64 7] 3)).heap[w.heap.size + 1]? = some (.cells #[.int .i64 0, .int .i64 0, .int .i64 0] 45) := by
    rw [Below.heap_alloc _ _ _ (by simp), Below.heap_alloc _ _ _ (by simp), ← e1]
    exact block_new _ _
  have e2 : ((w.alloc (.cells #[.int .i64 n, .slice (some ⟨gw, 0, none⟩) 2 cw, .slice (some ⟨ga, 0, none⟩) 2 ca, .int .i64 en] 210)).alloc (.cells #[.int .i64 0, .int .i64 0, .int .i64 0] 45)).heap.size = w.heap.size + 2 := by simp
  have b2 : ((((w.alloc (.cells #[.int .i64 n, .slice (some ⟨gw, 0, none⟩) 2 cw, .slice (some ⟨ga, 0, none⟩) 2 ca, .int .i64 en] 210)).alloc (.cells #[.int .i64 0, .int .i64 0, .int .i64 0] 45)).alloc (.cells #[.int .i64 n, .int .i64 0, .int .i64 0] 45)).alloc (.cells #[.int .i64 5, .int .i64 6, .int .i64 7] 3)).heap[w.heap.size + 2]? = some (.cells #[.int .i64 n, .int .i64 0, .int .i64 0] 45) := by
    rw [Below.heap_alloc _ _ _ (by simp), ← e2]
    exact block_new _ _
  have e3 : (((w.alloc (.cells #[.int .i64 n, .slice (some ⟨gw, 0, none⟩) 2 cw, .slice (some ⟨ga, 0, none⟩) 2 ca, .int .i64 en] 210)).alloc (.cells #[.int .i64 0, .int .i64 0, .int .i64 0] 45)).alloc (.cells #[.int .i64 n, .int .i64 0, .int .i64 0] 45)).heap.size = w.heap.size + 3 := by simp
  have b3 : ((((w.alloc (.cells #[.int .i64 n, .slice (some ⟨gw, 0, none⟩) 2 cw, .slice (some ⟨ga, 0, none⟩) 2 ca, .int .i64 en] 210)).alloc (.cells #[.int .i64 0, .int .i64 0, .int .i64 0] 45)).alloc (.cells #[.int .i64 n, .int .i64 0, .int .i64 0] 45)).alloc (.cells #[.int .i64 5, .int .i64 6, .int .i64 7] 3)).heap[w.heap.size + 3]? = some (.cells #[.int .i64 5, .int .i64 6, .int .i64 7] 3) := by
    rw [← e3]
    exact block_new _ _
  refine ⟨⟨by simp only [World.cell?, b0]; rfl, by simp only [World.cell?, b0]; rfl, ⟨fun j hj => ?_, fun j hj => ?_⟩, ⟨fun j hj => ?_, fun j hj => ?_⟩, by simp only [World.cell?, b3]; rfl, by rw [hb.cell (p := ⟨gw, 1, none⟩) g2]; exact h1, by rw [hb.cell (p := ⟨ga, 1, none⟩) g1]; exact h0⟩, hb⟩
  · simp only [World.cell?, b1]
    rcases (by omega : j = 0 ∨ j = 1 ∨ j = 2) with e | e | e <;> simp [e]
  · simp only [World.frozen?, b1]; simp
  · simp only [World.cell?, b2]
    rcases (by omega : j = 0 ∨ j = 1 ∨ j = 2) with e | e | e <;> simp [e]
  · simp only [World.frozen?, b2]; simp

set_option maxRecDepth 100000 in
set_option maxHeartbeats 4000000 in
theorem wrong_version (n gw ga cw ca : Nat) (a1 : Nat) (en : Int) (v : ByteArray) (w : World) (h0 : w.cell? ⟨ga, 1, none⟩ = some (.int .i64 a1)) (h1 : w.cell? ⟨gw, 1, none⟩ = some (.string v)) (hv : (Pv.parse v.data.toList).isSome = true) :
    Calls Tryz.prog 161 #[.agg #[.int .i64 n, .slice (some ⟨gw, 0, none⟩) 2 cw, .slice (some ⟨ga, 0, none⟩) 2 ca, .int .i64 en], .string ⟨#[118]⟩] w fun e w' => e = .returned (.agg #[.int .i64 n, .int .i64 0, .int .i64 0]) ∧ Below w.heap.size w w' := by
  have hx := wx_new (n := n) (cw := cw) (ca := ca) (en := en) h0 h1
  have kv := fun W => isVersion_any v W
  rw [hv] at kv
  generalize hq : (v.toList == [61, 62]) = q
  clear h0 h1 hv
  go_enter Tryz.func161, Tryz.ntmps161
  go_wp2
  generalize ((((w.alloc (.cells #[.int .i64 n, .slice (some ⟨gw, 0, none⟩) 2 cw, .slice (some ⟨ga, 0, none⟩) 2 ca, .int .i64 en] 210)).alloc (.cells #[.int .i64 0, .int .i64 0, .int .i64 0] 45)).alloc (.cells #[.int .i64 n, .int .i64 0, .int .i64 0] 45)).alloc (.cells #[.int .i64 5, .int .i64 6, .int .i64 7] 3)) = W0 at hx ⊢
  have HX : Hid (Wx W0 w.heap.size gw ga cw ca n v a1) := hx.1
  have HB : Hid (Below w.heap.size w W0) := hx.2
  clear hx
  go_loopg [8] 3 (fun gg s wr => ∃ k : Nat, k ≤ 3 ∧ 3 - k ≤ gg ∧ s = .int .i64 k ∧ Hid (Below W0.heap.size W0 wr))
  case atStart => exact ⟨0, by omega, by omega, rfl, Below.refl _ _⟩
  case round =>
    obtain ⟨k, hk, hgk, rfl, HBk⟩ := hrel
    have c1 := (HX.out.below HBk.out).l1
    have c2 := (HX.out.below HBk.out).wv
    rcases (by omega : k = 0 ∨ k = 1 ∨ k = 2 ∨ k = 3) with e | e | e | e
    · subst e
      go_wp2
      refine wp_loop_rounds 2 ?_
      rw [rounds_succ]
      go_wp2_with (go_at_call 181; fail)
      go_at_call 181
      refine (kv _).mono ?_
      rintro e w1 ⟨rfl, hb⟩
      have HB1 : Hid (Below W0.heap.size W0 w1) := HBk.out.trans (hb.mono HBk.out.size)
      clear hb
      go_upto_region 26 with fail
      go_quiet (fail)
      generalize hW : w1.drewN _ = W1
      have HB2 : Hid (Below W0.heap.size W0 W1) := by rw [← hW]; exact ⟨HB1.out.os, HB1.out.tape, HB1.out.output, HB1.out.size, HB1.out.block⟩
      clear hW
      go_wp2
      rw [rounds_succ]
      go_wp2
      go_roundg (3 - (0 + 1))
      case measure => omega
      case rel => exact ⟨0 + 1, by omega, by omega, by first | rfl | go_num, HB2⟩
    · subst e
      go_wp2
      refine wp_loop_rounds 2 ?_
      rw [rounds_succ]
      go_wp2_with (go_at_call 181; fail)
      go_at_call 181
      refine (kv _).mono ?_
      rintro e w1 ⟨rfl, hb⟩
      have HB1 : Hid (Below W0.heap.size W0 w1) := HBk.out.trans (hb.mono HBk.out.size)
      clear hb
      go_upto_region 26 with fail
      go_quiet (fail)
      generalize hW : w1.drewN _ = W1
      have HB2 : Hid (Below W0.heap.size W0 W1) := by rw [← hW]; exact ⟨HB1.out.os, HB1.out.tape, HB1.out.output, HB1.out.size, HB1.out.block⟩
      clear hW
      go_wp2
      rw [rounds_succ]
      go_wp2
      go_roundg (3 - (1 + 1))
      case measure => omega
      case rel => exact ⟨1 + 1, by omega, by omega, by first | rfl | go_num, HB2⟩
    · subst e
      go_wp2
      refine wp_loop_rounds 2 ?_
      rw [rounds_succ]
      go_wp2_with (go_at_call 181; fail)
      go_at_call 181
      refine (kv _).mono ?_
      rintro e w1 ⟨rfl, hb⟩
      have HB1 : Hid (Below W0.heap.size W0 w1) := HBk.out.trans (hb.mono HBk.out.size)
      clear hb
      go_upto_region 26 with fail
      go_quiet (fail)
      generalize hW : w1.drewN _ = W1
      have HB2 : Hid (Below W0.heap.size W0 W1) := by rw [← hW]; exact ⟨HB1.out.os, HB1.out.tape, HB1.out.output, HB1.out.size, HB1.out.block⟩
      clear hW
      go_wp2
      rw [rounds_succ]
      go_wp2
      go_roundg (3 - (2 + 1))
      case measure => omega
      case rel => exact ⟨2 + 1, by omega, by omega, by first | rfl | go_num, HB2⟩
    · subst e
      have x0 := (HX.out.below HBk.out).x.at' 0 (by omega)
      have x1 := (HX.out.below HBk.out).x.at' 1 (by omega)
      have x2 := (HX.out.below HBk.out).x.at' 2 (by omega)
      have y0 := (HX.out.below HBk.out).r.at' 0 (by omega)
      have y1 := (HX.out.below HBk.out).r.at' 1 (by omega)
      have y2 := (HX.out.below HBk.out).r.at' 2 (by omega)
      have z0 := (HX.out.below HBk.out).r.fr 0 (by omega)
      have z1 := (HX.out.below HBk.out).r.fr 1 (by omega)
      have z2 := (HX.out.below HBk.out).r.fr 2 (by omega)
      simp only [if_true, show (1 : Nat) ≠ 0 by decide, show (2 : Nat) ≠ 0 by decide, if_false] at x0 x1 x2
      have hbw : Below w.heap.size w wr := HB.out.trans (HBk.out.mono HB.out.size)
      go_wp2
      exact bodyPost_ret (v := .agg #[.int .i64 n, .int .i64 0, .int .i64 0]) (by simp [results, Tryz.results161, go_sem, y0, y1, y2]) rfl ⟨rfl, ((hbw.setCell (by simp) _).setCell (by simp) _).setCell (by simp) _⟩

set_option maxRecDepth 100000 in
set_option maxHeartbeats 4000000 in
theorem wrong_none (n gw ga cw ca : Nat) (a1 : Nat) (en : Int) (v : ByteArray) (w : World) (h0 : w.cell? ⟨ga, 1, none⟩ = some (.int .i64 a1)) (h1 : w.cell? ⟨gw, 1, none⟩ = some (.string v)) (hv : (Pv.parse v.data.toList).isSome = false) :
    Calls Tryz.prog 161 #[.agg #[.int .i64 n, .slice (some ⟨gw, 0, none⟩) 2 cw, .slice (some ⟨ga, 0, none⟩) 2 ca, .int .i64 en], .string ⟨#[118]⟩] w fun e w' => e = .returned (.agg #[.int .i64 n, .int .i64 a1, .int .i64 6]) ∧ Below w.heap.size w w' := by
  have hx := wx_new (n := n) (cw := cw) (ca := ca) (en := en) h0 h1
  have kv := fun W => isVersion_any v W
  rw [hv] at kv
  generalize hq : (v.toList == [61, 62]) = q
  clear h0 h1 hv
  go_enter Tryz.func161, Tryz.ntmps161
  go_wp2
  generalize ((((w.alloc (.cells #[.int .i64 n, .slice (some ⟨gw, 0, none⟩) 2 cw, .slice (some ⟨ga, 0, none⟩) 2 ca, .int .i64 en] 210)).alloc (.cells #[.int .i64 0, .int .i64 0, .int .i64 0] 45)).alloc (.cells #[.int .i64 n, .int .i64 0, .int .i64 0] 45)).alloc (.cells #[.int .i64 5, .int .i64 6, .int .i64 7] 3)) = W0 at hx ⊢
  have HX : Hid (Wx W0 w.heap.size gw ga cw ca n v a1) := hx.1
  have HB : Hid (Below w.heap.size w W0) := hx.2
  clear hx
  go_loopg [8] 3 (fun gg s wr => ∃ k : Nat, k ≤ 1 ∧ 3 - k ≤ gg ∧ s = .int .i64 k ∧ Hid (Below W0.heap.size W0 wr))
  case atStart => exact ⟨0, by omega, by omega, rfl, Below.refl _ _⟩
  case round =>
    obtain ⟨k, hk, hgk, rfl, HBk⟩ := hrel
    have c1 := (HX.out.below HBk.out).l1
    have c2 := (HX.out.below HBk.out).wv
    rcases (by omega : k = 0 ∨ k = 1) with e | e
    · subst e
      go_wp2
      refine wp_loop_rounds 2 ?_
      rw [rounds_succ]
      go_wp2_with (go_at_call 181; fail)
      go_at_call 181
      refine (kv _).mono ?_
      rintro e w1 ⟨rfl, hb⟩
      have HB1 : Hid (Below W0.heap.size W0 w1) := HBk.out.trans (hb.mono HBk.out.size)
      clear hb
      go_upto_region 26 with fail
      go_quiet (fail)
      generalize hW : w1.drewN _ = W1
      have HB2 : Hid (Below W0.heap.size W0 W1) := by rw [← hW]; exact ⟨HB1.out.os, HB1.out.tape, HB1.out.output, HB1.out.size, HB1.out.block⟩
      clear hW
      go_wp2
      rw [rounds_succ]
      go_wp2
      go_roundg (3 - (0 + 1))
      case measure => omega
      case rel => exact ⟨0 + 1, by omega, by omega, by first | rfl | go_num, HB2⟩
    · subst e
      go_wp2
      refine wp_loop_rounds 2 ?_
      rw [rounds_succ]
      go_wp2_with (go_at_call 181; fail)
      go_at_call 181
      refine (kv _).mono ?_
      rintro e w1 ⟨rfl, hb⟩
      have HB1 : Hid (Below W0.heap.size W0 w1) := HBk.out.trans (hb.mono HBk.out.size)
      clear hb
      go_upto_region 26 with fail
      go_quiet (fail)
      generalize hW : w1.drewN _ = W1
      have HB2 : Hid (Below W0.heap.size W0 W1) := by rw [← hW]; exact ⟨HB1.out.os, HB1.out.tape, HB1.out.output, HB1.out.size, HB1.out.block⟩
      clear hW
      have HX2 := HX.out.below HB2.out
      have x0 := HX2.x.at' 0 (by omega)
      have x1 := HX2.x.at' 1 (by omega)
      have x2 := HX2.x.at' 2 (by omega)
      have v1 := HX2.x.fr 1 (by omega)
      have v2 := HX2.x.fr 2 (by omega)
      have y0 := HX2.r.at' 0 (by omega)
      have y1 := HX2.r.at' 1 (by omega)
      have y2 := HX2.r.at' 2 (by omega)
      have z0 := HX2.r.fr 0 (by omega)
      have z1 := HX2.r.fr 1 (by omega)
      have z2 := HX2.r.fr 2 (by omega)
      have l2 := HX2.l2
      have k1 := HX2.k1
      have av := HX2.av
      simp only [if_true, show (1 : Nat) ≠ 0 by decide, show (2 : Nat) ≠ 0 by decide, if_false] at x0 x1 x2
      have hbw : Below w.heap.size w W1 := HB.out.trans (HB2.out.mono HB.out.size)
      clear HX2
      go_wp2
      exact bodyPost_ret (v := .agg #[.int .i64 n, .int .i64 a1, .int .i64 6]) (by simp [results, Tryz.results161, go_sem, y0, y1, y2]) rfl ⟨rfl, ((((hbw.setCell (by simp; omega) _).setCell (by simp; omega) _).setCell (by simp) _).setCell (by simp) _).setCell (by simp) _⟩

end Go.Proofs.YtelmkfkgpnadnaaGreatDoor

namespace Go.Proofs.YtelmkfkgpnadnaaGreatDoor
open Go.RowKit

variable {w w' : World}

def slipV (n : Nat) (r : Option (Nat × Nat)) : Value :=
  match r with
  | some (a, k) => .agg #[.int .i64 n, .int .i64 a, .int .i64 k]
  | none => .agg #[.int .i64 n, .int .i64 0, .int .i64 0]

/-- What must stand behind a first word, in an index. -/
def formX (x : ByteArray) : ByteArray := if x.data.toList = Tx.wV then ⟨#[118]⟩ else ⟨#[]⟩

theorem formX_any (x : ByteArray) (w : World) : Calls Tryz.prog 162 #[.string x, .bool true] w fun e w' => e = .returned (.string (formX x)) ∧ w' = w := by
  unfold formX
  by_cases h : x.data.toList = Tx.wV
  · rw [if_pos h]
    exact form_yes x w (by rw [Lib.toList_data, h]; rfl)
  · rw [if_neg h]
    exact form_no x w (by rw [Lib.toList_data]; simpa [Tx.wV] using h)

theorem own_cases (ip : List UInt8 → Bool) (ws : List (Nat × ByteArray)) (x0 : Nat × ByteArray) (rest : List (Nat × ByteArray)) (e : ws = x0 :: rest) :
    (x0.2.data.toList ≠ Tx.wV ∧ Tx.own true ip (wtoks ws) = some (x0.1, 3)) ∨
    (x0.2.data.toList = Tx.wV ∧ ((2 < ws.length ∧ Tx.own true ip (wtoks ws) = some ((ws.getD 2 pad).1, 4)) ∨ (ws.length = 1 ∧ Tx.own true ip (wtoks ws) = some (Tx.fin (wtoks ws), 4)) ∨
      (ws.length = 2 ∧ Tx.own true ip (wtoks ws) = if (Pv.parse (ws.getD 1 pad).2.data.toList).isSome then none else some ((ws.getD 1 pad).1, 6)))) := by
  subst e
  have hhd : (Tx.hd (wtoks (x0 :: rest))) = (x0.1, x0.2.data.toList) := rfl
  unfold Tx.own
  rw [hhd]
  by_cases h : x0.2.data.toList = Tx.wV
  · refine Or.inr ⟨h, ?_⟩
    have hs : Tx.shape true x0.2.data.toList = some [6] := by unfold Tx.shape; rw [h]; rfl
    simp only [hs]
    match rest with
    | [] =>
      refine Or.inr (Or.inl ⟨rfl, ?_⟩)
      simp [wtoks]
    | [y] =>
      refine Or.inr (Or.inr ⟨rfl, ?_⟩)
      simp only [wtoks, List.map_cons, List.map_nil, List.length_cons, List.length_nil, List.tail_cons, Tx.misfit, Tx.fit, List.getD_cons_succ, List.getD_cons_zero]
      cases hp : (Pv.parse y.2.data.toList).isSome <;> simp
    | y :: z :: r =>
      refine Or.inl ⟨by simp, ?_⟩
      simp [wtoks, List.getD]
  · refine Or.inl ⟨h, ?_⟩
    have hs : Tx.shape true x0.2.data.toList = none := by unfold Tx.shape; simp [h]
    simp only [hs]

theorem wrong_any (ip : List UInt8 → Bool) {B : Nat → Prop} {l : OLn} {cs : List Value} (h : LineLies w B l cs) (x0 : Nat × ByteArray) (rest : List (Nat × ByteArray)) (e : l.2 = x0 :: rest) :
    Calls Tryz.prog 161 #[.agg cs.toArray, .string (formX x0.2)] w fun e w' => e = .returned (slipV l.1 (Tx.own true ip (wtoks l.2))) ∧ Below w.heap.size w w' := by
  obtain ⟨gw, cw, ga, ca, rfl, hne, hw, ha, hgw, hga, _, _⟩ := h
  unfold formX
  rcases own_cases ip l.2 x0 rest e with ⟨h1, h2⟩ | ⟨h1, h2⟩
  · rw [if_neg h1, h2]
    have h0 := ha.at' 0 (by rw [e]; simp)
    rw [e] at h0
    have := wrong_word l.1 gw ga l.2.length cw ca x0.1 (Tx.fin (wtoks l.2)) w (by rw [e]; simp) h0
    exact this
  · rw [if_pos h1]
    rcases h2 with ⟨h3, h4⟩ | ⟨h3, h4⟩ | ⟨h3, h4⟩
    · rw [h4]
      exact wrong_many l.1 gw ga l.2.length cw ca (l.2.getD 2 pad).1 (Tx.fin (wtoks l.2)) w h3 (ha.at' 2 h3)
    · rw [h4, h3]
      exact wrong_few l.1 gw ga cw ca (Tx.fin (wtoks l.2)) w
    · rw [h4, h3]
      rw [h3] at hw ha
      cases hp : (Pv.parse (l.2.getD 1 pad).2.data.toList).isSome
      · exact wrong_none l.1 gw ga cw ca (l.2.getD 1 pad).1 (Tx.fin (wtoks l.2)) (l.2.getD 1 pad).2 w (ha.at' 1 (by omega)) (hw.at' 1 (by omega)) hp
      · exact wrong_version l.1 gw ga cw ca (l.2.getD 1 pad).1 (Tx.fin (wtoks l.2)) (l.2.getD 1 pad).2 w (ha.at' 1 (by omega)) (hw.at' 1 (by omega)) hp

end Go.Proofs.YtelmkfkgpnadnaaGreatDoor

namespace Go.Proofs.YtelmkfkgpnadnaaGreatDoor
open Go.RowKit

variable {w w' : World}

theorem lineCells {B : Nat → Prop} {out : List OLn} {xs : List Value} {ob cap : Nat} (h : AllLines w B out xs) (ho : w.ownsRow 0 210 4 (.slice (some ⟨ob, 0, none⟩) out.length cap) out.length xs) (j : Nat) (hj : j < out.length) :
    ∃ gw cw ga ca, w.cell? ⟨ob, j * 4, none⟩ = some (.int .i64 out[j].1) ∧ w.cell? ⟨ob, j * 4 + 1, none⟩ = some (.slice (some ⟨gw, 0, none⟩) out[j].2.length cw) ∧ w.cell? ⟨ob, j * 4 + 2, none⟩ = some (.slice (some ⟨ga, 0, none⟩) out[j].2.length ca) ∧ w.cell? ⟨ob, j * 4 + 3, none⟩ = some (.int .i64 (Tx.fin (wtoks out[j].2))) ∧
      LineLies w B out[j] [.int .i64 out[j].1, .slice (some ⟨gw, 0, none⟩) out[j].2.length cw, .slice (some ⟨ga, 0, none⟩) out[j].2.length ca, .int .i64 (Tx.fin (wtoks out[j].2))] ∧ ValsAt w gw out[j].2.length (fun i => .string (out[j].2.getD i pad).2) ∧ gw < w.heap.size := by
  obtain ⟨gw, cw, ga, ca, e, hne, h1, h2, h3, h4, h5, h6⟩ := h.2 j hj
  have hx : ∀ i, i < 4 → w.cell? ⟨ob, j * 4 + i, none⟩ = [Value.int .i64 out[j].1, .slice (some ⟨gw, 0, none⟩) out[j].2.length cw, .slice (some ⟨ga, 0, none⟩) out[j].2.length ca, .int .i64 (Tx.fin (wtoks out[j].2))][i]? := fun i hi => by
    rw [ho.cellAt (j * 4 + i) (by omega), ← e, List.getElem?_take, if_pos hi, List.getElem?_drop]
  exact ⟨gw, cw, ga, ca, hx 0 (by omega), hx 1 (by omega), hx 2 (by omega), hx 3 (by omega), ⟨gw, cw, ga, ca, rfl, hne, h1, h2, h3, h4, h5, h6⟩, h1, h3⟩

set_option maxRecDepth 100000 in
set_option maxHeartbeats 4000000 in
theorem again_any (ob cap n gw ga cw ca : Nat) (en : Int) (v : ByteArray) (good : List OLn) (xs : List Value) (B : Nat → Prop) (w : World) (hg : good.length ≤ 2001)
    (ho : w.ownsRow 0 210 4 (.slice (some ⟨ob, 0, none⟩) good.length cap) good.length xs) (hl : AllLines w B good xs) (h2 : ∀ g ∈ good, g.2.length = 2 ∧ (g.2.getD 0 pad).2 = ⟨#[118, 101, 114, 115, 105, 111, 110]⟩)
    (w0 : w.cell? ⟨gw, 0, none⟩ = some (.string ⟨#[118, 101, 114, 115, 105, 111, 110]⟩)) (w1 : w.cell? ⟨gw, 1, none⟩ = some (.string v)) :
    Calls Tryz.prog 163 #[.agg #[.int .i64 n, .slice (some ⟨gw, 0, none⟩) 2 cw, .slice (some ⟨ga, 0, none⟩) 2 ca, .int .i64 en], .slice (some ⟨ob, 0, none⟩) good.length cap] w fun e w' => e = .returned (.bool (good.any fun g => (g.2.getD 1 pad).2.toList == v.toList)) ∧ Below w.heap.size w w' := by
  have HL : Hid (∀ j, ∀ hj : j < good.length, ∃ gj cj ga' ca', w.cell? ⟨ob, j * 4, none⟩ = some (.int .i64 good[j].1) ∧ w.cell? ⟨ob, j * 4 + 1, none⟩ = some (.slice (some ⟨gj, 0, none⟩) 2 cj) ∧ w.cell? ⟨ob, j * 4 + 2, none⟩ = some (.slice (some ⟨ga', 0, none⟩) 2 ca') ∧ w.cell? ⟨ob, j * 4 + 3, none⟩ = some (.int .i64 (Tx.fin (wtoks good[j].2))) ∧ w.cell? ⟨gj, 0, none⟩ = some (.string ⟨#[118, 101, 114, 115, 105, 111, 110]⟩) ∧ w.cell? ⟨gj, 1, none⟩ = some (.string (good[j].2.getD 1 pad).2)) := fun j hj => by
    obtain ⟨gj, cj, ga', ca', a0, a1, a2, a3, _, hv, _⟩ := lineCells hl ho j hj
    obtain ⟨e1, e2⟩ := h2 good[j] (List.getElem_mem hj)
    rw [e1] at a1 a2 hv
    have b0 := hv.at' 0 (by omega)
    rw [e2] at b0
    exact ⟨gj, cj, ga', ca', a0, a1, a2, a3, b0, hv.at' 1 (by omega)⟩
  have hobl := (ho.lt ob rfl).2
  have HW : Hid (w.cell? ⟨gw, 0, none⟩ = some (.string ⟨#[118, 101, 114, 115, 105, 111, 110]⟩) ∧ w.cell? ⟨gw, 1, none⟩ = some (.string v)) := ⟨w0, w1⟩
  obtain ⟨R, hR⟩ : ∃ R, (good.any fun g => (g.2.getD 1 pad).2.toList == v.toList) = R := ⟨_, rfl⟩
  have HR : Hid ((good.any fun g => (g.2.getD 1 pad).2.toList == v.toList) = R) := hR
  rw [hR]
  clear ho hl h2 w0 w1 hR
  go_enter Tryz.func163, Tryz.ntmps163
  go_wp2
  have hl1 : (w.alloc (.cells #[.int .i64 n, .slice (some ⟨gw, 0, none⟩) 2 cw, .slice (some ⟨ga, 0, none⟩) 2 ca, .int .i64 en] 210)).cell? ⟨w.heap.size, 1, none⟩ = some (.slice (some ⟨gw, 0, none⟩) 2 cw) := by
    have b0 := block_new w (.cells #[.int .i64 n, .slice (some ⟨gw, 0, none⟩) 2 cw, .slice (some ⟨ga, 0, none⟩) 2 ca, .int .i64 en] 210)
    simp only [World.cell?, b0]; rfl
  have hb0 : Below w.heap.size w (w.alloc (.cells #[.int .i64 n, .slice (some ⟨gw, 0, none⟩) 2 cw, .slice (some ⟨ga, 0, none⟩) 2 ca, .int .i64 en] 210)) := (Below.refl _ _).alloc (Nat.le_refl _) _
  generalize w.alloc (.cells #[.int .i64 n, .slice (some ⟨gw, 0, none⟩) 2 cw, .slice (some ⟨ga, 0, none⟩) 2 ca, .int .i64 en] 210) = W0 at *
  have HS : Hid (W0.cell? ⟨w.heap.size, 1, none⟩ = some (.slice (some ⟨gw, 0, none⟩) 2 cw) ∧ Below w.heap.size w W0) := ⟨hl1, hb0⟩
  clear hl1 hb0
  go_loopg [5] good.length (fun gg s wr => ∃ j : Nat, j ≤ good.length ∧ good.length - j ≤ gg ∧ s = .int .i64 j ∧ Hid (wr.cell? ⟨w.heap.size, 1, none⟩ = some (.slice (some ⟨gw, 0, none⟩) 2 cw) ∧ Below w.heap.size w wr) ∧ Hid (((good.drop j).any fun g => (g.2.getD 1 pad).2.toList == v.toList) = R))
  case atStart => exact ⟨0, by omega, by omega, rfl, HS, HR⟩
  case round =>
    clear HS HR
    obtain ⟨j, hj, hgj, rfl, HS, HR⟩ := hrel
    by_cases hlt : j < good.length
    · obtain ⟨gj, cj, ga', ca', a0, a1, a2, a3, a4, a5⟩ := HL.out j hlt
      have hbw := HS.out.2
      have hgjl := World.block_lt_of_cell? w _ a4
      have hgwl := World.block_lt_of_cell? w _ HW.out.1
      have d0 : wr.cell? ⟨ob, j * 4, none⟩ = _ := (hbw.cell (p := ⟨ob, j * 4, none⟩) hobl).trans a0
      have d1 : wr.cell? ⟨ob, j * 4 + 1, none⟩ = _ := (hbw.cell (p := ⟨ob, j * 4 + 1, none⟩) hobl).trans a1
      have d2 : wr.cell? ⟨ob, j * 4 + 2, none⟩ = _ := (hbw.cell (p := ⟨ob, j * 4 + 2, none⟩) hobl).trans a2
      have d3 : wr.cell? ⟨ob, j * 4 + 3, none⟩ = _ := (hbw.cell (p := ⟨ob, j * 4 + 3, none⟩) hobl).trans a3
      have hltI : (j : Int) < (good.length : Int) := by omega
      generalize (Tx.fin (wtoks good[j].2) : Nat) = fi at *
      generalize (good[j].1 : Nat) = nj at *
      go_upto_region 5 with fail
      have hws := HS.out.2.size
      have q1 : (wr.alloc (.cells #[.int .i64 nj, .slice (some ⟨gj, 0, none⟩) 2 cj, .slice (some ⟨ga', 0, none⟩) 2 ca', .int .i64 fi] 210)).cell? ⟨wr.heap.size, 1, none⟩ = some (.slice (some ⟨gj, 0, none⟩) 2 cj) := by
        have b0 := block_new wr (.cells #[.int .i64 nj, .slice (some ⟨gj, 0, none⟩) 2 cj, .slice (some ⟨ga', 0, none⟩) 2 ca', .int .i64 fi] 210)
        simp only [World.cell?, b0]; rfl
      have hbn : Below wr.heap.size wr (wr.alloc (.cells #[.int .i64 nj, .slice (some ⟨gj, 0, none⟩) 2 cj, .slice (some ⟨ga', 0, none⟩) 2 ca', .int .i64 fi] 210)) := (Below.refl _ _).alloc (Nat.le_refl _) _
      have hll := World.block_lt_of_cell? wr _ HS.out.1
      generalize wr.alloc (.cells #[.int .i64 nj, .slice (some ⟨gj, 0, none⟩) 2 cj, .slice (some ⟨ga', 0, none⟩) 2 ca', .int .i64 fi] 210) = W1 at *
      have HS1 : Hid (W1.cell? ⟨w.heap.size, 1, none⟩ = some (.slice (some ⟨gw, 0, none⟩) 2 cw) ∧ Below w.heap.size w W1) := ⟨(hbn.cell (p := ⟨w.heap.size, 1, none⟩) hll).trans HS.out.1, hbw.trans (hbn.mono hws)⟩
      have p1 := HS1.out.1
      have p2 : W1.cell? ⟨gw, 0, none⟩ = _ := (HS1.out.2.cell (p := ⟨gw, 0, none⟩) hgwl).trans HW.out.1
      have p3 : W1.cell? ⟨gw, 1, none⟩ = _ := (HS1.out.2.cell (p := ⟨gw, 1, none⟩) hgwl).trans HW.out.2
      have p4 : W1.cell? ⟨gj, 0, none⟩ = _ := (HS1.out.2.cell (p := ⟨gj, 0, none⟩) hgjl).trans a4
      have p5 : W1.cell? ⟨gj, 1, none⟩ = _ := (HS1.out.2.cell (p := ⟨gj, 1, none⟩) hgjl).trans a5
      clear a0 a1 a2 a3 a4 a5 d0 d1 d2 d3 hbw hbn HS hws hll hgjl hgwl
      have hRj : ((((good[j].2.getD 1 pad).2.toList == v.toList) || ((good.drop (j + 1)).any fun g => (g.2.getD 1 pad).2.toList == v.toList)) = R) := by
        have := HR.out
        rw [List.drop_eq_getElem_cons hlt, List.any_cons] at this
        exact this
      generalize (good[j].2.getD 1 pad).2 = gv at *
      clear HR
      cases hq : (gv.toList == v.toList)
      · rw [hq, Bool.false_or] at hRj
        have HR : Hid (((good.drop (j + 1)).any fun g => (g.2.getD 1 pad).2.toList == v.toList) = R) := hRj
        clear hRj
        go_quiet (fail)
        generalize hW : W1.drewN _ = W2
        have HS2 : Hid (W2.cell? ⟨w.heap.size, 1, none⟩ = some (.slice (some ⟨gw, 0, none⟩) 2 cw) ∧ Below w.heap.size w W2) := by rw [← hW]; exact ⟨HS1.out.1, HS1.out.2.os, HS1.out.2.tape, HS1.out.2.output, HS1.out.2.size, HS1.out.2.block⟩
        clear hW
        go_wp2
        go_roundg (good.length - (j + 1))
        case measure => omega
        case rel => exact ⟨j + 1, by omega, by omega, by go_num, HS2, HR⟩
      · rw [hq, Bool.true_or] at hRj
        subst hRj
        go_quiet (fail)
        generalize hW : W1.drewN _ = W2
        have hb2 : Below w.heap.size w W2 := by rw [← hW]; exact ⟨HS1.out.2.os, HS1.out.2.tape, HS1.out.2.output, HS1.out.2.size, HS1.out.2.block⟩
        have r1 : W2.cell? ⟨w.heap.size, 1, none⟩ = some (.slice (some ⟨gw, 0, none⟩) 2 cw) := by rw [← hW]; exact p1
        have r2 : W2.cell? ⟨gw, 0, none⟩ = some (.string ⟨#[118, 101, 114, 115, 105, 111, 110]⟩) := by rw [← hW]; exact p2
        clear hW p1 p2 p3 p4 p5 q1 hq
        go_upto_region 6 with fail
        go_quiet (fail)
        generalize hW : W2.drewN _ = W3
        have hb3 : Below w.heap.size w W3 := by rw [← hW]; exact ⟨hb2.os, hb2.tape, hb2.output, hb2.size, hb2.block⟩
        clear hW
        go_wp2
        go_ret
        exact ⟨rfl, hb3⟩
    · have hltI : ((j : Int) < (good.length : Int)) = False := by simp; omega
      have hR : R = false := by
        have := HR.out
        rw [List.drop_of_length_le (by omega)] at this
        exact this.symm
      subst hR
      go_wp2
      go_ret
      exact ⟨rfl, HS.out.2⟩

set_option maxRecDepth 100000 in
set_option maxHeartbeats 1000000 in
theorem again_none (n gw ga cw ca cap : Nat) (en : Int) (a : Option Addr) (w : World) :
    Calls Tryz.prog 163 #[.agg #[.int .i64 n, .slice (some ⟨gw, 0, none⟩) 2 cw, .slice (some ⟨ga, 0, none⟩) 2 ca, .int .i64 en], .slice a 0 cap] w fun e w' => e = .returned (.bool false) ∧ Below w.heap.size w w' := by
  have HB : Hid (∀ o, Below w.heap.size w (w.alloc o)) := fun o => (Below.refl _ _).alloc (Nat.le_refl _) _
  go_enter Tryz.func163, Tryz.ntmps163
  go_wp2
  refine wp_loop_rounds 1 ?_
  rw [rounds_succ]
  go_wp2
  go_ret
  exact ⟨rfl, HB.out _⟩

end Go.Proofs.YtelmkfkgpnadnaaGreatDoor
