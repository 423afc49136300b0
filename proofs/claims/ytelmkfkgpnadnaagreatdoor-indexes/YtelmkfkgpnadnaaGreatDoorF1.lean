/-
  The document's answer, of an index: what must stand behind a first word; the slip of a line's words.
-/
import Derived.Test.YtelmkfkgpnadnaaGreatDoorL2
import Derived.Test.YtelmkfkgpnadnaaGreatDoorVA
import Derived.BigQuiet
namespace Go.Proofs.YtelmkfkgpnadnaaGreatDoor
open Go.RowKit

variable {w w' : World}

set_option maxHeartbeats 400000 in
theorem form_yes (x : ByteArray) (w : World) (h : (x.toList == [118, 101, 114, 115, 105, 111, 110]) = true) :
    Calls Tryz.prog 162 #[.string x, .bool true] w fun e w' => e = .returned (.string ⟨#[118]⟩) ∧ w' = w := by
  go_enter Tryz.func162, Tryz.ntmps162
  go_wp2
  go_ret
  exact ⟨rfl, rfl⟩

set_option maxHeartbeats 400000 in
theorem form_no (x : ByteArray) (w : World) (h : (x.toList == [118, 101, 114, 115, 105, 111, 110]) = false) :
    Calls Tryz.prog 162 #[.string x, .bool true] w fun e w' => e = .returned (.string ⟨#[]⟩) ∧ w' = w := by
  go_enter Tryz.func162, Tryz.ntmps162
  go_wp2
  go_ret
  exact ⟨rfl, rfl⟩

theorem cell3 {b o : Nat} {v : Value} (h : w.cell? ⟨b, o, none⟩ = some v) : ∀ o1 o2 o3 : Obj, (((w.alloc o1).alloc o2).alloc o3).cell? ⟨b, o, none⟩ = some v := fun o1 o2 o3 => by
  have hl := World.block_lt_of_cell? w _ h
  have hb : Below w.heap.size w (((w.alloc o1).alloc o2).alloc o3) := (((Below.refl _ _).alloc (Nat.le_refl _) _).alloc (by simp) _).alloc (by simp; omega) _
  rw [hb.cell (p := ⟨b, o, none⟩) hl]; exact h

theorem below3 (w : World) (o1 o2 o3 : Obj) : Below w.heap.size w (((w.alloc o1).alloc o2).alloc o3) := (((Below.refl _ _).alloc (Nat.le_refl _) _).alloc (by simp) _).alloc (by simp; omega) _

set_option maxRecDepth 100000 in
set_option maxHeartbeats 1000000 in
theorem wrong_word (n gw ga m cw ca : Nat) (a0 : Nat) (en : Int) (w : World) (hm : 0 < m) (h0 : w.cell? ⟨ga, 0, none⟩ = some (.int .i64 a0)) :
    Calls Tryz.prog 161 #[.agg #[.int .i64 n, .slice (some ⟨gw, 0, none⟩) m cw, .slice (some ⟨ga, 0, none⟩) m ca, .int .i64 en], .string ⟨#[]⟩] w fun e w' => e = .returned (.agg #[.int .i64 n, .int .i64 a0, .int .i64 3]) ∧ Below w.heap.size w w' := by
  have H0 := cell3 h0
  have hmI : (0 : Int) < (m : Int) := by omega
  have hb3 := below3 w
  have HB : Hid (∀ o1 o2 o3 : Obj, Below w.heap.size w (((w.alloc o1).alloc o2).alloc o3)) := hb3
  clear h0 hb3
  go_enter Tryz.func161, Tryz.ntmps161
  go_wp2
  exact bodyPost_ret (v := .agg #[.int .i64 n, .int .i64 a0, .int .i64 3]) (by simp [results, Tryz.results161, go_sem]) rfl ⟨rfl, HB.out _ _ _⟩

set_option maxRecDepth 100000 in
set_option maxHeartbeats 1000000 in
theorem wrong_many (n gw ga m cw ca : Nat) (a2 : Nat) (en : Int) (w : World) (hm : 2 < m) (h0 : w.cell? ⟨ga, 2, none⟩ = some (.int .i64 a2)) :
    Calls Tryz.prog 161 #[.agg #[.int .i64 n, .slice (some ⟨gw, 0, none⟩) m cw, .slice (some ⟨ga, 0, none⟩) m ca, .int .i64 en], .string ⟨#[118]⟩] w fun e w' => e = .returned (.agg #[.int .i64 n, .int .i64 a2, .int .i64 4]) ∧ Below w.heap.size w w' := by
  have H0 := cell3 h0
  have hmI : (2 : Int) < (m : Int) := by omega
  have hmn : ((m : Int) != 2) = true := by simp; omega
  have HB : Hid (∀ o1 o2 o3 : Obj, Below w.heap.size w (((w.alloc o1).alloc o2).alloc o3)) := below3 w
  clear h0
  go_enter Tryz.func161, Tryz.ntmps161
  go_wp2
  exact bodyPost_ret (v := .agg #[.int .i64 n, .int .i64 a2, .int .i64 4]) (by simp [results, Tryz.results161, go_sem]) rfl ⟨rfl, HB.out _ _ _⟩

set_option maxRecDepth 100000 in
set_option maxHeartbeats 1000000 in
theorem wrong_few (n gw ga cw ca : Nat) (en : Int) (w : World) :
    Calls Tryz.prog 161 #[.agg #[.int .i64 n, .slice (some ⟨gw, 0, none⟩) 1 cw, .slice (some ⟨ga, 0, none⟩) 1 ca, .int .i64 en], .string ⟨#[118]⟩] w fun e w' => e = .returned (.agg #[.int .i64 n, .int .i64 en, .int .i64 4]) ∧ Below w.heap.size w w' := by
  have HB : Hid (∀ o1 o2 o3 : Obj, Below w.heap.size w (((w.alloc o1).alloc o2).alloc o3)) := below3 w
  go_enter Tryz.func161, Tryz.ntmps161
  go_wp2
  exact bodyPost_ret (v := .agg #[.int .i64 n, .int .i64 en, .int .i64 4]) (by simp [results, Tryz.results161, go_sem]) rfl ⟨rfl, HB.out _ _ _⟩

/-- What a look at a line of two words has laid. -/
structure Wx (W : World) (L gw ga cw ca n : Nat) (v : ByteArray) (a1 : Nat) : Prop where
  l1 : W.cell? ⟨L, 1, none⟩ = some (.slice (some ⟨gw, 0, none⟩) 2 cw)
  l2 : W.cell? ⟨L, 2, none⟩ = some (.slice (some ⟨ga, 0, none⟩) 2 ca)
  r : ValsAt W (L + 1) 3 (fun _ => .int .i64 0)
  x : ValsAt W (L + 2) 3 (fun f => if f = 0 then .int .i64 n else .int .i64 0)
  k1 : W.cell? ⟨L + 3, 1, none⟩ = some (.int .i64 6)
  wv : W.cell? ⟨gw, 1, none⟩ = some (.string v)
  av : W.cell? ⟨ga, 1, none⟩ = some (.int .i64 a1)

theorem Wx.below {W W' : World} {L gw ga cw ca n : Nat} {v : ByteArray} {a1 : Nat} (h : Wx W L gw ga cw ca n v a1) (hb : Below W.heap.size W W') : Wx W' L gw ga cw ca n v a1 := by
  have h1 := World.block_lt_of_cell? W _ h.l1
  have h2 := World.block_lt_of_cell? W _ (h.r.at' 0 (by omega))
  have h3 := World.block_lt_of_cell? W _ (h.x.at' 0 (by omega))
  have h4 := World.block_lt_of_cell? W _ h.k1
  have h5 := World.block_lt_of_cell? W _ h.wv
  have h6 := World.block_lt_of_cell? W _ h.av
  exact ⟨by rw [hb.cell (p := ⟨L, 1, none⟩) h1]; exact h.l1, by rw [hb.cell (p := ⟨L, 2, none⟩) h1]; exact h.l2, h.r.of_block (hb.block _ h2), h.x.of_block (hb.block _ h3), by rw [hb.cell (p := ⟨L + 3, 1, none⟩) h4]; exact h.k1, by rw [hb.cell (p := ⟨gw, 1, none⟩) h5]; exact h.wv, by rw [hb.cell (p := ⟨ga, 1, none⟩) h6]; exact h.av⟩

theorem block_new (w : World) (o : Obj) : (w.alloc o).heap[w.heap.size]? = some o := by
  show (w.heap.push _)[w.heap.size]? = _
  simp

theorem wx_new {n gw ga cw ca a1 : Nat} {en : Int} {v : ByteArray} (h0 : w.cell? ⟨ga, 1, none⟩ = some (.int .i64 a1)) (h1 : w.cell? ⟨gw, 1, none⟩ = some (.string v)) :
    Wx ((((w.alloc (.cells #[.int .i64 n, .slice (some ⟨gw, 0, none⟩) 2 cw, .slice (some ⟨ga, 0, none⟩) 2 ca, .int .i64 en] 210)).alloc (.cells #[.int .i64 0, .int .i64 0, .int .i64 0] 45)).alloc (.cells #[.int .i64 n, .int .i64 0, .int .i64 0] 45)).alloc (.cells #[.int .i64 5, .int .i64 6, .int .i64 7] 3)) w.heap.size gw ga cw ca n v a1 ∧ Below w.heap.size w ((((w.alloc (.cells #[.int .i64 n, .slice (some ⟨gw, 0, none⟩) 2 cw, .slice (some ⟨ga, 0, none⟩) 2 ca, .int .i64 en] 210)).alloc (.cells #[.int .i64 0, .int .i64 0, .int .i64 0] 45)).alloc (.cells #[.int .i64 n, .int .i64 0, .int .i64 0] 45)).alloc (.cells #[.int .i64 5, .int .i64 6, .int .i64 7] 3)) := by
  have g1 := World.block_lt_of_cell? w _ h0
  have g2 := World.block_lt_of_cell? w _ h1
  have hb : Below w.heap.size w ((((w.alloc (.cells #[.int .i64 n, .slice (some ⟨gw, 0, none⟩) 2 cw, .slice (some ⟨ga, 0, none⟩) 2 ca, .int .i64 en] 210)).alloc (.cells #[.int .i64 0, .int .i64 0, .int .i64 0] 45)).alloc (.cells #[.int .i64 n, .int .i64 0, .int .i64 0] 45)).alloc (.cells #[.int .i64 5, .int .i64 6, .int .i64 7] 3)) := ((((Below.refl _ _).alloc (Nat.le_refl _) _).alloc (by simp) _).alloc (by simp; omega) _).alloc (by simp; omega) _
  have b0 : ((((w.alloc (.cells #[.int .i64 n, .slice (some ⟨gw, 0, none⟩) 2 cw, .slice (some ⟨ga, 0, none⟩) 2 ca, .int .i64 en] 210)).alloc (.cells #[.int .i64 0, .int .i64 0, .int .i64 0] 45)).alloc (.cells #[.int .i64 n, .int .i64 0, .int .i64 0] 45)).alloc (.cells #[.int .i64 5, .int .i64 6, .int .i64 7] 3)).heap[w.heap.size]? = some (.cells #[.int .i64 n, .slice (some ⟨gw, 0, none⟩) 2 cw, .slice (some ⟨ga, 0, none⟩) 2 ca, .int .i64 en] 210) := by
    rw [Below.heap_alloc _ _ _ (by simp; omega), Below.heap_alloc _ _ _ (by simp; omega), Below.heap_alloc _ _ _ (by simp)]
    exact block_new _ _
  have e1 : (w.alloc (.cells #[.int .i64 n, .slice (some ⟨gw, 0, none⟩) 2 cw, .slice (some ⟨ga, 0, none⟩) 2 ca, .int .i64 en] 210)).heap.size = w.heap.size + 1 := by simp
  have b1 : ((((w.alloc (.cells #[.int .i64 n, .slice (some ⟨gw, 0, none⟩) 2 cw, .slice (some ⟨ga, 0, none⟩) 2 ca, .int .i64 en] 210)).alloc (.cells #[.int .i64 0, .int .i64 0, .int .i64 0] 45)).alloc (.cells #[.int .i64 n, .int .i64 0, .int .i64 0] 45)).alloc (.cells #[.int .i64 5, .int .i64 6, .int .i64 7] 3)).heap[w.heap.size + 1]? = some (.cells #[.int .i64 0, .int .i64 0, .int .i64 0] 45) := by
    rw [Below.heap_alloc _ _ _ (by simp), Below.heap_alloc _ _ _ (by simp), ← e1]
    exact block_new _ _
  have e2 : ((w.alloc (.cells #[.int .i64 n, .slice (some ⟨gw, 0, none⟩) 2 cw, .slice (some ⟨ga, 0, none⟩) 2 ca, .int .i64 en] 210)).alloc (.cells #[.int .i64 0, .int .i64 0, .int .i64 0] 45)).heap.size = w.heap.size + 2 := by simp
  have b2 : ((((w.alloc (.cells #[.int .i64 n, .slice (some ⟨gw, 0, none⟩) 2 cw, .slice (some ⟨ga, 0, none⟩) 2 ca, .int .i64 en] 210)).alloc (.cells #[.int .i64 0, .int .i64 0, .int .i64 0] 45)).alloc (.cells #[.int .i64 n, .int .i64 0, .int .i64 0] 45)).alloc (.cells #[.int .i64 5, .int .i64 6, .int .i64 7] 3)).heap[w.heap.size + 2]? = some (.cells #[.int .i64 n, .int .i64 0, .int .i64 0] 45) := by
    rw [Below.heap_alloc _ _ _ (by simp), ← e2]
    exact block_new _ _
  have e3 : (((w.alloc (.cells #[.int .i64 n, .slice (some ⟨gw, 0, none⟩) 2 cw, .slice (some ⟨ga, 0, none⟩) 2 ca, .int .i64 en] 210)).alloc (.cells #[.int .i64 0, .int .i64 0, .int .i64 0] 45)).alloc (.cells #[.int .i64 n, .int .i64 0, .int .i64 0] 45)).heap.size = w.heap.size + 3 := by simp
  have b3 : ((((w.alloc (.cells #[.int .i64 n, .slice (some ⟨gw, 0, none⟩) 2 cw, .slice (some ⟨ga, 0, none⟩) 2 ca, .int .i64 en] 210)).alloc (.cells #[.int .i64 0, .int .i64 0, .int .i64 0] 45)).alloc (.cells #[.int .i64 n, .int .i64 0, .int .i64 0] 45)).alloc (.cells #[.int .i64 5, .int .i64 6, .int .i64 7] 3)).heap[w.heap.size + 3]? = some (.cells #[.int .i64 5, .int .i64 6, .int .i64 7] 3) := by
    rw [← e3]
    exact block_new _ _
  refine ⟨⟨by simp only [World.cell?, b0]; rfl, by simp only [World.cell?, b0]; rfl, ⟨fun j hj => ?_, fun j hj => ?_⟩, ⟨fun j hj => ?_, fun j hj => ?_⟩, by simp only [World.cell?, b3]; rfl, by rw [hb.cell (p := ⟨gw, 1, none⟩) g2]; exact h1, by rw [hb.cell (p := ⟨ga, 1, none⟩) g1]; exact h0⟩, hb⟩
  · simp only [World.cell?, b1]
    rcases (by omega : j = 0 ∨ j = 1 ∨ j = 2) with e | e | e <;> simp [e]
  · simp only [World.frozen?, b1]; simp
  · simp only [World.cell?, b2]
    rcases (by omega : j = 0 ∨ j = 1 ∨ j = 2) with e | e | e <;> simp [e]
  · simp only [World.frozen?, b2]; simp

set_option maxRecDepth 100000 in
set_option maxHeartbeats 4000000 in
theorem wrong_version (n gw ga cw ca : Nat) (a1 : Nat) (en : Int) (v : ByteArray) (w : World) (h0 : w.cell? ⟨ga, 1, none⟩ = some (.int .i64 a1)) (h1 : w.cell? ⟨gw, 1, none⟩ = some (.string v)) (hv : (Pv.parse v.data.toList).isSome = true) :
    Calls Tryz.prog 161 #[.agg #[.int .i64 n, .slice (some ⟨gw, 0, none⟩) 2 cw, .slice (some ⟨ga, 0, none⟩) 2 ca, .int .i64 en], .string ⟨#[118]⟩] w fun e w' => e = .returned (.agg #[.int .i64 n, .int .i64 0, .int .i64 0]) ∧ Below w.heap.size w w' := by
  have hx := wx_new (n := n) (cw := cw) (ca := ca) (en := en) h0 h1
  have kv := fun W => isVersion_any v W
  rw [hv] at kv
  generalize hq : (v.toList == [61, 62]) = q
  clear h0 h1 hv
  go_enter Tryz.func161, Tryz.ntmps161
  go_wp2
  generalize ((((w.alloc (.cells #[.int .i64 n, .slice (some ⟨gw, 0, none⟩) 2 cw, .slice (some ⟨ga, 0, none⟩) 2 ca, .int .i64 en] 210)).alloc (.cells #[.int .i64 0, .int .i64 0, .int .i64 0] 45)).alloc (.cells #[.int .i64 n, .int .i64 0, .int .i64 0] 45)).alloc (.cells #[.int .i64 5, .int .i64 6, .int .i64 7] 3)) = W0 at hx ⊢
  have HX : Hid (Wx W0 w.heap.size gw ga cw ca n v a1) := hx.1
  have HB : Hid (Below w.heap.size w W0) := hx.2
  clear hx
  go_loopg [8] 3 (fun gg s wr => ∃ k : Nat, k ≤ 3 ∧ 3 - k ≤ gg ∧ s = .int .i64 k ∧ Hid (Below W0.heap.size W0 wr))
  case atStart => exact ⟨0, by omega, by omega, rfl, Below.refl _ _⟩
  case round =>
    obtain ⟨k, hk, hgk, rfl, HBk⟩ := hrel
    have c1 := (HX.out.below HBk.out).l1
    have c2 := (HX.out.below HBk.out).wv
    rcases (by omega : k = 0 ∨ k = 1 ∨ k = 2 ∨ k = 3) with e | e | e | e
    · subst e
      go_wp2
      refine wp_loop_rounds 2 ?_
      rw [rounds_succ]
      go_wp2_with (go_at_call 181; fail)
      go_at_call 181
      refine (kv _).mono ?_
      rintro e w1 ⟨rfl, hb⟩
      have HB1 : Hid (Below W0.heap.size W0 w1) := HBk.out.trans (hb.mono HBk.out.size)
      clear hb
      go_upto_region 26 with fail
      go_quiet (fail)
      generalize hW : w1.drewN _ = W1
      have HB2 : Hid (Below W0.heap.size W0 W1) := by rw [← hW]; exact ⟨HB1.out.os, HB1.out.tape, HB1.out.output, HB1.out.size, HB1.out.block⟩
      clear hW
      go_wp2
      rw [rounds_succ]
      go_wp2
      go_roundg (3 - (0 + 1))
      case measure => omega
      case rel => exact ⟨0 + 1, by omega, by omega, by first | rfl | go_num, HB2⟩
    · subst e
      go_wp2
      refine wp_loop_rounds 2 ?_
      rw [rounds_succ]
      go_wp2_with (go_at_call 181; fail)
      go_at_call 181
      refine (kv _).mono ?_
      rintro e w1 ⟨rfl, hb⟩
      have HB1 : Hid (Below W0.heap.size W0 w1) := HBk.out.trans (hb.mono HBk.out.size)
      clear hb
      go_upto_region 26 with fail
      go_quiet (fail)
      generalize hW : w1.drewN _ = W1
      have HB2 : Hid (Below W0.heap.size W0 W1) := by rw [← hW]; exact ⟨HB1.out.os, HB1.out.tape, HB1.out.output, HB1.out.size, HB1.out.block⟩
      clear hW
      go_wp2
      rw [rounds_succ]
      go_wp2
      go_roundg (3 - (1 + 1))
      case measure => omega
      case rel => exact ⟨1 + 1, by omega, by omega, by first | rfl | go_num, HB2⟩
    · subst e
      go_wp2
      refine wp_loop_rounds 2 ?_
      rw [rounds_succ]
      go_wp2_with (go_at_call 181; fail)
      go_at_call 181
      refine (kv _).mono ?_
      rintro e w1 ⟨rfl, hb⟩
      have HB1 : Hid (Below W0.heap.size W0 w1) := HBk.out.trans (hb.mono HBk.out.size)
      clear hb
      go_upto_region 26 with fail
      go_quiet (fail)
      generalize hW : w1.drewN _ = W1
      have HB2 : Hid (Below W0.heap.size W0 W1) := by rw [← hW]; exact ⟨HB1.out.os, HB1.out.tape, HB1.out.output, HB1.out.size, HB1.out.block⟩
      clear hW
      go_wp2
      rw [rounds_succ]
      go_wp2
      go_roundg (3 - (2 + 1))
      case measure => omega
      case rel => exact ⟨2 + 1, by omega, by omega, by first | rfl | go_num, HB2⟩
    · subst e
      have x0 := (HX.out.below HBk.out).x.at' 0 (by omega)
      have x1 := (HX.out.below HBk.out).x.at' 1 (by omega)
      have x2 := (HX.out.below HBk.out).x.at' 2 (by omega)
      have y0 := (HX.out.below HBk.out).r.at' 0 (by omega)
      have y1 := (HX.out.below HBk.out).r.at' 1 (by omega)
      have y2 := (HX.out.below HBk.out).r.at' 2 (by omega)
      have z0 := (HX.out.below HBk.out).r.fr 0 (by omega)
      have z1 := (HX.out.below HBk.out).r.fr 1 (by omega)
      have z2 := (HX.out.below HBk.out).r.fr 2 (by omega)
      simp only [if_true, show (1 : Nat) ≠ 0 by decide, show (2 : Nat) ≠ 0 by decide, if_false] at x0 x1 x2
      have hbw : Below w.heap.size w wr := HB.out.trans (HBk.out.mono HB.out.size)
      go_wp2
      exact bodyPost_ret (v := .agg #[.int .i64 n, .int .i64 0, .int .i64 0]) (by simp [results, Tryz.results161, go_sem, y0, y1, y2]) rfl ⟨rfl, ((hbw.setCell (by simp) _).setCell (by simp) _).setCell (by simp) _⟩

set_option maxRecDepth 100000 in
set_option maxHeartbeats 4000000 in
theorem wrong_none (n gw ga cw ca : Nat) (a1 : Nat) (en : Int) (v : ByteArray) (w : World) (h0 : w.cell? ⟨ga, 1, none⟩ = some (.int .i64 a1)) (h1 : w.cell? ⟨gw, 1, none⟩ = some (.string v)) (hv : (Pv.parse v.data.toList).isSome = false) :
    Calls Tryz.prog 161 #[.agg #[.int .i64 n, .slice (some ⟨gw, 0, none⟩) 2 cw, .slice (some ⟨ga, 0, none⟩) 2 ca, .int .i64 en], .string ⟨#[118]⟩] w fun e w' => e = .returned (.agg #[.int .i64 n, .int .i64 a1, .int .i64 6]) ∧ Below w.heap.size w w' := by
  have hx := wx_new (n := n) (cw := cw) (ca := ca) (en := en) h0 h1
  have kv := fun W => isVersion_any v W
  rw [hv] at kv
  generalize hq : (v.toList == [61, 62]) = q
  clear h0 h1 hv
  go_enter Tryz.func161, Tryz.ntmps161
  go_wp2
  generalize ((((w.alloc (.cells #[.int .i64 n, .slice (some ⟨gw, 0, none⟩) 2 cw, .slice (some ⟨ga, 0, none⟩) 2 ca, .int .i64 en] 210)).alloc (.cells #[.int .i64 0, .int .i64 0, .int .i64 0] 45)).alloc (.cells #[.int .i64 n, .int .i64 0, .int .i64 0] 45)).alloc (.cells #[.int .i64 5, .int .i64 6, .int .i64 7] 3)) = W0 at hx ⊢
  have HX : Hid (Wx W0 w.heap.size gw ga cw ca n v a1) := hx.1
  have HB : Hid (Below w.heap.size w W0) := hx.2
  clear hx
  go_loopg [8] 3 (fun gg s wr => ∃ k : Nat, k ≤ 1 ∧ 3 - k ≤ gg ∧ s = .int .i64 k ∧ Hid (Below W0.heap.size W0 wr))
  case atStart => exact ⟨0, by omega, by omega, rfl, Below.refl _ _⟩
  case round =>
    obtain ⟨k, hk, hgk, rfl, HBk⟩ := hrel
    have c1 := (HX.out.below HBk.out).l1
    have c2 := (HX.out.below HBk.out).wv
    rcases (by omega : k = 0 ∨ k = 1) with e | e
    · subst e
      go_wp2
      refine wp_loop_rounds 2 ?_
      rw [rounds_succ]
      go_wp2_with (go_at_call 181; fail)
      go_at_call 181
      refine (kv _).mono ?_
      rintro e w1 ⟨rfl, hb⟩
      have HB1 : Hid (Below W0.heap.size W0 w1) := HBk.out.trans (hb.mono HBk.out.size)
      clear hb
      go_upto_region 26 with fail
      go_quiet (fail)
      generalize hW : w1.drewN _ = W1
      have HB2 : Hid (Below W0.heap.size W0 W1) := by rw [← hW]; exact ⟨HB1.out.os, HB1.out.tape, HB1.out.output, HB1.out.size, HB1.out.block⟩
      clear hW
      go_wp2
      rw [rounds_succ]
      go_wp2
      go_roundg (3 - (0 + 1))
      case measure => omega
      case rel => exact ⟨0 + 1, by omega, by omega, by first | rfl | go_num, HB2⟩
    · subst e
      go_wp2
      refine wp_loop_rounds 2 ?_
      rw [rounds_succ]
      go_wp2_with (go_at_call 181; fail)
      go_at_call 181
      refine (kv _).mono ?_
      rintro e w1 ⟨rfl, hb⟩
      have HB1 : Hid (Below W0.heap.size W0 w1) := HBk.out.trans (hb.mono HBk.out.size)
      clear hb
      go_upto_region 26 with fail
      go_quiet (fail)
      generalize hW : w1.drewN _ = W1
      have HB2 : Hid (Below W0.heap.size W0 W1) := by rw [← hW]; exact ⟨HB1.out.os, HB1.out.tape, HB1.out.output, HB1.out.size, HB1.out.block⟩
      clear hW
      have HX2 := HX.out.below HB2.out
      have x0 := HX2.x.at' 0 (by omega)
      have x1 := HX2.x.at' 1 (by omega)
      have x2 := HX2.x.at' 2 (by omega)
      have v1 := HX2.x.fr 1 (by omega)
      have v2 := HX2.x.fr 2 (by omega)
      have y0 := HX2.r.at' 0 (by omega)
      have y1 := HX2.r.at' 1 (by omega)
      have y2 := HX2.r.at' 2 (by omega)
      have z0 := HX2.r.fr 0 (by omega)
      have z1 := HX2.r.fr 1 (by omega)
      have z2 := HX2.r.fr 2 (by omega)
      have l2 := HX2.l2
      have k1 := HX2.k1
      have av := HX2.av
      simp only [if_true, show (1 : Nat) ≠ 0 by decide, show (2 : Nat) ≠ 0 by decide, if_false] at x0 x1 x2
      have hbw : Below w.heap.size w W1 := HB.out.trans (HB2.out.mono HB.out.size)
      clear HX2
      go_wp2
      exact bodyPost_ret (v := .agg #[.int .i64 n, .int .i64 a1, .int .i64 6]) (by simp [results, Tryz.results161, go_sem, y0, y1, y2]) rfl ⟨rfl, ((((hbw.setCell (by simp; omega) _).setCell (by simp; omega) _).setCell (by simp) _).setCell (by simp) _).setCell (by simp) _⟩

end Go.Proofs.YtelmkfkgpnadnaaGreatDoor
