/-
  The document's answer, an order: an edge put in, where nothing moves.
-/
import Derived.Test.YtelmkfkgpnadnaaK17
namespace Go.Proofs.Ytelmkfkgpnadnaa
open Go.RowKit

variable {w w' : World} {n : Nat} {A Pl : Nat → Nat} {E : Nat → Nat → Bool}

set_option maxRecDepth 100000 in
set_option maxHeartbeats 1000000 in
theorem refAdd_bad (x y : Int) (tb cn : Nat) (a : Option Addr) (w : World) (h : w.cell? ⟨tb, 0, none⟩ = some (.slice a n cn)) (hb : ¬ ((0 ≤ x ∧ x < (n : Int)) ∧ (0 ≤ y ∧ y < (n : Int)))) :
    Calls Try.prog 22 #[.pointer (some ⟨tb, 0, none⟩), .int .i64 x, .int .i64 y] w fun e w' => e = .returned (.int .i64 1) ∧ w' = w := by
  have kx := is_any x tb cn a w h
  have ky := is_any y tb cn a w h
  by_cases hx : 0 ≤ x ∧ x < (n : Int)
  · rw [decide_eq_true hx] at kx
    rw [decide_eq_false (fun hy => hb ⟨hx, hy⟩)] at ky
    clear h hb hx
    go_enter Try.func22, Try.ntmps22
    go_wp2_with (go_at_call 33; fail)
    go_at_call 33
    refine kx.mono ?_
    intro e w1 hq
    rw [hq.1, hq.2]
    go_wp2_with (go_at_call 33; fail)
    go_at_call 33
    refine ky.mono ?_
    intro e w2 hq
    rw [hq.1, hq.2]
    clear kx ky hq
    go_wp2
    go_ret
    exact ⟨rfl, rfl⟩
  · rw [decide_eq_false hx] at kx
    generalize decide (0 ≤ y ∧ y < (n : Int)) = q at ky
    clear h hb hx
    go_enter Try.func22, Try.ntmps22
    go_wp2_with (go_at_call 33; fail)
    go_at_call 33
    refine kx.mono ?_
    intro e w1 hq
    rw [hq.1, hq.2]
    go_wp2_with (go_at_call 33; fail)
    go_at_call 33
    refine ky.mono ?_
    intro e w2 hq
    rw [hq.1, hq.2]
    clear kx ky hq
    go_wp2
    go_ret
    exact ⟨rfl, rfl⟩

set_option maxRecDepth 100000 in
set_option maxHeartbeats 1000000 in
theorem refAdd_cycle (x y tb nb eb cn ce : Nat) (rb : Nat → Nat) (w : World) (h : RefAt w tb nb eb cn ce n rb A E) (hd : ∀ a b, E a b = true → a < n ∧ b < n) (hn : n ≤ 40) (hx : x < n) (hy : y < n) (hc : Kp.Way E y x ∨ x = y) :
    Calls Try.prog 22 #[.pointer (some ⟨tb, 0, none⟩), .int .i64 x, .int .i64 y] w fun e w' => e = .returned (.int .i64 5) ∧ Below w.heap.size w w' := by
  have kx := is_yes x tb cn _ w h.nodes hx
  have ky := is_yes y tb cn _ w h.nodes hy
  have kl := refLeads_any tb nb eb cn ce rb w h hn (by omega)
  clear h
  go_enter Try.func22, Try.ntmps22
  go_wp2_with (go_at_call 33; fail)
  go_at_call 33
  refine kx.mono ?_
  intro e w1 hq
  rw [hq.1, hq.2]
  go_wp2_with (go_at_call 33; fail)
  go_at_call 33
  refine ky.mono ?_
  intro e w2 hq
  rw [hq.1, hq.2]
  clear kx ky hq
  go_wp2_with (go_at_call 34; fail)
  go_at_call 34
  refine kl.mono ?_
  rintro e w3 ⟨he, hE, hb⟩
  rw [he]
  clear kl he
  by_cases hxy : x = y
  · have hq : (((x : Nat) : Int) == (y : Int)) = true := by simp [hxy]
    clear hxy hc hE
    go_wp2
    go_ret
    exact ⟨rfl, hb⟩
  · have hq : (((x : Nat) : Int) == (y : Int)) = false := by simp; omega
    have hw : Kp.Way E y x := hc.resolve_right hxy
    have r1 := hE.row y hy
    have r2 := (hE.cell y hy).at' x hx
    rw [(Kp.wk_iff hd y x).2 hw] at r2
    clear hxy hc hE hw
    go_wp2
    go_ret
    exact ⟨rfl, hb⟩

set_option maxRecDepth 100000 in
set_option maxHeartbeats 1000000 in
theorem refAdd_right (x y tb nb eb cn ce : Nat) (rb : Nat → Nat) (w : World) (h : RefAt w tb nb eb cn ce n rb A E) (O : Kp.Ok n A Pl E) (hn : n ≤ 40) (hx : x < n) (hy : y < n) (hlt : Pl x < Pl y) :
    Calls Try.prog 22 #[.pointer (some ⟨tb, 0, none⟩), .int .i64 x, .int .i64 y] w fun e w' => e = .returned (.int .i64 0) ∧ ∃ w1, Below w.heap.size w w1 ∧ w' = w1.setCell ⟨rb x, y, none⟩ (.bool true) ∧ RefAt w' tb nb eb cn ce n rb A (Kp.edge E x y true) := by
  have kx := is_yes x tb cn _ w h.nodes hx
  have ky := is_yes y tb cn _ w h.nodes hy
  have kl := refLeads_any tb nb eb cn ce rb w h hn (by omega)
  have HR : Hid (RefAt w tb nb eb cn ce n rb A E) := h
  have HO : Hid (Kp.Ok n A Pl E) := O
  clear h O
  go_enter Try.func22, Try.ntmps22
  go_wp2_with (go_at_call 33; fail)
  go_at_call 33
  refine kx.mono ?_
  intro e w1 hq
  rw [hq.1, hq.2]
  go_wp2_with (go_at_call 33; fail)
  go_at_call 33
  refine ky.mono ?_
  intro e w2 hq
  rw [hq.1, hq.2]
  clear kx ky hq
  go_wp2_with (go_at_call 34; fail)
  go_at_call 34
  refine kl.mono ?_
  rintro e w3 ⟨he, hE, hb⟩
  rw [he]
  have hno := Kp.no_cycle HO.out hlt
  have hxy : x ≠ y := fun e => hno (Or.inr e)
  have hq : (((x : Nat) : Int) == (y : Int)) = false := by simp; omega
  have hw : ¬ Kp.Way E y x := fun e => hno (Or.inl e)
  have r1 := hE.row y hy
  have r2 := (hE.cell y hy).at' x hx
  have e2 : Kp.WK E n y x = false := by
    cases hz : Kp.WK E n y x with
    | false => rfl
    | true => exact absurd ((Kp.wk_iff HO.out.dom y x).1 hz) hw
  rw [e2] at r2
  have HR3 : Hid (RefAt w3 tb nb eb cn ce n rb A E) := HR.out.below hb
  have kpx := place_any x tb nb cn w3 HR3.out.nodes HR3.out.nv HO.out hn hx
  have kpy := place_any y tb nb cn w3 HR3.out.nodes HR3.out.nv HO.out hn hy
  have s1 := HR3.out.edges
  have s2 := HR3.out.ed.row x hx
  have s3 := (HR3.out.ed.cell x hx).at' y hy
  have s4 := (HR3.out.ed.cell x hx).fr y hy
  have hltI : (Pl x : Int) < (Pl y : Int) := by omega
  clear kl he hno hxy hw e2 hE
  go_wp2_with (go_at_call 35; fail)
  go_at_call 35
  refine kpx.mono ?_
  intro e w4 hq4
  rw [hq4.1, hq4.2]
  clear kpx hq4 r1 r2
  go_wp2_with (go_at_call 35; fail)
  go_at_call 35
  refine kpy.mono ?_
  intro e w5 hq5
  rw [hq5.1, hq5.2]
  clear kpy hq5
  go_wp2
  go_ret
  exact ⟨rfl, w3, hb, rfl, HR3.out.edge hx hy⟩

end Go.Proofs.Ytelmkfkgpnadnaa
