/-
  One step of the law: an edge in, where no cycle is closed; an edge out.
-/
import Derived.Test.YtelmkfkgpnadnaaK33
import Derived.Deep.RegionHeld
namespace Go.Proofs.Ytelmkfkgpnadnaa
open Go.RowKit

variable {w w' : World} {n : Nat} {A Pl : Nat → Nat} {E : Nat → Nat → Bool} {T : Nat → Nat × Nat} {i ob tb rt k : Nat} {c : Int} {lv : Value} {xs : List Value}

/-- The document's nodes, whatever n. -/
theorem RefAny.nodes {tag : Nat → Prop} (h : RefAny w tag rt n A E) : ∃ a cn, w.cell? ⟨rt, 0, none⟩ = some (.slice a n cn) := by
  rcases h.2 with ⟨h0, a, cn, hc⟩ | ⟨_, nb, eb, cn, ce, rb, hR, _⟩
  · subst h0; exact ⟨a, cn, hc⟩
  · exact ⟨_, cn, hR.nodes⟩

theorem Stepped.same (h : OrdAt w T i ob tb rt n A Pl E A E k c lv xs) (hc : 0 ≤ c) (hb : Below w.heap.size w w') : Stepped w T i ob tb rt n k c w' :=
  ⟨T, A, Pl, E, k, c, lv, xs, h.below hb (fun _ _ => rfl), by omega, hc, by omega, Turn.of_below hb, fun _ _ => rfl⟩

/-- The step's own cells: where the two orders are, and the numbers. -/
structure Bx (W : World) (ob tb rt B : Nat) (x y : Int) : Prop where
  c0 : W.cell? ⟨ob, 0, none⟩ = some (.pointer (some ⟨tb, 0, none⟩))
  c1 : W.cell? ⟨ob, 1, none⟩ = some (.pointer (some ⟨rt, 0, none⟩))
  b1 : W.cell? ⟨B, 1, none⟩ = some (.int .i64 x)
  b2 : W.cell? ⟨B, 2, none⟩ = some (.int .i64 y)

theorem bx_new (h : OrdAt w T i ob tb rt n A Pl E A E k c lv xs) (kd x y z : Int) : Bx (w.alloc (.cells #[.int .i64 kd, .int .i64 x, .int .i64 y, .int .i64 z] 25)) ob tb rt w.heap.size x y := by
  have hh : OrdAt (w.alloc (.cells #[.int .i64 kd, .int .i64 x, .int .i64 y, .int .i64 z] 25)) T i ob tb rt n A Pl E A E k c lv xs := h.below ((Below.refl _ _).alloc (Nat.le_refl _) _) (fun _ _ => rfl)
  have h1 : (w.alloc (.cells #[.int .i64 kd, .int .i64 x, .int .i64 y, .int .i64 z] 25)).heap[w.heap.size]? = some (.cells #[.int .i64 kd, .int .i64 x, .int .i64 y, .int .i64 z] 25) := by
    show (w.heap.push _)[w.heap.size]? = _
    simp
  exact ⟨hh.obj.at' 0 (by omega), hh.obj.at' 1 (by omega), by simp only [World.cell?, h1]; simp, by simp only [World.cell?, h1]; simp⟩

theorem Bx.below {B : Nat} {x y : Int} (h : Bx w ob tb rt B x y) (hb : Below w.heap.size w w') : Bx w' ob tb rt B x y := by
  have h1 := World.block_lt_of_cell? w _ h.c0
  have h2 := World.block_lt_of_cell? w _ h.b1
  exact ⟨by rw [hb.cell (p := ⟨ob, 0, none⟩) h1]; exact h.c0, by rw [hb.cell (p := ⟨ob, 1, none⟩) h1]; exact h.c1, by rw [hb.cell (p := ⟨B, 1, none⟩) h2]; exact h.b1, by rw [hb.cell (p := ⟨B, 2, none⟩) h2]; exact h.b2⟩

theorem nil34 (W : World) : (binOp .eql 34 (.slice none 0 0) (.slice none 0 0)).run Try.prog W = .ok (.bool true) W := rfl

theorem some34 (a : Addr) (n c : Nat) (W : World) : (binOp .eql 34 (.slice (some a) n c) (.slice none 0 0)).run Try.prog W = .ok (.bool false) W := rfl

theorem below_drew (w : World) : Below w.heap.size w w.drew := (Below.refl _ _).drew

set_option maxRecDepth 100000 in
set_option maxHeartbeats 4000000 in
theorem step_bad (h : OrdAt w T i ob tb rt n A Pl E A E k c lv xs) (hc : 0 ≤ c) (x y z : Int) (hxy : ¬ ((0 ≤ x ∧ x < (n : Int)) ∧ (0 ≤ y ∧ y < (n : Int)))) :
    Calls Try.prog 14 #[.pointer (some ⟨ob, 0, none⟩), .agg #[.int .i64 1, .int .i64 x, .int .i64 y, .int .i64 z]] w fun e w' => e = .returned (.bool true) ∧ Stepped w T i ob tb rt n k c w' := by
  have hbA : Below w.heap.size w (w.alloc (.cells #[.int .i64 1, .int .i64 x, .int .i64 y, .int .i64 z] 25)) := (Below.refl _ _).alloc (Nat.le_refl _) _
  have hB := bx_new h 1 x y z
  have H0 : Hid (OrdAt w T i ob tb rt n A Pl E A E k c lv xs ∧ 0 ≤ c) := ⟨h, hc⟩
  have HXY : Hid (¬ ((0 ≤ x ∧ x < (n : Int)) ∧ (0 ≤ y ∧ y < (n : Int)))) := hxy
  clear h hc hxy
  go_enter Try.func14, Try.ntmps14
  go_upto_region 3 with fail
  generalize w.alloc (.cells #[.int .i64 1, .int .i64 x, .int .i64 y, .int .i64 z] 25) = W at *
  obtain ⟨c0, c1, b1, b2⟩ := hB
  have HH : Hid (OrdAt W T i ob tb rt n A Pl E A E k c lv xs) := H0.out.1.below hbA (fun _ _ => rfl)
  have ka := topoAdd_bad x y (HH.out.row.of_block (w' := W.drew) rfl) HXY.out
  go_region_held (fun w' => w'.cell? ⟨ob, 0, none⟩ = some (.pointer (some ⟨tb, 0, none⟩)) ∧ w'.cell? ⟨w.heap.size, 1, none⟩ = some (.int .i64 x) ∧ w'.cell? ⟨w.heap.size, 2, none⟩ = some (.int .i64 y)) (first | exact ⟨c0, b1, b2⟩ | (refine ⟨?_, ?_, ?_⟩ <;> assumption))
    (first | (go_at_call 12; refine ka.mono ?_; intro e w1 hq; rw [hq.1, hq.2]; clear hq))
  have B1 : Bx W.drew ob tb rt w.heap.size x y := ⟨c0, c1, b1, b2⟩
  have hb1 : Below w.heap.size w W.drew := hbA.drew
  clear ka HH c0 c1 b1 b2 hbA
  generalize W.drew = V at *
  have HH : Hid (OrdAt V T i ob tb rt n A Pl E A E k c lv xs) := H0.out.1.below hb1 (fun _ _ => rfl)
  obtain ⟨c0, c1, b1, b2⟩ := B1
  go_upto_region 4 with fail
  obtain ⟨a, cn, hcn⟩ := HH.out.ref.nodes
  have kr := refAdd_bad x y rt cn a V.drew hcn HXY.out
  clear hcn
  go_region_held (fun w' => w'.cell? ⟨ob, 1, none⟩ = some (.pointer (some ⟨rt, 0, none⟩)) ∧ w'.cell? ⟨w.heap.size, 1, none⟩ = some (.int .i64 x) ∧ w'.cell? ⟨w.heap.size, 2, none⟩ = some (.int .i64 y)) (first | exact ⟨c1, b1, b2⟩ | (refine ⟨?_, ?_, ?_⟩ <;> assumption))
    (first | (go_at_call 22; refine kr.mono ?_; intro e w1 hq; rw [hq.1, hq.2]; clear hq))
  have HS : Hid (Stepped w T i ob tb rt n k c V.drew) := Stepped.same H0.out.1 H0.out.2 hb1.drew
  clear kr HH c0 c1 b1 b2 hb1
  generalize V.drew = U at *
  have hnil := nil34
  go_wp2_with (go_at_call 21; fail)
  go_at_call 21
  refine (num_any 1 _).mono ?_
  intro e w1 hq
  rw [hq.1, hq.2]
  clear hq
  go_wp2_with (go_at_call 21; fail)
  go_at_call 21
  refine (num_any 1 _).mono ?_
  intro e w1 hq
  rw [hq.1, hq.2]
  clear hq
  go_wp2
  go_ret
  exact ⟨rfl, HS.out⟩

/-- Add, as the law meets it: an edge; how the nodes move. -/
theorem topoAdd_edge {b x y : Nat} (h : RowAt w b n A Pl E) (O : Kp.Ok n A Pl E) (hn : n ≤ 40) (hx : x < n) (hy : y < n) (hc : ¬ (Kp.Way E y x ∨ x = y)) :
    Calls Try.prog 12 #[.pointer (some ⟨b, 0, none⟩), .int .i64 x, .int .i64 y] w fun e w' => ∃ a v, e = .returned (.tuple #[a, v]) ∧ (a = .int .i64 0 ∧ v = .slice none 0 0 ∧ w.grownBy w' (some b) ∧ ∃ A' Pl', RowAt w' b n A' Pl' (Kp.edge E x y true) ∧ Kp.Ok n A' Pl' (Kp.edge E x y true) ∧ (Pl x < Pl y → A' = A) ∧ (Pl y ≤ Pl x → Moved A Pl E x y A' Pl')) := by
  refine topoAdd_of x y _ h ?_
  by_cases hlt : Pl x < Pl y
  · refine (rowAdd_right x y h hn hx hy hlt).mono ?_
    rintro e w' ⟨rfl, hR, hg⟩
    exact ⟨_, _, rfl, rfl, rfl, hg, A, Pl, hR, O.edge hx hy hlt, fun _ => rfl, fun h => by omega⟩
  · refine (rowAdd_move x y h O hn hx hy (by omega) hc).mono ?_
    rintro e w' ⟨rfl, A', Pl', hR, hM, hg⟩
    have hk := kept_moved O hn hx hy (by omega) hM
    exact ⟨_, _, rfl, rfl, rfl, hg, A', Pl', hR, hk.1, fun h => absurd h hlt, fun _ => hM⟩

theorem refAdd_edge {tag : Nat → Prop} {x y : Nat} {A' Pl' : Nat → Nat} (h : RefAny w tag rt n A E) (O : Kp.Ok n A Pl E) (hn : n ≤ 40) (hx : x < n) (hy : y < n) (hc : ¬ (Kp.Way E y x ∨ x = y)) (h1 : Pl x < Pl y → A' = A) (h2 : Pl y ≤ Pl x → Moved A Pl E x y A' Pl') :
    Calls Try.prog 22 #[.pointer (some ⟨rt, 0, none⟩), .int .i64 x, .int .i64 y] w fun e w' => e = .returned (.int .i64 0) ∧ RefAny w' tag rt n A' (Kp.edge E x y true) ∧ Turn tag w w' := by
  obtain ⟨ht, ⟨h0, _⟩ | ⟨h0, nb, eb, cn, ce, rb, hR, t1, t2, t3⟩⟩ := h
  · omega
  by_cases hlt : Pl x < Pl y
  · refine (refAdd_right x y rt nb eb cn ce rb w hR O hn hx hy hlt).mono ?_
    rintro e w' ⟨rfl, w1, hb, rfl, hR'⟩
    rw [h1 hlt]
    exact ⟨rfl, ⟨ht, Or.inr ⟨h0, nb, eb, cn, ce, rb, hR', t1, t2, t3⟩⟩, (Turn.of_below hb).set (fun _ => t3 x hx) _⟩
  · refine (refAdd_move x y rt nb eb cn ce rb w hR O hn hx hy (by omega) hc _ _ rfl rfl).mono ?_
    rintro e w' ⟨rfl, A2, Pl2, hR', hP, h2w⟩
    have e2 : A2 = A' := funext fun p => moves_same O hn hx hy (by omega) hc (h2 (by omega)) hP p
    rw [e2] at hR'
    exact ⟨rfl, ⟨ht, Or.inr ⟨h0, nb, eb, cn, ce, rb, hR', t1, t2, t3⟩⟩, ⟨h2w.os, h2w.tape, h2w.output, h2w.size, fun b hb hne => h2w.block b hb (fun e => hne (e ▸ t1)) (fun e => hne (e ▸ t3 x hx))⟩⟩

theorem refRemove_edge {tag : Nat → Prop} {x y : Nat} (h : RefAny w tag rt n A E) (hx : x < n) (hy : y < n) :
    Calls Try.prog 26 #[.pointer (some ⟨rt, 0, none⟩), .int .i64 x, .int .i64 y] w fun e w' => e = .returned (.bool (E x y)) ∧ RefAny w' tag rt n A (Kp.edge E x y false) ∧ Turn tag w w' := by
  obtain ⟨ht, ⟨h0, _⟩ | ⟨h0, nb, eb, cn, ce, rb, hR, t1, t2, t3⟩⟩ := h
  · omega
  refine (refRemove_any x y rt nb eb cn ce rb w hR hx hy).mono ?_
  rintro e w' ⟨rfl, hR', hw⟩
  refine ⟨rfl, ⟨ht, Or.inr ⟨h0, nb, eb, cn, ce, rb, hR', t1, t2, t3⟩⟩, ?_⟩
  rcases hw with rfl | rfl
  · exact Turn.refl _ _
  · exact (Turn.refl _ _).set (fun _ => t3 x hx) _

end Go.Proofs.Ytelmkfkgpnadnaa
