/-
  One step of the law: an edge in; an edge out.
-/
import Derived.Test.YtelmkfkgpnadnaaK34
namespace Go.Proofs.Ytelmkfkgpnadnaa
open Go.RowKit

variable {w w' : World} {n : Nat} {A Pl : Nat → Nat} {E : Nat → Nat → Bool} {T : Nat → Nat × Nat} {i ob tb rt k : Nat} {c : Int} {lv : Value} {xs : List Value}

/-- The tags, the new blocks' being none of a list. -/
def tagged (T : Nat → Nat × Nat) (s i : Nat) (b : Nat) : Nat × Nat := if b < s then T b else (i, 9)

theorem tagged_old (T : Nat → Nat × Nat) {s i b : Nat} (h : b < s) : tagged T s i b = T b := if_pos h
theorem tagged_new (T : Nat → Nat × Nat) {s i b : Nat} (h : ¬ b < s) : tagged T s i b = (i, 9) := if_neg h

theorem Bx.grown {B : Nat} {x y : Int} (h : Bx w ob tb rt B x y) (hg : w.grownBy w' (some tb)) (h1 : ob ≠ tb) (h2 : B ≠ tb) : Bx w' ob tb rt B x y :=
  ⟨hg.cell h.c0 (by simp; exact h1), hg.cell h.c1 (by simp; exact h1), hg.cell h.b1 (by simp; exact h2), hg.cell h.b2 (by simp; exact h2)⟩

theorem Bx.turn {B : Nat} {x y : Int} {p : Nat → Prop} (h : Bx w ob tb rt B x y) (ht : Turn p w w') (h1 : ¬ p ob) (h2 : ¬ p B) : Bx w' ob tb rt B x y := by
  have l1 := World.block_lt_of_cell? w _ h.c0
  have l2 := World.block_lt_of_cell? w _ h.b1
  exact ⟨by rw [ht.cell (a := ⟨ob, 0, none⟩) l1 h1]; exact h.c0, by rw [ht.cell (a := ⟨ob, 1, none⟩) l1 h1]; exact h.c1, by rw [ht.cell (a := ⟨B, 1, none⟩) l2 h2]; exact h.b1, by rw [ht.cell (a := ⟨B, 2, none⟩) l2 h2]; exact h.b2⟩

theorem tags_ne {b b' j j' : Nat} (h : T b = (i, j)) (h' : T b' = (i, j')) (hne : j ≠ j') : b ≠ b' := fun e => by
  rw [e, h'] at h
  injection h with _ h
  exact hne h.symm

/-- Both orders have turned, nothing else. -/
theorem Stepped.both {W w1 w2 : World} {A' Pl' : Nat → Nat} {E' : Nat → Nat → Bool} (hc : 0 ≤ c) (h0 : OrdAt w T i ob tb rt n A Pl E A E k c lv xs) (hb : Below w.heap.size w W) (hg : W.grownBy w1 (some tb)) (ht : Turn (fun b => tagged T w.heap.size i b = (i, 3)) w1 w2) (h : OrdAt w2 (tagged T w.heap.size i) i ob tb rt n A' Pl' E' A' E' k c lv xs) : Stepped w T i ob tb rt n k c w2 := by
  refine ⟨_, A', Pl', E', k, c, lv, xs, h, by omega, hc, by omega, ?_, fun b hb => tagged_old T hb⟩
  have h1 : Turn (fun b => (T b).1 = i) w w1 := (Turn.of_below hb).grown hg (fun b _ e => by injection e with e; rw [← e, h0.t2])
  exact h1.trans ht (fun _ _ h => h) (fun b hb h => by
    have h' : tagged T w.heap.size i b = (i, 3) := h
    rw [tagged_old T hb] at h'
    show (T b).1 = i
    rw [h'])

set_option maxRecDepth 100000 in
set_option maxHeartbeats 4000000 in
theorem step_edge (h : OrdAt w T i ob tb rt n A Pl E A E k c lv xs) (hn : n ≤ 40) (hc : 0 ≤ c) (x y : Nat) (z : Int) (hx : x < n) (hy : y < n) (hno : ¬ (Kp.Way E y x ∨ x = y)) :
    Calls Try.prog 14 #[.pointer (some ⟨ob, 0, none⟩), .agg #[.int .i64 1, .int .i64 x, .int .i64 y, .int .i64 z]] w fun e w' => e = .returned (.bool true) ∧ Stepped w T i ob tb rt n k c w' := by
  have hbA : Below w.heap.size w (w.alloc (.cells #[.int .i64 1, .int .i64 x, .int .i64 y, .int .i64 z] 25)) := (Below.refl _ _).alloc (Nat.le_refl _) _
  have hB := bx_new h 1 x y z
  have H0 : Hid (OrdAt w T i ob tb rt n A Pl E A E k c lv xs ∧ 0 ≤ c ∧ ¬ (Kp.Way E y x ∨ x = y)) := ⟨h, hc, hno⟩
  clear h hc hno
  go_enter Try.func14, Try.ntmps14
  go_upto_region 3 with fail
  generalize w.alloc (.cells #[.int .i64 1, .int .i64 x, .int .i64 y, .int .i64 z] 25) = W at *
  have HB : Hid (Bx W.drew ob tb rt w.heap.size x y) := hB.below (below_drew W)
  obtain ⟨c0, c1, b1, b2⟩ := hB
  have HH : Hid (OrdAt W.drew (tagged T w.heap.size i) i ob tb rt n A Pl E A E k c lv xs) := H0.out.1.below hbA.drew (fun _ hb => tagged_old T hb)
  have ka := topoAdd_edge HH.out.row HH.out.ok hn hx hy H0.out.2.2
  have hot : ob ≠ tb := tags_ne HH.out.t1 HH.out.t2 (by decide)
  have hbt : w.heap.size ≠ tb := by have := H0.out.1.row.lt; omega
  have HA : Hid (Below w.heap.size w W.drew) := hbA.drew
  clear hbA
  go_region_held (fun w' => w'.cell? ⟨ob, 0, none⟩ = some (.pointer (some ⟨tb, 0, none⟩)) ∧ w'.cell? ⟨w.heap.size, 1, none⟩ = some (.int .i64 x) ∧ w'.cell? ⟨w.heap.size, 2, none⟩ = some (.int .i64 y)) (first | exact ⟨c0, b1, b2⟩ | (refine ⟨?_, ?_, ?_⟩ <;> assumption))
    (first | (go_at_call 12; refine ka.mono ?_; rintro e w1 ⟨a, v, rfl, rfl, rfl, hg, A', Pl', hR, hO, hs, hm⟩; have HB1 : Hid (Bx w1 ob tb rt w.heap.size x y) := HB.out.grown hg hot hbt; have s0 := HB1.out.c0; have s1 := HB1.out.b1; have s2 := HB1.out.b2; have HG : Hid (W.drew.grownBy w1 (some tb)) := hg; have H1 : Hid (OrdAt w1 (tagged T w.heap.size i) i ob tb rt n A' Pl' (Kp.edge E x y true) A E k c lv xs ∧ (Pl x < Pl y → A' = A) ∧ (Pl y ≤ Pl x → Moved A Pl E x y A' Pl')) := ⟨HH.out.prog hg hR hO, hs, hm⟩; clear hg hR hO hs hm))
  clear ka c0 c1 b1 b2 s0 s1 s2 HB
  obtain ⟨c0, c1, b1, b2⟩ := HB1.out
  go_upto_region 4 with fail
  have HB2 : Hid (Bx w1.drew ob tb rt w.heap.size x y) := HB1.out.below (below_drew w1)
  have H2 : Hid (OrdAt w1.drew (tagged T w.heap.size i) i ob tb rt n A' Pl' (Kp.edge E x y true) A E k c lv xs) := H1.out.1.below (below_drew w1) (fun _ _ => rfl)
  have HN : Hid (¬ (tagged T w.heap.size i ob = (i, 3)) ∧ ¬ (tagged T w.heap.size i w.heap.size = (i, 3))) := ⟨by rw [H2.out.t1]; simp, by rw [tagged_new T (Nat.lt_irrefl _)]; simp⟩
  have kr := refAdd_edge H2.out.ref H0.out.1.ok hn hx hy H0.out.2.2 H1.out.2.1 H1.out.2.2
  go_region_held (fun w' => w'.cell? ⟨ob, 1, none⟩ = some (.pointer (some ⟨rt, 0, none⟩)) ∧ w'.cell? ⟨w.heap.size, 1, none⟩ = some (.int .i64 x) ∧ w'.cell? ⟨w.heap.size, 2, none⟩ = some (.int .i64 y)) (first | exact ⟨c1, b1, b2⟩ | (refine ⟨?_, ?_, ?_⟩ <;> assumption))
    (first | (go_at_call 22; refine kr.mono ?_; rintro e w2 ⟨rfl, hR, htu⟩; have HB3 : Bx w2 ob tb rt w.heap.size x y := HB2.out.turn htu HN.out.1 HN.out.2; have s0 := HB3.c1; have s1 := HB3.b1; have s2 := HB3.b2; have HS : Hid (Stepped w T i ob tb rt n k c w2) := Stepped.both H0.out.2.1 H0.out.1 HA.out (HG.out.trans (grown_of_below (below_drew w1) _)) htu (H2.out.doc htu hR); clear hR htu HB3))
  clear kr c0 c1 b1 b2 s0 s1 s2 HB1 HB2 H2 H1 HG HH HA
  have hnil := nil34
  go_wp2_with (go_at_call 21; fail)
  go_at_call 21
  refine (num_any 0 _).mono ?_
  intro e w3 hq
  rw [hq.1, hq.2]
  clear hq
  go_wp2_with (go_at_call 21; fail)
  go_at_call 21
  refine (num_any 0 _).mono ?_
  intro e w3 hq
  rw [hq.1, hq.2]
  clear hq
  go_wp2
  go_ret
  exact ⟨rfl, HS.out⟩

end Go.Proofs.Ytelmkfkgpnadnaa
