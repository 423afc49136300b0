/-
  One step of the law: an edge out.
-/
import Derived.Test.YtelmkfkgpnadnaaK35
namespace Go.Proofs.Ytelmkfkgpnadnaa
open Go.RowKit

variable {w w' : World} {n : Nat} {A Pl : Nat → Nat} {E : Nat → Nat → Bool} {T : Nat → Nat × Nat} {i ob tb rt k : Nat} {c : Int} {lv : Value} {xs : List Value}

set_option maxRecDepth 100000 in
set_option maxHeartbeats 4000000 in
theorem step_none (h : OrdAt w T i ob tb rt n A Pl E A E k c lv xs) (hc : 0 ≤ c) (x y z : Int) (hxy : ¬ ((0 ≤ x ∧ x < (n : Int)) ∧ (0 ≤ y ∧ y < (n : Int)))) :
    Calls Try.prog 14 #[.pointer (some ⟨ob, 0, none⟩), .agg #[.int .i64 2, .int .i64 x, .int .i64 y, .int .i64 z]] w fun e w' => e = .returned (.bool true) ∧ Stepped w T i ob tb rt n k c w' := by
  have hbA : Below w.heap.size w (w.alloc (.cells #[.int .i64 2, .int .i64 x, .int .i64 y, .int .i64 z] 25)) := (Below.refl _ _).alloc (Nat.le_refl _) _
  have hB := bx_new h 2 x y z
  have H0 : Hid (OrdAt w T i ob tb rt n A Pl E A E k c lv xs ∧ 0 ≤ c) := ⟨h, hc⟩
  have HXY : Hid (¬ ((0 ≤ x ∧ x < (n : Int)) ∧ (0 ≤ y ∧ y < (n : Int)))) := hxy
  clear h hc hxy
  go_enter Try.func14, Try.ntmps14
  go_upto_region 17 with fail
  generalize w.alloc (.cells #[.int .i64 2, .int .i64 x, .int .i64 y, .int .i64 z] 25) = W at *
  obtain ⟨c0, c1, b1, b2⟩ := hB
  have HH : Hid (OrdAt W T i ob tb rt n A Pl E A E k c lv xs) := H0.out.1.below hbA (fun _ _ => rfl)
  have ka := remove_bad x y (HH.out.row.of_block (w' := W.drew) rfl) HXY.out
  go_region_held (fun w' => w'.cell? ⟨ob, 0, none⟩ = some (.pointer (some ⟨tb, 0, none⟩)) ∧ w'.cell? ⟨w.heap.size, 1, none⟩ = some (.int .i64 x) ∧ w'.cell? ⟨w.heap.size, 2, none⟩ = some (.int .i64 y)) (first | exact ⟨c0, b1, b2⟩ | (refine ⟨?_, ?_, ?_⟩ <;> assumption))
    (first | (go_at_call 11; refine ka.mono ?_; intro e w1 hq; rw [hq.1, hq.2]; clear hq))
  have B1 : Bx W.drew ob tb rt w.heap.size x y := ⟨c0, c1, b1, b2⟩
  have hb1 : Below w.heap.size w W.drew := hbA.drew
  clear ka HH c0 c1 b1 b2 hbA
  generalize W.drew = V at *
  have HH : Hid (OrdAt V T i ob tb rt n A Pl E A E k c lv xs) := H0.out.1.below hb1 (fun _ _ => rfl)
  obtain ⟨c0, c1, b1, b2⟩ := B1
  go_upto_region 18 with fail
  obtain ⟨a, cn, hcn⟩ := HH.out.ref.nodes
  have kr := refRemove_bad x y rt cn a V.drew hcn HXY.out
  clear hcn
  go_region_held (fun w' => w'.cell? ⟨ob, 1, none⟩ = some (.pointer (some ⟨rt, 0, none⟩)) ∧ w'.cell? ⟨w.heap.size, 1, none⟩ = some (.int .i64 x) ∧ w'.cell? ⟨w.heap.size, 2, none⟩ = some (.int .i64 y)) (first | exact ⟨c1, b1, b2⟩ | (refine ⟨?_, ?_, ?_⟩ <;> assumption))
    (first | (go_at_call 26; refine kr.mono ?_; intro e w1 hq; rw [hq.1, hq.2]; clear hq))
  have HS : Hid (Stepped w T i ob tb rt n k c V.drew) := Stepped.same H0.out.1 H0.out.2 hb1.drew
  clear kr HH c0 c1 b1 b2 hb1
  generalize V.drew = U at *
  go_wp2
  go_ret
  exact ⟨rfl, HS.out⟩

set_option maxRecDepth 100000 in
set_option maxHeartbeats 4000000 in
theorem step_remove (h : OrdAt w T i ob tb rt n A Pl E A E k c lv xs) (hn : n ≤ 40) (hc : 0 ≤ c) (x y : Nat) (z : Int) (hx : x < n) (hy : y < n) :
    Calls Try.prog 14 #[.pointer (some ⟨ob, 0, none⟩), .agg #[.int .i64 2, .int .i64 x, .int .i64 y, .int .i64 z]] w fun e w' => e = .returned (.bool true) ∧ Stepped w T i ob tb rt n k c w' := by
  have hbA : Below w.heap.size w (w.alloc (.cells #[.int .i64 2, .int .i64 x, .int .i64 y, .int .i64 z] 25)) := (Below.refl _ _).alloc (Nat.le_refl _) _
  have hB := bx_new h 2 x y z
  have H0 : Hid (OrdAt w T i ob tb rt n A Pl E A E k c lv xs ∧ 0 ≤ c) := ⟨h, hc⟩
  clear h hc
  go_enter Try.func14, Try.ntmps14
  go_upto_region 17 with fail
  generalize w.alloc (.cells #[.int .i64 2, .int .i64 x, .int .i64 y, .int .i64 z] 25) = W at *
  have HB : Hid (Bx W.drew ob tb rt w.heap.size x y) := hB.below (below_drew W)
  obtain ⟨c0, c1, b1, b2⟩ := hB
  have HH : Hid (OrdAt W.drew (tagged T w.heap.size i) i ob tb rt n A Pl E A E k c lv xs) := H0.out.1.below hbA.drew (fun _ hb => tagged_old T hb)
  have ka := remove_any x y HH.out.row hn hx hy
  obtain ⟨q, hq⟩ : ∃ q, E x y = q := ⟨_, rfl⟩
  rw [hq] at ka
  have HQ : Hid (E x y = q) := hq
  clear hq
  have hot : ob ≠ tb := tags_ne HH.out.t1 HH.out.t2 (by decide)
  have hbt : w.heap.size ≠ tb := by have := H0.out.1.row.lt; omega
  have HA : Hid (Below w.heap.size w W.drew) := hbA.drew
  clear hbA
  go_region_held (fun w' => w'.cell? ⟨ob, 0, none⟩ = some (.pointer (some ⟨tb, 0, none⟩)) ∧ w'.cell? ⟨w.heap.size, 1, none⟩ = some (.int .i64 x) ∧ w'.cell? ⟨w.heap.size, 2, none⟩ = some (.int .i64 y)) (first | exact ⟨c0, b1, b2⟩ | (refine ⟨?_, ?_, ?_⟩ <;> assumption))
    (first | (go_at_call 11; refine ka.mono ?_; rintro e w1 ⟨rfl, hR, hg⟩; have HB1 : Hid (Bx w1 ob tb rt w.heap.size x y) := HB.out.grown hg hot hbt; have s0 := HB1.out.c0; have s1 := HB1.out.b1; have s2 := HB1.out.b2; have HG : Hid (W.drew.grownBy w1 (some tb)) := hg; have H1 : Hid (OrdAt w1 (tagged T w.heap.size i) i ob tb rt n A Pl (Kp.edge E x y false) A E k c lv xs) := HH.out.prog hg hR (HH.out.ok.drop x y); clear hg hR))
  clear ka c0 c1 b1 b2 s0 s1 s2 HB
  obtain ⟨c0, c1, b1, b2⟩ := HB1.out
  go_upto_region 18 with fail
  have HB2 : Hid (Bx w1.drew ob tb rt w.heap.size x y) := HB1.out.below (below_drew w1)
  have H2 : Hid (OrdAt w1.drew (tagged T w.heap.size i) i ob tb rt n A Pl (Kp.edge E x y false) A E k c lv xs) := H1.out.below (below_drew w1) (fun _ _ => rfl)
  have HN : Hid (¬ (tagged T w.heap.size i ob = (i, 3)) ∧ ¬ (tagged T w.heap.size i w.heap.size = (i, 3))) := ⟨by rw [H2.out.t1]; simp, by rw [tagged_new T (Nat.lt_irrefl _)]; simp⟩
  have kr := refRemove_edge H2.out.ref hx hy
  rw [HQ.out] at kr
  go_region_held (fun w' => w'.cell? ⟨ob, 1, none⟩ = some (.pointer (some ⟨rt, 0, none⟩)) ∧ w'.cell? ⟨w.heap.size, 1, none⟩ = some (.int .i64 x) ∧ w'.cell? ⟨w.heap.size, 2, none⟩ = some (.int .i64 y)) (first | exact ⟨c1, b1, b2⟩ | (refine ⟨?_, ?_, ?_⟩ <;> assumption))
    (first | (go_at_call 26; refine kr.mono ?_; rintro e w2 ⟨rfl, hR, htu⟩; have HB3 : Bx w2 ob tb rt w.heap.size x y := HB2.out.turn htu HN.out.1 HN.out.2; have s0 := HB3.c1; have s1 := HB3.b1; have s2 := HB3.b2; have HS : Hid (Stepped w T i ob tb rt n k c w2) := Stepped.both H0.out.2 H0.out.1 HA.out (HG.out.trans (grown_of_below (below_drew w1) _)) htu (H2.out.doc htu hR); clear hR htu HB3))
  clear kr c0 c1 b1 b2 s0 s1 s2 HB1 HB2 H2 H1 HG HH HA
  cases q
  · go_wp2
    go_ret
    exact ⟨rfl, HS.out⟩
  · go_wp2
    go_ret
    exact ⟨rfl, HS.out⟩

end Go.Proofs.Ytelmkfkgpnadnaa
