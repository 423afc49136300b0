/-
  Every step; an order just where there must be one.
-/
import Derived.Test.YtelmkfkgpnadnaaK37
import Derived.Test.YtelmkfkgpnadnaaK30
import Derived.Test.YtelmkfkgpnadnaaK32
namespace Go.Proofs.Ytelmkfkgpnadnaa
open Go.RowKit

variable {w w' : World} {n : Nat} {A Pl : Nat → Nat} {E : Nat → Nat → Bool} {T : Nat → Nat × Nat} {i ob tb rt k : Nat} {c : Int} {lv : Value} {xs : List Value}

theorem step_any (h : OrdAt w T i ob tb rt n A Pl E A E k c lv xs) (hn : n ≤ 40) (hk : k + 8 ≤ 1099511627776) (hc : 0 ≤ c) (hc' : c + 2 < 4611686018427387904) (kd x y z : Int) :
    Calls Try.prog 14 #[.pointer (some ⟨ob, 0, none⟩), .agg #[.int .i64 kd, .int .i64 x, .int .i64 y, .int .i64 z]] w fun e w' => e = .returned (.bool true) ∧ Stepped w T i ob tb rt n k c w' := by
  by_cases hxy : (0 ≤ x ∧ x < (n : Int)) ∧ (0 ≤ y ∧ y < (n : Int))
  · obtain ⟨a, rfl⟩ := Int.eq_ofNat_of_zero_le hxy.1.1
    obtain ⟨b, rfl⟩ := Int.eq_ofNat_of_zero_le hxy.2.1
    have ha : a < n := by omega
    have hb : b < n := by omega
    by_cases h1 : kd = 1
    · subst h1
      by_cases hcy : Kp.Way E b a ∨ a = b
      · exact step_cycle h hn hk hc hc' a b z ha hb hcy
      · exact step_edge h hn hc a b z ha hb hcy
    · by_cases h2 : kd = 2
      · subst h2
        exact step_remove h hn hc a b z ha hb
      · exact step_order h hn hk hc hc' kd a b z h1 h2
  · by_cases h1 : kd = 1
    · subst h1
      exact step_bad h hc x y z hxy
    · by_cases h2 : kd = 2
      · subst h2
        exact step_none h hc x y z hxy
      · exact step_order h hn hk hc hc' kd x y z h1 h2

theorem looks_any (h : OrdAt w T i ob tb rt n A Pl E A E k c lv xs) (hk : k ≤ 1099511627776) :
    Calls Try.prog 15 #[.pointer (some ⟨ob, 0, none⟩)] w fun e w' => e = .returned (.bool true) ∧ Below w.heap.size w w' := by
  have h2 : w.cell? ⟨ob, 2, none⟩ = some lv := h.obj.at' 2 (by omega)
  rcases h.rows.2 with ⟨e, h0⟩ | ⟨g, cap, cur, e, _⟩
  · rw [e] at h2
    exact (looks_none ob w h2).mono fun e w' hq => ⟨hq.1, by rw [hq.2]; exact Below.refl _ _⟩
  · have hr := h.rows
    rw [e] at h2 hr
    exact looks_some ob g k cap xs _ w h2 hr h.lie hk

theorem RefAny.ext {tag : Nat → Prop} {A' : Nat → Nat} (h : RefAny w tag rt n A E) (e : ∀ p, p < n → A p = A' p) : RefAny w tag rt n A' E := by
  rcases h with ⟨ht, h0 | ⟨h0, nb, eb, cn, ce, rb, hR, t⟩⟩
  · exact ⟨ht, Or.inl h0⟩
  · exact ⟨ht, Or.inr ⟨h0, nb, eb, cn, ce, rb, ⟨hR.nodes, hR.edges, hR.nv.ext fun j hj => by rw [e j hj], hR.ed, hR.nlt, hR.d1, hR.d2⟩, t⟩⟩

set_option maxRecDepth 100000 in
set_option maxHeartbeats 1000000 in
theorem ordered_bad (c : Int) (w : World) (hc : ¬ (0 ≤ c ∧ c ≤ 40)) :
    Calls Try.prog 13 #[.int .i64 c] w fun e w' => e = .returned (.tuple #[.pointer none, .bool true]) ∧ w' = w := by
  have k1 := newTopo_bad c w hc
  have k2 := refNew_bad c w hc
  clear hc
  go_enter Try.func13, Try.ntmps13
  go_wp2_with (go_at_call 7; fail)
  go_at_call 7
  refine k1.mono ?_
  intro e w1 hq
  rw [hq.1, hq.2]
  clear k1 hq
  go_wp2_with (go_at_call 20; fail)
  go_at_call 20
  refine k2.mono ?_
  intro e w1 hq
  rw [hq.1, hq.2]
  clear k2 hq
  go_wp2_with (go_at_call 21; fail)
  go_at_call 21
  refine (num_any 1 _).mono ?_
  intro e w1 hq
  rw [hq.1, hq.2]
  clear hq
  go_wp2_with (go_at_call 21; fail)
  go_at_call 21
  refine (num_any 1 _).mono ?_
  intro e w1 hq
  rw [hq.1, hq.2]
  clear hq
  go_wp2
  go_ret2
  exact ⟨rfl, rfl⟩

theorem ord_new {T0 : Nat → Nat × Nat} {W1 W2 : World} {t : TypeId} (i : Nat) (hrow : RowAt W1 tb n A Pl noE) (hA : ∀ p, p < n → A p = p ∧ Pl p = p) (htb : w.heap.size ≤ tb) (hb1 : Below w.heap.size w W1) (hr : RefAny W2 (fun b => W1.heap.size ≤ b) rt n id noE) (hb2 : Below W1.heap.size W1 W2) :
    ∃ T, OrdAt (W2.alloc (.cells #[.pointer (some ⟨tb, 0, none⟩), .pointer (some ⟨rt, 0, none⟩), .slice none 0 0, .int .i64 0] t)) T i W2.heap.size tb rt n A Pl noE A noE 0 0 (.slice none 0 0) [] ∧ ∀ b, b < w.heap.size → T b = T0 b := by
  have htl := hrow.lt
  have h1 := hb1.size
  have h2 := hb2.size
  let T : Nat → Nat × Nat := fun b => if b < w.heap.size then T0 b else if b = W2.heap.size then (i, 1) else if b = tb then (i, 2) else (i, 3)
  have hnew : (W2.alloc (.cells #[.pointer (some ⟨tb, 0, none⟩), .pointer (some ⟨rt, 0, none⟩), .slice none 0 0, .int .i64 0] t)).heap[W2.heap.size]? = some (.cells #[.pointer (some ⟨tb, 0, none⟩), .pointer (some ⟨rt, 0, none⟩), .slice none 0 0, .int .i64 0] t) := by
    show (W2.heap.push _)[W2.heap.size]? = _
    simp
  refine ⟨T, ⟨⟨fun j hj => ?_, fun j hj => ?_⟩, ?_, ?_, ?_, ok_new hA, ?_, World.ownsRow_nil _ _ _ _, fun b hb => (by cases hb), fun j hj => (by omega), by simp⟩, fun b hb => if_pos hb⟩
  · simp only [World.cell?, hnew]
    rcases (by omega : j = 0 ∨ j = 1 ∨ j = 2 ∨ j = 3) with e | e | e | e <;> simp [e, ofld]
  · simp only [World.frozen?, hnew]; simp
  · show (if W2.heap.size < w.heap.size then _ else if W2.heap.size = W2.heap.size then (i, 1) else _) = _
    rw [if_neg (by omega), if_pos rfl]
  · exact (hrow.below hb2).of_block (Below.heap_alloc _ _ _ (by omega))
  · show (if tb < w.heap.size then _ else if tb = W2.heap.size then _ else if tb = tb then (i, 2) else _) = _
    rw [if_neg (by omega), if_neg (by omega), if_pos rfl]
  · refine (hr.ext fun p hp => (hA p hp).1.symm).turn (by simp) fun b hb hg => ⟨Below.heap_alloc _ _ _ hb, ?_⟩
    have hg' : W1.heap.size ≤ b := hg
    show (if b < w.heap.size then _ else if b = W2.heap.size then _ else if b = tb then _ else (i, 3)) = _
    rw [if_neg (by omega), if_neg (by omega), if_neg (by omega)]

set_option maxRecDepth 100000 in
set_option maxHeartbeats 1000000 in
theorem ordered_good (n : Nat) (w : World) (hn : n ≤ 40) (T0 : Nat → Nat × Nat) (i : Nat) :
    Calls Try.prog 13 #[.int .i64 n] w fun e w' => ∃ ob, e = .returned (.tuple #[.pointer (some ⟨ob, 0, none⟩), .bool true]) ∧ Below w.heap.size w w' ∧ ∃ tb rt A Pl T, OrdAt w' T i ob tb rt n A Pl noE A noE 0 0 (.slice none 0 0) [] ∧ ∀ b, b < w.heap.size → T b = T0 b := by
  have k1 := newTopo_any w n hn
  go_enter Try.func13, Try.ntmps13
  go_wp2_with (go_at_call 7; fail)
  go_at_call 7
  refine k1.mono ?_
  rintro e w1 ⟨tb, A, Pl, rfl, hrow, hA, htb, hb1⟩
  have k2 := refNew_any w1 n hn
  have H1 : Hid (RowAt w1 tb n A Pl noE ∧ (∀ p, p < n → A p = p ∧ Pl p = p) ∧ w.heap.size ≤ tb ∧ Below w.heap.size w w1) := ⟨hrow, hA, htb, hb1⟩
  clear k1 hrow hA htb hb1
  go_wp2_with (go_at_call 20; fail)
  go_at_call 20
  refine k2.mono ?_
  rintro e w2 ⟨rt, rfl, hr, hb2⟩
  have H2 : Hid (RefAny w2 (fun b => w1.heap.size ≤ b) rt n id noE ∧ Below w1.heap.size w1 w2) := ⟨hr, hb2⟩
  clear k2 hr hb2
  go_wp2_with (go_at_call 21; fail)
  go_at_call 21
  refine (num_any 0 _).mono ?_
  intro e w3 hq
  rw [hq.1, hq.2]
  clear hq
  go_wp2_with (go_at_call 21; fail)
  go_at_call 21
  refine (num_any 0 _).mono ?_
  intro e w3 hq
  rw [hq.1, hq.2]
  clear hq
  go_wp2
  go_ret2
  obtain ⟨T, hO, hT⟩ := ord_new (T0 := T0) (t := 51) i H1.out.1 H1.out.2.1 H1.out.2.2.1 H1.out.2.2.2 H2.out.1 H2.out.2
  exact ⟨_, rfl, (H1.out.2.2.2.trans (H2.out.2.mono H1.out.2.2.2.size)).alloc (by have := H1.out.2.2.2.size; have := H2.out.2.size; omega) _, tb, rt, A, Pl, T, hO, hT⟩

end Go.Proofs.Ytelmkfkgpnadnaa
