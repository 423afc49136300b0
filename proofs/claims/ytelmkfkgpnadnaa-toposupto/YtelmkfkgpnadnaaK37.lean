/-
  One step of the law: an edge that closes a cycle: the way is told twice.
-/
import Derived.Test.YtelmkfkgpnadnaaK36
namespace Go.Proofs.Ytelmkfkgpnadnaa
open Go.RowKit

variable {w w' : World} {n : Nat} {A Pl : Nat → Nat} {E : Nat → Nat → Bool} {T : Nat → Nat × Nat} {i ob tb rt k : Nat} {c : Int} {lv : Value} {xs : List Value}

theorem refAdd_cyc {tag : Nat → Prop} {x y : Nat} (h : RefAny w tag rt n A E) (O : Kp.Ok n A Pl E) (hn : n ≤ 40) (hx : x < n) (hy : y < n) (hc : Kp.Way E y x ∨ x = y) :
    Calls Try.prog 22 #[.pointer (some ⟨rt, 0, none⟩), .int .i64 x, .int .i64 y] w fun e w' => e = .returned (.int .i64 5) ∧ Below w.heap.size w w' := by
  obtain ⟨_, ⟨h0, _⟩ | ⟨h0, nb, eb, cn, ce, rb, hR, _⟩⟩ := h
  · omega
  exact refAdd_cycle x y rt nb eb cn ce rb w hR O.dom hn hx hy hc

theorem refWay_told {tag : Nat → Prop} {x y g cap : Nat} {L : List Nat} (h : RefAny w tag rt n A E) (hT : Kp.Trail E Pl n x y L) (hL : L.length ≤ 40) (hv : ValsAt w g L.length (fun i => .int .i64 (L.getD i 0))) (hx : x < n) :
    Calls Try.prog 23 #[.pointer (some ⟨rt, 0, none⟩), .slice (some ⟨g, 0, none⟩) L.length cap, .int .i64 x, .int .i64 y] w fun e w' => e = .returned (.bool true) ∧ Below w.heap.size w w' := by
  obtain ⟨_, ⟨h0, _⟩ | ⟨h0, nb, eb, cn, ce, rb, hR, _⟩⟩ := h
  · omega
  exact refWay_yes x y rt nb eb cn ce g cap L.length rb (fun i => L.getD i 0) w hR hv hT.len hL hT.head hT.end' (fun e => by subst e; exact hT.one) hT.in' (fun i j h1 h2 e => by
    have := hT.up i j h1 h2
    rw [e] at this
    omega) hT.edge

/-- Tags: one new list, all other new blocks nobody's. -/
def tagG (T : Nat → Nat × Nat) (s i g : Nat) (b : Nat) : Nat × Nat := if b < s then T b else if b = g then (i, 6) else (i + 1, 9)

theorem tagG_old (T : Nat → Nat × Nat) {s i g b : Nat} (h : b < s) : tagG T s i g b = T b := if_pos h
theorem tagG_list (T : Nat → Nat × Nat) {s i g : Nat} (h : s ≤ g) : tagG T s i g g = (i, 6) := by unfold tagG; rw [if_neg (by omega), if_pos rfl]
theorem tagG_new (T : Nat → Nat × Nat) {s i g b : Nat} (h : s ≤ b) (h' : b ≠ g) : (tagG T s i g b).1 ≠ i := by
  unfold tagG; rw [if_neg (by omega), if_neg h']; show i + 1 ≠ i; omega

theorem own_ints {w : World} {g cap : Nat} {L : List Nat} (h : w.ownsRow 0 3 1 (.slice (some ⟨g, 0, none⟩) L.length cap) L.length (ints L)) (hb : Below w.heap.size w w') : w'.ownsRow 0 3 1 (.slice (some ⟨g, 0, none⟩) L.length cap) L.length (ints L) :=
  own_of_block h (fun b e => hb.block b (h.lt b e).2)

set_option maxRecDepth 100000 in
set_option maxHeartbeats 8000000 in
theorem step_cycle (h : OrdAt w T i ob tb rt n A Pl E A E k c lv xs) (hn : n ≤ 40) (hk : k + 8 ≤ 1099511627776) (hc : 0 ≤ c) (hc' : c + 2 < 4611686018427387904) (x y : Nat) (z : Int) (hx : x < n) (hy : y < n) (hcy : Kp.Way E y x ∨ x = y) :
    Calls Try.prog 14 #[.pointer (some ⟨ob, 0, none⟩), .agg #[.int .i64 1, .int .i64 x, .int .i64 y, .int .i64 z]] w fun e w' => e = .returned (.bool true) ∧ Stepped w T i ob tb rt n k c w' := by
  obtain ⟨i0, hi1, hi2, hi3, hi4⟩ := info3
  have HI : Hid (Try.prog.info? 3 = some i0 ∧ i0.zero = some (.int .i64 0) ∧ i0.size = 1 ∧ i0.bytes = 8) := ⟨hi1, hi2, hi3, hi4⟩
  clear hi1 hi2 hi3 hi4
  obtain ⟨L, hL, hT, hL40⟩ := told_any h.ok hn hx hy hcy
  have hL0 := hT.len
  have hbA : Below w.heap.size w (w.alloc (.cells #[.int .i64 1, .int .i64 x, .int .i64 y, .int .i64 z] 25)) := (Below.refl _ _).alloc (Nat.le_refl _) _
  have hsA : (w.alloc (.cells #[.int .i64 1, .int .i64 x, .int .i64 y, .int .i64 z] 25)).heap.size = w.heap.size + 1 := by simp
  have hB := bx_new h 1 x y z
  have H0 : Hid (OrdAt w T i ob tb rt n A Pl E A E k c lv xs ∧ (Kp.Way E y x ∨ x = y) ∧ Kp.Trail E Pl n x y L ∧ (∀ S, (∀ v, v < 40 → (S v = true ↔ Kp.SrcI E Pl x (Pl y) v)) → Kp.tell E A Pl S x 40 y = L)) := ⟨h, hcy, hT, hL⟩
  clear h hcy hT hL
  go_enter Try.func14, Try.ntmps14
  go_upto_region 3 with fail
  generalize w.alloc (.cells #[.int .i64 1, .int .i64 x, .int .i64 y, .int .i64 z] 25) = W at *
  have HB : Hid (Bx W.drew ob tb rt w.heap.size x y) := hB.below (below_drew W)
  obtain ⟨c0, c1, b1, b2⟩ := hB
  have hd : Below w.heap.size w W.drew := hbA.drew
  have hsD : W.drew.heap.size = w.heap.size + 1 := hsA
  have HD : Hid (Below w.heap.size w W.drew ∧ W.drew.heap.size = w.heap.size + 1) := ⟨hd, hsD⟩
  have ka := topoAdd_cycle (H0.out.1.row.below (w' := W.drew) hd) H0.out.1.ok hn hx hy H0.out.2.1 L H0.out.2.2.2 hL0
  clear hbA hsA hd hsD
  go_region_held (fun w' => w'.cell? ⟨ob, 0, none⟩ = some (.pointer (some ⟨tb, 0, none⟩)) ∧ w'.cell? ⟨w.heap.size, 1, none⟩ = some (.int .i64 x) ∧ w'.cell? ⟨w.heap.size, 2, none⟩ = some (.int .i64 y)) (first | exact ⟨c0, b1, b2⟩ | (refine ⟨?_, ?_, ?_⟩ <;> assumption))
    (first | (go_at_call 12; refine ka.mono ?_; rintro e w1 ⟨a, v, rfl, rfl, ⟨g, cap, rfl, hg0, hown⟩, hb⟩; have HB1 : Hid (Bx w1 ob tb rt w.heap.size x y) := HB.out.below hb; have s0 := HB1.out.c0; have s1 := HB1.out.b1; have s2 := HB1.out.b2; have H1 : Hid (Below w.heap.size w w1 ∧ w.heap.size + 1 ≤ g ∧ w1.ownsRow 0 3 1 (.slice (some ⟨g, 0, none⟩) L.length cap) L.length (ints L)) := ⟨HD.out.1.trans (hb.mono (by have := HD.out.2; omega)), by have := HD.out.2; omega, hown⟩; clear hb hg0 hown))
  clear ka c0 c1 b1 b2 s0 s1 s2 HB HD
  obtain ⟨c0, c1, b1, b2⟩ := HB1.out
  go_upto_region 4 with fail
  have hb1 : Below w.heap.size w w1.drew := H1.out.1.drew
  have HO2 : Hid (OrdAt w1.drew T i ob tb rt n A Pl E A E k c lv xs) := H0.out.1.below hb1 (fun _ _ => rfl)
  have kr := refAdd_cyc HO2.out.ref H0.out.1.ok hn hx hy H0.out.2.1
  have HB2 : Hid (Bx w1.drew ob tb rt w.heap.size x y) := HB1.out.below (below_drew w1)
  clear hb1
  go_region_held (fun w' => w'.cell? ⟨ob, 1, none⟩ = some (.pointer (some ⟨rt, 0, none⟩)) ∧ w'.cell? ⟨w.heap.size, 1, none⟩ = some (.int .i64 x) ∧ w'.cell? ⟨w.heap.size, 2, none⟩ = some (.int .i64 y)) (first | exact ⟨c1, b1, b2⟩ | (refine ⟨?_, ?_, ?_⟩ <;> assumption))
    (first | (go_at_call 22; refine kr.mono ?_; rintro e w2 ⟨rfl, hb⟩; have HB3 : Hid (Bx w2 ob tb rt w.heap.size x y) := HB2.out.below hb; have s0 := HB3.out.c1; have s1 := HB3.out.b1; have s2 := HB3.out.b2; have HW2 : Hid (Below w1.heap.size w1 w2) := (below_drew w1).trans hb; clear hb))
  clear kr c0 c1 b1 b2 s0 s1 s2 HB1 HB2 HO2
  have hb2 : Below w.heap.size w w2 := H1.out.1.trans (HW2.out.mono H1.out.1.size)
  have hown2 : w2.ownsRow 0 3 1 (.slice (some ⟨g, 0, none⟩) L.length cap) L.length (ints L) := own_ints H1.out.2.2 HW2.out
  have H2 : Hid (Below w.heap.size w w2 ∧ w.heap.size + 1 ≤ g ∧ w2.ownsRow 0 3 1 (.slice (some ⟨g, 0, none⟩) L.length cap) L.length (ints L)) := ⟨hb2, H1.out.2.1, hown2⟩
  clear H1 HW2 hb2 hown2
  have hsome := some34 ⟨g, 0, none⟩ L.length cap
  go_upto_region 7 with fail
  obtain ⟨c0, c1, b1, b2⟩ := HB3.out
  have HO3 : Hid (OrdAt w2.drew T i ob tb rt n A Pl E A E k c lv xs) := H0.out.1.below H2.out.1.drew (fun _ _ => rfl)
  have kw := refWay_told (g := g) (cap := cap) HO3.out.ref H0.out.2.2.1 hL40 ((ints_at H2.out.2.2).of_block (w' := w2.drew) rfl) hx
  have HB4 : Hid (Bx w2.drew ob tb rt w.heap.size x y) := HB3.out.below (below_drew w2)
  go_region_held (fun w' => w'.cell? ⟨ob, 1, none⟩ = some (.pointer (some ⟨rt, 0, none⟩)) ∧ w'.cell? ⟨w.heap.size, 1, none⟩ = some (.int .i64 x) ∧ w'.cell? ⟨w.heap.size, 2, none⟩ = some (.int .i64 y)) (first | exact ⟨c1, b1, b2⟩ | (refine ⟨?_, ?_, ?_⟩ <;> assumption))
    (first | (go_at_call 23; refine kw.mono ?_; rintro e w3 ⟨rfl, hb⟩; have HB5 : Hid (Bx w3 ob tb rt w.heap.size x y) := HB4.out.below hb; have s0 := HB5.out.c1; have s1 := HB5.out.b1; have s2 := HB5.out.b2; have HW3 : Hid (Below w2.heap.size w2 w3) := (below_drew w2).trans hb; clear hb))
  clear kw c0 c1 b1 b2 s0 s1 s2 HB3 HB4 HO3 hsome
  have hb3 : Below w.heap.size w w3 := H2.out.1.trans (HW3.out.mono H2.out.1.size)
  have hown3 : w3.ownsRow 0 3 1 (.slice (some ⟨g, 0, none⟩) L.length cap) L.length (ints L) := own_ints H2.out.2.2 HW3.out
  have H3 : Hid (Below w.heap.size w w3 ∧ w.heap.size + 1 ≤ g ∧ w3.ownsRow 0 3 1 (.slice (some ⟨g, 0, none⟩) L.length cap) L.length (ints L)) := ⟨hb3, H2.out.2.1, hown3⟩
  clear H2 HW3 hb3 hown3
  have hlen : (ints L).length = L.length * 1 := by simp [ints]
  have hone : ∀ u ∈ ints L, u.oneCell' = true := fun u hu => by
    unfold ints at hu; obtain ⟨k, _, rfl⟩ := List.mem_map.1 hu; rfl
  have hnew : ∀ j u, (ints L)[j]? = some u → w3.cell? ((⟨g, 0, none⟩ : Addr).add j) = some u := H3.out.2.2.cells rfl
  have HLN : Hid ((ints L).length = L.length * 1 ∧ (∀ u ∈ ints L, u.oneCell' = true) ∧ ∀ j u, (ints L)[j]? = some u → w3.cell? ((⟨g, 0, none⟩ : Addr).add j) = some u) := ⟨hlen, hone, hnew⟩
  clear hlen hone hnew
  go_wp2_with (at_builtin; refine wpList_append_keep rfl _ _ 34 rfl 0 3 i0 (.int .i64 0) 1 8 Try.underlying34 HI.out.1 HI.out.2.1 HI.out.2.2.1 HI.out.2.2.2 rfl (by decide) (.slice none 0 0) 0 [] rfl (World.ownsRow_nil _ _ _ _) ⟨g, 0, none⟩ L.length cap (ints L) rfl HLN.out.1 HLN.out.2.2 HLN.out.2.1 (by unfold maxLen; omega) (by omega) (Nat.zero_le _) ?_)
  intro wv w4 hown4 hg4 hat4
  have hown4' : w4.ownsRow 0 3 1 wv L.length (ints L) := by simpa using hown4
  obtain ⟨gw, cw, rfl⟩ := own_some hown4' hL0
  have hgw : gw = w3.heap.size := by
    rcases hat4 with e | e
    · simp [Value.ownBlock] at e
    · simpa [Value.ownBlock] using e.1
  have hb34 : Below w3.heap.size w3 w4 := ⟨hg4.os, hg4.tape, hg4.output, hg4.size, fun k hk => hg4.block k hk (by simp [Value.ownBlock])⟩
  have hb4 : Below w.heap.size w w4 := H3.out.1.trans (hb34.mono H3.out.1.size)
  have hgl3 : g < w3.heap.size := (H3.out.2.2.lt g rfl).2
  have hgwl : gw < w4.heap.size := (hown4'.lt gw rfl).2
  have HB6 : Hid (Bx w4 ob tb rt w.heap.size x y) := HB5.out.below hb34
  have H4 : Hid (OrdAt w4 (tagG T w.heap.size i g) i ob tb rt n A Pl E A E k c lv xs) := H0.out.1.below hb4 (fun b hb => tagG_old T hb)
  have kt := H4.out.take g L.length cap (ints L) (tagG_list T (by have := H3.out.2.1; omega)) (own_ints H3.out.2.2 hb34) (by omega) (by omega) hc (by omega)
  have HW4 : Hid (Below w.heap.size w w4 ∧ w.heap.size + 1 ≤ g ∧ w4.ownsRow 0 3 1 (.slice (some ⟨gw, 0, none⟩) L.length cw) L.length (ints L) ∧ gw < w4.heap.size ∧ w.heap.size ≤ gw ∧ gw ≠ g ∧ w.heap.size ≠ g) := ⟨hb4, H3.out.2.1, hown4', hgwl, by have := H3.out.1.size; omega, by omega, by have := H3.out.2.1; omega⟩
  clear hown4 hown4' hg4 hat4 hgw hb34 hb4 hgl3 hgwl H3 HLN HB5
  go_wp2_with (go_at_call 24; fail)
  go_at_call 24
  refine kt.mono ?_
  rintro e w5 ⟨rfl, T2, lv2, xs2, hO5, hT2, ht5⟩
  clear kt
  have hwas : w5.ownsRow 0 3 1 (.slice (some ⟨gw, 0, none⟩) L.length cw) L.length (ints L) := own_of_block HW4.out.2.2.1 (fun b hb => by
    have e : gw = b := by simpa [Value.ownBlock] using hb
    rw [← e]
    exact ht5.block gw HW4.out.2.2.2.1 (tagG_new T HW4.out.2.2.2.2.1 HW4.out.2.2.2.2.2.1))
  have hBl : w.heap.size < w4.heap.size := World.block_lt_of_cell? w4 _ HB6.out.b1
  have b1 : w5.cell? ⟨w.heap.size, 1, none⟩ = some (.int .i64 x) := by rw [ht5.cell (a := ⟨w.heap.size, 1, none⟩) hBl (tagG_new T (Nat.le_refl _) HW4.out.2.2.2.2.2.2)]; exact HB6.out.b1
  have b2 : w5.cell? ⟨w.heap.size, 2, none⟩ = some (.int .i64 y) := by rw [ht5.cell (a := ⟨w.heap.size, 2, none⟩) hBl (tagG_new T (Nat.le_refl _) HW4.out.2.2.2.2.2.2)]; exact HB6.out.b2
  have c0 : w5.cell? ⟨ob, 0, none⟩ = some (.pointer (some ⟨tb, 0, none⟩)) := hO5.obj.at' 0 (by omega)
  have hT5 : ∀ b, b < w.heap.size → T2 b = T b := fun b hb => by
    have := HW4.out.1.size
    rw [hT2 b (by omega) (by have := HW4.out.2.1; omega), tagG_old T hb]
  have ht5' : Turn (fun b => (T b).1 = i) w w5 := (Turn.of_below (p := fun b => (T b).1 = i) HW4.out.1).trans ht5 (fun _ _ h => h) (fun b hb h => by
    have h' : (tagG T w.heap.size i g b).1 = i := h
    rw [tagG_old T hb] at h'
    exact h')
  have H5 : Hid (OrdAt w5 T2 i ob tb rt n A Pl E A E (k + 4) (c + 1) lv2 xs2 ∧ w5.ownsRow 0 3 1 (.slice (some ⟨gw, 0, none⟩) L.length cw) L.length (ints L) ∧ (∀ b, b < w.heap.size → T2 b = T b) ∧ Turn (fun b => (T b).1 = i) w w5) := ⟨hO5, hwas, hT5, ht5'⟩
  clear hO5 hwas hT5 ht5' hT2 ht5 hBl HB6 HW4 H4
  go_upto_region 11 with fail
  have hC5 : w5.drew.cell? ⟨ob, 0, none⟩ = some (.pointer (some ⟨tb, 0, none⟩)) ∧ w5.drew.cell? ⟨w.heap.size, 1, none⟩ = some (.int .i64 x) ∧ w5.drew.cell? ⟨w.heap.size, 2, none⟩ = some (.int .i64 y) := ⟨c0, b1, b2⟩
  have HC5 : Hid (w5.drew.cell? ⟨ob, 0, none⟩ = some (.pointer (some ⟨tb, 0, none⟩)) ∧ w5.drew.cell? ⟨w.heap.size, 1, none⟩ = some (.int .i64 x) ∧ w5.drew.cell? ⟨w.heap.size, 2, none⟩ = some (.int .i64 y)) := hC5
  clear hC5
  have ka := topoAdd_cycle (H5.out.1.row.of_block (w' := w5.drew) rfl) H0.out.1.ok hn hx hy H0.out.2.1 L H0.out.2.2.2 hL0
  go_region_held (fun w' => w'.cell? ⟨ob, 0, none⟩ = some (.pointer (some ⟨tb, 0, none⟩)) ∧ w'.cell? ⟨w.heap.size, 1, none⟩ = some (.int .i64 x) ∧ w'.cell? ⟨w.heap.size, 2, none⟩ = some (.int .i64 y)) (first | exact ⟨c0, b1, b2⟩ | (refine ⟨?_, ?_, ?_⟩ <;> assumption))
    (first | (go_at_call 12; refine ka.mono ?_; rintro e w6 ⟨a, v, rfl, rfl, ⟨g2, cap2, rfl, hg0, hown⟩, hb⟩; have s0 : w6.cell? ⟨ob, 0, none⟩ = some (.pointer (some ⟨tb, 0, none⟩)) := by { rw [hb.cell (p := ⟨ob, 0, none⟩) (World.block_lt_of_cell? _ _ HC5.out.1)]; exact HC5.out.1 }; have s1 : w6.cell? ⟨w.heap.size, 1, none⟩ = some (.int .i64 x) := by { rw [hb.cell (p := ⟨w.heap.size, 1, none⟩) (World.block_lt_of_cell? _ _ HC5.out.2.1)]; exact HC5.out.2.1 }; have s2 : w6.cell? ⟨w.heap.size, 2, none⟩ = some (.int .i64 y) := by { rw [hb.cell (p := ⟨w.heap.size, 2, none⟩) (World.block_lt_of_cell? _ _ HC5.out.2.2)]; exact HC5.out.2.2 }; have H6 : Hid (Below w5.heap.size w5 w6 ∧ w5.heap.size ≤ g2 ∧ w6.ownsRow 0 3 1 (.slice (some ⟨g2, 0, none⟩) L.length cap2) L.length (ints L)) := ⟨(below_drew w5).trans hb, hg0, hown⟩; clear hb hg0 hown))
  clear ka c0 b1 b2 s0 s1 s2 HC5
  have hwas6 := own_ints H5.out.2.1 H6.out.1
  have ks := sameInts_yes L.length cap2 cw g2 gw (fun j => L.getD j 0) w6 (by omega) (ints_at H6.out.2.2) (ints_at hwas6) ⟨(H6.out.2.2.lt g2 rfl).2, (hwas6.lt gw rfl).2⟩
  clear hwas6
  go_wp2_with (go_at_call 25; fail)
  go_at_call 25
  refine ks.mono ?_
  rintro e w7 ⟨rfl, hb7⟩
  clear ks
  have hb57 : Below w5.heap.size w5 w7 := H6.out.1.trans (hb7.mono H6.out.1.size)
  have H7 : Hid (OrdAt w7 (tagG T2 w5.heap.size i g2) i ob tb rt n A Pl E A E (k + 4) (c + 1) lv2 xs2) := H5.out.1.below hb57 (fun b hb => tagG_old T2 hb)
  have kt := H7.out.take g2 L.length cap2 (ints L) (tagG_list T2 H6.out.2.1) (own_ints H6.out.2.2 hb7) (by omega) (by omega) (by omega) (by omega)
  have HB7 : Hid (Below w5.heap.size w5 w7) := hb57
  clear hb7 hb57
  go_wp2_with (go_at_call 24; fail)
  go_at_call 24
  refine kt.mono ?_
  rintro e w8 ⟨rfl, T4, lv4, xs4, hO8, hT8, ht8⟩
  clear kt
  have HS : Hid (Stepped w T i ob tb rt n k c w8) := by
    have hs5 := H5.out.2.2.2.size
    have hs7 := HB7.out.size
    have hg2 := H6.out.2.1
    refine ⟨T4, A, Pl, E, k + 4 + 4, c + 1 + 1, lv4, xs4, hO8, by omega, by omega, by omega, ?_, fun b hb => ?_⟩
    · refine (H5.out.2.2.2.more HB7.out).trans ht8 (fun _ _ h => h) (fun b hb h => ?_)
      have h' : (tagG T2 w5.heap.size i g2 b).1 = i := h
      rw [tagG_old T2 (by omega), H5.out.2.2.1 b hb] at h'
      exact h'
    · rw [hT8 b (by omega) (by omega), tagG_old T2 (by omega), H5.out.2.2.1 b hb]
  clear hO8 hT8 ht8 H5 H6 H7 HB7
  go_wp2_with (go_at_call 21; fail)
  go_at_call 21
  refine (num_any 5 _).mono ?_
  intro e w9 hq
  rw [hq.1, hq.2]
  clear hq
  go_wp2_with (go_at_call 21; fail)
  go_at_call 21
  refine (num_any 5 _).mono ?_
  intro e w9 hq
  rw [hq.1, hq.2]
  clear hq
  go_wp2
  go_ret
  exact ⟨rfl, HS.out⟩

end Go.Proofs.Ytelmkfkgpnadnaa
