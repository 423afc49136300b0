/-
  One step of the law: an order is asked for; numbers that are none; an edge out.
-/
import Derived.Test.YtelmkfkgpnadnaaK29
import Derived.Test.YtelmkfkgpnadnaaK31
namespace Go.Proofs.Ytelmkfkgpnadnaa
open Go.RowKit

variable {w w' : World} {n : Nat} {A Pl A2 : Nat → Nat} {E E2 : Nat → Nat → Bool} {T : Nat → Nat × Nat} {i ob tb rt k : Nat} {c : Int} {lv : Value} {xs : List Value}

theorem own_base {B e s m : Nat} {u : Value} {xs : List Value} (h : w.ownsRow B e s u m xs) : w.ownsRow 0 e s u m xs := by
  refine ⟨h.1, ?_⟩
  rcases h.2 with hn | ⟨g, cap, cur, hv, hg, rest⟩
  · exact .inl hn
  · exact .inr ⟨g, cap, cur, hv, Nat.zero_le _, rest⟩

theorem OrdAt.take (h : OrdAt w T i ob tb rt n A Pl E A2 E2 k c lv xs) (g m cap : Nat) (ys : List Value) (hg : T g = (i, 6)) (hown : w.ownsRow 0 3 1 (.slice (some ⟨g, 0, none⟩) m cap) m ys) (hm : m ≤ 90) (hk : k + 4 ≤ 1099511627776) (hc : 0 ≤ c) (hc' : c < 4611686018427387904) :
    Calls Try.prog 24 #[.pointer (some ⟨ob, 0, none⟩), .slice (some ⟨g, 0, none⟩) m cap] w fun e w' => e = .returned (.tuple #[]) ∧ ∃ T' lv' xs', OrdAt w' T' i ob tb rt n A Pl E A2 E2 (k + 4) (c + 1) lv' xs' ∧ (∀ b, b < w.heap.size → b ≠ g → T' b = T b) ∧ Turn (fun b => (T b).1 = i) w w' := by
  have hd1 : lv.ownBlock ≠ some ob := fun e => by
    have h1 := h.t4 ob e
    rw [h.t1] at h1
    injection h1 with _ h1
    cases h1
  have hd2 : lv.ownBlock ≠ some g := fun e => by
    have h1 := h.t4 g e
    rw [hg] at h1
    injection h1 with _ h1
    cases h1
  have hd3 : g ≠ ob := fun e => by
    rw [e, h.t1] at hg
    injection hg with _ h1
    cases h1
  refine (take_any ob k g m cap (ofld tb rt) lv xs ys c w h.obj h.rows hown hm hk hc hc' hd1 hd2 hd3).mono ?_
  rintro e w' ⟨he, ys', lv', gv, tk⟩
  obtain ⟨T', h1, h2, h3⟩ := h.taken (fun b hb => by
    have : g = b := by simpa [Value.ownBlock] using hb
    rw [← this]; exact hg) tk
  exact ⟨he, T', lv', xs ++ ys', h2, fun b hb hne => h1 b hb (fun e => hne (by simpa [Value.ownBlock] using e.symm)), h3⟩

/-- What a step leaves. -/
def Stepped (w : World) (T : Nat → Nat × Nat) (i ob tb rt n k : Nat) (c : Int) (w' : World) : Prop :=
  ∃ T' A' Pl' E' k' c' lv' xs', OrdAt w' T' i ob tb rt n A' Pl' E' A' E' k' c' lv' xs' ∧ k' ≤ k + 8 ∧ 0 ≤ c' ∧ c' ≤ c + 2 ∧ Turn (fun b => (T b).1 = i) w w' ∧ ∀ b, b < w.heap.size → T' b = T b

theorem vals_of_ints {B g cap : Nat} {f : Nat → Nat} (h : w.ownsRow B 3 1 (.slice (some ⟨g, 0, none⟩) n cap) n (ints ((List.range n).map f))) : ValsAt w g n (fun j => .int .i64 (f j)) := by
  refine ⟨fun j hj => ?_, fun j _ => h.frozenAt j⟩
  rw [h.cellAt j (by omega)]
  simp [ints, hj]

set_option maxRecDepth 100000 in
set_option maxHeartbeats 4000000 in
theorem step_order (h : OrdAt w T i ob tb rt n A Pl E A E k c lv xs) (hn : n ≤ 40) (hk : k + 8 ≤ 1099511627776) (hc : 0 ≤ c) (hc' : c + 2 < 4611686018427387904) (kd x y z : Int) (h1 : kd ≠ 1) (h2 : kd ≠ 2) :
    Calls Try.prog 14 #[.pointer (some ⟨ob, 0, none⟩), .agg #[.int .i64 kd, .int .i64 x, .int .i64 y, .int .i64 z]] w fun e w' => e = .returned (.bool true) ∧ Stepped w T i ob tb rt n k c w' := by
  have H0 : Hid (OrdAt w T i ob tb rt n A Pl E A E k c lv xs) := h
  have hbA : Below w.heap.size w (w.alloc (.cells #[.int .i64 kd, .int .i64 x, .int .i64 y, .int .i64 z] 25)) := (Below.refl _ _).alloc (Nat.le_refl _) _
  have HH : Hid (OrdAt (w.alloc (.cells #[.int .i64 kd, .int .i64 x, .int .i64 y, .int .i64 z] 25)) T i ob tb rt n A Pl E A E k c lv xs) := h.below hbA (fun _ _ => rfl)
  have c0 : (w.alloc (.cells #[.int .i64 kd, .int .i64 x, .int .i64 y, .int .i64 z] 25)).cell? ⟨ob, 0, none⟩ = some (.pointer (some ⟨tb, 0, none⟩)) := HH.out.obj.at' 0 (by omega)
  have ko := order_all HH.out.row hn
  have q1 : (kd == 1) = false := by simp [h1]
  have q2 : (kd == 2) = false := by simp [h2]
  clear h h1 h2
  go_enter Try.func14, Try.ntmps14
  go_wp2_with (go_at_call 9; fail)
  go_at_call 9
  refine ko.mono ?_
  rintro e w1 ⟨g, cap, rfl, hown, hb1'⟩
  clear ko c0
  have hs1 : (w.alloc (.cells #[.int .i64 kd, .int .i64 x, .int .i64 y, .int .i64 z] 25)).heap.size = w.heap.size + 1 := by simp
  have hg0 : w.heap.size ≤ g := by have := (hown.lt g rfl).1; omega
  have hg1 : g < w1.heap.size := (hown.lt g rfl).2
  obtain ⟨T1, hT1⟩ : ∃ T1 : Nat → Nat × Nat, T1 = fun b => if b < w.heap.size then T b else (i, 6) := ⟨_, rfl⟩
  have hTo : ∀ b, b < w.heap.size → T1 b = T b := fun b hb => by rw [hT1]; exact if_pos hb
  have hTg : T1 g = (i, 6) := by rw [hT1]; exact if_neg (by omega)
  have hb1 : Below w.heap.size w w1 := hbA.trans (hb1'.mono (by omega))
  have H1 : Hid (OrdAt w1 T1 i ob tb rt n A Pl E A E k c lv xs) := H0.out.below hb1 hTo
  have HV : Hid (ValsAt w1 g n (fun j => .int .i64 (A j))) := vals_of_ints hown
  have HO : Hid (w1.ownsRow 0 3 1 (.slice (some ⟨g, 0, none⟩) n cap) n (ints ((List.range n).map A))) := own_base hown
  have HT : Hid ((∀ b, b < w.heap.size → T1 b = T b) ∧ T1 g = (i, 6) ∧ Below w.heap.size w w1 ∧ w.heap.size ≤ g) := ⟨hTo, hTg, hb1, hg0⟩
  clear hown hT1 hTo hTg hb1 hb1' hbA hs1 hg0 HH H0
  have c1 : w1.cell? ⟨ob, 1, none⟩ = some (.pointer (some ⟨rt, 0, none⟩)) := H1.out.obj.at' 1 (by omega)
  have ks : ∃ a cn, w1.cell? ⟨rt, 0, none⟩ = some (.slice a n cn) ∧ Calls Try.prog 25 #[.slice (some ⟨g, 0, none⟩) n cap, .slice a n cn] w1 fun e w' => e = .returned (.bool true) ∧ Below w1.heap.size w1 w' := by
    rcases H1.out.ref.2 with ⟨h0, a, cn, hc⟩ | ⟨h0, nb, eb, cn, ce, rb, hR, _⟩
    · subst h0
      exact ⟨a, cn, hc, (sameInts_none cap cn _ _ w1).mono fun e w' hq => ⟨hq.1, by rw [hq.2]; exact Below.refl _ _⟩⟩
    · exact ⟨some ⟨nb, 0, none⟩, cn, hR.nodes, sameInts_yes n cap cn g nb A w1 (by omega) HV.out hR.nv ⟨hg1, hR.nlt⟩⟩
  obtain ⟨a, cn, cr, ks⟩ := ks
  go_wp2_with (go_at_call 25; fail)
  go_at_call 25
  refine ks.mono ?_
  rintro e w2 ⟨rfl, hb2⟩
  clear ks c1 cr
  have H2 : Hid (OrdAt w2 T1 i ob tb rt n A Pl E A E k c lv xs) := H1.out.below hb2 (fun b _ => rfl)
  have kt := H2.out.take g n cap _ HT.out.2.1 (own_of_block HO.out (fun b hb => hb2.block b (HO.out.lt b hb).2)) (by omega) (by omega) hc (by omega)
  go_wp2_with (go_at_call 24; fail)
  go_at_call 24
  refine kt.mono ?_
  rintro e w3 ⟨rfl, T', lv', xs', hO, hT', htu⟩
  clear kt
  have HR : Hid (Stepped w T i ob tb rt n k c w3) := by
    refine ⟨T', A, Pl, E, k + 4, c + 1, lv', xs', hO, by omega, by omega, by omega, ?_, fun b hb => ?_⟩
    · refine (Turn.of_below (p := fun b => (T1 b).1 = i) HT.out.2.2.1).trans ((Turn.of_below (p := fun b => (T1 b).1 = i) hb2).trans htu (fun _ _ h => h) (fun _ _ h => h)) (fun b hb h => by rw [← HT.out.1 b hb]; exact h) (fun b hb h => by rw [← HT.out.1 b hb]; exact h)
    · have hs1 := HT.out.2.2.1.size
      have hs2 := hb2.size
      have := HT.out.2.2.2
      rw [hT' b (by omega) (by omega)]
      exact HT.out.1 b hb
  clear hO hT' htu
  go_wp2
  go_ret
  exact ⟨rfl, HR.out⟩

end Go.Proofs.Ytelmkfkgpnadnaa
