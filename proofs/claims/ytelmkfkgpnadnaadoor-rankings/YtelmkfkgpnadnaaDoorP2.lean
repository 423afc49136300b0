/-
  The row of the law Rankings, and its card.
-/
import Derived.Test.YtelmkfkgpnadnaaDoorR7
import Derived.Test.YtelmkfkgpnadnaaDoorTie
import Derived.Test.YtelmkfkgpnadnaaDoorCards
import Derived.ProofKit
import Derived.OpenShut
import Derived.LaidMore
import Derived.Lay
import Derived.Stop.Joined
import Derived.SevenTiedAt
import Derived.Lib.SmallJoins
namespace Go.Proofs.YtelmkfkgpnadnaaDoor
open Go.ChangeShapes Go.WideShapes Go.ChangeAt Go.RowKit

theorem ownR : ownKnob Tryd.prog.godebug = none := by kernel_rfl
theorem cells3' : Tryd.prog.cellsOf 3 = 1 := by kernel_rfl
theorem cells23 : Tryd.prog.cellsOf 23 = 3 := by kernel_rfl
theorem cells24 : Tryd.prog.cellsOf 24 = 1 := by kernel_rfl
theorem cells26 : Tryd.prog.cellsOf 26 = 4 := by kernel_rfl
theorem laidOut : laidOutB Tryd.prog = true := by kernel_rfl

theorem cell_lt {w : World} {p : Addr} {v : Value} (h : w.cell? p = some v) : p.block < w.heap.size := by
  apply Classical.byContradiction
  intro hc
  have : w.heap[p.block]? = none := Array.getElem?_eq_none (by omega)
  unfold World.cell? at h
  rw [this] at h
  simp at h

set_option maxRecDepth 100000 in
/-- A Ranked that came in, opened. -/
theorem open_ranked {H : Type} {enc : TypeId × Value → H} {W : World} {b0 : Nat} {v : Value} {d : DataW H} {p : List MemPlace} (hv : Value.okWide Tryd.prog W .any b0 26 v) (h : DataW.Trod enc Tryd.prog W 0 (fun _ => true) true 26 v d p) :
    ∃ (a b c : Int) (ad : Option Addr) (len cap : Nat) (L : List Int), v = .agg #[.int .i64 a, .int .i64 b, .int .i64 c, .slice ad len cap] ∧
      (-9223372036854775808 ≤ a ∧ a ≤ 9223372036854775807) ∧ (-9223372036854775808 ≤ b ∧ b ≤ 9223372036854775807) ∧ (-9223372036854775808 ≤ c ∧ c ≤ 9223372036854775807) ∧ len ≤ maxLen ∧
      ∀ j, j < len → ∃ lb lo, ad = some ⟨lb, lo, none⟩ ∧ lb < W.heap.size ∧ W.cell? ⟨lb, lo + j, none⟩ = some (.int .i64 L[j]!) ∧ -9223372036854775808 ≤ L[j]! ∧ L[j]! ≤ 9223372036854775807 := by
  obtain ⟨cs, rfl, hsz⟩ := okWide_struct Tryd.underlying26 hv
  rw [cells26] at hsz
  obtain ⟨l⟩ := cs
  match l, hsz with
  | [c0, c1, c2, c3], _ =>
    obtain ⟨fuel, hf⟩ := h
    obtain ⟨y0, y1, n, hx, _, h0, h1⟩ := trod_struct2 Tryd.underlying26 hf
    rw [cells23] at h0
    rw [cells24] at h1
    have h0' : DataW.trod enc Tryd.prog W 0 (fun _ => true) true n 23 [c0, c1, c2] = some y0 := by simpa [Value.cells] using h0
    have h1' : DataW.trod enc Tryd.prog W 0 (fun _ => true) true n 24 [c3] = some y1 := by simpa [Value.cells] using h1
    obtain ⟨xs, m, rfl, hx1, _, hn3, hel⟩ := DataW.trod_array Tryd.underlying23 h0'
    rw [cells3'] at hel
    have e0 := hel 0 (by omega)
    have e1 := hel 1 (by omega)
    have e2 := hel 2 (by omega)
    match xs, hn3 with
    | [z0, z1, z2], _ =>
      obtain ⟨a, ea, _, wa⟩ := DataW.trod_int Tryd.underlying3 (show DataW.trod enc Tryd.prog W 0 (fun _ => true) true m 3 [c0] = some z0 by simpa using e0)
      obtain ⟨b, eb, _, wb⟩ := DataW.trod_int Tryd.underlying3 (show DataW.trod enc Tryd.prog W 0 (fun _ => true) true m 3 [c1] = some z1 by simpa using e1)
      obtain ⟨c, ec, _, wc⟩ := DataW.trod_int Tryd.underlying3 (show DataW.trod enc Tryd.prog W 0 (fun _ => true) true m 3 [c2] = some z2 by simpa using e2)
      simp only [List.cons.injEq, and_true] at ea eb ec
      subst ea eb ec
      rcases open_ints Tryd.underlying24 Tryd.underlying3 cells3' h1' with ⟨hcs, _⟩ | ⟨ad, len, cap, zs, hcs, _, hl, hm, hz, _, hcell, hwz⟩
      · simp only [List.cons.injEq, and_true] at hcs
        subst hcs
        exact ⟨a, b, c, none, 0, 0, [], rfl, bounds_i64 wa, bounds_i64 wb, bounds_i64 wc, by unfold maxLen; omega, fun j hj => by omega⟩
      · simp only [List.cons.injEq, and_true] at hcs
        subst hcs
        simp only [if_true] at hz
        refine ⟨a, b, c, some ad, len, cap, zs, rfl, bounds_i64 wa, bounds_i64 wb, bounds_i64 wc, by omega, fun j hj => ?_⟩
        obtain ⟨lb, lo, rfl, hc⟩ := ints_at hcell (by omega)
        have hcj := hc j (by omega)
        have hg : zs.getD j 0 = zs[j]! := by rw [getElem!_pos zs j (by omega)]; simp [List.getD, List.getElem?_eq_getElem (show j < zs.length by omega)]
        rw [hg] at hcj
        have hb := bounds_i64 (hwz zs[j]! (by rw [getElem!_pos zs j (by omega)]; exact List.getElem_mem _))
        exact ⟨lb, lo, rfl, cell_lt hcj, hcj, hb.1, hb.2⟩

theorem rankings_any (a b c a' b' c' : Int) (ad ad' : Option Addr) (len cap len' cap' : Nat) (L L' : List Int) (pt : Int) (W : World) (hm : Ml W)
    (ha : -9223372036854775808 ≤ a ∧ a ≤ 9223372036854775807) (hb : -9223372036854775808 ≤ b ∧ b ≤ 9223372036854775807) (hc : -9223372036854775808 ≤ c ∧ c ≤ 9223372036854775807)
    (ha' : -9223372036854775808 ≤ a' ∧ a' ≤ 9223372036854775807) (hb' : -9223372036854775808 ≤ b' ∧ b' ≤ 9223372036854775807) (hc' : -9223372036854775808 ≤ c' ∧ c' ≤ 9223372036854775807)
    (hl : len ≤ maxLen) (hl' : len' ≤ maxLen) (hp : -9223372036854775808 ≤ pt ∧ pt ≤ 9223372036854775807)
    (hL : ∀ j, j < len → ∃ lb lo, ad = some ⟨lb, lo, none⟩ ∧ lb < W.heap.size ∧ W.cell? ⟨lb, lo + j, none⟩ = some (.int .i64 L[j]!) ∧ -9223372036854775808 ≤ L[j]! ∧ L[j]! ≤ 9223372036854775807)
    (hL' : ∀ j, j < len' → ∃ lb lo, ad' = some ⟨lb, lo, none⟩ ∧ lb < W.heap.size ∧ W.cell? ⟨lb, lo + j, none⟩ = some (.int .i64 L'[j]!) ∧ -9223372036854775808 ≤ L'[j]! ∧ L'[j]! ≤ 9223372036854775807) :
    Calls Tryd.prog 4 #[.agg #[.int .i64 a, .int .i64 b, .int .i64 c, .slice ad len cap], .agg #[.int .i64 a', .int .i64 b', .int .i64 c', .slice ad' len' cap'], .int .i64 pt] W fun e w' => e = .returned (.bool true) ∧ Below W.heap.size W w' := by
  unfold maxLen at hl hl'
  have later : ∀ (ad : Option Addr) (len : Nat) (L : List Int), (∀ j, j < len → ∃ lb lo, ad = some ⟨lb, lo, none⟩ ∧ lb < W.heap.size ∧ W.cell? ⟨lb, lo + j, none⟩ = some (.int .i64 L[j]!) ∧ -9223372036854775808 ≤ L[j]! ∧ L[j]! ≤ 9223372036854775807) → ∀ W', Below W.heap.size W W' → ∀ j, j < len → ∃ lb lo, ad = some ⟨lb, lo, none⟩ ∧ lb < W'.heap.size ∧ W'.cell? ⟨lb, lo + j, none⟩ = some (.int .i64 L[j]!) ∧ -9223372036854775808 ≤ L[j]! ∧ L[j]! ≤ 9223372036854775807 := by
    intro ad len L h W' hb j hj
    obtain ⟨lb, lo, h1, h2, h3, h4⟩ := h j hj
    exact ⟨lb, lo, h1, Nat.lt_of_lt_of_le h2 hb.size, by rw [hb.cell (p := ⟨lb, lo + j, none⟩) h2]; exact h3, h4⟩
  obtain ⟨s1, s2, _⟩ := sel_facts (min len 3) (by omega) L
  obtain ⟨t1, t2, _⟩ := sel_facts (min len' 3) (by omega) L'
  exact rankings_core _ _ _ _ _ _ _ _ pt W hm _ _ _ _ _ _ _ _ s2 t2 s1 t1 ⟨_, _, _, _, _, _, rfl, rfl, rfl, rfl⟩ ⟨_, _, _, _, _, _, rfl, rfl, rfl, rfl⟩ hp.1 hp.2
    (fun W' hbw => spell_any a b c ad len cap L W' ha hb hc (later ad len L hL W' hbw) (by omega))
    (fun W' hbw => spell_any a' b' c' ad' len' cap' L' W' ha' hb' hc' (later ad' len' L' hL' W' hbw) (by omega))

theorem laid_metR (os : Os) (args : Array Value) : laidMetH Tryd.prog Rows.rankingsRow.laid ((World.laidAll Tryd.prog os Rows.rankingsRow.laid).forCall (fun _ _ => 0) ⟨#[], args, []⟩).memory := by
  rw [MakeChecks.laidMetH_plain _ _ _ (by kernel_rfl)]
  exact laidMet_laidAll _ (by kernel_rfl) (by kernel_rfl)

set_option maxRecDepth 100000 in
theorem liftedR (os : Os) (started : os.Started) (H : Type) (enc : TypeId × Value → H) :
    ReturnsInHanded {} Tryd.checked os 4 .any (fun w args => (Rows.rankingsSpec.pre enc Tryd.prog Tryd.f4 [] false w args ∧ laidMetH Tryd.prog Rows.rankingsRow.laid w) ∧ sizedMet enc Tryd.prog Tryd.f4 (OpenSpec.ofChange Rows.rankingsSpec) false w args)
      (Rows.rankingsSpec.post enc Tryd.prog Tryd.f4 false true false false) := by
  refine returnsInHanded_of_calls (C := Tryd.checked) ownR started (by kernel_rfl)
    (ChangeSpec.witness_shaped (enc := enc) (C := Tryd.checked) (os := os) (X := fun w _ => laidMetH Tryd.prog Rows.rankingsRow.laid w) false (World.laidAll Tryd.prog os Rows.rankingsRow.laid) #[.agg #[.int .i64 0, .int .i64 0, .int .i64 0, .slice none 0 0], .agg #[.int .i64 0, .int .i64 0, .int .i64 0, .slice none 0 0], .int .i64 0] 8 (World.laidAll_os _ _ _) (World.shaped_of_ZipB (by kernel_rfl) (by kernel_rfl)) (by kernel_rfl) (by kernel_rfl) (by kernel_rfl) (laid_metR os _)) ?_
  intro w tape i _ hsh _ hok hpre _
  obtain ⟨_, _, _, fn', hfn', _, _, _, _, hval0⟩ := hok
  have e : fn' = Tryd.f4 := Option.some.inj (hfn'.symm.trans Tryd.func4)
  subst e
  obtain ⟨⟨⟨ds, gs, before, hw, _⟩, _⟩, _⟩ := hpre
  have hW := DataW.Whole.of_heap (w' := w.forCall tape i) (by rfl) hw
  obtain ⟨heap, args, vars⟩ := i
  have hm : Ml (w.forCall tape ⟨heap, args, vars⟩) := Tryd.laysM146.s1_3 _ hsh
  generalize w.forCall tape ⟨heap, args, vars⟩ = W at hW hm hval0 ⊢
  have hval : ∀ (j : Nat) t v, Tryd.f4.params[j]? = some t → args[j]? = some v → Value.okWide Tryd.prog W .any w.heap.size t v := hval0
  have hW' := hW
  obtain ⟨p, q, hA0, hV, rfl, hfz, hnd⟩ := hW
  have hA : DataW.TrodAll enc Tryd.prog W 0 (fun _ => true) true Tryd.f4.params.toList args.toList ds p := hA0
  rw [Tryd.params4] at hA hval
  obtain ⟨v0, vs0, d0, ds0, p0, q0, hargs, rfl, rfl, h0, r0⟩ := trodAll_cons hA
  obtain ⟨v1, vs1, d1, ds1, p1, q1, rfl, rfl, rfl, h1, r1⟩ := trodAll_cons r0
  obtain ⟨v2, vs2, d2, ds2, p2, q2, rfl, rfl, rfl, h2, r2⟩ := trodAll_cons r1
  obtain ⟨rfl, rfl, rfl⟩ := trodAll_nil r2
  obtain rfl : args = #[v0, v1, v2] := by cases args; simp_all
  obtain ⟨rfl, rfl⟩ := trodVars_none hV
  have hlt := hW'.lt
  obtain ⟨a, b, c, ad, len, cap, L, rfl, ha, hb, hc, hl, hL⟩ := open_ranked (hval 0 26 v0 rfl rfl) h0
  obtain ⟨a', b', c', ad', len', cap', L', rfl, ha', hb', hc', hl', hL'⟩ := open_ranked (hval 1 26 v1 rfl rfl) h1
  obtain ⟨pt, rfl, rfl, rfl, wp⟩ := open_int Tryd.underlying3 (hval 2 3 v2 rfl rfl) h2
  clear hA0 hval0
  refine (rankings_any a b c a' b' c' ad ad' len cap len' cap' L L' pt W hm ha hb hc ha' hb' hc' hl hl' (bounds_i64 wp) hL hL').mono fun e W' ⟨he, hg⟩ => ?_
  subst he
  have t0 := Below.trod laidOut (by kernel_rfl) (of_decide_eq_true (by kernel_rfl)) h0 hg (fun x hx => hlt x (by simp [hx]))
  have t1 := Below.trod laidOut (by kernel_rfl) (of_decide_eq_true (by kernel_rfl)) h1 hg (fun x hx => hlt x (by simp [hx]))
  have hp : Rows.rankingsSpec.post enc Tryd.prog Tryd.f4 false true false false W _ (.bool true) W' :=
    ⟨_, _, _, [], _, [], hW', trodAll_cons_mk (shut_bool Tryd.underlying4 _) trodAll_mk0, trodAll_cons_mk t0 (trodAll_cons_mk t1 (trodAll_cons_mk (shut_int Tryd.underlying3 wp) trodAll_mk0)), rfl, hg.frame _, fun h => by cases h⟩
  exact ChangeSpec.post_blind hp

theorem rankings_row : Rows.RankingsSaid :=
  OpenClaim.holds_of_wide 4 Tryd.f4 rfl rfl rfl rfl rfl rfl rfl ⟨rfl, rfl, rfl, rfl, rfl⟩ rfl rfl rfl rfl rfl (by kernel_rfl) Tryd.func4 (by kernel_rfl)
    (of_decide_eq_true (by kernel_rfl)) (by unfold Func.isWrapper; first | (rw [if_pos (by decide +kernel)]; kernel_rfl) | (rw [if_neg (by decide +kernel)]; exact ⟨rfl, rfl⟩))
    (fun os started H enc _ => liftedR os started H enc)

/-- The card of the law Rankings. -/
theorem rankings_card : Rows.RankingsCardSaid :=
  Claim7.holds_tied_plain_at .later [] _ _ _ _
    rankings_row (fun _ h => by cases h) (by kernel_rfl) (fun _ h => by cases h) rankings_row_tie rfl ⟨rfl, rfl⟩ (by kernel_rfl) rfl
    (fun f fn hf hfn => by
      obtain rfl : f = 4 := Option.some.inj ((show Tryd.prog.funcNamed Rows.rankingsRow.func = some 4 by kernel_rfl).symm.trans hf) |>.symm
      obtain rfl : fn = Tryd.f4 := (Option.some.inj (Tryd.func4.symm.trans hfn)).symm
      exact ⟨by kernel_rfl, fun j t ht => by
        rw [Tryd.params4] at ht
        have hm : t ∈ [26, 26, 3] := by simpa using Array.mem_of_getElem? ht
        have hall : ([26, 26, 3].all fun u => !Tryd.prog.wantsStandIn u) = true := by kernel_rfl
        exact (show Tryd.prog.wantsStandIn t = false by simpa using List.all_eq_true.1 hall t hm)⟩)
    (by kernel_rfl)

end Go.Proofs.YtelmkfkgpnadnaaDoor
