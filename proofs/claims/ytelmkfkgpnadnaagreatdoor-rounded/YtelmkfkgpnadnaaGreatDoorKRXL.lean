/-
  What the row of the law Rounded asks of a call.
-/
import Derived.Test.YtelmkfkgpnadnaaGreatDoorKRX2
import Derived.Test.YtelmkfkgpnadnaaGreatDoorRows
import Derived.ProofKit
import Derived.OpenShut
import Derived.LaidMore
import Derived.Lay
import Derived.Stop.Joined
import Derived.Deep.Slices
import Derived.Deep.Strs
import Derived.Lib.SmallJoins
namespace Go.Proofs.YtelmkfkgpnadnaaGreatDoor
open Go.ChangeShapes Go.WideShapes Go.ChangeAt Go.RowKit Go.Deep Go.Joins
namespace Rn

theorem laidOutR : laidOutB Tryz.prog = true := by kernel_rfl
theorem ownKr : ownKnob Tryz.prog.godebug = none := by kernel_rfl
theorem cells3r : Tryz.prog.cellsOf 3 = 1 := by kernel_rfl

theorem laid_metR (os : Os) (args : Array Value) : laidMetH Tryz.prog Rows.roundedRow.laid ((World.laidAll Tryz.prog os Rows.roundedRow.laid).forCall (fun _ _ => 0) ⟨#[], args, []⟩).memory := by
  rw [MakeChecks.laidMetH_plain _ _ _ (by kernel_rfl)]
  exact laidMet_laidAll _ (by kernel_rfl) (by kernel_rfl)

/-- A list of as many, each with what it has. -/
theorem pickL {α : Type} {Q : Nat → α → Prop} : ∀ m, (∀ i, i < m → ∃ x, Q i x) → ∃ L : List α, L.length = m ∧ ∀ i x, L[i]? = some x → Q i x
  | 0, _ => ⟨[], rfl, fun i x h => by simp at h⟩
  | m + 1, h => by
    obtain ⟨L, hl, hq⟩ := pickL m (fun i hi => h i (by omega))
    obtain ⟨x, hx⟩ := h m (by omega)
    refine ⟨L ++ [x], by simp [hl], fun i y hy => ?_⟩
    by_cases hi : i < L.length
    · rw [List.getElem?_append_left hi] at hy
      exact hq i y hy
    · rw [List.getElem?_append_right (by omega)] at hy
      have h0 : i - L.length = 0 := by
        by_cases h0 : i - L.length = 0
        · exact h0
        · rw [List.getElem?_eq_none (by simp; omega)] at hy
          cases hy
      rw [h0] at hy
      have : x = y := by simpa using hy
      rw [← this, show i = m by omega]
      exact hx

set_option maxRecDepth 100000 in
/-- A list of numbers that came in, opened. -/
theorem open_ints {H : Type} {enc : TypeId × Value → H} {W : World} {b0 : Nat} {v : Value} {d : DataW H} {p : List MemPlace} (hv : Value.okWide Tryz.prog W .any b0 30 v) (h : DataW.Trod enc Tryz.prog W 0 (fun _ => true) true 30 v d p) :
    ∃ L : List Int, RdI W v L ∧ L.length ≤ 9223372036854775807 := by
  obtain ⟨la, m, cap, rfl⟩ := okWide_slice Tryz.underlying30 hv
  obtain ⟨fuel, hf⟩ := h
  rcases open_slice Tryz.underlying30 hf with ⟨hcs, _⟩ | ⟨a, len, cap', mm, n, D, Pl, hcs, _, hl, hm, hmm, _, hel⟩
  · have hcs' : [Value.slice la m cap] = [.slice none 0 0] := hcs
    simp only [List.cons.injEq, Value.slice.injEq, and_true] at hcs'
    obtain ⟨rfl, rfl, rfl⟩ := hcs'
    exact ⟨[], ⟨none, 0, rfl, fun i x h => by simp at h⟩, by simp⟩
  · have hcs' : [Value.slice la m cap] = [.slice (some a) len cap'] := hcs
    simp only [List.cons.injEq, Value.slice.injEq, and_true] at hcs'
    obtain ⟨rfl, rfl, rfl⟩ := hcs'
    unfold maxLen at hm
    have key : ∀ i, i < m → ∃ x : Int, (-9223372036854775808 ≤ x ∧ x ≤ 9223372036854775807) ∧ ∃ b o, some a = some (⟨b, o, none⟩ : Addr) ∧ b < W.heap.size ∧ W.cell? ⟨b, o + i, none⟩ = some (.int .i64 x) := by
      intro i hi
      have ha : a = ⟨a.block, a.off, none⟩ := by
        obtain ⟨cs0, hc0, _⟩ := hel 0 (by rw [hmm]; simp; omega)
        rw [cells3r] at hc0
        unfold World.cells? at hc0
        rw [if_pos (Nat.zero_le _)] at hc0
        have e0 : List.range 1 = [0] := rfl
        rw [e0] at hc0
        simp only [List.mapM_cons, Option.bind_eq_bind] at hc0
        clear hel hv hf hcs
        obtain ⟨b, o, sp⟩ := a
        cases sp with
        | none => rfl
        | some q =>
          exfalso
          have : W.cell? (((⟨b, o, some q⟩ : Addr).add (0 * 1)).add 0) = none := by
            simp only [Nat.zero_mul, Addr.add, World.cell?]
            split <;> simp_all
          rw [this] at hc0
          simp at hc0
      obtain ⟨cs', hc, ht⟩ := hel i (by rw [hmm]; simp; omega)
      rw [cells3r] at hc
      unfold World.cells? at hc
      rw [if_pos (Nat.zero_le _)] at hc
      obtain ⟨x, ex, _, wx⟩ := DataW.trod_int Tryz.underlying3 ht
      have ex' : cs' = [.int .i64 x] := by simpa using ex
      subst ex'
      have h1 : (List.range 1).mapM (fun k => W.cell? ((a.add (i * 1)).add k)) = some [Value.int .i64 x] := hc
      have e1 : List.range 1 = [0] := rfl
      rw [e1] at h1
      simp only [List.mapM_cons, List.mapM_nil, Option.bind_eq_bind, Option.pure_def, Nat.mul_one] at h1
      cases c0 : W.cell? ((a.add i).add 0) with
      | none => rw [c0] at h1; simp at h1
      | some u0 =>
        rw [c0] at h1
        simp at h1
        subst h1
        rw [ha, Addr.add_mid, Addr.add_mid] at c0
        have c1 : W.cell? ⟨a.block, a.off + i, none⟩ = some (.int .i64 x) := by
          rw [← c0]; simp
        exact ⟨x, bounds_i64 wx, a.block, a.off, congrArg some ha, World.block_lt_of_cell? W ⟨a.block, a.off + i, none⟩ c1, c1⟩
    obtain ⟨L, hL, hq⟩ := pickL m key
    refine ⟨L, ⟨some a, cap, by rw [hL], fun i x h => hq i x h⟩, by omega⟩

set_option maxRecDepth 100000 in
theorem liftedR (os : Os) (started : os.Started) (H : Type) (enc : TypeId × Value → H) :
    ReturnsInHanded {} Tryz.checked os 6 .any (fun w args => (Rows.roundedSpec.pre enc Tryz.prog Tryz.f6 [] false w args ∧ laidMetH Tryz.prog Rows.roundedRow.laid w) ∧ sizedMet enc Tryz.prog Tryz.f6 (OpenSpec.ofChange Rows.roundedSpec) false w args)
      (Rows.roundedSpec.post enc Tryz.prog Tryz.f6 false true false false) := by
  refine returnsInHanded_of_calls (C := Tryz.checked) ownKr started (by kernel_rfl)
    (ChangeSpec.witness_shaped (enc := enc) (C := Tryz.checked) (os := os) (X := fun w _ => laidMetH Tryz.prog Rows.roundedRow.laid w) false (World.laidAll Tryz.prog os Rows.roundedRow.laid) #[.slice none 0 0, .slice none 0 0, .slice none 0 0, .int .i64 0, .int .i64 0] 8 (World.laidAll_os _ _ _) (World.shaped_of_ZipB (by kernel_rfl) (by kernel_rfl)) (by kernel_rfl) (by kernel_rfl) (by kernel_rfl) (laid_metR os _)) ?_
  intro w tape i _ hsh _ hok hpre _
  obtain ⟨_, _, _, fn', hfn', _, _, _, _, hval0⟩ := hok
  have e : fn' = Tryz.f6 := Option.some.inj (hfn'.symm.trans Tryz.func6)
  subst e
  obtain ⟨⟨⟨ds, gs, before, hw, _⟩, _⟩, _⟩ := hpre
  have hW := DataW.Whole.of_heap (w' := w.forCall tape i) (by rfl) hw
  obtain ⟨heap, args, vars⟩ := i
  have hm : Dr.Ml (w.forCall tape ⟨heap, args, vars⟩) := Tryz.laysM146.s1_3 _ hsh
  generalize w.forCall tape ⟨heap, args, vars⟩ = W at hW hm hval0 ⊢
  have hval : ∀ (j : Nat) t v, Tryz.f6.params[j]? = some t → args[j]? = some v → Value.okWide Tryz.prog W .any w.heap.size t v := hval0
  have hW' := hW
  obtain ⟨p, q, hA0, hV, rfl, hfz, hnd⟩ := hW
  have hA : DataW.TrodAll enc Tryz.prog W 0 (fun _ => true) true Tryz.f6.params.toList args.toList ds p := hA0
  rw [Tryz.params6] at hA hval
  obtain ⟨v0, vs0, d0, ds0, p0, q0, hargs, rfl, rfl, h0, r0⟩ := trodAll_cons hA
  obtain ⟨v1, vs1, d1, ds1, p1, q1, hargs1, rfl, rfl, h1, r1⟩ := trodAll_cons r0
  obtain ⟨v2, vs2, d2, ds2, p2, q2, hargs2, rfl, rfl, h2, r2⟩ := trodAll_cons r1
  obtain ⟨v3, vs3, d3, ds3, p3, q3, hargs3, rfl, rfl, h3, r3⟩ := trodAll_cons r2
  obtain ⟨v4, vs4, d4, ds4, p4, q4, hargs4, rfl, rfl, h4, r4⟩ := trodAll_cons r3
  obtain ⟨rfl, rfl, rfl⟩ := trodAll_nil r4
  obtain rfl : args = #[v0, v1, v2, v3, v4] := by cases args; simp_all
  obtain ⟨rfl, rfl⟩ := trodVars_none hV
  have hlt := hW'.lt
  obtain ⟨L0, g0, z0⟩ := open_ints (hval 0 30 v0 rfl rfl) h0
  obtain ⟨L1, g1, z1⟩ := open_ints (hval 1 30 v1 rfl rfl) h1
  obtain ⟨L2, g2, z2⟩ := open_ints (hval 2 30 v2 rfl rfl) h2
  obtain ⟨c3, rfl, rfl, rfl, w3⟩ := open_int Tryz.underlying3 (hval 3 3 v3 rfl rfl) h3
  obtain ⟨c4, rfl, rfl, rfl, w4⟩ := open_int Tryz.underlying3 (hval 4 3 v4 rfl rfl) h4
  clear hA0 hval0
  have b3 := bounds_i64 w3
  have b4 := bounds_i64 w4
  refine (rounded_any v0 v1 v2 L0 L1 L2 c3 c4 W hm z0 z1 z2 b3 b4 g0 g1 g2).mono fun e W' ⟨he, hg⟩ => ?_
  subst he
  have t0 := Below.trod laidOutR (by kernel_rfl) (of_decide_eq_true (by kernel_rfl)) h0 hg (fun x hx => hlt x (by simp [hx]))
  have t1 := Below.trod laidOutR (by kernel_rfl) (of_decide_eq_true (by kernel_rfl)) h1 hg (fun x hx => hlt x (by simp [hx]))
  have t2 := Below.trod laidOutR (by kernel_rfl) (of_decide_eq_true (by kernel_rfl)) h2 hg (fun x hx => hlt x (by simp [hx]))
  have hp : Rows.roundedSpec.post enc Tryz.prog Tryz.f6 false true false false W _ (.bool true) W' :=
    ⟨_, _, _, [], _, [], hW', trodAll_cons_mk (shut_bool Tryz.underlying4 _) trodAll_mk0, trodAll_cons_mk t0 (trodAll_cons_mk t1 (trodAll_cons_mk t2 (trodAll_cons_mk (shut_int Tryz.underlying3 w3) (trodAll_cons_mk (shut_int Tryz.underlying3 w4) trodAll_mk0)))), rfl, hg.frame _, fun h => by cases h⟩
  exact ChangeSpec.post_blind hp

end Rn
end Go.Proofs.YtelmkfkgpnadnaaGreatDoor
