/-
  The row of the law Kept.
-/
import Derived.Test.YtelmkfkgpnadnaaK13
import Derived.ProofKit
import Derived.OpenShut
import Derived.LaidMore
import Derived.Lay
import Derived.Deep.Slices
import Derived.Deep.Strs
namespace Go.Proofs.Ytelmkfkgpnadnaa
open Go.ChangeShapes Go.WideShapes Go.ChangeAt Go.RowKit Go.Deep

theorem ownK : ownKnob Try.prog.godebug = none := by kernel_rfl
theorem cells3k : Try.prog.cellsOf 3 = 1 := by kernel_rfl
theorem cells39 : Try.prog.cellsOf 39 = 3 := by kernel_rfl
theorem laidOutK : laidOutB Try.prog = true := by kernel_rfl

/-- A list of edges that came in, opened. -/
theorem open_edges {H : Type} {enc : TypeId × Value → H} {W : World} {b0 : Nat} {v : Value} {d : DataW H} {p : List MemPlace} (hv : Value.okWide Try.prog W .any b0 26 v) (h : DataW.Trod enc Try.prog W 0 (fun _ => true) true 26 v d p) :
    ∃ (la : Option Addr) (m cap : Nat), v = .slice la m cap ∧ m ≤ 9223372036854775807 ∧
      ∀ i, i < m → ∃ b o x y z, la = some ⟨b, o, none⟩ ∧ b < W.heap.size ∧ W.cell? ⟨b, o + i * 3, none⟩ = some (.int .i64 x) ∧ W.cell? ⟨b, o + i * 3 + 1, none⟩ = some (.int .i64 y) ∧ W.cell? ⟨b, o + i * 3 + 2, none⟩ = some (.int .i64 z) ∧ (-9223372036854775808 ≤ x ∧ x ≤ 9223372036854775807) ∧ (-9223372036854775808 ≤ y ∧ y ≤ 9223372036854775807) := by
  obtain ⟨la, m, cap, rfl⟩ := okWide_slice Try.underlying26 hv
  obtain ⟨fuel, hf⟩ := h
  rcases open_slice Try.underlying26 hf with ⟨hcs, _⟩ | ⟨a, len, cap', mm, n, D, Pl, hcs, _, hl, hm, hmm, _, hel⟩
  · have hcs' : [Value.slice la m cap] = [.slice none 0 0] := hcs
    simp only [List.cons.injEq, Value.slice.injEq, and_true] at hcs'
    exact ⟨la, m, cap, rfl, by omega, fun i hi => by omega⟩
  · have hcs' : [Value.slice la m cap] = [.slice (some a) len cap'] := hcs
    simp only [List.cons.injEq, Value.slice.injEq, and_true] at hcs'
    obtain ⟨rfl, rfl, rfl⟩ := hcs'
    unfold maxLen at hm
    refine ⟨_, m, cap, rfl, by omega, fun i hi => ?_⟩
    have ha : a = ⟨a.block, a.off, none⟩ := by
      obtain ⟨cs0, hc0, _⟩ := hel 0 (by rw [hmm]; simp; omega)
      rw [cells39] at hc0
      unfold World.cells? at hc0
      rw [if_pos (Nat.zero_le _)] at hc0
      have e3 : List.range 3 = [0, 1, 2] := rfl
      rw [e3] at hc0
      simp only [List.mapM_cons, Option.bind_eq_bind] at hc0
      obtain ⟨b, o, sp⟩ := a
      cases sp with
      | none => rfl
      | some q =>
        exfalso
        have : W.cell? (((⟨b, o, some q⟩ : Addr).add (0 * 3)).add 0) = none := by
          simp only [Nat.zero_mul, Addr.add, World.cell?]
          split <;> simp_all
        rw [this] at hc0
        simp at hc0
    obtain ⟨cs', hc, ht⟩ := hel i (by rw [hmm]; simp; omega)
    rw [cells39] at hc
    unfold World.cells? at hc
    rw [if_pos (Nat.zero_le _)] at hc
    obtain ⟨y0, y1, y2, k, _, hlen, t0, t1, t2⟩ := trod_struct3 Try.underlying39 ht
    rw [cells39] at hlen
    rw [cells3k] at t0 t1 t2
    match cs', hlen with
    | [c0, c1, c2], _ =>
      obtain ⟨x, ex, _, wx⟩ := DataW.trod_int Try.underlying3 t0
      obtain ⟨y, ey, _, wy⟩ := DataW.trod_int Try.underlying3 t1
      obtain ⟨z, ez, _, wz⟩ := DataW.trod_int Try.underlying3 t2
      have ex' : c0 = .int .i64 x := by simpa using ex
      have ey' : c1 = .int .i64 y := by simpa using ey
      have ez' : c2 = .int .i64 z := by simpa using ez
      subst ex' ey' ez'
      have hc3 : ∀ (k : Nat) (v : Value), [Value.int .i64 x, Value.int .i64 y, Value.int .i64 z][k]? = some v → W.cell? ((a.add (i * 3)).add k) = some v := by
        have h3 : (List.range 3).mapM (fun k => W.cell? ((a.add (i * 3)).add k)) = some [Value.int .i64 x, Value.int .i64 y, Value.int .i64 z] := hc
        have e3 : List.range 3 = [0, 1, 2] := rfl
        rw [e3] at h3
        simp only [List.mapM_cons, List.mapM_nil, Option.bind_eq_bind, Option.pure_def] at h3
        cases c0 : W.cell? ((a.add (i * 3)).add 0) with
        | none => simp [c0] at h3
        | some u0 =>
          cases c1 : W.cell? ((a.add (i * 3)).add 1) with
          | none => simp [c0, c1] at h3
          | some u1 =>
            cases c2 : W.cell? ((a.add (i * 3)).add 2) with
            | none => simp [c0, c1, c2] at h3
            | some u2 =>
              simp [c0, c1, c2] at h3
              obtain ⟨rfl, rfl, rfl⟩ := h3
              intro k v hk
              match k, hk with
              | 0, hk => simp at hk; subst hk; exact c0
              | 1, hk => simp at hk; subst hk; exact c1
              | 2, hk => simp at hk; subst hk; exact c2
              | (k + 3), hk => simp at hk
      rw [ha] at hc3 ⊢
      have g0 := hc3 0 _ rfl
      have g1 := hc3 1 _ rfl
      have g2 := hc3 2 _ rfl
      rw [Addr.add_mid, Addr.add_mid] at g0 g1 g2
      exact ⟨a.block, a.off, x, y, z, rfl, World.block_lt_of_cell? W ⟨a.block, a.off + i * 3 + 0, none⟩ g0, g0, g1, g2, bounds_i64 wx, bounds_i64 wy⟩

set_option maxRecDepth 100000 in
theorem liftedK (os : Os) (started : os.Started) (H : Type) (enc : TypeId × Value → H) :
    ReturnsInHanded {} Try.checked os 4 .any (Rows.keptSpec.pre6 enc Try.prog Try.f4 Rows.keptRow.domain false) (Rows.keptSpec.post enc Try.prog Try.f4 false true false false) := by
  refine returnsInHanded_of_change_sized (C := Try.checked) ownK started (by kernel_rfl) Try.func4
    (ChangeSpec.witness6 (enc := enc) (C := Try.checked) false ⟨#[], #[.int .i64 0, .slice none 0 0], []⟩ 8 (by kernel_rfl) (by kernel_rfl) (by kernel_rfl) (by kernel_rfl)) ?_
  intro W base args ds gs before hval0 hW _ _ _
  have hval : ∀ (j : Nat) t v, Try.f4.params[j]? = some t → args[j]? = some v → Value.okWide Try.prog W .any base t v := hval0
  have hW' := hW
  obtain ⟨p, q, hA0, hV, rfl, hfz, hnd⟩ := hW
  have hA : DataW.TrodAll enc Try.prog W 0 (fun _ => true) true Try.f4.params.toList args.toList ds p := hA0
  rw [Try.params4] at hA hval
  obtain ⟨v0, v1, d0, d1, p0, p1, rfl, rfl, rfl, h0, h1⟩ := trodAll_two hA
  obtain ⟨rfl, rfl⟩ := trodVars_none hV
  have hlt := hW'.lt
  obtain ⟨c, rfl, rfl, rfl, wc⟩ := open_int Try.underlying3 (hval 0 3 v0 rfl rfl) h0
  obtain ⟨la, m, cap, rfl, hm, hl⟩ := open_edges (hval 1 26 v1 rfl rfl) h1
  clear hA0 hval0
  have hb := bounds_i64 wc
  refine (kept_any c la m cap W hb.1 hb.2 hm hl).mono fun e W' ⟨he, hg⟩ => ?_
  subst he
  have t1 := Below.trod laidOutK (by kernel_rfl) (of_decide_eq_true (by kernel_rfl)) h1 hg (fun x hx => hlt x (by simp [hx]))
  have hp : Rows.keptSpec.post enc Try.prog Try.f4 false true false false W _ (.bool true) W' :=
    ⟨_, _, _, [], _, [], hW', trodAll_cons_mk (shut_bool Try.underlying4 _) trodAll_mk0, trodAll_cons_mk (shut_int Try.underlying3 wc) (trodAll_cons_mk t1 trodAll_mk0), rfl, hg.frame _, fun h => by cases h⟩
  exact ⟨_, rfl, hp⟩

theorem kept_row : Rows.KeptSaid :=
  OpenClaim.holds_of_wide 4 Try.f4 rfl rfl rfl rfl rfl rfl rfl ⟨rfl, rfl, rfl, rfl, rfl⟩ rfl rfl rfl rfl rfl (by kernel_rfl) Try.func4 (by kernel_rfl)
    (of_decide_eq_true (by kernel_rfl)) (by unfold Func.isWrapper; first | (rw [if_pos (by decide +kernel)]; kernel_rfl) | (rw [if_neg (by decide +kernel)]; exact ⟨rfl, rfl⟩))
    (fun os started H enc _ => liftedK os started H enc)

end Go.Proofs.Ytelmkfkgpnadnaa
