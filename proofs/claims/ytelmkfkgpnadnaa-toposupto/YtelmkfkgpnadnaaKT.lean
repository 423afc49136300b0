/-
  The row of the law Topos, where what comes in is of bounded bulk.
-/
import Derived.Test.YtelmkfkgpnadnaaK40
import Derived.ProofKit
import Derived.OpenShut
import Derived.LaidMore
import Derived.Lay
import Derived.JoinedCond
import Derived.Deep.Slices
import Derived.Deep.Strs
import Derived.Lib.SmallJoins
namespace Go.Proofs.Ytelmkfkgpnadnaa
open Go.ChangeShapes Go.WideShapes Go.ChangeAt Go.RowKit Go.Deep Go.Joins

theorem ownT : ownKnob Try.prog.godebug = none := by kernel_rfl
theorem cells3t : Try.prog.cellsOf 3 = 1 := by kernel_rfl
theorem cells25 : Try.prog.cellsOf 25 = 4 := by kernel_rfl
theorem laidOutT : laidOutB Try.prog = true := by kernel_rfl

theorem bulk_pos {H : Type} (d : DataW H) : 1 ≤ Rows.uptoBulk d := by
  cases d with
  | lit l => cases l <;> simp [Rows.uptoBulk]
  | _ => simp [Rows.uptoBulk]

theorem bulk_len {H : Type} : ∀ l : List (DataW H), l.length ≤ Rows.uptoBulkAll l
  | [] => by simp [Rows.uptoBulkAll]
  | d :: r => by
    have h1 := bulk_pos d
    have h2 := bulk_len r
    simp only [Rows.uptoBulkAll, List.length_cons]
    omega

/-- A script that came in, opened. -/
theorem open_edits {H : Type} {enc : TypeId × Value → H} {W : World} {b0 : Nat} {v : Value} {d : DataW H} {p : List MemPlace} (hv : Value.okWide Try.prog W .any b0 22 v) (h : DataW.Trod enc Try.prog W 0 (fun _ => true) true 22 v d p) :
    ∃ (la : Option Addr) (m cap : Nat), v = .slice la m cap ∧ m ≤ Rows.uptoBulk d ∧
      ∀ i, i < m → ∃ b o x y z u, la = some ⟨b, o, none⟩ ∧ b < W.heap.size ∧ W.cell? ⟨b, o + i * 4, none⟩ = some (.int .i64 x) ∧ W.cell? ⟨b, o + i * 4 + 1, none⟩ = some (.int .i64 y) ∧ W.cell? ⟨b, o + i * 4 + 2, none⟩ = some (.int .i64 z) ∧ W.cell? ⟨b, o + i * 4 + 3, none⟩ = some (.int .i64 u) := by
  obtain ⟨la, m, cap, rfl⟩ := okWide_slice Try.underlying22 hv
  obtain ⟨fuel, hf⟩ := h
  rcases open_slice Try.underlying22 hf with ⟨hcs, _⟩ | ⟨a, len, cap', mm, n, D, Pl, hcs, _, hl, hm, hmm, hx, hel⟩
  · have hcs' : [Value.slice la m cap] = [.slice none 0 0] := hcs
    simp only [List.cons.injEq, Value.slice.injEq, and_true] at hcs'
    exact ⟨la, m, cap, rfl, by omega, fun i hi => by omega⟩
  · have hcs' : [Value.slice la m cap] = [.slice (some a) len cap'] := hcs
    simp only [List.cons.injEq, Value.slice.injEq, and_true] at hcs'
    obtain ⟨rfl, rfl, rfl⟩ := hcs'
    have hd : d = .slice ((List.range m).map D) ((List.range (mm - m)).map fun j => D (m + j)) := (Prod.mk.inj hx).1
    refine ⟨_, m, cap, rfl, ?_, fun i hi => ?_⟩
    · rw [hd]
      have h1 := bulk_len ((List.range m).map D)
      rw [List.length_map, List.length_range] at h1
      simp only [Rows.uptoBulk]
      omega
    have ha : a = ⟨a.block, a.off, none⟩ := by
      obtain ⟨cs0, hc0, _⟩ := hel 0 (by rw [hmm]; simp; omega)
      rw [cells25] at hc0
      unfold World.cells? at hc0
      rw [if_pos (Nat.zero_le _)] at hc0
      have e3 : List.range 4 = [0, 1, 2, 3] := rfl
      rw [e3] at hc0
      simp only [List.mapM_cons, Option.bind_eq_bind] at hc0
      obtain ⟨b, o, sp⟩ := a
      cases sp with
      | none => rfl
      | some q =>
        exfalso
        have : W.cell? (((⟨b, o, some q⟩ : Addr).add (0 * 4)).add 0) = none := by
          simp only [Nat.zero_mul, Addr.add, World.cell?]
          split <;> simp_all
        rw [this] at hc0
        simp at hc0
    obtain ⟨cs', hc, ht⟩ := hel i (by rw [hmm]; simp; omega)
    rw [cells25] at hc
    unfold World.cells? at hc
    rw [if_pos (Nat.zero_le _)] at hc
    obtain ⟨y0, y1, y2, y3, k, _, hlen, t0, t1, t2, t3⟩ := trod_struct4 Try.underlying25 ht
    rw [cells25] at hlen
    rw [cells3t] at t0 t1 t2 t3
    match cs', hlen with
    | [c0, c1, c2, c3], _ =>
      obtain ⟨x, ex, _, _⟩ := DataW.trod_int Try.underlying3 t0
      obtain ⟨y, ey, _, _⟩ := DataW.trod_int Try.underlying3 t1
      obtain ⟨z, ez, _, _⟩ := DataW.trod_int Try.underlying3 t2
      obtain ⟨u, eu, _, _⟩ := DataW.trod_int Try.underlying3 t3
      have ex' : c0 = .int .i64 x := by simpa using ex
      have ey' : c1 = .int .i64 y := by simpa using ey
      have ez' : c2 = .int .i64 z := by simpa using ez
      have eu' : c3 = .int .i64 u := by simpa using eu
      subst ex' ey' ez' eu'
      have hc4 : ∀ (k : Nat) (v : Value), [Value.int .i64 x, Value.int .i64 y, Value.int .i64 z, Value.int .i64 u][k]? = some v → W.cell? ((a.add (i * 4)).add k) = some v := by
        have h3 : (List.range 4).mapM (fun k => W.cell? ((a.add (i * 4)).add k)) = some [Value.int .i64 x, Value.int .i64 y, Value.int .i64 z, Value.int .i64 u] := hc
        have e3 : List.range 4 = [0, 1, 2, 3] := rfl
        rw [e3] at h3
        simp only [List.mapM_cons, List.mapM_nil, Option.bind_eq_bind, Option.pure_def] at h3
        cases c0 : W.cell? ((a.add (i * 4)).add 0) with
        | none => simp [c0] at h3
        | some u0 =>
          cases c1 : W.cell? ((a.add (i * 4)).add 1) with
          | none => simp [c0, c1] at h3
          | some u1 =>
            cases c2 : W.cell? ((a.add (i * 4)).add 2) with
            | none => simp [c0, c1, c2] at h3
            | some u2 =>
              cases c3 : W.cell? ((a.add (i * 4)).add 3) with
              | none => simp [c0, c1, c2, c3] at h3
              | some u3 =>
                simp [c0, c1, c2, c3] at h3
                obtain ⟨rfl, rfl, rfl, rfl⟩ := h3
                intro k v hk
                match k, hk with
                | 0, hk => simp at hk; subst hk; exact c0
                | 1, hk => simp at hk; subst hk; exact c1
                | 2, hk => simp at hk; subst hk; exact c2
                | 3, hk => simp at hk; subst hk; exact c3
                | (k + 4), hk => simp at hk
      rw [ha] at hc4 ⊢
      have g0 := hc4 0 _ rfl
      have g1 := hc4 1 _ rfl
      have g2 := hc4 2 _ rfl
      have g3 := hc4 3 _ rfl
      rw [Addr.add_mid, Addr.add_mid] at g0 g1 g2 g3
      exact ⟨a.block, a.off, x, y, z, u, rfl, World.block_lt_of_cell? W ⟨a.block, a.off + i * 4 + 0, none⟩ g0, g0, g1, g2, g3⟩

theorem bulk_third {H : Type} {d1 d2 d3 : DataW H} (hk : Rows.uptoSmall H [d1, d2, d3] = true) : Rows.uptoBulk d3 ≤ 1048576 := by
  have h : Rows.uptoBulkAll [d1, d2, d3] ≤ 1048576 := of_decide_eq_true hk
  simp only [Rows.uptoBulkAll] at h
  omega

theorem contractT (H : Type) (enc : TypeId × Value → H) (W : World) (base : Nat) (args : Array Value) (ds gs : List (DataW H)) (before : List MemPlace)
    (hval0 : ∀ (j : Nat) t v, Try.f3.params[j]? = some t → args[j]? = some v → Value.okWide Try.prog W .any base t v)
    (hW : DataW.Whole enc Try.prog Try.f3.params.toList Rows.toposSpec.vars false W args.toList ds gs before) (hk : Rows.uptoSmall H (ds ++ gs) = true) :
    Calls Try.prog 3 args W fun e W' => ∃ v, e = .returned v ∧ Rows.toposSpec.post enc Try.prog Try.f3 false true false false W args v W' := by
  have hval := hval0
  have hW' := hW
  obtain ⟨p, q, hA0, hV, rfl, hfz, hnd⟩ := hW
  have hA : DataW.TrodAll enc Try.prog W 0 (fun _ => true) true Try.f3.params.toList args.toList ds p := hA0
  rw [Try.params3] at hA hval
  obtain ⟨v0, v1, v2, d0, d1, d2, p0, p1, p2, rfl, rfl, rfl, h0, h1, h2⟩ := trodAll_three hA
  obtain ⟨rfl, rfl⟩ := trodVars_none hV
  have hlt := hW'.lt
  obtain ⟨c, rfl, rfl, rfl, wc⟩ := open_int Try.underlying3 (hval 0 3 v0 rfl rfl) h0
  obtain ⟨d, rfl, rfl, rfl, wd⟩ := open_int Try.underlying3 (hval 1 3 v1 rfl rfl) h1
  obtain ⟨la, m, cap, rfl, hm, hl⟩ := open_edits (hval 2 22 v2 rfl rfl) h2
  clear hA0 hval0
  have hbk : Rows.uptoBulk d2 ≤ 1048576 := bulk_third (by simpa using hk)
  refine (topos_any c d la m cap W (by omega) hl).mono fun e W' ⟨he, hg⟩ => ?_
  subst he
  have t2 := Below.trod laidOutT (by kernel_rfl) (of_decide_eq_true (by kernel_rfl)) h2 hg (fun x hx => hlt x (by simp [hx]))
  have hp : Rows.toposSpec.post enc Try.prog Try.f3 false true false false W _ (.bool true) W' :=
    ⟨_, _, _, [], _, [], hW', trodAll_cons_mk (shut_bool Try.underlying4 _) trodAll_mk0, trodAll_cons_mk (shut_int Try.underlying3 wc) (trodAll_cons_mk (shut_int Try.underlying3 wd) (trodAll_cons_mk t2 trodAll_mk0)), rfl, hg.frame _, fun h => by cases h⟩
  exact ⟨_, rfl, hp⟩

set_option maxRecDepth 100000 in
theorem liftedT (os : Os) (started : os.Started) (H : Type) (enc : TypeId × Value → H) (F : Stop.Interp) :
    ReturnsInHanded {} Try.checked os 3 .any ((Rows.OpenSpec.upto Rows.toposSpec).pre6 enc Try.prog Try.f3 Rows.toposUptoRow.domain false) (((Rows.OpenSpec.upto Rows.toposSpec).at F).post enc Try.prog Try.f3 false true false false) := by
  refine returnsInHanded_of_cond (C := Try.checked) (s := Rows.OpenSpec.upto Rows.toposSpec) (k := Rows.uptoSmall) rfl ownT started (by kernel_rfl) Try.func3
    (OpenSpec.witness (enc := enc) (C := Try.checked) (s := Rows.OpenSpec.upto Rows.toposSpec) (k := Rows.uptoSmall) rfl false ⟨#[], #[.int .i64 0, .int .i64 0, .slice none 0 0], []⟩ 8 (by kernel_rfl) (by kernel_rfl) (by kernel_rfl)
      (x := ([.lit (.int .i64 0), .lit (.int .i64 0), .nil], [], [])) (by kernel_rfl) rfl (by kernel_rfl)) ?_
  intro W base args ds gs before hval hW _ hk _
  exact contractT H enc W base args ds gs before hval hW hk

theorem topos_upto : Rows.ToposUptoSaid :=
  OpenClaim.holds_of_cond 3 Try.f3 rfl rfl rfl rfl rfl rfl rfl ⟨rfl, rfl, rfl, rfl, rfl⟩ rfl rfl rfl rfl rfl (by kernel_rfl) Try.func3 (by kernel_rfl)
    (of_decide_eq_true (by kernel_rfl)) (by unfold Func.isWrapper; first | (rw [if_pos (by decide +kernel)]; kernel_rfl) | (rw [if_neg (by decide +kernel)]; exact ⟨rfl, rfl⟩))
    (fun os started H enc _ F => liftedT os started H enc F)

end Go.Proofs.Ytelmkfkgpnadnaa
