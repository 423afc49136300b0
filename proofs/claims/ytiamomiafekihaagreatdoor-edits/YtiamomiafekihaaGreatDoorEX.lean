/-
  What the row of the law Edits asks of a call: every input.
-/
import Derived.Test.YtiamomiafekihaaGreatDoorE16
import Derived.Test.YtiamomiafekihaaGreatDoorRows
import Derived.ProofKit
import Derived.OpenShut
import Derived.ShutString
import Derived.LaidMore
import Derived.Lay
import Derived.Stop.Joined
import Derived.JoinedCond
import Derived.Deep.DeepHandedRow
import Derived.Deep.Slices
import Derived.Deep.Strs
import Derived.Lib.SmallJoins
import Derived.Deep.MidRow
namespace Go.Proofs.YtiamomiafekihaaGreatDoor
open Go.ChangeShapes Go.WideShapes Go.ChangeAt Go.RowKit Go.Deep Go.Joins
namespace Ed

theorem ownE : ownKnob Tryz.prog.godebug = none := by kernel_rfl
theorem cells3x : Tryz.prog.cellsOf 3 = 1 := by kernel_rfl
theorem cells9x : Tryz.prog.cellsOf 9 = 1 := by kernel_rfl
theorem cells37 : Tryz.prog.cellsOf 37 = 6 := by kernel_rfl
theorem bytes37 : Tryz.prog.bytesOf 37 = 72 := by kernel_rfl

theorem trod_struct6 {H : Type} {enc : TypeId × Value → H} {P : Program} {w : World} {base : Nat} {spare : Nat → Bool} {held : Bool} {t : TypeId} {f0 f1 f2 f3 f4 f5 : Field} {fuel : Nat} {cs : List Value} {x : DataW H × List MemPlace} (ht : P.underlying t = some (.struct #[f0, f1, f2, f3, f4, f5])) (h : DataW.trod enc P w base spare held fuel t cs = some x) :
    ∃ y0 y1 y2 y3 y4 y5 n, x.1 = .agg [y0.1, y1.1, y2.1, y3.1, y4.1, y5.1] ∧ cs.length = P.cellsOf t ∧ DataW.trod enc P w base spare held n f0.type ((cs.drop f0.offset).take (P.cellsOf f0.type)) = some y0 ∧
      DataW.trod enc P w base spare held n f1.type ((cs.drop f1.offset).take (P.cellsOf f1.type)) = some y1 ∧ DataW.trod enc P w base spare held n f2.type ((cs.drop f2.offset).take (P.cellsOf f2.type)) = some y2 ∧
      DataW.trod enc P w base spare held n f3.type ((cs.drop f3.offset).take (P.cellsOf f3.type)) = some y3 ∧ DataW.trod enc P w base spare held n f4.type ((cs.drop f4.offset).take (P.cellsOf f4.type)) = some y4 ∧
      DataW.trod enc P w base spare held n f5.type ((cs.drop f5.offset).take (P.cellsOf f5.type)) = some y5 := by
  obtain ⟨xs, n, _, rfl, hl, hlen, hf⟩ := DataW.trod_struct ht h
  match xs, hlen with
  | [y0, y1, y2, y3, y4, y5], _ => exact ⟨y0, y1, y2, y3, y4, y5, n, by simp, hl, by simpa using hf 0 f0 rfl, by simpa using hf 1 f1 rfl, by simpa using hf 2 f2 rfl, by simpa using hf 3 f3 rfl, by simpa using hf 4 f4 rfl, by simpa using hf 5 f5 rfl⟩

theorem w_all {H : Type} {P : Program} {e : TypeId} {p : Nat → Bool} : ∀ L : List (DataW H), (DataW.weightsAll P e L).all p = true → ∀ d ∈ L, (d.weights P e).all p = true
  | [], _, _, h => absurd h List.not_mem_nil
  | a :: L, h, d, hd => by
    rw [DataW.weightsAll, List.all_append, Bool.and_eq_true] at h
    rcases List.mem_cons.1 hd with e | hd
    · rw [e]; exact h.1
    · exact w_all L h.2 d hd

theorem str_size {s : ByteArray} (h : s.data.toList.length ≤ 140737488351232) : s.size < 281474976710656 := by
  rw [Array.length_toList] at h
  show s.data.size < _
  omega

set_option maxRecDepth 100000 in
/-- A script that came in, opened. -/
theorem open_script {H : Type} {enc : TypeId × Value → H} {W : World} {b0 : Nat} {v : Value} {d : DataW H} {p : List MemPlace} (hv : Value.okWide Tryz.prog W .any b0 22 v) (h : DataW.Trod enc Tryz.prog W 0 (fun _ => true) true 22 v d p) (hk : (d.weights Tryz.prog 22).all (· ≤ reachBytes) = true) :
    ∃ (la : Option Addr) (m cap : Nat), v = .slice la m cap ∧ m ≤ 2251799813685248 ∧ Script W la m := by
  obtain ⟨la, m, cap, rfl⟩ := okWide_slice Tryz.underlying22 hv
  obtain ⟨fuel, hf⟩ := h
  rcases open_slice Tryz.underlying22 hf with ⟨hcs, _⟩ | ⟨a, len, cap', mm, n, D, Pl, hcs, _, hl, hm, hmm, hx, hel⟩
  · have hcs' : [Value.slice la m cap] = [.slice none 0 0] := hcs
    simp only [List.cons.injEq, Value.slice.injEq, and_true] at hcs'
    exact ⟨la, m, cap, rfl, by omega, fun i hi => by omega⟩
  · have hcs' : [Value.slice la m cap] = [.slice (some a) len cap'] := hcs
    simp only [List.cons.injEq, Value.slice.injEq, and_true] at hcs'
    obtain ⟨rfl, rfl, rfl⟩ := hcs'
    have hd : d = .slice ((List.range m).map D) ((List.range (mm - m)).map fun j => D (m + j)) := (Prod.mk.inj hx).1
    rw [hd] at hk
    simp only [DataW.weights, Tryz.underlying22, List.all_cons, Bool.and_eq_true, bytes37, List.length_map, List.length_range, reachBytes] at hk
    have hb := of_decide_eq_true hk.1
    have hk2 := fun i (hi : i < m) => w_all _ (Bool.and_eq_true_iff.1 (List.all_append ▸ hk.2)).1 (D i) (List.mem_map.2 ⟨i, List.mem_range.2 hi, rfl⟩)
    refine ⟨_, m, cap, rfl, by omega, fun i hi => ?_⟩
    have hbi := hk2 i hi
    have ha : a = ⟨a.block, a.off, none⟩ := by
      obtain ⟨cs0, hc0, _⟩ := hel 0 (by rw [hmm]; simp; omega)
      rw [cells37] at hc0
      unfold World.cells? at hc0
      rw [if_pos (Nat.zero_le _)] at hc0
      have e3 : List.range 6 = [0, 1, 2, 3, 4, 5] := rfl
      rw [e3] at hc0
      simp only [List.mapM_cons, Option.bind_eq_bind] at hc0
      obtain ⟨b, o, sp⟩ := a
      cases sp with
      | none => rfl
      | some q =>
        exfalso
        have : W.cell? (((⟨b, o, some q⟩ : Addr).add (0 * 6)).add 0) = none := by
          simp only [Nat.zero_mul, Addr.add, World.cell?]
          split <;> simp_all
        rw [this] at hc0
        simp at hc0
    obtain ⟨cs', hc, ht⟩ := hel i (by rw [hmm]; simp; omega)
    rw [cells37] at hc
    unfold World.cells? at hc
    rw [if_pos (Nat.zero_le _)] at hc
    obtain ⟨y0, y1, y2, y3, y4, y5, k, hD, hcl, t0, t1, t2, t3, t4, t5⟩ := trod_struct6 Tryz.underlying37 ht
    have hD : D i = .agg [y0.1, y1.1, y2.1, y3.1, y4.1, y5.1] := hD
    rw [cells37] at hcl
    rw [cells3x] at t0 t1 t5
    rw [cells9x] at t2 t3 t4
    have hg : ∀ k v, cs'[k]? = some v → k < 6 → W.cell? ((a.add (i * 6)).add k) = some v := fun k v hk hk6 => by
      rw [← hk]
      exact mapM_some_get hc k k (by rw [List.getElem?_range hk6])
    match cs', hcl with
    | [c0, c1, c2, c3, c4, c5], _ =>
      obtain ⟨kd, e0, _, _⟩ := DataW.trod_int Tryz.underlying3 t0
      obtain ⟨hh, e1, _, _⟩ := DataW.trod_int Tryz.underlying3 t1
      obtain ⟨sp, e2, f2, _⟩ := DataW.trod_string Tryz.underlying9 t2
      obtain ⟨sv, e3, f3, _⟩ := DataW.trod_string Tryz.underlying9 t3
      obtain ⟨ss, e4, f4, _⟩ := DataW.trod_string Tryz.underlying9 t4
      obtain ⟨nn, e5, _, _⟩ := DataW.trod_int Tryz.underlying3 t5
      have e0' : c0 = .int .i64 kd := by simpa using e0
      have e1' : c1 = .int .i64 hh := by simpa using e1
      have e2' : c2 = .string sp := by simpa using e2
      have e3' : c3 = .string sv := by simpa using e3
      have e4' : c4 = .string ss := by simpa using e4
      have e5' : c5 = .int .i64 nn := by simpa using e5
      subst e0' e1' e2' e3' e4' e5'
      rw [hD, f2, f3, f4] at hbi
      simp only [DataW.weights, Tryz.underlying37, DataW.weightsEach, List.map_cons, List.all_append, List.all_cons, Bool.and_eq_true] at hbi
      obtain ⟨_, _, ⟨h2, _⟩, ⟨h3, _⟩, ⟨h4, _⟩, _⟩ := hbi
      rw [ha] at hg ⊢
      have g0 := hg 0 _ rfl (by decide)
      have g1 := hg 1 _ rfl (by decide)
      have g2 := hg 2 _ rfl (by decide)
      have g3 := hg 3 _ rfl (by decide)
      have g4 := hg 4 _ rfl (by decide)
      have g5 := hg 5 _ rfl (by decide)
      rw [Addr.add_mid, Addr.add_mid] at g0 g1 g2 g3 g4 g5
      exact ⟨a.block, a.off, kd, hh, nn, sp, sv, ss, rfl, World.block_lt_of_cell? W ⟨a.block, a.off + i * 6 + 0, none⟩ g0, g0, g1, g2, g3, g4, g5, str_size (of_decide_eq_true h2), str_size (of_decide_eq_true h3), str_size (of_decide_eq_true h4)⟩

theorem laid_metE (os : Os) (args : Array Value) : laidMetH Tryz.prog Rows.editsRow.laid ((World.laidAll Tryz.prog os Rows.editsRow.laid).forCall (fun _ _ => 0) ⟨#[], args, []⟩).memory := by
  rw [MakeChecks.laidMetH_plain _ _ _ (by kernel_rfl)]
  exact laidMet_laidAll _ (by kernel_rfl) (by kernel_rfl)

abbrev zA : Array Value := #[.int .i64 0, .int .i64 0, .slice none 0 0]

set_option maxRecDepth 100000 in
theorem liftedE (os : Os) (started : os.Started) (H : Type) (enc : TypeId × Value → H) :
    ReturnsInHanded {} Tryz.checked os 3 .any (fun w args => (Rows.editsSpec.pre enc Tryz.prog Tryz.f3 [] false w args ∧ laidMetH Tryz.prog Rows.editsRow.laid w) ∧ sizedMet enc Tryz.prog Tryz.f3 (OpenSpec.ofChange Rows.editsSpec) false w args)
      (Rows.editsSpec.post enc Tryz.prog Tryz.f3 false true false false) := by
  refine returnsInHanded_of_calls (C := Tryz.checked) ownE started (by kernel_rfl)
    (ChangeSpec.witness_shaped (enc := enc) (C := Tryz.checked) (os := os) (X := fun w _ => laidMetH Tryz.prog Rows.editsRow.laid w) false (World.laidAll Tryz.prog os Rows.editsRow.laid) zA 8 (World.laidAll_os _ _ _) (World.shaped_of_ZipB (by kernel_rfl) (by kernel_rfl)) (by kernel_rfl) (by kernel_rfl) (by kernel_rfl) (laid_metE os _)) ?_
  intro w tape i _ hsh _ hok hpre _
  obtain ⟨_, _, _, fn', hfn', _, _, _, _, hval0⟩ := hok
  have e : fn' = Tryz.f3 := Option.some.inj (hfn'.symm.trans Tryz.func3)
  subst e
  obtain ⟨_, _, ds, gs, before, hw, hz0⟩ := hpre
  have hW := DataW.Whole.of_heap (w' := w.forCall tape i) (by rfl) hw
  obtain ⟨heap, args, vars⟩ := i
  have hm : Ml (w.forCall tape ⟨heap, args, vars⟩) := Go.Proofs.cell_of_shapedOpen_int (zero := #[.int .i64 0]) (t := 3) hsh (of_decide_eq_true (by kernel_rfl)) (by kernel_rfl) rfl (by kernel_rfl) (by kernel_rfl) Tryz.underlying3
  generalize w.forCall tape ⟨heap, args, vars⟩ = W at hW hm hval0 ⊢
  have hval : ∀ (j : Nat) t v, Tryz.f3.params[j]? = some t → args[j]? = some v → Value.okWide Tryz.prog W .any w.heap.size t v := hval0
  have hW' := hW
  obtain ⟨p, q, hA0, hV, rfl, hfz, hnd⟩ := hW
  have hA : DataW.TrodAll enc Tryz.prog W 0 (fun _ => true) true Tryz.f3.params.toList args.toList ds p := hA0
  rw [Tryz.params3] at hA hval
  obtain ⟨v0, vs0, d0, ds0, p0, q0, hargs, rfl, rfl, h0, r0⟩ := trodAll_cons hA
  obtain ⟨v1, vs1, d1, ds1, p1, q1, hargs1, rfl, rfl, h1, r1⟩ := trodAll_cons r0
  obtain ⟨v2, vs2, d2, ds2, p2, q2, hargs2, rfl, rfl, h2, r2⟩ := trodAll_cons r1
  obtain ⟨rfl, rfl, rfl⟩ := trodAll_nil r2
  obtain rfl : args = #[v0, v1, v2] := by cases args; simp_all
  obtain ⟨rfl, rfl⟩ := trodVars_none hV
  have hlt := hW'.lt
  have hz : (d2.weights Tryz.prog 22).all (· ≤ reachBytes) = true := by
    rw [Tryz.params3] at hz0
    simp only [List.cons_append, DataW.weightsEach, List.all_append, Bool.and_eq_true] at hz0
    exact hz0.2.2.1
  obtain ⟨c, rfl, rfl, rfl, wc⟩ := open_int Tryz.underlying3 (hval 0 3 v0 rfl rfl) h0
  obtain ⟨d, rfl, rfl, rfl, wd⟩ := open_int Tryz.underlying3 (hval 1 3 v1 rfl rfl) h1
  obtain ⟨la, m, cap, rfl, hmm, hl⟩ := open_script (hval 2 22 v2 rfl rfl) h2 hz
  clear hA0 hval0 hval
  refine (edits_any c d la m cap W hm hmm hl).mono fun e W' ⟨he, hg⟩ => ?_
  subst he
  have t2 := Below.trod laidOutE (by kernel_rfl) (of_decide_eq_true (by kernel_rfl)) h2 hg (fun x hx => hlt x (by simp [hx]))
  have hp : Rows.editsSpec.post enc Tryz.prog Tryz.f3 false true false false W _ (.bool true) W' :=
    ⟨_, _, _, [], _, [], hW', trodAll_cons_mk (shut_bool Tryz.underlying4 _) trodAll_mk0, trodAll_cons_mk (shut_int Tryz.underlying3 wc) (trodAll_cons_mk (shut_int Tryz.underlying3 wd) (trodAll_cons_mk t2 trodAll_mk0)), rfl, hg.frame _, fun h => by cases h⟩
  exact ChangeSpec.post_blind hp

end Ed
end Go.Proofs.YtiamomiafekihaaGreatDoor
