/-
  What the row of the law Edits asks of a call, where what comes in is of bounded bulk.
-/
import Derived.Test.YtelmkfkgpnadnaaGreatDoorE16
import Derived.Test.YtelmkfkgpnadnaaGreatDoorRows
import Derived.ProofKit
import Derived.OpenShut
import Derived.ShutString
import Derived.LaidMore
import Derived.Lay
import Derived.Stop.Joined
import Derived.JoinedCond
import Derived.Deep.DeepHandedRow
import Derived.Deep.Slices
import Derived.Deep.Strs
import Derived.Lib.SmallJoins
import Derived.Deep.MidRow
namespace Go.Proofs.YtelmkfkgpnadnaaGreatDoor
open Go.ChangeShapes Go.WideShapes Go.ChangeAt Go.RowKit Go.Deep Go.Joins
open Go.ChangeMaps (open_string shut_string)
namespace Ed

theorem ownE : ownKnob Tryz.prog.godebug = none := by kernel_rfl
theorem cells3x : Tryz.prog.cellsOf 3 = 1 := by kernel_rfl
theorem cells9x : Tryz.prog.cellsOf 9 = 1 := by kernel_rfl
theorem cells113 : Tryz.prog.cellsOf 113 = 6 := by kernel_rfl

theorem bulk_pos {H : Type} (d : DataW H) : 1 ≤ Rows.uptoBulk d := by
  cases d with
  | lit l => cases l <;> simp [Rows.uptoBulk]
  | _ => simp [Rows.uptoBulk]

theorem bulk_len {H : Type} : ∀ l : List (DataW H), l.length ≤ Rows.uptoBulkAll l
  | [] => by simp [Rows.uptoBulkAll]
  | d :: r => by
    have h1 := bulk_pos d
    have h2 := bulk_len r
    simp only [Rows.uptoBulkAll, List.length_cons]
    omega

theorem bulk_mem {H : Type} {d : DataW H} : ∀ {l : List (DataW H)}, d ∈ l → Rows.uptoBulk d ≤ Rows.uptoBulkAll l
  | x :: r, h => by
    simp only [Rows.uptoBulkAll]
    rcases List.mem_cons.1 h with e | e
    · rw [e]; omega
    · have := bulk_mem e; omega

theorem bulk_string {H : Type} (s : ByteArray) : Rows.uptoBulk (DataW.lit (H := H) (.string s.data.toList)) = s.size + 1 := by
  simp only [Rows.uptoBulk]
  rw [Lib.size_eq]

theorem trod_struct6 {H : Type} {enc : TypeId × Value → H} {P : Program} {w : World} {base : Nat} {spare : Nat → Bool} {held : Bool} {t : TypeId} {f0 f1 f2 f3 f4 f5 : Field} {fuel : Nat} {cs : List Value} {x : DataW H × List MemPlace} (ht : P.underlying t = some (.struct #[f0, f1, f2, f3, f4, f5])) (h : DataW.trod enc P w base spare held fuel t cs = some x) :
    ∃ y0 y1 y2 y3 y4 y5 n, x.1 = .agg [y0.1, y1.1, y2.1, y3.1, y4.1, y5.1] ∧ cs.length = P.cellsOf t ∧ DataW.trod enc P w base spare held n f0.type ((cs.drop f0.offset).take (P.cellsOf f0.type)) = some y0 ∧
      DataW.trod enc P w base spare held n f1.type ((cs.drop f1.offset).take (P.cellsOf f1.type)) = some y1 ∧ DataW.trod enc P w base spare held n f2.type ((cs.drop f2.offset).take (P.cellsOf f2.type)) = some y2 ∧
      DataW.trod enc P w base spare held n f3.type ((cs.drop f3.offset).take (P.cellsOf f3.type)) = some y3 ∧ DataW.trod enc P w base spare held n f4.type ((cs.drop f4.offset).take (P.cellsOf f4.type)) = some y4 ∧
      DataW.trod enc P w base spare held n f5.type ((cs.drop f5.offset).take (P.cellsOf f5.type)) = some y5 := by
  obtain ⟨xs, n, _, rfl, hl, hlen, hf⟩ := DataW.trod_struct ht h
  match xs, hlen with
  | [y0, y1, y2, y3, y4, y5], _ => exact ⟨y0, y1, y2, y3, y4, y5, n, by simp, hl, by simpa using hf 0 f0 rfl, by simpa using hf 1 f1 rfl, by simpa using hf 2 f2 rfl, by simpa using hf 3 f3 rfl, by simpa using hf 4 f4 rfl, by simpa using hf 5 f5 rfl⟩

set_option maxRecDepth 100000 in
/-- A script that came in, opened. -/
theorem open_script {H : Type} {enc : TypeId × Value → H} {W : World} {b0 : Nat} {v : Value} {d : DataW H} {p : List MemPlace} (hv : Value.okWide Tryz.prog W .any b0 47 v) (h : DataW.Trod enc Tryz.prog W 0 (fun _ => true) true 47 v d p) (hk : Rows.uptoBulk d ≤ 1048576) :
    ∃ (la : Option Addr) (m cap : Nat), v = .slice la m cap ∧ m ≤ 1048576 ∧ Script W la m := by
  obtain ⟨la, m, cap, rfl⟩ := okWide_slice Tryz.underlying47 hv
  obtain ⟨fuel, hf⟩ := h
  rcases open_slice Tryz.underlying47 hf with ⟨hcs, _⟩ | ⟨a, len, cap', mm, n, D, Pl, hcs, _, hl, hm, hmm, hx, hel⟩
  · have hcs' : [Value.slice la m cap] = [.slice none 0 0] := hcs
    simp only [List.cons.injEq, Value.slice.injEq, and_true] at hcs'
    exact ⟨la, m, cap, rfl, by omega, fun i hi => by omega⟩
  · have hcs' : [Value.slice la m cap] = [.slice (some a) len cap'] := hcs
    simp only [List.cons.injEq, Value.slice.injEq, and_true] at hcs'
    obtain ⟨rfl, rfl, rfl⟩ := hcs'
    have hd : d = .slice ((List.range m).map D) ((List.range (mm - m)).map fun j => D (m + j)) := (Prod.mk.inj hx).1
    rw [hd] at hk
    simp only [Rows.uptoBulk] at hk
    refine ⟨_, m, cap, rfl, ?_, fun i hi => ?_⟩
    · have h1 := bulk_len ((List.range m).map D)
      rw [List.length_map, List.length_range] at h1
      omega
    have hbi : Rows.uptoBulk (D i) ≤ 1048576 := by
      have h1 := bulk_mem (l := (List.range m).map D) (List.mem_map.2 ⟨i, List.mem_range.2 hi, rfl⟩)
      omega
    have ha : a = ⟨a.block, a.off, none⟩ := by
      obtain ⟨cs0, hc0, _⟩ := hel 0 (by rw [hmm]; simp; omega)
      rw [cells113] at hc0
      unfold World.cells? at hc0
      rw [if_pos (Nat.zero_le _)] at hc0
      have e3 : List.range 6 = [0, 1, 2, 3, 4, 5] := rfl
      rw [e3] at hc0
      simp only [List.mapM_cons, Option.bind_eq_bind] at hc0
      obtain ⟨b, o, sp⟩ := a
      cases sp with
      | none => rfl
      | some q =>
        exfalso
        have : W.cell? (((⟨b, o, some q⟩ : Addr).add (0 * 6)).add 0) = none := by
          simp only [Nat.zero_mul, Addr.add, World.cell?]
          split <;> simp_all
        rw [this] at hc0
        simp at hc0
    obtain ⟨cs', hc, ht⟩ := hel i (by rw [hmm]; simp; omega)
    rw [cells113] at hc
    unfold World.cells? at hc
    rw [if_pos (Nat.zero_le _)] at hc
    obtain ⟨y0, y1, y2, y3, y4, y5, k, hD, hcl, t0, t1, t2, t3, t4, t5⟩ := trod_struct6 Tryz.underlying113 ht
    have hD : D i = .agg [y0.1, y1.1, y2.1, y3.1, y4.1, y5.1] := hD
    rw [cells113] at hcl
    rw [cells3x] at t0 t1 t5
    rw [cells9x] at t2 t3 t4
    have hg : ∀ k v, cs'[k]? = some v → k < 6 → W.cell? ((a.add (i * 6)).add k) = some v := fun k v hk hk6 => by
      rw [← hk]
      exact mapM_some_get hc k k (by rw [List.getElem?_range hk6])
    match cs', hcl with
    | [c0, c1, c2, c3, c4, c5], _ =>
      obtain ⟨kd, e0, _, _⟩ := DataW.trod_int Tryz.underlying3 t0
      obtain ⟨hh, e1, _, _⟩ := DataW.trod_int Tryz.underlying3 t1
      obtain ⟨sp, e2, f2, _⟩ := DataW.trod_string Tryz.underlying9 t2
      obtain ⟨sv, e3, f3, _⟩ := DataW.trod_string Tryz.underlying9 t3
      obtain ⟨ss, e4, f4, _⟩ := DataW.trod_string Tryz.underlying9 t4
      obtain ⟨nn, e5, _, _⟩ := DataW.trod_int Tryz.underlying3 t5
      have e0' : c0 = .int .i64 kd := by simpa using e0
      have e1' : c1 = .int .i64 hh := by simpa using e1
      have e2' : c2 = .string sp := by simpa using e2
      have e3' : c3 = .string sv := by simpa using e3
      have e4' : c4 = .string ss := by simpa using e4
      have e5' : c5 = .int .i64 nn := by simpa using e5
      subst e0' e1' e2' e3' e4' e5'
      rw [hD] at hbi
      simp only [Rows.uptoBulk, Rows.uptoBulkAll] at hbi
      have b2 : Rows.uptoBulk y2.1 = sp.size + 1 := by rw [f2]; exact bulk_string sp
      have b3 : Rows.uptoBulk y3.1 = sv.size + 1 := by rw [f3]; exact bulk_string sv
      have b4 : Rows.uptoBulk y4.1 = ss.size + 1 := by rw [f4]; exact bulk_string ss
      rw [ha] at hg ⊢
      have g0 := hg 0 _ rfl (by decide)
      have g1 := hg 1 _ rfl (by decide)
      have g2 := hg 2 _ rfl (by decide)
      have g3 := hg 3 _ rfl (by decide)
      have g4 := hg 4 _ rfl (by decide)
      have g5 := hg 5 _ rfl (by decide)
      rw [Addr.add_mid, Addr.add_mid] at g0 g1 g2 g3 g4 g5
      exact ⟨a.block, a.off, kd, hh, nn, sp, sv, ss, rfl, World.block_lt_of_cell? W ⟨a.block, a.off + i * 6 + 0, none⟩ g0, g0, g1, g2, g3, g4, g5, by omega, by omega, by omega⟩

theorem bulk_third {H : Type} {d1 d2 d3 : DataW H} (hk : Rows.uptoSmall H [d1, d2, d3] = true) : Rows.uptoBulk d3 ≤ 1048576 := by
  have h : Rows.uptoBulkAll [d1, d2, d3] ≤ 1048576 := of_decide_eq_true hk
  simp only [Rows.uptoBulkAll] at h
  omega

set_option maxRecDepth 100000 in
theorem contractE (H : Type) (enc : TypeId × Value → H) (W : World) (base : Nat) (args : Array Value) (ds gs : List (DataW H)) (before : List MemPlace) (hm : Ml W)
    (hval0 : ∀ (j : Nat) t v, Tryz.f7.params[j]? = some t → args[j]? = some v → Value.okWide Tryz.prog W .any base t v)
    (hW : DataW.Whole enc Tryz.prog Tryz.f7.params.toList Rows.editsSpec.vars false W args.toList ds gs before) (hk : Rows.uptoSmall H (ds ++ gs) = true) :
    Calls Tryz.prog 7 args W fun e W' => ∃ v, e = .returned v ∧ Rows.editsSpec.post enc Tryz.prog Tryz.f7 false true false false W args v W' := by
  have hval := hval0
  have hW' := hW
  obtain ⟨p, q, hA0, hV, rfl, hfz, hnd⟩ := hW
  have hA : DataW.TrodAll enc Tryz.prog W 0 (fun _ => true) true Tryz.f7.params.toList args.toList ds p := hA0
  rw [Tryz.params7] at hA hval
  obtain ⟨v0, v1, v2, d0, d1, d2, p0, p1, p2, rfl, rfl, rfl, h0, h1, h2⟩ := trodAll_three hA
  obtain ⟨rfl, rfl⟩ := trodVars_none hV
  have hlt := hW'.lt
  obtain ⟨c, rfl, rfl, rfl, wc⟩ := open_int Tryz.underlying3 (hval 0 3 v0 rfl rfl) h0
  obtain ⟨d, rfl, rfl, rfl, wd⟩ := open_int Tryz.underlying3 (hval 1 3 v1 rfl rfl) h1
  have hbk : Rows.uptoBulk d2 ≤ 1048576 := bulk_third (by simpa using hk)
  obtain ⟨la, m, cap, rfl, hmm, hl⟩ := open_script (hval 2 47 v2 rfl rfl) h2 hbk
  clear hA0 hval0
  refine (edits_any c d la m cap W hm (by omega) hl).mono fun e W' ⟨he, hg⟩ => ?_
  subst he
  have t2 := Below.trod laidOutE (by kernel_rfl) (of_decide_eq_true (by kernel_rfl)) h2 hg (fun x hx => hlt x (by simp [hx]))
  have hp : Rows.editsSpec.post enc Tryz.prog Tryz.f7 false true false false W _ (.bool true) W' :=
    ⟨_, _, _, [], _, [], hW', trodAll_cons_mk (shut_bool Tryz.underlying4 _) trodAll_mk0, trodAll_cons_mk (shut_int Tryz.underlying3 wc) (trodAll_cons_mk (shut_int Tryz.underlying3 wd) (trodAll_cons_mk t2 trodAll_mk0)), rfl, hg.frame _, fun h => by cases h⟩
  exact ⟨_, rfl, hp⟩

theorem laid_metE (os : Os) (args : Array Value) : laidMetH Tryz.prog Rows.editsUptoRow.laid ((World.laidAll Tryz.prog os Rows.editsUptoRow.laid).forCall (fun _ _ => 0) ⟨#[], args, []⟩).memory := by
  rw [MakeChecks.laidMetH_plain _ _ _ (by kernel_rfl)]
  exact laidMet_laidAll _ (by kernel_rfl) (by kernel_rfl)

set_option maxRecDepth 100000 in
theorem readsE (os : Os) {H : Type} (enc : TypeId × Value → H) : ∃ places, DataW.whole enc Tryz.prog ((World.laidAll Tryz.prog os Rows.editsUptoRow.laid).forCall (fun _ _ => 0) ⟨#[], #[.int .i64 0, .int .i64 0, .slice none 0 0], []⟩).memory Tryz.f7.params.toList Rows.editsSpec.vars false #[Value.int .i64 0, .int .i64 0, .slice none 0 0].toList 8 = some ([.lit (.int .i64 0), .lit (.int .i64 0), .nil], [], places) :=
  ⟨[], by kernel_rfl⟩

set_option maxRecDepth 100000 in
theorem liftedE (os : Os) (started : os.Started) (H : Type) (enc : TypeId × Value → H) (F : Stop.Interp) :
    ReturnsInHanded {} Tryz.checked os 7 .any ((Rows.OpenSpec.upto Rows.editsSpec).preRow enc Tryz.prog Tryz.f7 Rows.editsUptoRow.domain false Rows.editsUptoRow.laid) (((Rows.OpenSpec.upto Rows.editsSpec).at F).post enc Tryz.prog Tryz.f7 false true false false) := by
  obtain ⟨places, hx⟩ := readsE os enc
  have hok : Input.okWideB Tryz.prog ((World.laidAll Tryz.prog os Rows.editsUptoRow.laid).forCall (fun _ _ => 0) ⟨#[], #[.int .i64 0, .int .i64 0, .slice none 0 0], []⟩) 7 ⟨#[], #[.int .i64 0, .int .i64 0, .slice none 0 0], []⟩ = true := by kernel_rfl
  refine returnsInHanded_of_row (C := Tryz.checked) (s := Rows.OpenSpec.upto Rows.editsSpec) ownE started (by kernel_rfl) Tryz.func7
    ⟨World.laidAll Tryz.prog os Rows.editsUptoRow.laid, fun _ _ => 0, ⟨#[], #[.int .i64 0, .int .i64 0, .slice none 0 0], []⟩, World.laidAll_os _ _ _, World.shaped_of_ZipB (by kernel_rfl) (by kernel_rfl), (Input.okWide_of_okWideB (base := 0) hok).1, (Input.okWide_of_okWideB hok).2,
      OpenSpec.preRow_of_cond 8 hx (by kernel_rfl) (fun k hk => by cases hk; kernel_rfl) (by kernel_rfl) (laid_metE os _), by
        simp only [Assume.holds]
        exact ⟨by simp, by simp, by simp, by simp, by simp⟩⟩ ?_
  intro W base args ds gs before hval hW _ hcond _ _ hsh _
  exact contractE H enc W base args ds gs before (Tryz.laysM146.s1_3 _ hsh) hval hW (hcond _ rfl)

end Ed
end Go.Proofs.YtelmkfkgpnadnaaGreatDoor
