/-
  What the row of the law Formats asks of a call, where what comes in is of bounded bulk.
-/
import Derived.Test.YtelmkfkgpnadnaaGreatDoorKCH
import Derived.Test.YtelmkfkgpnadnaaGreatDoorRows
import Derived.ProofKit
import Derived.OpenShut
import Derived.ShutString
import Derived.LaidMore
import Derived.Lay
import Derived.Stop.Joined
import Derived.JoinedCond
import Derived.Deep.DeepHandedRow
import Derived.Deep.Slices
import Derived.Deep.Strs
import Derived.Lib.SmallJoins
import Derived.Deep.MidRow
namespace Go.Proofs.YtelmkfkgpnadnaaGreatDoor
open Go.ChangeShapes Go.WideShapes Go.ChangeAt Go.RowKit Go.Deep Go.Joins
open Go.ChangeMaps (open_string shut_string)
namespace Fm

theorem laidOutF : laidOutB Tryz.prog = true := by kernel_rfl
theorem ownF : ownKnob Tryz.prog.godebug = none := by kernel_rfl
theorem cells9f : Tryz.prog.cellsOf 9 = 1 := by kernel_rfl
theorem cells29f : Tryz.prog.cellsOf 29 = 2 := by kernel_rfl
theorem cells137f : Tryz.prog.cellsOf 137 = 3 := by kernel_rfl
theorem cells26f : Tryz.prog.cellsOf 26 = 4 := by kernel_rfl

theorem bulk_pos {H : Type} (d : DataW H) : 1 ≤ Rows.uptoBulk d := by
  cases d with
  | lit l => cases l <;> simp [Rows.uptoBulk]
  | _ => simp [Rows.uptoBulk]

theorem bulk_len {H : Type} : ∀ l : List (DataW H), l.length ≤ Rows.uptoBulkAll l
  | [] => by simp [Rows.uptoBulkAll]
  | d :: r => by
    have h1 := bulk_pos d
    have h2 := bulk_len r
    simp only [Rows.uptoBulkAll, List.length_cons]
    omega

theorem bulk_mem {H : Type} {d : DataW H} : ∀ {l : List (DataW H)}, d ∈ l → Rows.uptoBulk d ≤ Rows.uptoBulkAll l
  | x :: r, h => by
    simp only [Rows.uptoBulkAll]
    rcases List.mem_cons.1 h with e | e
    · rw [e]; omega
    · have := bulk_mem e; omega

theorem bulk_string {H : Type} (s : ByteArray) : Rows.uptoBulk (DataW.lit (H := H) (.string s.data.toList)) = s.size + 1 := by
  simp only [Rows.uptoBulk]
  rw [Lib.size_eq]

/-- A list of as many, each with what it has. -/
theorem pick {α : Type} {Q : Nat → α → Prop} : ∀ m, (∀ i, i < m → ∃ x, Q i x) → ∃ L : List α, L.length = m ∧ ∀ i x, L[i]? = some x → Q i x
  | 0, _ => ⟨[], rfl, fun i x h => by simp at h⟩
  | m + 1, h => by
    obtain ⟨L, hl, hq⟩ := pick m (fun i hi => h i (by omega))
    obtain ⟨x, hx⟩ := h m (by omega)
    refine ⟨L ++ [x], by simp [hl], fun i y hy => ?_⟩
    by_cases hi : i < L.length
    · rw [List.getElem?_append_left hi] at hy
      exact hq i y hy
    · rw [List.getElem?_append_right (by omega)] at hy
      have h0 : i - L.length = 0 := by
        by_cases h0 : i - L.length = 0
        · exact h0
        · rw [List.getElem?_eq_none (by simp; omega)] at hy
          cases hy
      rw [h0] at hy
      have : x = y := by simpa using hy
      rw [← this, show i = m by omega]
      exact hx

set_option maxRecDepth 100000 in
theorem spot23 {W : World} {b0 : Nat} {e t : TypeId} {a : Addr} {m cap : Nat} (ht : Tryz.prog.underlying t = some (.slice e)) (hc : Cell.okWide Tryz.prog W .any b0 t (.slice (some a) m cap)) : a = ⟨a.block, a.off, none⟩ := by
  simp only [Cell.okWide, ht, Cell.ok] at hc
  obtain ⟨b, o, sp⟩ := a
  have : sp = none := hc.2.2.2.1
  rw [this]

theorem flat_back {α : Type} {enc : α → List Value} {k : Nat} (hk : ∀ x, (enc x).length = k) (h0 : 0 < k) [Inhabited α] {W : World} {b o : Nat} (L : List α) (h : ∀ i x, L[i]? = some x → ∀ j u, (enc x)[j]? = some u → W.cell? ⟨b, o + i * k + j, none⟩ = some u) :
    ∀ j u, (L.flatMap enc)[j]? = some u → W.cell? ⟨b, o + j, none⟩ = some u := by
  intro j u hj
  have hlt : j < L.length * k := by
    rw [← Ss.flat_len hk L]
    exact (List.getElem?_eq_some_iff.1 hj).1
  rw [Ss.flat_get hk h0 L j hlt] at hj
  have hd : j / k < L.length := Nat.div_lt_of_lt_mul (by rw [Nat.mul_comm]; exact hlt)
  have := h (j / k) (L[j / k]!) (by rw [List.getElem?_eq_getElem hd, getElem!_pos L (j / k) hd]) (j % k) u hj
  rw [show o + j / k * k + j % k = o + j by have := Nat.div_add_mod j k; rw [Nat.mul_comm] at this; omega] at this
  exact this

set_option maxRecDepth 100000 in
/-- A list of modules that came in, opened. -/
theorem open_mods {H : Type} {enc : TypeId × Value → H} {W : World} {b0 fuel : Nat} {v : Value} {y : DataW H × List MemPlace} (hc : Cell.okWide Tryz.prog W .any b0 23 v) (hf : DataW.trod enc Tryz.prog W 0 (fun _ => true) true fuel 23 [v] = some y) (hk : Rows.uptoBulk y.1 ≤ 1048576) :
    ∃ L : List Mo, Sm.Rd W v L ∧ L.length ≤ 1048576 ∧ ∀ x ∈ L, x.1.size ≤ 1048576 ∧ x.2.size ≤ 1048576 := by
  rcases open_slice Tryz.underlying23 hf with ⟨hcs, _⟩ | ⟨a, m, cap, mm, n, D, Pl, hcs, _, hl, hm, hmm, hx, hel⟩
  · have hcs' : v = .slice none 0 0 := by simpa using hcs
    exact ⟨[], Or.inl ⟨hcs', rfl⟩, by simp, fun x hx => by cases hx⟩
  · have hcs' : v = .slice (some a) m cap := by simpa using hcs
    rw [hcs'] at hc
    have ha := spot23 Tryz.underlying23 hc
    have hd : y.1 = .slice ((List.range m).map D) ((List.range (mm - m)).map fun j => D (m + j)) := by rw [hx]
    rw [hd] at hk
    simp only [Rows.uptoBulk] at hk
    have hml : m ≤ 1048576 := by
      have h1 := bulk_len ((List.range m).map D)
      rw [List.length_map, List.length_range] at h1
      omega
    have key : ∀ i, i < m → ∃ x : Mo, (x.1.size ≤ 1048576 ∧ x.2.size ≤ 1048576) ∧ ∀ j u, (Sm.mc x)[j]? = some u → W.cell? ⟨a.block, a.off + i * 2 + j, none⟩ = some u := by
      intro i hi
      have hbi : Rows.uptoBulk (D i) ≤ 1048576 := by
        have h1 := bulk_mem (l := (List.range m).map D) (List.mem_map.2 ⟨i, List.mem_range.2 hi, rfl⟩)
        omega
      obtain ⟨cs', hc, ht⟩ := hel i (by rw [hmm]; simp; omega)
      rw [cells29f] at hc
      unfold World.cells? at hc
      rw [if_pos (Nat.zero_le _)] at hc
      obtain ⟨y0, y1, k, hD, hcl, t0, t1⟩ := trod_struct2 Tryz.underlying29 ht
      have hD : D i = .agg [y0.1, y1.1] := (Prod.mk.inj hD).1
      rw [cells29f] at hcl
      rw [cells9f] at t0 t1
      have hg : ∀ k v, cs'[k]? = some v → k < 2 → W.cell? ((a.add (i * 2)).add k) = some v := fun k v hk hk6 => by
        rw [← hk]
        exact mapM_some_get hc k k (by rw [List.getElem?_range hk6])
      match cs', hcl with
      | [c0, c1], _ =>
        obtain ⟨s0, e0, f0, _⟩ := DataW.trod_string Tryz.underlying9 t0
        have e0' : c0 = .string s0 := by simpa using e0
        obtain ⟨s1, e1, f1, _⟩ := DataW.trod_string Tryz.underlying9 t1
        have e1' : c1 = .string s1 := by simpa using e1
        subst e0' e1'
        rw [hD] at hbi
        simp only [Rows.uptoBulk, Rows.uptoBulkAll] at hbi
        have b0 : Rows.uptoBulk y0.1 = s0.size + 1 := by rw [f0]; exact bulk_string s0
        have b1 : Rows.uptoBulk y1.1 = s1.size + 1 := by rw [f1]; exact bulk_string s1
        refine ⟨(s0, s1), ⟨by simp only; omega, by simp only; omega⟩, fun j u hj => ?_⟩
        have hj2 : j < 2 := (List.getElem?_eq_some_iff.1 hj).1
        have g := hg j u hj hj2
        rw [ha, Addr.add_mid, Addr.add_mid] at g
        exact g
    obtain ⟨L, hL, hq⟩ := pick m key
    refine ⟨L, Or.inr ⟨a.block, a.off, cap, by rw [hcs', hL, ← ha], flat_back (enc := Sm.mc) (k := 2) (fun _ => rfl) (by decide) L fun i x hx => (hq i x hx).2⟩, by omega, fun x hx => ?_⟩
    obtain ⟨i, hi⟩ := List.mem_iff_getElem?.1 hx
    exact (hq i x hi).1

set_option maxRecDepth 100000 in
/-- A list of replacements that came in, opened. -/
theorem open_swaps {H : Type} {enc : TypeId × Value → H} {W : World} {b0 fuel : Nat} {v : Value} {y : DataW H × List MemPlace} (hc : Cell.okWide Tryz.prog W .any b0 24 v) (hf : DataW.trod enc Tryz.prog W 0 (fun _ => true) true fuel 24 [v] = some y) (hk : Rows.uptoBulk y.1 ≤ 1048576) :
    ∃ L : List So, Sw.Rd W v L ∧ L.length ≤ 1048576 ∧ ∀ x ∈ L, x.1.size ≤ 1048576 ∧ x.2.1.size ≤ 1048576 ∧ x.2.2.size ≤ 1048576 := by
  rcases open_slice Tryz.underlying24 hf with ⟨hcs, _⟩ | ⟨a, m, cap, mm, n, D, Pl, hcs, _, hl, hm, hmm, hx, hel⟩
  · have hcs' : v = .slice none 0 0 := by simpa using hcs
    exact ⟨[], Or.inl ⟨hcs', rfl⟩, by simp, fun x hx => by cases hx⟩
  · have hcs' : v = .slice (some a) m cap := by simpa using hcs
    rw [hcs'] at hc
    have ha := spot23 Tryz.underlying24 hc
    have hd : y.1 = .slice ((List.range m).map D) ((List.range (mm - m)).map fun j => D (m + j)) := by rw [hx]
    rw [hd] at hk
    simp only [Rows.uptoBulk] at hk
    have hml : m ≤ 1048576 := by
      have h1 := bulk_len ((List.range m).map D)
      rw [List.length_map, List.length_range] at h1
      omega
    have key : ∀ i, i < m → ∃ x : So, (x.1.size ≤ 1048576 ∧ x.2.1.size ≤ 1048576 ∧ x.2.2.size ≤ 1048576) ∧ ∀ j u, (Sw.mc x)[j]? = some u → W.cell? ⟨a.block, a.off + i * 3 + j, none⟩ = some u := by
      intro i hi
      have hbi : Rows.uptoBulk (D i) ≤ 1048576 := by
        have h1 := bulk_mem (l := (List.range m).map D) (List.mem_map.2 ⟨i, List.mem_range.2 hi, rfl⟩)
        omega
      obtain ⟨cs', hc, ht⟩ := hel i (by rw [hmm]; simp; omega)
      rw [cells137f] at hc
      unfold World.cells? at hc
      rw [if_pos (Nat.zero_le _)] at hc
      obtain ⟨y0, y1, y2, k, hD, hcl, t0, t1, t2⟩ := trod_struct3 Tryz.underlying137 ht
      have hD : D i = .agg [y0.1, y1.1, y2.1] := (Prod.mk.inj hD).1
      rw [cells137f] at hcl
      rw [cells9f] at t0 t1 t2
      have hg : ∀ k v, cs'[k]? = some v → k < 3 → W.cell? ((a.add (i * 3)).add k) = some v := fun k v hk hk6 => by
        rw [← hk]
        exact mapM_some_get hc k k (by rw [List.getElem?_range hk6])
      match cs', hcl with
      | [c0, c1, c2], _ =>
        obtain ⟨s0, e0, f0, _⟩ := DataW.trod_string Tryz.underlying9 t0
        have e0' : c0 = .string s0 := by simpa using e0
        obtain ⟨s1, e1, f1, _⟩ := DataW.trod_string Tryz.underlying9 t1
        have e1' : c1 = .string s1 := by simpa using e1
        obtain ⟨s2, e2, f2, _⟩ := DataW.trod_string Tryz.underlying9 t2
        have e2' : c2 = .string s2 := by simpa using e2
        subst e0' e1' e2'
        rw [hD] at hbi
        simp only [Rows.uptoBulk, Rows.uptoBulkAll] at hbi
        have b0 : Rows.uptoBulk y0.1 = s0.size + 1 := by rw [f0]; exact bulk_string s0
        have b1 : Rows.uptoBulk y1.1 = s1.size + 1 := by rw [f1]; exact bulk_string s1
        have b2 : Rows.uptoBulk y2.1 = s2.size + 1 := by rw [f2]; exact bulk_string s2
        refine ⟨(s0, s1, s2), ⟨by simp only; omega, by simp only; omega, by simp only; omega⟩, fun j u hj => ?_⟩
        have hj2 : j < 3 := (List.getElem?_eq_some_iff.1 hj).1
        have g := hg j u hj hj2
        rw [ha, Addr.add_mid, Addr.add_mid] at g
        exact g
    obtain ⟨L, hL, hq⟩ := pick m key
    refine ⟨L, Or.inr ⟨a.block, a.off, cap, by rw [hcs', hL, ← ha], flat_back (enc := Sw.mc) (k := 3) (fun _ => rfl) (by decide) L fun i x hx => (hq i x hx).2⟩, by omega, fun x hx => ?_⟩
    obtain ⟨i, hi⟩ := List.mem_iff_getElem?.1 hx
    exact (hq i x hi).1

theorem flat_bound {α : Type} {f : α → List UInt8} {B : Nat} : ∀ L : List α, (∀ x ∈ L, (f x).length ≤ B) → (L.flatMap f).length ≤ L.length * B
  | [], _ => by simp
  | x :: L, h => by
    have h1 := h x (by simp)
    have h2 := flat_bound L fun y hy => h y (by simp [hy])
    rw [List.flatMap_cons, List.length_append, List.length_cons, Nat.add_mul, Nat.one_mul]
    omega

theorem fmt_small (p : ByteArray) (R X : List Mo) (S : List So) (hp : p.size ≤ 1048576) (hR : R.length ≤ 1048576) (hX : X.length ≤ 1048576) (hS : S.length ≤ 1048576)
    (bR : ∀ x ∈ R, x.1.size ≤ 1048576 ∧ x.2.size ≤ 1048576) (bX : ∀ x ∈ X, x.1.size ≤ 1048576 ∧ x.2.size ≤ 1048576) (bS : ∀ x ∈ S, x.1.size ≤ 1048576 ∧ x.2.1.size ≤ 1048576 ∧ x.2.2.size ≤ 1048576) :
    (fmtOf p (reqs R) (excs X) (reps S)).length ≤ 140737488355328 := by
  rw [fmt_len]
  have h1 := flat_bound (f := reqLine) (B := 4194304) R fun x hx => by have := bR x hx; rw [len_req]; omega
  have h2 := flat_bound (f := excLine) (B := 4194304) X fun x hx => by have := bX x hx; rw [len_exc]; omega
  have h3 := flat_bound (f := repLine) (B := 4194304) S fun x hx => by have := bS x hx; rw [len_rep]; omega
  omega

theorem bulk_only {H : Type} {d : DataW H} (hk : Rows.uptoSmall H [d] = true) : Rows.uptoBulk d ≤ 1048576 := by
  have h : Rows.uptoBulkAll [d] ≤ 1048576 := of_decide_eq_true hk
  simp only [Rows.uptoBulkAll] at h
  omega

theorem cellTypes26 : Tryz.prog.cellTypes Tryz.prog.depth 26 = some [9, 23, 23, 24] := by kernel_rfl

set_option maxRecDepth 100000 in
/-- The cells of a manifest by value. -/
theorem cells_ok {W : World} {b0 : Nat} {v0 v1 v2 v3 : Value} (h : Value.okWide Tryz.prog W .any b0 26 (.agg #[v0, v1, v2, v3])) : Cell.okWide Tryz.prog W .any b0 23 v1 ∧ Cell.okWide Tryz.prog W .any b0 23 v2 ∧ Cell.okWide Tryz.prog W .any b0 24 v3 := by
  simp only [Value.okWide, Tryz.underlying26] at h
  obtain ⟨cs, e, _, ts, hts, _, hr⟩ := h
  rw [cellTypes26] at hts
  obtain rfl := Option.some.inj hts
  obtain rfl : #[v0, v1, v2, v3] = cs := by injection e
  obtain ⟨u1, e1, k1⟩ := hr 1 v1 rfl
  obtain ⟨u2, e2, k2⟩ := hr 2 v2 rfl
  obtain ⟨u3, e3, k3⟩ := hr 3 v3 rfl
  obtain rfl : 23 = u1 := by simpa using e1
  obtain rfl : 23 = u2 := by simpa using e2
  obtain rfl : 24 = u3 := by simpa using e3
  exact ⟨k1, k2, k3⟩

set_option maxRecDepth 100000 in
theorem contractF (H : Type) (enc : TypeId × Value → H) (W : World) (base : Nat) (args : Array Value) (ds gs : List (DataW H)) (before : List MemPlace) (hm : Dr.Ml W)
    (hval0 : ∀ (j : Nat) t v, Tryz.f4.params[j]? = some t → args[j]? = some v → Value.okWide Tryz.prog W .any base t v)
    (hW : DataW.Whole enc Tryz.prog Tryz.f4.params.toList Rows.formatsSpec.vars false W args.toList ds gs before) (hk : Rows.uptoSmall H (ds ++ gs) = true) :
    Calls Tryz.prog 4 args W fun e W' => ∃ v, e = .returned v ∧ Rows.formatsSpec.post enc Tryz.prog Tryz.f4 false true false false W args v W' := by
  have hval := hval0
  have hW' := hW
  obtain ⟨p, q, hA0, hV, rfl, hfz, hnd⟩ := hW
  have hA : DataW.TrodAll enc Tryz.prog W 0 (fun _ => true) true Tryz.f4.params.toList args.toList ds p := hA0
  rw [Tryz.params4] at hA hval
  obtain ⟨v0, vs0, d0, ds0, p0, q0, hargs, rfl, rfl, h0, r0⟩ := trodAll_cons hA
  obtain ⟨rfl, rfl, rfl⟩ := trodAll_nil r0
  obtain rfl : args = #[v0] := by cases args; simp_all
  obtain ⟨rfl, rfl⟩ := trodVars_none hV
  have hlt := hW'.lt
  have hbk : Rows.uptoBulk d0 ≤ 1048576 := bulk_only (by simpa using hk)
  have hv0 := hval 0 26 v0 rfl rfl
  obtain ⟨c0, c1, c2, c3, y0, y1, y2, y3, n, rfl, hd, hpp, t0, t1, t2, t3⟩ := open_agg4 Tryz.underlying26 (by kernel_rfl) cells26f hv0 h0
  obtain ⟨o1, o2, o3⟩ := cells_ok hv0
  obtain ⟨s, e0, f0, _⟩ := DataW.trod_string Tryz.underlying9 t0
  have e0' : c0 = .string s := by simpa using e0
  subst e0'
  have hbk' := hbk
  rw [hd] at hbk'
  simp only [Rows.uptoBulk, Rows.uptoBulkAll] at hbk'
  have b0 : Rows.uptoBulk y0.1 = s.size + 1 := by rw [f0]; exact bulk_string s
  obtain ⟨R, hR, lR, bR⟩ := open_mods o1 t1 (by omega)
  obtain ⟨X, hX, lX, bX⟩ := open_mods o2 t2 (by omega)
  obtain ⟨S, hS, lS, bS⟩ := open_swaps o3 t3 (by omega)
  clear hA0 hval0
  refine (formats_any s c1 c2 c3 R X S W hm (by omega) (by omega) (by omega) hR hX hS (fmt_small s R X S (by omega) lR lX lS bR bX bS)).mono fun e W' ⟨he, hg⟩ => ?_
  subst he
  have t2 := Below.trod laidOutF (by kernel_rfl) (of_decide_eq_true (by kernel_rfl)) h0 hg (fun x hx => hlt x (by simp [hx]))
  have hp : Rows.formatsSpec.post enc Tryz.prog Tryz.f4 false true false false W _ (.bool true) W' :=
    ⟨_, _, _, [], _, [], hW', trodAll_cons_mk (shut_bool Tryz.underlying4 _) trodAll_mk0, trodAll_cons_mk t2 trodAll_mk0, rfl, hg.frame _, fun h => by cases h⟩
  exact ⟨_, rfl, hp⟩

theorem laid_metF (os : Os) (args : Array Value) : laidMetH Tryz.prog Rows.formatsUptoRow.laid ((World.laidAll Tryz.prog os Rows.formatsUptoRow.laid).forCall (fun _ _ => 0) ⟨#[], args, []⟩).memory := by
  rw [MakeChecks.laidMetH_plain _ _ _ (by kernel_rfl)]
  exact laidMet_laidAll _ (by kernel_rfl) (by kernel_rfl)

set_option maxRecDepth 100000 in
theorem readsF (os : Os) {H : Type} (enc : TypeId × Value → H) : ∃ places, DataW.whole enc Tryz.prog ((World.laidAll Tryz.prog os Rows.formatsUptoRow.laid).forCall (fun _ _ => 0) ⟨#[], #[.agg #[.string ByteArray.empty, .slice none 0 0, .slice none 0 0, .slice none 0 0]], []⟩).memory Tryz.f4.params.toList Rows.formatsSpec.vars false #[Value.agg #[.string ByteArray.empty, .slice none 0 0, .slice none 0 0, .slice none 0 0]].toList 8 = some ([.agg [.lit (.string []), .nil, .nil, .nil]], [], places) :=
  ⟨[], by kernel_rfl⟩

set_option maxRecDepth 100000 in
theorem liftedF (os : Os) (started : os.Started) (H : Type) (enc : TypeId × Value → H) (F : Stop.Interp) :
    ReturnsInHanded {} Tryz.checked os 4 .any ((Rows.OpenSpec.upto Rows.formatsSpec).preRow enc Tryz.prog Tryz.f4 Rows.formatsUptoRow.domain false Rows.formatsUptoRow.laid) (((Rows.OpenSpec.upto Rows.formatsSpec).at F).post enc Tryz.prog Tryz.f4 false true false false) := by
  obtain ⟨places, hx⟩ := readsF os enc
  have hok : Input.okWideB Tryz.prog ((World.laidAll Tryz.prog os Rows.formatsUptoRow.laid).forCall (fun _ _ => 0) ⟨#[], #[.agg #[.string ByteArray.empty, .slice none 0 0, .slice none 0 0, .slice none 0 0]], []⟩) 4 ⟨#[], #[.agg #[.string ByteArray.empty, .slice none 0 0, .slice none 0 0, .slice none 0 0]], []⟩ = true := by kernel_rfl
  refine returnsInHanded_of_row (C := Tryz.checked) (s := Rows.OpenSpec.upto Rows.formatsSpec) ownF started (by kernel_rfl) Tryz.func4
    ⟨World.laidAll Tryz.prog os Rows.formatsUptoRow.laid, fun _ _ => 0, ⟨#[], #[.agg #[.string ByteArray.empty, .slice none 0 0, .slice none 0 0, .slice none 0 0]], []⟩, World.laidAll_os _ _ _, World.shaped_of_ZipB (by kernel_rfl) (by kernel_rfl), (Input.okWide_of_okWideB (base := 0) hok).1, (Input.okWide_of_okWideB hok).2,
      OpenSpec.preRow_of_cond 8 hx (by kernel_rfl) (fun k hk => by cases hk; kernel_rfl) (by kernel_rfl) (laid_metF os _), by
        simp only [Assume.holds]
        exact ⟨by simp, by simp, by simp, by simp, by simp⟩⟩ ?_
  intro W base args ds gs before hval hW _ hcond _ _ hsh _
  exact contractF H enc W base args ds gs before (Tryz.laysM146.s1_3 _ hsh) hval hW (hcond _ rfl)

end Fm
end Go.Proofs.YtelmkfkgpnadnaaGreatDoor
