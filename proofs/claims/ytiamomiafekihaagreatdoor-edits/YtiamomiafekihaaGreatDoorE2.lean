/-
  Edits: the document's list of texts.
-/
import Derived.Test.YtiamomiafekihaaGreatDoorE1
import Derived.Test.YtiamomiafekihaaGreatDoorG0
import Derived.Deep.LoopGhost
namespace Go.Proofs.YtiamomiafekihaaGreatDoor
open Go.RowKit
namespace Ed

variable {w w' : World}

/-- A text under a path and a version. -/
structure Tt where
  path : ByteArray
  ver : ByteArray
  s : ByteArray

def tcells (l : List Tt) : List Value := l.flatMap fun x => [.string x.path, .string x.ver, .string x.s]
def hit (p v : ByteArray) (x : Tt) : Bool := x.path.toList == p.toList && x.ver.toList == v.toList
/-- Where it is. -/
def at? (p v : ByteArray) (l : List Tt) : Int := match l.findIdx? (hit p v) with | some i => i | none => -1

theorem tcells_get : ∀ (l : List Tt) (j : Nat) (h : j < l.length), (tcells l)[j * 3]? = some (.string l[j].path) ∧ (tcells l)[j * 3 + 1]? = some (.string l[j].ver) ∧ (tcells l)[j * 3 + 2]? = some (.string l[j].s)
  | x :: r, 0, _ => ⟨rfl, rfl, rfl⟩
  | x :: r, j + 1, h => by
    have e : tcells (x :: r) = .string x.path :: .string x.ver :: .string x.s :: tcells r := rfl
    have ih := tcells_get r j (by simpa using h)
    rw [e]
    refine ⟨?_, ?_, ?_⟩
    · rw [show (j + 1) * 3 = j * 3 + 1 + 1 + 1 by omega]; simpa using ih.1
    · rw [show (j + 1) * 3 + 1 = j * 3 + 1 + 1 + 1 + 1 by omega]; simpa using ih.2.1
    · rw [show (j + 1) * 3 + 2 = j * 3 + 2 + 1 + 1 + 1 by omega]; simpa using ih.2.2

theorem at_hit {p v : ByteArray} {l : List Tt} {i : Nat} (hi : i < l.length) (hb : ∀ j (h : j < l.length), j < i → hit p v l[j] = false) (h : hit p v l[i] = true) : at? p v l = i := by
  unfold at?
  have : l.findIdx? (hit p v) = some i := by
    rw [List.findIdx?_eq_some_iff_getElem]
    exact ⟨hi, h, fun j hj => by rw [hb j (by omega) hj]; decide⟩
  rw [this]

theorem at_none {p v : ByteArray} {l : List Tt} (hb : ∀ j (h : j < l.length), hit p v l[j] = false) : at? p v l = -1 := by
  unfold at?
  have : l.findIdx? (hit p v) = none := by
    rw [List.findIdx?_eq_none_iff]
    intro x hx
    obtain ⟨j, hj, e⟩ := List.getElem_of_mem hx
    rw [← e]; exact hb j hj
  rw [this]

set_option maxRecDepth 100000 in
set_option maxHeartbeats 1000000 in
theorem find_any (p v : ByteArray) (l : List Tt) (lv : Value) (B : Nat) (w : World) (hown : w.ownsRow B 84 3 lv l.length (tcells l)) (hl : l.length ≤ 100000) :
    Calls Tryz.prog 35 #[lv, .string p, .string v] w fun e w' => e = .returned (.int .i64 (at? p v l)) ∧ Below w.heap.size w w' := by
  obtain ⟨la, lc, hlv⟩ : ∃ a c, lv = .slice a l.length c := by
    rcases hown.2 with ⟨e1, e2⟩ | ⟨g, c, _, e1, _⟩
    · exact ⟨none, 0, by rw [e1, e2]⟩
    · exact ⟨_, c, e1⟩
  subst hlv
  have HO : Hid (w.ownsRow B 84 3 (.slice la l.length lc) l.length (tcells l)) := hown
  clear hown
  generalize hr : at? p v l = r
  have HR : Hid (at? p v l = r) := hr
  clear hr
  go_enter Tryz.func35, Tryz.ntmps35
  go_wp2
  go_loopg [7] l.length (fun gg iv wr => ∃ i : Nat, iv = .int .i64 i ∧ i ≤ l.length ∧ l.length - i ≤ gg ∧ Below w.heap.size w wr ∧ Hid (∀ j (h : j < l.length), j < i → hit p v l[j] = false))
  case atStart => exact ⟨0, rfl, by omega, by omega, Below.refl _ _, fun j _ h => by omega⟩
  case round =>
    obtain ⟨i, rfl, hi, hg, hb, HL⟩ := hrel
    by_cases hlt : i < l.length
    · have hltI : (i : Int) < (l.length : Int) := by omega
      obtain ⟨g, hla⟩ : ∃ g, la = some ⟨g, 0, none⟩ := by
        obtain ⟨g, c, e⟩ := own_some HO.out (by omega)
        injection e with e1
        exact ⟨g, e1⟩
      subst hla
      obtain ⟨a1, a2, _⟩ := tcells_get l i hlt
      have hgl := (HO.out.lt g rfl).2
      have d1 : wr.cell? ⟨g, i * 3, none⟩ = some (.string l[i].path) := by rw [hb.cell (p := ⟨g, i * 3, none⟩) hgl, HO.out.cellAt (i * 3) (by omega)]; exact a1
      have d2 : wr.cell? ⟨g, i * 3 + 1, none⟩ = some (.string l[i].ver) := by rw [hb.cell (p := ⟨g, i * 3 + 1, none⟩) hgl, HO.out.cellAt (i * 3 + 1) (by omega)]; exact a2
      have HH : Hid (hit p v l[i] = ((l[i].path.toList == p.toList) && (l[i].ver.toList == v.toList))) := rfl
      have HAt : Hid (hit p v l[i] = true → (i : Int) = r) := fun h => by rw [← HR.out]; exact (at_hit hlt HL.out h).symm
      have HLn : Hid (hit p v l[i] = false → ∀ j (h : j < l.length), j < i + 1 → hit p v l[j] = false) := fun h j hj hji => by
        by_cases e : j = i
        · subst e; exact h
        · exact HL.out j hj (by omega)
      clear a1 a2 HL
      generalize l[i].path = xp at *
      generalize l[i].ver = xv at *
      generalize hit p v l[i] = hh at *
      cases h1 : (xp.toList == p.toList)
      · have hh0 : hh = false := by rw [HH.out, h1]; rfl
        have HLn := HLn.out hh0
        have HLm : Hid (∀ j (h : j < l.length), j < i + 1 → hit p v l[j] = false) := HLn
        clear HLn HAt HH hh0
        go_wp2
        go_roundg (l.length - (i + 1))
        case measure => omega
        case rel => exact ⟨i + 1, by go_num, by omega, by omega, hb, HLm⟩
      · cases h2 : (xv.toList == v.toList)
        · have hh0 : hh = false := by rw [HH.out, h1, h2]; rfl
          have HLn := HLn.out hh0
          have HLm : Hid (∀ j (h : j < l.length), j < i + 1 → hit p v l[j] = false) := HLn
          clear HLn HAt HH hh0
          go_wp2
          go_roundg (l.length - (i + 1))
          case measure => omega
          case rel => exact ⟨i + 1, by go_num, by omega, by omega, hb, HLm⟩
        · have hh1 : hh = true := by rw [HH.out, h1, h2]; rfl
          have HF : Hid ((i : Int) = r) := HAt.out hh1
          clear HLn HAt HH hh1
          go_wp2
          go_ret
          exact ⟨ret_int HF.out, hb⟩
    · have hltI : ¬ ((i : Int) < (l.length : Int)) := by omega
      have HF : Hid (-1 = r) := by
        show -1 = r
        rw [← HR.out]
        exact (at_none fun j hj => HL.out j hj (by omega)).symm
      clear HL
      go_wp2
      go_ret
      exact ⟨ret_int HF.out, hb⟩

theorem info234 : ∃ i, Tryz.prog.info? 84 = some i ∧ i.zero = some (.agg #[.string ByteArray.empty, .string ByteArray.empty, .string ByteArray.empty]) ∧ i.size = 3 ∧ i.bytes = 48 := by
  have h : (Tryz.prog.info? 84).map (fun i => (i.zero, i.size, i.bytes)) = some (some (.agg #[.string ByteArray.empty, .string ByteArray.empty, .string ByteArray.empty]), 3, 48) := by kernel_rfl
  rw [Option.map_eq_some_iff] at h
  obtain ⟨i, h1, h2⟩ := h
  simp only [Prod.mk.injEq] at h2
  exact ⟨i, h1, h2.1, h2.2.1, h2.2.2⟩

theorem cell_three' (w : World) (a b c : Value) (t : TypeId) : ∀ j u, [a, b, c][j]? = some u → (w.alloc (.cells #[a, b, c] t)).cell? ((⟨w.heap.size, 0, none⟩ : Addr).add j) = some u := by
  intro j u h
  match j, h with
  | 0, h => simp at h; subst h; simp [Addr.add]
  | 1, h => simp at h; subst h; simp [Addr.add]
  | 2, h => simp at h; subst h; simp [Addr.add]

/-- All but one, so far. -/
def but (l : List Tt) (k i : Nat) : List Tt := (l.take i).eraseIdx k

theorem tcells_snoc (l : List Tt) (x : Tt) : tcells (l ++ [x]) = tcells l ++ [.string x.path, .string x.ver, .string x.s] := by simp [tcells]

theorem but_skip (l : List Tt) (k : Nat) (hk : k < l.length) : but l k (k + 1) = but l k k := by
  have e : l.take (k + 1) = l.take k ++ [l[k]] := (List.take_append_getElem hk).symm
  have hl : (l.take k).length = k := by rw [List.length_take]; omega
  have e2 : (l.take k).eraseIdx k = l.take k := List.eraseIdx_of_length_le (by omega)
  unfold but
  rw [e, e2, List.eraseIdx_append_of_length_le (by omega), hl, Nat.sub_self]
  simp

theorem but_more (l : List Tt) (k i : Nat) (hi : i < l.length) (hne : i ≠ k) : but l k (i + 1) = but l k i ++ [l[i]] := by
  have e : l.take (i + 1) = l.take i ++ [l[i]] := (List.take_append_getElem hi).symm
  have hl : (l.take i).length = i := by rw [List.length_take]; omega
  unfold but
  rw [e]
  by_cases h : k < i
  · rw [List.eraseIdx_append_of_lt_length (by omega)]
  · have e2 : (l.take i).eraseIdx k = l.take i := List.eraseIdx_of_length_le (by omega)
    rw [e2, List.eraseIdx_append_of_length_le (by omega), List.eraseIdx_of_length_le (by rw [hl]; simp; omega)]

set_option maxRecDepth 100000 in
set_option maxHeartbeats 1000000 in
theorem without_any (l : List Tt) (k : Nat) (lv : Value) (B : Nat) (w : World) (hown : w.ownsRow B 84 3 lv l.length (tcells l)) (hl : l.length ≤ 100000) :
    Calls Tryz.prog 36 #[lv, .int .i64 k] w fun e w' => ∃ ov, e = .returned ov ∧ w'.ownsRow w.heap.size 84 3 ov (l.eraseIdx k).length (tcells (l.eraseIdx k)) ∧ Below w.heap.size w w' := by
  obtain ⟨la, lc, hlv⟩ : ∃ a c, lv = .slice a l.length c := by
    rcases hown.2 with ⟨e1, e2⟩ | ⟨g, c, _, e1, _⟩
    · exact ⟨none, 0, by rw [e1, e2]⟩
    · exact ⟨_, c, e1⟩
  subst hlv
  have HO : Hid (w.ownsRow B 84 3 (.slice la l.length lc) l.length (tcells l)) := hown
  clear hown
  obtain ⟨i9, hi1, hi2, hi3, hi4⟩ := info234
  have HI : Hid (Tryz.prog.info? 84 = some i9 ∧ i9.zero = some (.agg #[.string ByteArray.empty, .string ByteArray.empty, .string ByteArray.empty]) ∧ i9.size = 3 ∧ i9.bytes = 48) := ⟨hi1, hi2, hi3, hi4⟩
  clear hi1 hi2 hi3 hi4
  go_enter Tryz.func36, Tryz.ntmps36
  go_wp2
  go_loopg [5, 6] l.length (fun gg ov iv wr => ∃ (i : Nat) (M : List Tt), iv = .int .i64 i ∧ i ≤ l.length ∧ l.length - i ≤ gg ∧ M.length ≤ i ∧ Hid (M = but l k i) ∧ Hid (wr.ownsRow w.heap.size 84 3 ov M.length (tcells M)) ∧ Below w.heap.size w wr)
  case atStart => exact ⟨0, [], rfl, by omega, by omega, by simp, rfl, World.ownsRow_nil _ _ _ _, Below.refl _ _⟩
  case round =>
    obtain ⟨i, M, rfl, hi, hg, hM, HM, HV, hb⟩ := hrel
    by_cases hlt : i < l.length
    · have hltI : (i : Int) < (l.length : Int) := by omega
      by_cases hik : i = k
      · have hq : ((i : Int) != (k : Int)) = false := by rw [hik]; simp
        have hq2 : ((i : Int) == (k : Int)) = true := by rw [hik]; simp
        have HMn : Hid (M = but l k (i + 1)) := by
          show M = _
          rw [HM.out, hik]
          exact (but_skip l k (by omega)).symm
        clear hik
        go_wp2
        go_roundg (l.length - (i + 1))
        case measure => omega
        case rel => exact ⟨i + 1, M, by go_num, by omega, by omega, by omega, HMn, HV, hb⟩
      · have hq : ((i : Int) != (k : Int)) = true := by simp; omega
        have hq2 : ((i : Int) == (k : Int)) = false := by rw [beq_eq_false_iff_ne]; omega
        obtain ⟨g, hla⟩ : ∃ g, la = some ⟨g, 0, none⟩ := by
          obtain ⟨g, c, e⟩ := own_some HO.out (by omega)
          injection e with e1
          exact ⟨g, e1⟩
        subst hla
        obtain ⟨a1, a2, a3⟩ := tcells_get l i hlt
        have hgl := (HO.out.lt g rfl).2
        have d1 : wr.cell? ⟨g, i * 3, none⟩ = some (.string l[i].path) := by rw [hb.cell (p := ⟨g, i * 3, none⟩) hgl, HO.out.cellAt (i * 3) (by omega)]; exact a1
        have d2 : wr.cell? ⟨g, i * 3 + 1, none⟩ = some (.string l[i].ver) := by rw [hb.cell (p := ⟨g, i * 3 + 1, none⟩) hgl, HO.out.cellAt (i * 3 + 1) (by omega)]; exact a2
        have d3 : wr.cell? ⟨g, i * 3 + 2, none⟩ = some (.string l[i].s) := by rw [hb.cell (p := ⟨g, i * 3 + 2, none⟩) hgl, HO.out.cellAt (i * 3 + 2) (by omega)]; exact a3
        have HMn : Hid (M ++ [l[i]] = but l k (i + 1)) := by
          show _ = _
          rw [but_more l k i hlt hik, HM.out]
        have HX : Hid (tcells (M ++ [l[i]]) = tcells M ++ [.string l[i].path, .string l[i].ver, .string l[i].s]) := tcells_snoc M l[i]
        generalize l[i] = x at *
        have hbs := hb.size
        clear a1 a2 a3 hik
        generalize tcells M = xs at *
        generalize x.path = xp at *
        generalize x.ver = xv at *
        generalize x.s = xx at *
        go_wp2_with (at_builtin; refine wpList_append_own_at _ rfl _ _ 54 rfl w.heap.size 84 i9 (.agg #[.string ByteArray.empty, .string ByteArray.empty, .string ByteArray.empty]) 3 48 Tryz.underlying54 HI.out.1 HI.out.2.1 HI.out.2.2.1 HI.out.2.2.2 rfl (by decide) _ _ _ rfl (HV.out.alloc _) ⟨wr.heap.size, 0, none⟩ 1 1 [.string xp, .string xv, .string xx] rfl rfl ?_ ?_ ?_ ?_ ?_ ?_)
        all_goals first
          | exact cell_three' _ _ _ _ _
          | (show ∀ u ∈ [Value.string xp, Value.string xv, Value.string xx], u.oneCell' = true; intro u hu; simp at hu; rcases hu with rfl | rfl | rfl <;> rfl)
          | (show M.length + 1 ≤ maxLen; unfold maxLen; omega)
          | (show (M.length + 1) * 48 ≤ 140737488355328; omega)
          | (show w.heap.size ≤ (wr.alloc _).heap.size; simp; omega)
          | skip
        intro ov2 w2 hown' hgrow _ _
        have hb2 : Below w.heap.size w w2 := (hb.alloc hbs _).grown hgrow (by simp; omega) (fun b e => (HV.out.lt b e).1)
        have HV2 : Hid (w2.ownsRow w.heap.size 84 3 ov2 (M ++ [x]).length (tcells (M ++ [x]))) := by
          show w2.ownsRow w.heap.size 84 3 ov2 (M ++ [x]).length (tcells (M ++ [x]))
          rw [HX.out, List.length_append]
          exact hown'
        clear hown' hgrow HV d1 d2 d3 HX
        go_wp2
        go_roundg (l.length - (i + 1))
        case measure => omega
        case rel => exact ⟨i + 1, M ++ [x], by go_num, by omega, by omega, by simp; omega, HMn, HV2, hb2⟩
    · have hltI : ¬ ((i : Int) < (l.length : Int)) := by omega
      have HF : Hid (wr.ownsRow w.heap.size 84 3 u5 (l.eraseIdx k).length (tcells (l.eraseIdx k))) := by
        have h := HV.out
        have e : M = l.eraseIdx k := by
          rw [HM.out]
          unfold but
          rw [List.take_of_length_le (by omega)]
        rw [e] at h
        exact h
      clear HV HM
      go_wp2
      go_ret
      exact ⟨_, rfl, HF.out, hb⟩

end Ed
end Go.Proofs.YtiamomiafekihaaGreatDoor
