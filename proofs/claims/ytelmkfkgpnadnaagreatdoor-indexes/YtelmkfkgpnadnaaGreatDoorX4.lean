/-
  The program's Index and the document's: one answer.
-/
import Derived.Test.YtelmkfkgpnadnaaGreatDoorX3
namespace Go.Proofs.YtelmkfkgpnadnaaGreatDoor
open Go.RowKit

variable {w w' : World}

set_option maxRecDepth 100000 in
set_option maxHeartbeats 4000000 in
theorem textsIndex_long (s : ByteArray) (w : World) (hs : 2000 < s.size) :
    Calls Tryz.prog 121 #[.string s] w fun e w' => ∃ sv, e = .returned (.tuple #[.slice none 0 0, sv]) ∧ w'.ownsRow w.heap.size 45 3 sv 1 (scells [(0, 0, 1)]) ∧ Below w.heap.size w w' := by
  have hst : ∀ (W : World) (a : Addr), (store a (.func (.func 165) #[] #[])).run Tryz.prog W = stored Tryz.prog W a (.func (.func 165) #[] #[]) .plain := fun W a => run_store Tryz.prog W a _ _ rfl
  have kr := read_long s w.heap.size (w.alloc (.cells #[.func (.func 165) #[] #[], .string ⟨#[]⟩, .int .i64 0, .int .i64 0, .map none, .slice none 0 0] 151)) hs
  have HBa : Hid (Below w.heap.size w (w.alloc (.cells #[.func (.func 165) #[] #[], .string ⟨#[]⟩, .int .i64 0, .int .i64 0, .map none, .slice none 0 0] 151))) := (Below.refl _ _).alloc (Nat.le_refl _) _
  go_enter Tryz.func121, Tryz.ntmps121
  go_wp2_with (go_at_call 86; fail)
  generalize w.alloc (.cells #[.func (.func 165) #[] #[], .string ⟨#[]⟩, .int .i64 0, .int .i64 0, .map none, .slice none 0 0] 151) = W1 at *
  go_at_call 86
  refine kr.mono ?_
  rintro e w2 ⟨sv, rfl, hown, hb⟩
  clear kr hst
  obtain ⟨la, lc, rfl⟩ := own_slice' hown
  have HO : Hid (w2.ownsRow w.heap.size 45 3 (.slice la 1 lc) 1 (scells [(0, 0, 1)]) ∧ Below w.heap.size w w2) := by
    refine ⟨⟨hown.1, ?_⟩, HBa.out.trans (hb.mono HBa.out.size)⟩
    rcases hown.2 with hn | ⟨g, cap, cur, hv, hg, rest⟩
    · exact .inl hn
    · exact .inr ⟨g, cap, cur, hv, by have := HBa.out.size; omega, rest⟩
  clear hown hb
  go_wp2
  go_ret2
  exact ⟨_, rfl, HO.out.1, HO.out.2⟩

/-- Two lists came out: these texts, these slips. -/
def Out (base : Nat) (vs : List ByteArray) (slips : List (Nat × Nat × Nat)) (w' : World) (ov sv : Value) : Prop :=
  vs.length ≤ 2001 ∧ slips.length ≤ 2001 ∧ (slips ≠ [] → ov = .slice none 0 0) ∧ (slips = [] → sv = .slice none 0 0) ∧ w'.ownsRow base 9 1 ov vs.length (vcells vs) ∧ w'.ownsRow base 45 3 sv slips.length (scells slips)

def unoln (x : Tx.Ln) : OLn := (x.1, x.2.map fun y => (y.1, ⟨y.2.toArray⟩))

theorem unoln_olns (l : List OLn) : (olns l).map unoln = l := by
  unfold olns
  rw [List.map_map]
  conv => rhs; rw [← List.map_id l]
  apply List.map_congr_left
  intro x _
  obtain ⟨n, ws⟩ := x
  simp only [Function.comp, unoln, wtoks, List.map_map, id_eq, Prod.mk.injEq, true_and]
  conv => rhs; rw [← List.map_id ws]
  apply List.map_congr_left
  intro y _
  obtain ⟨a, b⟩ := y
  simp

def ixGot (s : ByteArray) : Tx.Got := (Tx.docLines [] 1 [] false false 0 s.data.toList).foldl (Tx.stepDoc true ipF 20) got0

/-- The versions that an index's text names, in order; its slips. -/
def ixSlips (s : ByteArray) : List (Nat × Nat × Nat) := if s.size ≤ 2000 then (ixGot s).slips else [(0, 0, 1)]
def ixVers (s : ByteArray) : List ByteArray := if s.size ≤ 2000 ∧ (ixGot s).slips = [] then insAll ((ixGot s).good.map unoln) else []

theorem ix_out {s : ByteArray} (hs : s.size ≤ 2000) {good : List OLn} {slips : List (Nat × Nat × Nat)} {m base : Nat} {ov sv : Value} (hR : ixGot s = ⟨olns good, slips, m, 0⟩) (h1 : good.length ≤ 2001) (h2 : slips.length ≤ 2001)
    (hx : (slips ≠ [] ∧ ov = .slice none 0 0 ∧ w'.ownsRow base 45 3 sv slips.length (scells slips)) ∨ (slips = [] ∧ sv = .slice none 0 0 ∧ w'.ownsRow base 9 1 ov good.length (vcells (insAll good)))) : Out base (ixVers s) (ixSlips s) w' ov sv := by
  have e1 : ixSlips s = slips := by unfold ixSlips; rw [if_pos hs, hR]
  rw [e1]
  rcases hx with ⟨hne, rfl, ho⟩ | ⟨rfl, rfl, ho⟩
  · have e2 : ixVers s = [] := by unfold ixVers; rw [if_neg (fun h => hne (by have := h.2; rw [hR] at this; exact this))]
    rw [e2]
    exact ⟨by simp, h2, fun _ => rfl, fun h => absurd h hne, World.ownsRow_nil _ _ _ _, ho⟩
  · have e2 : ixVers s = insAll good := by
      unfold ixVers
      rw [if_pos ⟨hs, by rw [hR]⟩, hR]
      show insAll ((olns good).map unoln) = _
      rw [unoln_olns]
    have hl := insAll_len good
    rw [e2]
    exact ⟨by omega, h2, fun h => absurd rfl h, fun _ => rfl, by rw [hl]; exact ho, World.ownsRow_nil _ _ _ _⟩

theorem textsIndex_out (s : ByteArray) (w : World) (hm : Ml w) :
    Calls Tryz.prog 121 #[.string s] w fun e w' => ∃ ov sv, e = .returned (.tuple #[ov, sv]) ∧ Out w.heap.size (ixVers s) (ixSlips s) w' ov sv ∧ Below w.heap.size w w' := by
  by_cases hs : s.size ≤ 2000
  · refine (textsIndex_any s w hs hm).mono ?_
    rintro e w' ⟨good, slips, m, ov, sv, rfl, hR, _, h1, h2, hb, hx⟩
    refine ⟨ov, sv, rfl, ix_out hs (m := m) ?_ h1 h2 hx, hb⟩
    unfold ixGot
    rw [Tx.lines_same]
    exact hR
  · refine (textsIndex_long s w (by omega)).mono ?_
    rintro e w' ⟨sv, rfl, ho, hb⟩
    have e1 : ixSlips s = [(0, 0, 1)] := by unfold ixSlips; rw [if_neg hs]
    have e2 : ixVers s = [] := by unfold ixVers; rw [if_neg (fun h => hs h.1)]
    rw [e1, e2]
    exact ⟨_, sv, rfl, ⟨by simp, by simp, fun _ => rfl, fun h => (by cases h), World.ownsRow_nil _ _ _ _, ho⟩, hb⟩

set_option maxHeartbeats 1000000 in
/-- The program's Index. -/
theorem progIndex (s : ByteArray) (w : World) (hm : Ml w) :
    Calls Tryz.prog 81 #[.string s] w fun e w' => ∃ ov sv, e = .returned (.tuple #[ov, sv]) ∧ Out w.heap.size (ixVers s) (ixSlips s) w' ov sv ∧ Below w.heap.size w w' := by
  have k := textsIndex_out s w hm
  go_enter Tryz.func81, Tryz.ntmps81
  go_wp2_with (go_at_call 121; fail)
  go_at_call 121
  refine k.mono ?_
  rintro e w2 ⟨ov, sv, rfl, hO, hb⟩
  clear k
  have HO : Hid (Out w.heap.size (ixVers s) (ixSlips s) w2 ov sv ∧ Below w.heap.size w w2) := ⟨hO, hb⟩
  clear hO hb
  go_wp2
  go_ret2
  exact ⟨_, _, rfl, HO.out.1, HO.out.2⟩

/-- The document's. -/
theorem docIndex (s : ByteArray) (w : World) :
    Calls Tryz.prog 82 #[.string s] w fun e w' => ∃ ov sv, e = .returned (.tuple #[ov, sv]) ∧ Out w.heap.size (ixVers s) (ixSlips s) w' ov sv ∧ Below w.heap.size w w' := by
  by_cases hs : s.size ≤ 2000
  · refine (refIndex_any s w hs).mono ?_
    rintro e w' ⟨good, slips, m, ov, sv, rfl, hR, _, h1, h2, hb, hx⟩
    exact ⟨ov, sv, rfl, ix_out hs (m := m) hR h1 h2 hx, hb⟩
  · refine (refIndex_long s w (by omega)).mono ?_
    rintro e w' ⟨sv, rfl, ho, hb⟩
    have e1 : ixSlips s = [(0, 0, 1)] := by unfold ixSlips; rw [if_neg hs]
    have e2 : ixVers s = [] := by unfold ixVers; rw [if_neg (fun h => hs h.1)]
    rw [e1, e2]
    exact ⟨_, sv, rfl, ⟨by simp, by simp, fun _ => rfl, fun h => (by cases h), World.ownsRow_nil _ _ _ _, ho⟩, hb⟩

end Go.Proofs.YtelmkfkgpnadnaaGreatDoor
