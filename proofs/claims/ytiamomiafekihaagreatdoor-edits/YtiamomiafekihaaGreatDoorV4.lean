/-
  The document's answer: the walk of the reading of a version.
-/
import Derived.Test.YtiamomiafekihaaGreatDoorV2
import Derived.Test.YtiamomiafekihaaGreatDoorV3
namespace Go.Proofs.YtiamomiafekihaaGreatDoor
open Go.RowKit

/-- A slice of numbers. -/
def NumOf (w : World) (v : Value) (ns : List (List UInt8)) : Prop :=
  ∃ b c, v = .slice (some ⟨b, 0, none⟩) ns.length c ∧ b < w.heap.size ∧ ∀ j, j < ns.length → w.cell? ⟨b, j, none⟩ = some (.int .i64 (Pv.val ns[j]!))

theorem NumOf.below {w w' : World} {v : Value} {ns : List (List UInt8)} (h : NumOf w v ns) (hb : Below w.heap.size w w') : NumOf w' v ns := by
  obtain ⟨b, c, h1, h3, h4⟩ := h
  exact ⟨b, c, h1, Nat.lt_of_lt_of_le h3 hb.size, fun j hj => by rw [hb.cell (p := ⟨b, j, none⟩) h3]; exact h4 j hj⟩

theorem numOf_owns {w : World} {base : Nat} {v : Value} {l : List (List UInt8)} (h : w.ownsRow base 3 1 v l.length (l.map fun d => Value.int .i64 (Pv.val d))) (hpos : 0 < l.length) : NumOf w v l := by
  obtain ⟨h1, h2⟩ := h
  rcases h2 with ⟨_, h⟩ | ⟨g, cap, cur, hv, hg, hh, hc, hm, hs, ht⟩
  · omega
  · refine ⟨g, cap, hv, ?_, fun j hj => ?_⟩
    · apply Classical.byContradiction
      intro hn
      rw [Array.getElem?_eq_none (by omega)] at hh
      simp at hh
    · rw [World.cell?]
      dsimp only
      rw [hh]
      dsimp only
      have e : cur.toList[j]? = some (.int .i64 (Pv.val l[j]!)) := by
        have : (cur.toList.take (l.length * 1))[j]? = cur.toList[j]? := by rw [List.getElem?_take, if_pos (by omega)]
        rw [← this, ht, List.getElem?_map, List.getElem?_eq_getElem hj, getElem!_pos l j hj]
        rfl
      rw [← e]
      simp

/-- What the reading of a version comes to. -/
def VRes (w' : World) (v1 v2 : Value) (ok : Bool) (R : Option (List (List UInt8) × List (List UInt8))) : Prop := match R with
  | none => ok = false ∧ (∃ ad n k, v1 = .slice ad n k) ∧ ∃ ad n k, v2 = .slice ad n k
  | some (ns, ids) => ok = true ∧ NumOf w' v1 ns ∧ ns.length = 3 ∧ ∃ l : List ByteArray, l.map (·.data.toList) = ids ∧ l.length ≤ 4 ∧ SlOf w' v2 l

theorem VRes.no {w' : World} {R : Option (List (List UInt8) × List (List UInt8))} (h : R = none) : VRes w' (.slice none 0 0) (.slice none 0 0) false R := by
  rw [h]; exact ⟨rfl, ⟨_, _, _, rfl⟩, ⟨_, _, _, rfl⟩⟩

theorem ref_none {l : List UInt8} {k : Nat} (hk : k ≤ 3) (h : Pv.scan k l.tail = none) : Pv.refParse l = none := by
  have := scan_stays l.tail k (3 - k) h
  rw [show k + (3 - k) = 3 by omega] at this
  unfold Pv.refParse
  rw [this]
  split <;> rfl

theorem info3 : (Tryz.prog.info? 3).map (fun i => (i.zero, i.size, i.bytes)) = some (some (.int .i64 0), 1, 8) := by kernel_rfl
theorem info3' : ∃ i, Tryz.prog.info? 3 = some i ∧ i.zero = some (.int .i64 0) ∧ i.size = 1 ∧ i.bytes = 8 := by
  have h := info3
  rw [Option.map_eq_some_iff] at h
  obtain ⟨i, h1, h2⟩ := h
  simp only [Prod.mk.injEq] at h2
  exact ⟨i, h1, h2.1, h2.2.1, h2.2.2⟩

set_option maxRecDepth 100000 in
set_option maxHeartbeats 1000000 in
theorem version_bad (s : ByteArray) (w : World) (h : s.size = 0 ∨ 40 < s.size) :
    Calls Tryz.prog 74 #[.string s] w fun e w' => e = .returned (.tuple #[.slice none 0 0, .slice none 0 0, .bool false]) ∧ w' = w := by
  rcases h with h | h
  · have h1 : ((s.size : Int) == 0) = true := beq_iff_eq.2 (by omega)
    clear h
    go_enter Tryz.func74, Tryz.ntmps74
    go_wp2
    go_ret3
    exact ⟨rfl, rfl⟩
  · have h1 : ((s.size : Int) == 0) = false := beq_eq_false_iff_ne.2 (by omega)
    have h2 : (40 : Int) < (s.size : Int) := by omega
    clear h
    go_enter Tryz.func74, Tryz.ntmps74
    go_wp2
    go_ret3
    exact ⟨rfl, rfl⟩

set_option maxRecDepth 100000 in
set_option maxHeartbeats 1000000 in
theorem version_not (s : ByteArray) (w : World) (h0 : 0 < s.size) (h40 : s.size ≤ 40) (hv : ¬ s[0] = 118) :
    Calls Tryz.prog 74 #[.string s] w fun e w' => e = .returned (.tuple #[.slice none 0 0, .slice none 0 0, .bool false]) ∧ w' = w := by
  have h1 : ((s.size : Int) == 0) = false := beq_eq_false_iff_ne.2 (by omega)
  have h2 : (s.size : Int) ≤ 40 := by omega
  have h3 : ((s[0].toNat : Int) != 118) = true := by
    rw [bne_iff_ne]
    intro e
    exact hv (UInt8.toNat.inj (by simpa using (by omega : s[0].toNat = 118)))
  clear hv
  go_enter Tryz.func74, Tryz.ntmps74
  go_wp2
  go_ret3
  exact ⟨rfl, rfl⟩

end Go.Proofs.YtiamomiafekihaaGreatDoor
