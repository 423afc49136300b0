/-
  The reading of a version: out of the walks that count the draws.
-/
import Derived.Test.YtiamomiafekihaaGreatDoorD11
namespace Go.Proofs.YtiamomiafekihaaGreatDoor
open Go.RowKit

/-- The library's variable internal/bytealg.MaxLen holds an int, whichever. -/
def Ml (w : World) : Prop := ∃ m, w.cell? ⟨0, 0, none⟩ = some (.int .i64 m)
theorem Ml.pos {w : World} (h : Ml w) : 0 < w.heap.size := by
  obtain ⟨m, h⟩ := h
  apply Classical.byContradiction
  intro hc
  have : w.heap[0]? = none := Array.getElem?_eq_none (by omega)
  simp [World.cell?, this] at h
theorem Ml.below {w w' : World} (h : Ml w) (hb : Below w.heap.size w w') : Ml w' := by
  have hp := h.pos
  obtain ⟨m, h⟩ := h
  exact ⟨m, by rw [hb.cell (p := ⟨0, 0, none⟩) hp]; exact h⟩

/-- A slice of identifiers, as a version holds it. -/
def SlOf (w : World) (v : Value) (ids : List ByteArray) : Prop :=
  (ids = [] ∧ v = .slice none 0 0) ∨ ∃ b c, v = .slice (some ⟨b, 0, none⟩) ids.length c ∧ ids ≠ [] ∧ b < w.heap.size ∧ ∀ j, j < ids.length → w.cell? ⟨b, j, none⟩ = some (.string ids[j]!)

theorem SlOf.below {w w' : World} {v : Value} {ids : List ByteArray} (h : SlOf w v ids) (hb : Below w.heap.size w w') : SlOf w' v ids := by
  rcases h with h | ⟨b, c, h1, h2, h3, h4⟩
  · exact Or.inl h
  · exact Or.inr ⟨b, c, h1, h2, Nat.lt_of_lt_of_le h3 hb.size, fun j hj => by rw [hb.cell (p := ⟨b, j, none⟩) h3]; exact h4 j hj⟩

theorem parseVersion_none (s : ByteArray) (w : World) (hm : Ml w) (h : Pv.parse s.data.toList = none) :
    Calls Tryz.prog 71 #[.string s] w fun e w' => e = .returned (.tuple #[.agg #[.int .i64 0, .int .i64 0, .int .i64 0, .slice none 0 0], .bool false]) ∧ Below w.heap.size w w' :=
  (Dr.parseVersion_none s w hm h).mono (fun _ _ k => ⟨k.1, k.2.kit⟩)

theorem parseVersion_some (s : ByteArray) (w : World) (hm : Ml w) (v : List (List UInt8) × List (List UInt8)) (h : Pv.parse s.data.toList = some v) :
    ∃ (p q r : List UInt8) (l : List ByteArray), v = ([p, q, r], l.map (·.data.toList)) ∧ l.length ≤ 4 ∧ (∀ x ∈ l, x.size ≤ 8) ∧
      Calls Tryz.prog 71 #[.string s] w fun e w' => ∃ sl, e = .returned (.tuple #[.agg #[.int .i64 (Pv.val p), .int .i64 (Pv.val q), .int .i64 (Pv.val r), sl], .bool true]) ∧ Below w.heap.size w w' ∧ SlOf w' sl l := by
  obtain ⟨p, q, r, l, h1, h2, h3, k⟩ := Dr.parseVersion_some s w hm v h
  exact ⟨p, q, r, l, h1, h2, h3, k.mono (fun _ _ ⟨sl, k1, k2, k3⟩ => ⟨sl, k1, k2.kit, k3⟩)⟩

end Go.Proofs.YtiamomiafekihaaGreatDoor
