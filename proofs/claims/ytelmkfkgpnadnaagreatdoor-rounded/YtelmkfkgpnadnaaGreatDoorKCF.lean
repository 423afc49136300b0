/-
  The document's Format: plain facts.
-/
import Derived.Test.YtelmkfkgpnadnaaGreatDoorKCE
import Derived.Test.YtelmkfkgpnadnaaGreatDoorKCC
namespace Go.Proofs.YtelmkfkgpnadnaaGreatDoor
open Go.RowKit

theorem rd_mod {w W : World} {v : Value} {L : List Mo} (h : Sm.Rd w v L) (hb : Below w.heap.size w W) (i : Nat) (hi : i < L.length) : ∃ b off c, v = .slice (some ⟨b, off, none⟩) L.length c ∧ W.cell? ⟨b, off + i * 2, none⟩ = some (.string L[i]!.1) ∧ W.cell? ⟨b, off + i * 2 + 1, none⟩ = some (.string L[i]!.2) := by
  rcases h.below hb with ⟨_, h⟩ | ⟨b, off, c, h, hc⟩
  · rw [h] at hi; simp at hi
  · obtain ⟨h1, h2⟩ := mc_at L i hi
    exact ⟨b, off, c, h, hc _ _ h1, by rw [Nat.add_assoc]; exact hc _ _ h2⟩

theorem rd_len {w : World} {v : Value} {L : List Mo} (h : Sm.Rd w v L) : ∃ a c, v = .slice a L.length c := by
  rcases h with ⟨h, h0⟩ | ⟨b, off, c, h, _⟩
  · exact ⟨none, 0, by rw [h, h0]; rfl⟩
  · exact ⟨_, _, h⟩
end Go.Proofs.YtelmkfkgpnadnaaGreatDoor
