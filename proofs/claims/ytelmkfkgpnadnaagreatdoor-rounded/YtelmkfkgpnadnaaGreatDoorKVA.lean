/-
  The document's answer: the identifiers of a prerelease.
-/
import Derived.Test.YtelmkfkgpnadnaaGreatDoorKWB
namespace Go.Proofs.YtelmkfkgpnadnaaGreatDoor
open Go.RowKit

theorem cur_snoc (t : List UInt8) (k fr : Nat) (h : k < t.length) (hf : fr ≤ k) : (t.drop fr).take (k + 1 - fr) = (t.drop fr).take (k - fr) ++ [t[k]] := by
  rw [show k + 1 - fr = (k - fr) + 1 by omega, List.take_succ_eq_append_getElem (by simp; omega)]
  congr 2
  rw [List.getElem_drop]
  congr 1
  omega

theorem own_base {w wr : World} {e size n : Nat} {v : Value} {xs : List Value} (h : wr.ownsRow w.heap.size e size v n xs) : ∀ k, v.ownBlock = some k → w.heap.size ≤ k := by
  intro k hk
  rcases h.2 with ⟨rfl, _⟩ | ⟨g, cap, cur, rfl, hg, _⟩
  · simp [Value.ownBlock] at hk
  · simp [Value.ownBlock] at hk; omega

end Go.Proofs.YtelmkfkgpnadnaaGreatDoor
