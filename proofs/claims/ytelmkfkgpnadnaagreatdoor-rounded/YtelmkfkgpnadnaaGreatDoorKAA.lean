/-
  The document's answer: a version in its place.
-/
import Derived.Test.YtelmkfkgpnadnaaGreatDoorKVA
import Derived.Test.YtelmkfkgpnadnaaGreatDoorKPure
import Derived.Test.YtelmkfkgpnadnaaGreatDoorKWB
import Derived.Test.YtelmkfkgpnadnaaGreatDoorKWA
import Derived.Test.YtelmkfkgpnadnaaGreatDoorKSA
namespace Go.Proofs.YtelmkfkgpnadnaaGreatDoor
open Go.RowKit

variable {w w' : World}

def IsV (a : ByteArray) : Prop := (Pv.parse a.data.toList).isSome = true

theorem info29 : ∃ i, Tryz.prog.info? 29 = some i ∧ i.zero = some (.agg #[.string ⟨#[]⟩, .string ⟨#[]⟩]) ∧ i.size = 2 ∧ i.bytes = 32 := by
  have h : (Tryz.prog.info? 29).map (fun i => (i.zero, i.size, i.bytes)) = some (some (.agg #[.string ⟨#[]⟩, .string ⟨#[]⟩]), 2, 32) := by kernel_rfl
  rw [Option.map_eq_some_iff] at h
  obtain ⟨i, h1, h2⟩ := h
  simp only [Prod.mk.injEq] at h2
  exact ⟨i, h1, h2.1, h2.2.1, h2.2.2⟩

end Go.Proofs.YtelmkfkgpnadnaaGreatDoor
