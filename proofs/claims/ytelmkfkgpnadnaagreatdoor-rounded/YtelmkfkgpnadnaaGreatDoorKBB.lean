/-
  The law's book: a list, as far as it is written over.
-/
import Derived.Test.YtelmkfkgpnadnaaGreatDoorKGA
import Derived.Test.YtelmkfkgpnadnaaGreatDoorKI2
import Derived.Laws.IdiomStrings
import Derived.Deep.LoopGhost
import Derived.Deep.RegionHeld
import Derived.Deep.RegionHeldLaw
import Derived.Deep.RegionLaw
import Derived.Deep.AppendLies
import Derived.Deep.DeepCutAuto
import Derived.Test.YtelmkfkgpnadnaaGreatDoorKCE
namespace Go.Proofs.YtelmkfkgpnadnaaGreatDoor
open Go.RowKit
namespace Bm

variable {w w' : World}

variable {rT eT : TypeId} {fo : Nat} {el : List Value} {w0 wr : World} {ob k m i : Nat} {F : Nat → Value} {lv v : Value} {xs ys : List Value} {E : Int → List Value} {q : Int}

variable {lv0 v0 gv : Value} {w1 : World} {j mj : Nat}

theorem infoOf (t : TypeId) (z : Value) (n b : Nat) (h : (Tryz.prog.info? t).map (fun i => (i.zero, i.size, i.bytes)) = some (some z, n, b)) : ∃ i, Tryz.prog.info? t = some i ∧ i.zero = some z ∧ i.size = n ∧ i.bytes = b := by
  rw [Option.map_eq_some_iff] at h
  obtain ⟨i, h1, h2⟩ := h
  simp only [Prod.mk.injEq] at h2
  exact ⟨i, h1, h2.1, h2.2.1, h2.2.2⟩

end Bm
end Go.Proofs.YtelmkfkgpnadnaaGreatDoor
