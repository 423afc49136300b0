/-
  The program's Index and the document's: one answer.
-/
import Derived.Test.YtelmkfkgpnadnaaGreatDoorKX1
import Derived.Test.YtelmkfkgpnadnaaGreatDoorKShelf
import Derived.Shelf.Unicode.DecodeSlow
import Derived.Shelf.SlSortCmp.PartialInsertion1
import Derived.Shelf.SlSortCmp.Partition1
import Derived.Shelf.SlSortCmp.Pdq1
import Derived.Shelf.SlSortCmp.Whole1
import Derived.Shelf.SlSortCmp.NoneTotal
import Derived.Test.YtelmkfkgpnadnaaGreatDoorKRA
namespace Go.Proofs.YtelmkfkgpnadnaaGreatDoor
open Go.RowKit

variable {w w' : World}

def unoln (x : Tx.Ln) : OLn := (x.1, x.2.map fun y => (y.1, ⟨y.2.toArray⟩))

theorem unoln_olns (l : List OLn) : (olns l).map unoln = l := by
  unfold olns
  rw [List.map_map]
  conv => rhs; rw [← List.map_id l]
  apply List.map_congr_left
  intro x _
  obtain ⟨n, ws⟩ := x
  simp only [Function.comp, unoln, wtoks, List.map_map, id_eq, Prod.mk.injEq, true_and]
  conv => rhs; rw [← List.map_id ws]
  apply List.map_congr_left
  intro y _
  obtain ⟨a, b⟩ := y
  simp

end Go.Proofs.YtelmkfkgpnadnaaGreatDoor
