/-
  The document's answer: the lines of a text, in memory.
  The document's answer: the lines of a text: the walk.
-/
import Derived.Test.YtelmkfkgpnadnaaGreatDoorKGA
import Derived.Test.YtelmkfkgpnadnaaGreatDoorKI2
import Derived.Test.YtelmkfkgpnadnaaGreatDoorKTA
import Derived.Deep.LoopGhost
import Derived.Deep.Cut
import Derived.Laws.Concat
namespace Go.Proofs.YtelmkfkgpnadnaaGreatDoor
open Go.RowKit

variable {w w' : World}

abbrev OLn := Nat × List (Nat × ByteArray)
def olns (l : List OLn) : List Tx.Ln := l.map fun x => (x.1, wtoks x.2)
def pad : Nat × ByteArray := (0, ByteArray.empty)

variable {w0 wr : World} {L n : Nat} {T : Nat → Nat} {ov wv av ov' wv' av' : Value} {out : List OLn} {xs ss ps : List Value} {en : Int}

end Go.Proofs.YtelmkfkgpnadnaaGreatDoor

namespace Go.Proofs.YtelmkfkgpnadnaaGreatDoor
open Go.RowKit

variable {w w' : World}

theorem cell_four_new (w : World) (a b c d : Value) (t : TypeId) : ∀ j u, [a, b, c, d][j]? = some u → (w.alloc (.cells #[a, b, c, d] t)).cell? ((⟨w.heap.size, 0, none⟩ : Addr).add j) = some u := by
  intro j u h
  match j, h with
  | 0, h => simp at h; subst h; simp [Addr.add]
  | 1, h => simp at h; subst h; simp [Addr.add]
  | 2, h => simp at h; subst h; simp [Addr.add]
  | 3, h => simp at h; subst h; simp [Addr.add]

variable {S : List UInt8} {G : List Tx.Ln} {k n a : Nat} {out : List OLn} {ws : List (Nat × ByteArray)} {q r : Bool}

end Go.Proofs.YtelmkfkgpnadnaaGreatDoor
