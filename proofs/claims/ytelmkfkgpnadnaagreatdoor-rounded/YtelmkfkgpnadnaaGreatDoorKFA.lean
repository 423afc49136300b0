/-
  The document's answer, of an index: what must stand behind a first word; the slip of a line's words.
-/
import Derived.Test.YtelmkfkgpnadnaaGreatDoorKLA
import Derived.Test.YtelmkfkgpnadnaaGreatDoorKVA
import Derived.Test.YtelmkfkgpnadnaaGreatDoorKPure
import Derived.Test.YtelmkfkgpnadnaaGreatDoorKWB
import Derived.Test.YtelmkfkgpnadnaaGreatDoorKWA
import Derived.BigQuiet
namespace Go.Proofs.YtelmkfkgpnadnaaGreatDoor
open Go.RowKit

variable {w w' : World}

theorem block_new (w : World) (o : Obj) : (w.alloc o).heap[w.heap.size]? = some o := by
  show (w.heap.push _)[w.heap.size]? = _
  simp

end Go.Proofs.YtelmkfkgpnadnaaGreatDoor
