/-
  The document's answer: a module is put in its place.
  The document's answer: a replacement is put in its place.
-/
import Derived.Test.YtelmkfkgpnadnaaGreatDoorKCB
import Derived.Test.YtelmkfkgpnadnaaGreatDoorKCC
import Derived.Deep.RegionHeld3
namespace Go.Proofs.YtelmkfkgpnadnaaGreatDoor
open Go.RowKit

variable {w w' : World}

/-- The cells of modules. -/
abbrev mcs (L : List Mo) : List Value := L.flatMap Sm.mc

end Go.Proofs.YtelmkfkgpnadnaaGreatDoor

namespace Go.Proofs.YtelmkfkgpnadnaaGreatDoor
open Go.RowKit

variable {w w' : World}

/-- The cells of replacements. -/
abbrev scs (L : List So) : List Value := L.flatMap Sw.mc

end Go.Proofs.YtelmkfkgpnadnaaGreatDoor
