import Derived.Test.YtelmkfkgpnadnaaGreatDoorJCB
import Derived.Test.YtelmkfkgpnadnaaGreatDoorJShelf
import Derived.Deep.RegionHeld3
set_option linter.all false
namespace Go.Proofs.YtelmkfkgpnadnaaGreatDoor
section
open Go.RowKit Go.Sort Go.Shelf Go.Lib
variable{Wb W W':zW}{B:Nat}{l:List UInt8}
theorem Qy(L:List Mo)(i:Nat)(hi:i<L.length):(L.flatMap Sm.mc)[i*2]?=some (.string L[i]!.1)∧(L.flatMap Sm.mc)[i*2+1]?=some (.string L[i]!.2):=by
 constructor
 ·rw[Ss.flat_get (enc:=Sm.mc) (k:=2) (fun _=>rfl) (by decide) L (i*2) (by omega),Nat.mul_div_cancel _ (by decide:0<2),Nat.mul_mod_left]
  rfl
 ·rw[Ss.flat_get (enc:=Sm.mc) (k:=2) (fun _=>rfl) (by decide) L (i*2+1) (by omega),show(i*2+1)/2=i by omega,show(i*2+1)%2=1 by omega]
  rfl
end
section
open Go.RowKit
variable{w w':zW}
abbrev mcs(L:List Mo):List zV:=L.flatMap Sm.mc
end
section
open Go.RowKit
variable{w w':zW}
abbrev scs(L:List So):List zV:=L.flatMap Sw.mc
