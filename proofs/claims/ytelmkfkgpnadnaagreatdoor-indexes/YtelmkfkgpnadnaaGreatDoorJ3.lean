/-
  The program's map of what was said: the law of its key.
-/
import Derived.Test.YtelmkfkgpnadnaaGreatDoorJ2
import Derived.Maps.OwnSet
import Derived.DeepKeys4
namespace Go.Proofs.YtelmkfkgpnadnaaGreatDoor
open Go.RowKit

variable {w w' : World}

theorem laidOutZ : laidOutB Tryz.prog = true := by kernel_rfl
theorem row252 : (280 : TypeId) < Tryz.prog.types.size := of_decide_eq_true (by kernel_rfl)
theorem wide252 : (match Tryz.prog.underlying 280 with | some (.array _ _) | some (.struct _) => true | _ => false) = true := by kernel_rfl
theorem keyT252 : Tryz.prog.keyTypeAt 3 280 = true := by kernel_rfl
theorem keyTy252 : Tryz.prog.keyType 280 = true := by kernel_rfl
theorem size419 : Tryz.prog.types.size = 466 := by kernel_rfl
theorem cells252 : Tryz.prog.cellsOf 280 = 3 := by kernel_rfl
theorem cells9 : Tryz.prog.cellsOf 9 = 1 := by kernel_rfl
set_option maxRecDepth 100000 in
theorem law252 : WideMaps.KeyLaw Tryz.prog 280 := deep_law_laid laidOutZ (m := 3) (Nat.le_of_ble_eq_true rfl) row252 keyT252 wide252
theorem keyed252 : Maps.Keyed Tryz.prog 280 := Maps.Keyed.of_law law252

end Go.Proofs.YtelmkfkgpnadnaaGreatDoor
