/-
  The program's text of a manifest.
  The program's Format.
-/
import Derived.Test.YtelmkfkgpnadnaaGreatDoorKCB
import Derived.Test.YtelmkfkgpnadnaaGreatDoorKShelf
import Derived.Shelf.Strings.Builder1
import Derived.Shelf.Strings.OnBuilder
namespace Go.Proofs.YtelmkfkgpnadnaaGreatDoor
open Go.RowKit Go.Sort Go.Shelf Go.Lib

variable {Wb W W' : World} {B : Nat} {l : List UInt8}

theorem mc_at (L : List Mo) (i : Nat) (hi : i < L.length) : (L.flatMap Sm.mc)[i * 2]? = some (.string L[i]!.1) ∧ (L.flatMap Sm.mc)[i * 2 + 1]? = some (.string L[i]!.2) := by
  constructor
  · rw [Ss.flat_get (enc := Sm.mc) (k := 2) (fun _ => rfl) (by decide) L (i * 2) (by omega), Nat.mul_div_cancel _ (by decide : 0 < 2), Nat.mul_mod_left]
    rfl
  · rw [Ss.flat_get (enc := Sm.mc) (k := 2) (fun _ => rfl) (by decide) L (i * 2 + 1) (by omega), show (i * 2 + 1) / 2 = i by omega, show (i * 2 + 1) % 2 = 1 by omega]
    rfl

theorem sc_at (L : List So) (i : Nat) (hi : i < L.length) : (L.flatMap Sw.mc)[i * 3]? = some (.string L[i]!.1) ∧ (L.flatMap Sw.mc)[i * 3 + 1]? = some (.string L[i]!.2.1) ∧ (L.flatMap Sw.mc)[i * 3 + 2]? = some (.string L[i]!.2.2) := by
  refine ⟨?_, ?_, ?_⟩
  · rw [Ss.flat_get (enc := Sw.mc) (k := 3) (fun _ => rfl) (by decide) L (i * 3) (by omega), Nat.mul_div_cancel _ (by decide : 0 < 3), Nat.mul_mod_left]
    rfl
  · rw [Ss.flat_get (enc := Sw.mc) (k := 3) (fun _ => rfl) (by decide) L (i * 3 + 1) (by omega), show (i * 3 + 1) / 3 = i by omega, show (i * 3 + 1) % 3 = 1 by omega]
    rfl
  · rw [Ss.flat_get (enc := Sw.mc) (k := 3) (fun _ => rfl) (by decide) L (i * 3 + 2) (by omega), show (i * 3 + 2) / 3 = i by omega, show (i * 3 + 2) % 3 = 2 by omega]
    rfl

end Go.Proofs.YtelmkfkgpnadnaaGreatDoor

namespace Go.Proofs.YtelmkfkgpnadnaaGreatDoor
open Go.RowKit Go.Sort Go.Shelf Go.Lib

theorem vals4 (W : World) (a b c d : Value) (t : TypeId) : ValsAt (W.alloc (.cells #[a, b, c, d] t)) W.heap.size 4 (fun f => if f = 0 then a else if f = 1 then b else if f = 2 then c else d) := by
  refine ⟨fun j hj => ?_, fun j hj => ?_⟩
  · have h4 : j = 0 ∨ j = 1 ∨ j = 2 ∨ j = 3 := by omega
    rcases h4 with rfl | rfl | rfl | rfl <;> simp
  · have h4 : j = 0 ∨ j = 1 ∨ j = 2 ∨ j = 3 := by omega
    rcases h4 with rfl | rfl | rfl | rfl <;> simp

end Go.Proofs.YtelmkfkgpnadnaaGreatDoor
