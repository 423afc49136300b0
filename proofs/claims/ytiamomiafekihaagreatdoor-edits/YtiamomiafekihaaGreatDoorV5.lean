/-
  The document's answer: the walk of the reading of a version, second part.
-/
import Derived.Test.YtiamomiafekihaaGreatDoorV4
namespace Go.Proofs.YtiamomiafekihaaGreatDoor
open Go.RowKit

/-- All that the reading of one number needs: how many digits there are, and their value digit by digit. -/
structure NumAt (s : ByteArray) (k i2 : Nat) (ns : List (List UInt8)) (R : Option (List (List UInt8) × List (List UInt8))) (nd : Nat) (d : List UInt8) : Prop where
  room : i2 + nd ≤ s.size
  len : d.length = nd
  bad : nd = 0 ∨ 6 < nd → R = none
  zero : ∀ h : i2 < s.size, 1 < nd → s[i2] = 48 → R = none
  good : 1 ≤ nd → nd ≤ 6 → (1 < nd → ∀ h : i2 < s.size, s[i2] ≠ 48) → ScAt s.data.toList (k + 1) (i2 + nd) (ns ++ [d])
  step : ∀ j, j < nd → ∃ h : i2 + j < s.size, Pv.val (d.take (j + 1)) = Pv.val (d.take j) * 10 + (s[i2 + j].toNat - 48) ∧ 48 ≤ s[i2 + j].toNat ∧ s[i2 + j].toNat ≤ 57
  small : nd ≤ 6 → ∀ j, Pv.val (d.take j) < 1000000

theorem numAt (s : ByteArray) (k i2 : Nat) (ns : List (List UInt8)) (R : Option (List (List UInt8) × List (List UInt8))) (hk : k < 3) (hM : Mid s.data.toList k i2 ns) (hR : ∀ k, k ≤ 3 → Pv.scan k s.data.toList.tail = none → R = none) :
    NumAt s k i2 ns R ((s.data.toList.drop i2).takeWhile Pv.dg).length ((s.data.toList.drop i2).takeWhile Pv.dg) := by
  have hs := Lib.size_eq s
  have hle : ((s.data.toList.drop i2).takeWhile Pv.dg).length ≤ s.data.toList.length - i2 := by
    have := (List.takeWhile_prefix (p := Pv.dg) (l := s.data.toList.drop i2)).length_le
    rwa [List.length_drop] at this
  have hi := hM.2.2.1
  refine ⟨by omega, rfl, ?_, ?_, ?_, ?_, ?_⟩
  · rintro (h | h)
    · exact hR (k + 1) (by omega) (hM.bad (Or.inl h))
    · exact hR (k + 1) (by omega) (hM.bad (Or.inr (Or.inl h)))
  · intro h h1 h48
    exact hR (k + 1) (by omega) (hM.bad (Or.inr (Or.inr ⟨h1, by omega, h48⟩)))
  · intro h1 h6 hz
    exact hM.good (by omega) h6 (fun h hi => hz h (by omega))
  · intro j hj
    obtain ⟨h', e, hd⟩ := tw_get s.data.toList i2 j hj
    have hlt : i2 + j < s.size := by omega
    refine ⟨hlt, ?_, ?_⟩
    · rw [val_take_step _ j hj, e]; rfl
    · exact Pv.dg_nat hd
  · intro h6 j
    have ha : (((s.data.toList.drop i2).takeWhile Pv.dg).take j).all Pv.dg = true := by
      rw [List.all_eq_true]
      intro x hx
      exact List.all_eq_true.1 (List.all_takeWhile (p := Pv.dg) (l := s.data.toList.drop i2)) x (List.mem_of_mem_take hx)
    have h1 := Pv.val_lt _ ha
    have h2 : 10 ^ (((s.data.toList.drop i2).takeWhile Pv.dg).take j).length ≤ 10 ^ 6 := Nat.pow_le_pow_right (by omega) (by rw [List.length_take]; omega)
    omega

end Go.Proofs.YtiamomiafekihaaGreatDoor
