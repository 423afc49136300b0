/-
  The program's map of what was said: an index's claims.
-/
import Derived.Test.YtelmkfkgpnadnaaGreatDoorJ3
namespace Go.Proofs.YtelmkfkgpnadnaaGreatDoor
open Go.RowKit

variable {w w' : World}

theorem keyLits9 (d : Nat) (s : ByteArray) (h : s.size ≤ maxLen) : Tryz.prog.keyLits (d + 1) 9 [.string s] = some [.string s.data.toList] := by
  unfold Program.keyLits
  rw [Tryz.underlying9]
  show (if s.size ≤ maxLen then some [Lit.string s.data.toList] else none) = _
  rw [if_pos h]

theorem key_claim (f p v : ByteArray) (hf : f.size ≤ maxLen) (hp : p.size ≤ maxLen) (hv : v.size ≤ maxLen) : ∃ l, keyOf Tryz.prog 280 (.agg #[.string f, .string p, .string v]) = some l := by
  have h1 : Tryz.prog.keyLits (Tryz.prog.types.size + 1) 280 [.string f, .string p, .string v] = some [.string f.data.toList, .string p.data.toList, .string v.data.toList] := by
    rw [size419]
    unfold Program.keyLits
    rw [Tryz.underlying280]
    simp only [cells252, List.length_cons, List.length_nil]
    rw [if_pos ⟨trivial, by kernel_rfl⟩]
    simp only [List.mapM_cons, List.mapM_nil, cells9, List.drop, List.take, keyLits9 465 f hf, keyLits9 465 p hp, keyLits9 465 v hv]
    rfl
  refine ⟨.string (keyBytes [.string f.data.toList, .string p.data.toList, .string v.data.toList]), ?_⟩
  unfold keyOf
  rw [Tryz.underlying280]
  show (if (Tryz.prog.keyType 280 && (Value.agg #[.string f, .string p, .string v]).formed Tryz.prog 280) = true then (Tryz.prog.keyLits (Tryz.prog.types.size + 1) 280 [.string f, .string p, .string v]).map (fun ls => Lit.string (keyBytes ls)) else none) = _
  rw [keyTy252, h1]
  rw [if_pos (by simp [Value.formed, Tryz.underlying280, cells252])]
  rfl

/-- A version's claim in a map. -/
def ClaimKey (v : ByteArray) (l : Lit) : Prop := keyOf Tryz.prog 280 (.agg #[.string ⟨#[118, 101, 114, 115, 105, 111, 110]⟩, .string ⟨#[]⟩, .string v]) = some l

theorem claimKey_has (v : ByteArray) (hv : v.size ≤ maxLen) : ∃ l, ClaimKey v l := key_claim _ _ v (by decide) (by decide) hv

theorem claimKey_inj {v u : ByteArray} {l : Lit} (h : ClaimKey v l) (h' : ClaimKey u l) : v = u := by
  have h2 := keyed252.inj h h'
  simp only [Value.agg.injEq, Array.mk.injEq, List.cons.injEq, Value.string.injEq, true_and, and_true] at h2
  exact h2

/-- The map of what was said: the versions of these, and nothing else. -/
def SaidAt (W : World) (b n : Nat) (vs : List ByteArray) : Prop :=
  ∃ D : DataW Unit, W.ownsMap Tryz.prog 280 (plainElem Tryz.prog 3) b n D ∧ Maps.IsMap D ∧ ∀ v l, ClaimKey v l → Maps.has D l = vs.any (fun x => decide (x = v))

theorem SaidAt.put {W : World} {b m : Nat} {vs : List ByteArray} {D : DataW Unit} {v : ByteArray} {l : Lit} {d : DataW Unit} (hD : Maps.IsMap D) (hs : ∀ v l, ClaimKey v l → Maps.has D l = vs.any (fun x => decide (x = v))) (hk : ClaimKey v l)
    (ho : W.ownsMap Tryz.prog 280 (plainElem Tryz.prog 3) b m (D.put l d)) (hD' : Maps.IsMap (D.put l d)) : SaidAt W b m (vs ++ [v]) := by
  refine ⟨_, ho, hD', fun u l' hu => ?_⟩
  rw [List.any_append]
  by_cases e : l' = l
  · subst e
    have e2 := claimKey_inj hk hu
    subst e2
    rw [Maps.has_put_same hD (keyed252.key hk)]
    simp
  · rw [Maps.has_put_other e, hs u l' hu]
    have e2 : v ≠ u := fun e2 => by
      subst e2
      have h3 : some l' = some l := hu.symm.trans hk
      exact e (by injection h3)
    simp [e2]

end Go.Proofs.YtelmkfkgpnadnaaGreatDoor
