/-
  Both move alike: the program's nodes and the document's.
-/
import Derived.Test.YtelmkfkgpnadnaaK20
namespace Go.Proofs.Ytelmkfkgpnadnaa

variable {n : Nat} {A Pl : Nat → Nat} {E : Nat → Nat → Bool}

theorem put_unique {R Q : List Nat} {A' Pl' A2 Pl2 : Nat → Nat} (hl : Q.length = R.length) (h : Kp.Put R Q R.length A Pl A' Pl') (h2 : Kp.Put R Q R.length A Pl A2 Pl2) (p : Nat) : A2 p = A' p := by
  by_cases hp : p ∈ R
  · obtain ⟨j, hj⟩ := List.getElem?_of_mem hp
    have hjl : j < R.length := (List.getElem?_eq_some_iff.1 hj).1
    have hq := List.getElem?_eq_getElem (show j < Q.length by omega)
    rw [(h.hit j _ p hjl hq hj).1, (h2.hit j _ p hjl hq hj).1]
  · rw [h.atOff p (fun j _ hr => hp (List.mem_of_getElem? hr)), h2.atOff p (fun j _ hr => hp (List.mem_of_getElem? hr))]

theorem moves_same {x y : Nat} {A' Pl' A2 Pl2 : Nat → Nat} (O : Kp.Ok n A Pl E) (hn : n ≤ 40) (hx : x < n) (hy : y < n) (hle : Pl y ≤ Pl x) (hno : ¬ (Kp.Way E y x ∨ x = y)) (M : Moved A Pl E x y A' Pl')
    (P : Kp.Put (lP (Kp.dG E Pl n x y) (Kp.dF E Pl n x y) A n) (lF (Kp.dG E Pl n x y) A n ++ lF (Kp.dF E Pl n x y) A n) (lP (Kp.dG E Pl n x y) (Kp.dF E Pl n x y) A n).length A Pl A2 Pl2) (p : Nat) : A2 p = A' p := by
  obtain ⟨S, T, hS, hT, _, hP⟩ := M
  have eS : ∀ v, v < 40 → S v = Kp.dG E Pl n x y v := fun v hv => by rw [Bool.eq_iff_iff, hS v hv, Kp.dG_iff O hno hle hy]
  have eT : ∀ v, v < 40 → T v = Kp.dF E Pl n x y v := fun v hv => by rw [Bool.eq_iff_iff, hT v hv, Kp.dF_iff O]
  have hl := O.plLt x hx
  have inR : ∀ q, q ∈ Kp.reg (Pl y) (Pl x) → A q < 40 := fun q hq => by
    have := (Kp.reg_mem _ _ q).1 hq
    have := O.atLt q (by omega)
    omega
  have hap := fun v => Kp.dFG_apart (x := x) (y := y) O hno v
  have hin := fun q hq => Kp.dFG_in (x := x) (y := y) O hle q hq
  generalize Kp.dG E Pl n x y = G at *
  generalize Kp.dF E Pl n x y = F at *
  have e1 : Kp.PR S T A (Kp.reg (Pl y) (Pl x)) = lP G F A n := by
    unfold Kp.PR lP
    rw [Kp.filter_reg (fun p => F (A p) || G (A p)) n (Pl y) (Pl x) hl (fun q hq h => hin q hq (by simpa [or_comm] using h)) hle]
    refine List.filter_congr fun q hq => ?_
    rw [eS _ (inR q hq), eT _ (inR q hq), Bool.or_comm]
  have e2 : Kp.sq S T A (Kp.reg (Pl y) (Pl x)) = lF G A n ++ lF F A n := by
    unfold Kp.sq Kp.PF Kp.PB lF
    rw [Kp.filter_reg (fun p => G (A p)) n (Pl y) (Pl x) hl (fun q hq h => hin q hq (Or.inl h)) hle, Kp.filter_reg (fun p => F (A p)) n (Pl y) (Pl x) hl (fun q hq h => hin q hq (Or.inr h)) hle]
    congr 2
    · refine List.filter_congr fun q hq => ?_
      rw [eS _ (inR q hq)]
    · refine List.filter_congr fun q hq => ?_
      rw [eS _ (inR q hq), eT _ (inR q hq)]
      cases hg : G (A q) <;> cases hf : F (A q) <;> simp
      exact hap _ hg hf
  rw [e1, e2] at hP
  have hlen : (lF G A n ++ lF F A n).length = (lP G F A n).length := (lQ_facts O G F hap).2.1
  exact put_unique hlen hP P p

end Go.Proofs.Ytelmkfkgpnadnaa
