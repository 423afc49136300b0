/-
  The plain mathematics of a text's lines: those that say something, with their numbers, as the program finds them (the text cut at newlines, each piece cut into words) and as the document's answer does (byte by byte over the whole text). No model's run in this text.
-/
import Derived.Test.YtiamomiafekihaaGreatDoorT1
namespace Go.Proofs.YtiamomiafekihaaGreatDoor
namespace Tx

/-- A line that says something: its number, its words. -/
abbrev Ln := Nat × List (Nat × List UInt8)

/-- The program's way: the pieces one behind the other. -/
def spoken : Nat → List (List UInt8) → List Ln
  | _, [] => []
  | n, l :: ls => if words l = [] then spoken (n + 1) ls else (n, words l) :: spoken (n + 1) ls

def shut (out : List Ln) (n : Nat) (ws : List (Nat × List UInt8)) : List Ln := if ws = [] then out else out ++ [(n, ws)]

/-- The document's answer's way. -/
def docLines (out : List Ln) (n : Nat) (ws : List (Nat × List UInt8)) (op off : Bool) (i : Nat) : List UInt8 → List Ln
  | [] => shut out n ws
  | c :: t => if c = 10 then docLines (shut out n ws) (n + 1) [] false false 0 t
    else docLines out n (byte ws op off i c).1 (byte ws op off i c).2.1 (byte ws op off i c).2.2 (i + 1) t

theorem docLines_run : ∀ (p : List UInt8) (t : List UInt8) (out : List Ln) (n : Nat) (ws : List (Nat × List UInt8)) (op off : Bool) (i : Nat), (10 : UInt8) ∉ p →
    docLines out n ws op off i (p ++ 10 :: t) = docLines (shut out n (bytes ws op off i p)) (n + 1) [] false false 0 t
  | [], t, out, n, ws, op, off, i, _ => by simp [docLines, bytes]
  | c :: p, t, out, n, ws, op, off, i, h => by
    have hc : c ≠ 10 := by intro e; apply h; simp [e]
    have hp : (10 : UInt8) ∉ p := by intro e; apply h; simp [e]
    rw [List.cons_append, docLines, if_neg hc, bytes]
    exact docLines_run p t out n _ _ _ (i + 1) hp

theorem docLines_last : ∀ (p : List UInt8) (out : List Ln) (n : Nat) (ws : List (Nat × List UInt8)) (op off : Bool) (i : Nat), (10 : UInt8) ∉ p →
    docLines out n ws op off i p = shut out n (bytes ws op off i p)
  | [], out, n, ws, op, off, i, _ => by simp [docLines, bytes]
  | c :: p, out, n, ws, op, off, i, h => by
    have hc : c ≠ 10 := by intro e; apply h; simp [e]
    have hp : (10 : UInt8) ∉ p := by intro e; apply h; simp [e]
    rw [docLines, if_neg hc, bytes]
    exact docLines_last p out n _ _ _ (i + 1) hp

theorem shut_app (out : List Ln) (n : Nat) (l : List UInt8) (ls : List (List UInt8)) : shut out n (words l) ++ spoken (n + 1) ls = out ++ spoken n (l :: ls) := by
  unfold shut
  by_cases h : words l = []
  · rw [if_pos h, spoken, if_pos h]
  · rw [if_neg h, spoken, if_neg h]; simp

/-- The first newline of a text, if it has one. -/
theorem first10 : ∀ (t : List UInt8), (10 : UInt8) ∉ t ∨ ∃ p q, t = p ++ 10 :: q ∧ (10 : UInt8) ∉ p
  | [] => Or.inl (by simp)
  | c :: t => by
    by_cases hc : c = 10
    · exact Or.inr ⟨[], t, by simp [hc], by simp⟩
    · rcases first10 t with h | ⟨p, q, e, h⟩
      · refine Or.inl ?_
        intro hm
        rcases List.mem_cons.1 hm with e | e
        · exact hc e.symm
        · exact h e
      · refine Or.inr ⟨c :: p, q, by simp [e], ?_⟩
        intro hm
        rcases List.mem_cons.1 hm with e | e
        · exact hc e.symm
        · exact h e

theorem docLines_spoken (k : Nat) : ∀ (t : List UInt8), t.length ≤ k → ∀ (out : List Ln) (n : Nat), docLines out n [] false false 0 t = out ++ spoken n (Pv.spl 10 t) := by
  induction k with
  | zero =>
    intro t ht out n
    have : t = [] := List.length_eq_zero_iff.1 (by omega)
    subst this
    rw [docLines_last [] out n [] false false 0 (by simp), bytes_line, Pv.spl_miss 10 [] (by simp), ← shut_app]
    simp [spoken]
  | succ k ih =>
    intro t ht out n
    rcases first10 t with h | ⟨p, q, e, h⟩
    · rw [docLines_last t out n [] false false 0 h, bytes_line, Pv.spl_miss 10 t h, ← shut_app]
      simp [spoken]
    · subst e
      rw [docLines_run p q out n [] false false 0 h, bytes_line, Pv.spl_hit 10 p q h, ih q (by simp at ht; omega), shut_app]

/-- Both ways find the same lines. -/
theorem lines_same (t : List UInt8) : docLines [] 1 [] false false 0 t = spoken 1 (Pv.spl 10 t) := by
  rw [docLines_spoken t.length t (Nat.le_refl _) [] 1]; rfl

end Tx
end Go.Proofs.YtiamomiafekihaaGreatDoor
