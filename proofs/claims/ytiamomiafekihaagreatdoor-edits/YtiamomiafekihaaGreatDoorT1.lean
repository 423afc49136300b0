/-
  The plain mathematics of lines and words: a line's words with their places, as the program cuts them and as the document's answer does, byte by byte. No model's run in this text.
-/
import Derived.Test.YtiamomiafekihaaGreatDoorPure
namespace Go.Proofs.YtiamomiafekihaaGreatDoor
namespace Tx

def nb (c : UInt8) : Bool := !(c == 32 || c == 9)

/-- The words from place i on; cur: the word that has begun. -/
def toks : Nat → Option (Nat × List UInt8) → List UInt8 → List (Nat × List UInt8)
  | _, cur, [] => cur.toList
  | i, none, c :: t => if nb c then toks (i + 1) (some (i, [c])) t else toks (i + 1) none t
  | i, some (a, w), c :: t => if nb c then toks (i + 1) (some (a, w ++ [c])) t else (a, w) :: toks (i + 1) none t

/-- A line's words. -/
def words (line : List UInt8) : List (Nat × List UInt8) := toks 0 none (Pv.cutc 35 line).1

/-- A word goes on as long as it can. -/
theorem toks_run : ∀ (t : List UInt8) (i a : Nat) (w : List UInt8), toks i (some (a, w)) t = (a, w ++ t.takeWhile nb) :: toks (i + (t.takeWhile nb).length) none (t.dropWhile nb)
  | [], i, a, w => by simp [toks]
  | c :: t, i, a, w => by
    by_cases h : nb c = true
    · rw [toks, if_pos h, toks_run t (i + 1) a (w ++ [c])]
      simp only [List.takeWhile_cons, List.dropWhile_cons, h, if_true, List.length_cons]
      rw [show i + 1 + (t.takeWhile nb).length = i + ((t.takeWhile nb).length + 1) by omega]
      simp
    · have h' : nb c = false := by simpa using h
      rw [toks, if_neg h]
      simp only [List.takeWhile_cons, List.dropWhile_cons, h']
      simp [toks, h']

/-- The program's way: a blank is passed by. -/
theorem toks_blank (l : List UInt8) (i : Nat) (h : i < l.length) (hb : nb l[i] = false) : toks i none (l.drop i) = toks (i + 1) none (l.drop (i + 1)) := by
  rw [List.drop_eq_getElem_cons h, toks, if_neg (by simp [hb])]

/-- The program's way: a word from i to j. -/
theorem toks_word (l : List UInt8) (i j : Nat) (h : i < j) (hj : j ≤ l.length) (hall : ((l.drop i).take (j - i)).all nb = true) (hend : ∀ h : j < l.length, nb l[j] = false) :
    toks i none (l.drop i) = (i, (l.drop i).take (j - i)) :: toks j none (l.drop j) := by
  have hi : i < l.length := by omega
  have e : l.drop i = (l.drop i).take (j - i) ++ l.drop j := by
    conv => lhs; rw [← List.take_append_drop (j - i) (l.drop i)]
    rw [List.drop_drop, show i + (j - i) = j by omega]
  have hstop : ∀ c u, l.drop j = c :: u → nb c = false := by
    intro c u e
    have hlt : j < l.length := by
      apply Classical.byContradiction
      intro hc
      rw [List.drop_of_length_le (by omega)] at e; simp at e
    rw [List.drop_eq_getElem_cons hlt] at e
    simp only [List.cons.injEq] at e
    rw [← e.1]; exact hend hlt
  have tw : ∀ (p t : List UInt8), p.all nb = true → (∀ c u, t = c :: u → nb c = false) → (p ++ t).takeWhile nb = p ∧ (p ++ t).dropWhile nb = t := by
    intro p t hp ht
    induction p with
    | nil =>
      cases t with
      | nil => simp
      | cons c u => simp [ht c u rfl]
    | cons c u ih =>
      simp only [List.all_cons, Bool.and_eq_true] at hp
      have := ih hp.2
      simp [hp.1, this.1, this.2]
  have hc : nb l[i] = true := by
    have := List.all_eq_true.1 hall l[i]
    apply this
    rw [List.drop_eq_getElem_cons hi, show j - i = (j - i - 1) + 1 by omega, List.take_succ_cons]
    simp
  conv => lhs; rw [List.drop_eq_getElem_cons hi]
  rw [toks, if_pos hc, toks_run]
  have hp : (l[i] :: l.drop (i + 1)) = (l.drop i).take (j - i) ++ l.drop j := by rw [← List.drop_eq_getElem_cons hi]; exact e
  obtain ⟨t1, t2⟩ := tw _ _ hall hstop
  rw [← hp] at t1 t2
  simp only [List.takeWhile_cons, List.dropWhile_cons, hc, if_true] at t1 t2
  rw [t2]
  have hlen : ((l.drop i).take (j - i)).length = j - i := by rw [List.length_take, List.length_drop]; omega
  have hl1 : ((l.drop (i + 1)).takeWhile nb).length + 1 = j - i := by
    rw [← hlen, ← t1]; rfl
  rw [show i + 1 + ((l.drop (i + 1)).takeWhile nb).length = j by omega]
  rw [← t1]
  rfl

/-- The document's answer's way: one byte more of a line: the words so far, is one open, is the rest left out. -/
def byte (ws : List (Nat × List UInt8)) (op off : Bool) (i : Nat) (c : UInt8) : List (Nat × List UInt8) × Bool × Bool :=
  let off' := off || c == 35
  let inn := !off' && nb c
  (if inn then (if op then ws.dropLast ++ [((ws.getLastD (0, [])).1, (ws.getLastD (0, [])).2 ++ [c])] else ws ++ [(i, [c])]) else ws, inn, off')
def bytes (ws : List (Nat × List UInt8)) (op off : Bool) (i : Nat) : List UInt8 → List (Nat × List UInt8)
  | [] => ws
  | c :: t => bytes (byte ws op off i c).1 (byte ws op off i c).2.1 (byte ws op off i c).2.2 (i + 1) t

theorem bytes_off : ∀ (t : List UInt8) (ws : List (Nat × List UInt8)) (op : Bool) (i : Nat), bytes ws op true i t = ws
  | [], _, _, _ => rfl
  | c :: t, ws, op, i => by
    have hb : byte ws op true i c = (ws, false, true) := by unfold byte; simp
    rw [bytes, hb]
    exact bytes_off t ws false (i + 1)

theorem bytes_words : ∀ (t : List UInt8) (ws : List (Nat × List UInt8)) (i : Nat),
    bytes ws false false i t = ws ++ toks i none (Pv.cutc 35 t).1 ∧ ∀ a w, bytes (ws ++ [(a, w)]) true false i t = ws ++ toks i (some (a, w)) (Pv.cutc 35 t).1
  | [], ws, i => by simp [bytes, Pv.cutc, toks]
  | c :: t, ws, i => by
    by_cases h35 : c = 35
    · have hb : ∀ ws op, byte ws op false i c = (ws, false, true) := by intro ws op; unfold byte; simp [h35]
      refine ⟨?_, fun a w => ?_⟩
      · rw [bytes, hb, bytes_off, Pv.cutc, if_pos h35]; simp [toks]
      · rw [bytes, hb, bytes_off, Pv.cutc, if_pos h35]; simp [toks]
    · have h35' : (c == 35) = false := by simpa using h35
      rw [Pv.cutc, if_neg h35]
      by_cases hn : nb c = true
      · refine ⟨?_, fun a w => ?_⟩
        · have hb : byte ws false false i c = (ws ++ [(i, [c])], true, false) := by unfold byte; simp [h35', hn]
          rw [bytes, hb, toks, if_pos hn]
          exact (bytes_words t ws (i + 1)).2 i [c]
        · have hb : byte (ws ++ [(a, w)]) true false i c = (ws ++ [(a, w ++ [c])], true, false) := by unfold byte; simp [h35', hn]
          rw [bytes, hb, toks, if_pos hn]
          exact (bytes_words t ws (i + 1)).2 a (w ++ [c])
      · have hn' : nb c = false := by simpa using hn
        refine ⟨?_, fun a w => ?_⟩
        · have hb : byte ws false false i c = (ws, false, false) := by unfold byte; simp [h35', hn']
          rw [bytes, hb, toks, if_neg hn]
          exact (bytes_words t ws (i + 1)).1
        · have hb : byte (ws ++ [(a, w)]) true false i c = (ws ++ [(a, w)], false, false) := by unfold byte; simp [h35', hn']
          rw [bytes, hb, toks, if_neg hn, (bytes_words t (ws ++ [(a, w)]) (i + 1)).1]
          simp

/-- Both ways cut a line into the same words. -/
theorem bytes_line (line : List UInt8) : bytes [] false false 0 line = words line := by
  rw [(bytes_words line [] 0).1]; rfl

end Tx
end Go.Proofs.YtiamomiafekihaaGreatDoor
