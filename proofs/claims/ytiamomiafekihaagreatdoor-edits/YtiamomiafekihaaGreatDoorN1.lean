/-
  Paths: what the program and the document's answer take for one. (The mathematics.)
-/
import Derived.Test.YtiamomiafekihaaGreatDoorPure
namespace Go.Proofs.YtiamomiafekihaaGreatDoor
namespace Pv

def sd (c : UInt8) : Bool := sm c || dg c
/-- An element of a path. -/
def el (p : List UInt8) : Bool := decide (1 ≤ p.length) && decide (p.length ≤ 8) && p.all sd
def isPath (s : List UInt8) : Bool := decide ((spl 47 s).length ≤ 3) && (spl 47 s).all el

theorem sd47 : sd 47 = false := by decide

/-- The document's way: elements so far, bytes of the one that is open. -/
def pathGo : Nat → Nat → List UInt8 → Bool
  | e, n, [] => decide (0 < n) && decide (e ≤ 3)
  | e, n, c :: t => if sd c then (if 8 < n + 1 then false else pathGo e (n + 1) t) else if c = 47 ∧ 0 < n then (if 8 < 0 then false else pathGo (e + 1) 0 t) else false

theorem spl_cons_ne (c b : UInt8) (l : List UInt8) (h : b ≠ c) : ∃ p ps, spl c l = p :: ps ∧ spl c (b :: l) = (b :: p) :: ps := by
  cases hs : spl c l with
  | nil => exact absurd hs (spl_ne c l)
  | cons p ps => exact ⟨p, ps, rfl, by rw [spl, if_neg h, hs]⟩

theorem pathGo_eq : ∀ (t : List UInt8) (e n : Nat) (q : List UInt8), q.length = n → q.all sd = true → n ≤ 8 → 1 ≤ e →
    pathGo e n t = match spl 47 t with
      | [] => false
      | p :: ps => el (q ++ p) && ps.all el && decide (e + ps.length ≤ 3)
  | [], e, n, q, hq, ha, hn, he => by
    simp only [pathGo, spl, List.append_nil, List.all_nil, List.length_nil, Nat.add_zero, Bool.and_true]
    unfold el
    rw [ha, hq]
    have e1 : decide (1 ≤ n) = decide (0 < n) := rfl
    rw [e1, decide_eq_true hn]
    simp
  | c :: t, e, n, q, hq, ha, hn, he => by
    by_cases hc : sd c = true
    · have h47 : c ≠ 47 := fun e => by rw [e, sd47] at hc; cases hc
      obtain ⟨p, ps, h1, h2⟩ := spl_cons_ne 47 c t h47
      rw [pathGo, if_pos hc, h2]
      by_cases h8 : 8 < n + 1
      · rw [if_pos h8]
        have : el (q ++ c :: p) = false := by
          unfold el
          have : decide ((q ++ c :: p).length ≤ 8) = false := by rw [decide_eq_false_iff_not]; simp; omega
          rw [this]; simp
        simp only [this, Bool.false_and]
      · rw [if_neg h8, pathGo_eq t e (n + 1) (q ++ [c]) (by simp [hq]) (by rw [List.all_append, ha]; simp [hc]) (by omega) he, h1]
        simp
    · rw [pathGo, if_neg hc]
      by_cases h47 : c = 47
      · by_cases h0 : 0 < n
        · have hq1 : el q = true := by
            unfold el
            rw [ha, hq]
            simp [hn]; omega
          rw [if_pos ⟨h47, h0⟩, if_neg (by decide), pathGo_eq t (e + 1) 0 [] rfl rfl (by omega) (by omega), spl, if_pos h47]
          cases hs : spl 47 t with
          | nil => exact absurd hs (spl_ne 47 t)
          | cons p ps =>
            simp only [List.append_nil, List.nil_append, hq1, Bool.true_and, List.all_cons, List.length_cons]
            congr 1
            simp only [decide_eq_decide]
            omega
        · rw [if_neg (fun h => h0 h.2), spl, if_pos h47]
          have : el (q ++ []) = false := by
            unfold el
            have : n = 0 := by omega
            simp [hq, this]
          simp only [this, Bool.false_and]
      · obtain ⟨p, ps, h1, h2⟩ := spl_cons_ne 47 c t h47
        rw [if_neg (fun h => h47 h.1), h2]
        have hcf : sd c = false := by simpa using hc
        have : el (q ++ c :: p) = false := by
          unfold el
          have : (q ++ c :: p).all sd = false := by rw [List.all_append, List.all_cons, hcf]; simp
          rw [this]; simp
        simp only [this, Bool.false_and]

theorem pathGo_isPath (s : List UInt8) : pathGo 1 0 s = isPath s := by
  rw [pathGo_eq s 1 0 [] rfl rfl (by omega) (by omega)]
  unfold isPath
  cases hs : spl 47 s with
  | nil => exact absurd hs (spl_ne 47 s)
  | cons p ps =>
    simp only [List.nil_append, List.all_cons, List.length_cons]
    rw [Bool.and_comm (decide _)]
    congr 1
    simp only [decide_eq_decide]
    omega

theorem spl_length (c : UInt8) : ∀ s : List UInt8, (spl c s).length = s.count c + 1
  | [] => rfl
  | b :: l => by
    have ih := spl_length c l
    by_cases h : b = c
    · rw [spl, if_pos h, List.length_cons, ih, h, List.count_cons_self]
    · obtain ⟨p, ps, h1, h2⟩ := spl_cons_ne c b l h
      rw [h2, List.length_cons, List.count_cons_of_ne h, ← ih, h1, List.length_cons]

theorem splitK_length (c : UInt8) : ∀ (k : Nat) (s : List UInt8), k ≤ s.count c → (Lib.splitK [c] 0 k s).length = k + 1
  | 0, s, _ => rfl
  | k + 1, s, h => by
    unfold Lib.splitK
    rcases index_one c s with ⟨e, hm⟩ | ⟨p, q, rfl, hp, e⟩
    · rw [List.count_eq_zero.2 hm] at h; omega
    · rw [e, if_neg (by simp)]
      have hc : (p ++ c :: q).count c = q.count c + 1 := by
        rw [List.count_append, List.count_cons_self, List.count_eq_zero.2 hp]; omega
      rw [List.length_cons]
      have hd : (p ++ c :: q).drop (((p.length : Int)).toNat + [c].length) = q := by simp
      rw [hd, splitK_length c k q (by omega)]

/-- The program's way: at most four pieces are cut. -/
theorem splitK_path (s : List UInt8) : (decide ((Lib.splitK [47] 0 (min 4 (s.length + 1) - 1) s).length ≤ 3) && (Lib.splitK [47] 0 (min 4 (s.length + 1) - 1) s).all el) = isPath s := by
  by_cases h : s.count 47 ≤ min 4 (s.length + 1) - 1
  · rw [splitK_spl 47 _ s h]; rfl
  · have hle : s.count 47 ≤ s.length := List.count_le_length
    have h3 : min 4 (s.length + 1) - 1 = 3 := by omega
    rw [h3] at h ⊢
    have h1 := splitK_length 47 3 s (by omega)
    have h2 := spl_length 47 s
    unfold isPath
    rw [h1, decide_eq_false (by omega : ¬ (spl 47 s).length ≤ 3)]
    simp

end Pv
end Go.Proofs.YtiamomiafekihaaGreatDoor
