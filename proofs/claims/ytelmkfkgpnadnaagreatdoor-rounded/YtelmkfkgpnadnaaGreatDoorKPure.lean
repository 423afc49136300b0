/-
  The plain mathematics of versions: what the program's reading and the document's reading of a version say, and that they say the same. No model's run in this text.
-/
import Derived.Lib.SplitLaws
import Derived.Lib.Atoi
import Derived.Lib.Small
import Derived.Lib.Bytealg
namespace Go.Proofs.YtelmkfkgpnadnaaGreatDoor
namespace Pv

def dg (c : UInt8) : Bool := decide (48 ≤ c) && decide (c ≤ 57)
def sm (c : UInt8) : Bool := decide (97 ≤ c) && decide (c ≤ 122)
def gr (c : UInt8) : Bool := decide (65 ≤ c) && decide (c ≤ 90)
def idb (c : UInt8) : Bool := sm c || dg c || gr c || c == 45
def isNum (l : List UInt8) : Bool := l == [48] || (l != [] && l.head? != some 48 && l.all dg)
def noId (l : List UInt8) : Bool := decide (l.length < 1) || decide (8 < l.length) || (if l.all dg then !isNum l else !l.all idb)

/-- Cut at each c. -/
def spl (c : UInt8) : List UInt8 → List (List UInt8)
  | [] => [[]]
  | b :: l => if b = c then [] :: spl c l else match spl c l with
    | [] => [[b]]
    | p :: ps => (b :: p) :: ps

theorem spl_ne (c : UInt8) : ∀ l, spl c l ≠ []
  | [] => by simp [spl]
  | b :: l => by
    unfold spl
    split
    · simp
    · split <;> simp

theorem spl_miss (c : UInt8) : ∀ l, c ∉ l → spl c l = [l]
  | [], _ => rfl
  | b :: l, h => by
    have hb : b ≠ c := fun e => h (by simp [e])
    have hl : c ∉ l := fun e => h (by simp [e])
    unfold spl
    rw [if_neg hb, spl_miss c l hl]

theorem spl_hit (c : UInt8) : ∀ p q, c ∉ p → spl c (p ++ c :: q) = p :: spl c q
  | [], q, _ => by simp [spl]
  | b :: l, q, h => by
    have hb : b ≠ c := fun e => h (by simp [e])
    have hl : c ∉ l := fun e => h (by simp [e])
    rw [List.cons_append, spl, if_neg hb, spl_hit c l q hl]

theorem occ_one (c : UInt8) (s : List UInt8) (i : Nat) : Lib.occAt s [c] i = (s[i]? == some c) := by
  unfold Lib.occAt
  by_cases h : i < s.length
  · rw [List.drop_eq_getElem_cons h, List.getElem?_eq_getElem h]
    simp only [List.isPrefixOf, Bool.and_true]
    by_cases e : c = s[i]
    · simp [e]
    · have e' : ¬ s[i] = c := fun x => e x.symm
      rw [beq_eq_false_iff_ne.2 e]
      simp [e']
  · rw [List.drop_of_length_le (by omega), List.getElem?_eq_none (by omega)]
    rfl

/-- Where c is first, or that it is not. -/
theorem index_one (c : UInt8) (s : List UInt8) : (Lib.index s [c] = -1 ∧ c ∉ s) ∨ ∃ p q, s = p ++ c :: q ∧ c ∉ p ∧ Lib.index s [c] = (p.length : Int) := by
  rcases Lib.index_spec s [c] with ⟨h, hn⟩ | ⟨i, hi, hle, ho, hbefore⟩
  · left
    refine ⟨h, fun hm => ?_⟩
    obtain ⟨j, hj, e⟩ := List.getElem_of_mem hm
    have := hn j (by omega)
    rw [occ_one, List.getElem?_eq_getElem hj, e] at this
    simp at this
  · right
    rw [occ_one] at ho
    have ho' : s[i]? = some c := by simpa using ho
    obtain ⟨hlt, e⟩ := List.getElem?_eq_some_iff.1 ho'
    refine ⟨s.take i, s.drop (i + 1), ?_, ?_, ?_⟩
    · rw [← e, List.getElem_cons_drop, List.take_append_drop]
    · intro hm
      obtain ⟨j, hj, ej⟩ := List.getElem_of_mem hm
      have hj' : j < i := by simp at hj; omega
      have := hbefore j hj'
      rw [occ_one] at this
      rw [List.getElem_take] at ej
      rw [List.getElem?_eq_getElem (by omega), ej] at this
      simp at this
    · rw [List.length_take, Nat.min_eq_left (by omega)]; exact hi

theorem splitK_spl (c : UInt8) : ∀ (k : Nat) (s : List UInt8), s.count c ≤ k → Lib.splitK [c] 0 k s = spl c s
  | 0, s, h => by
    have : c ∉ s := fun hm => by have := List.count_pos_iff.2 hm; omega
    rw [spl_miss c s this]; rfl
  | k + 1, s, h => by
    unfold Lib.splitK
    rcases index_one c s with ⟨e, hm⟩ | ⟨p, q, rfl, hp, e⟩
    · rw [e, spl_miss c s hm]; rfl
    · rw [e, if_neg (by simp), spl_hit c p q hp]
      have hc : (p ++ c :: q).count c = q.count c + 1 := by
        rw [List.count_append, List.count_cons_self, List.count_eq_zero.2 hp]; omega
      congr 1
      · simp
      · rw [← splitK_spl c k q (by omega)]
        congr 1
        simp

theorem splitB_spl (s sep : ByteArray) (c : UInt8) (hsep : sep.data.toList = [c]) : (Lib.splitB sep 0 (Lib.countB s sep) s).map (·.data.toList) = spl c s.data.toList := by
  rw [Lib.splitB_data, hsep]
  apply splitK_spl
  rw [← Lib.count_one, ← hsep]
  exact Nat.le_refl _

def cutc (c : UInt8) : List UInt8 → List UInt8 × Option (List UInt8)
  | [] => ([], none)
  | b :: l => if b = c then ([], some l) else (b :: (cutc c l).1, (cutc c l).2)

theorem cutc_miss (c : UInt8) : ∀ l, c ∉ l → cutc c l = (l, none)
  | [], _ => rfl
  | b :: l, h => by
    have hb : b ≠ c := fun e => h (by simp [e])
    have hl : c ∉ l := fun e => h (by simp [e])
    unfold cutc
    rw [if_neg hb, cutc_miss c l hl]

theorem cutc_hit (c : UInt8) : ∀ p q, c ∉ p → cutc c (p ++ c :: q) = (p, some q)
  | [], q, _ => by simp [cutc]
  | b :: l, q, h => by
    have hb : b ≠ c := fun e => h (by simp [e])
    have hl : c ∉ l := fun e => h (by simp [e])
    rw [List.cons_append, cutc, if_neg hb, cutc_hit c l q hl]

theorem cut_cutc (c : UInt8) (s : List UInt8) : Lib.cut s [c] = ((cutc c s).1, (cutc c s).2.getD [], (cutc c s).2.isSome) := by
  unfold Lib.cut
  rcases index_one c s with ⟨e, hm⟩ | ⟨p, q, rfl, hp, e⟩
  · rw [e, cutc_miss c s hm]; rfl
  · rw [e, cutc_hit c p q hp, if_pos (by omega)]
    simp

/-- A number's value. -/
def val (l : List UInt8) : Nat := l.foldl (fun a c => a * 10 + (c.toNat - 48)) 0
def okNum (p : List UInt8) : Bool := decide (p.length ≤ 6) && isNum p
def parseN (front : List UInt8) : Option (List (List UInt8)) := if (spl 46 front).length = 3 ∧ (spl 46 front).all okNum = true then some (spl 46 front) else none
def parseI (b : List UInt8) : Option (List (List UInt8)) := if (spl 46 b).length ≤ 4 ∧ (spl 46 b).any noId = false then some (spl 46 b) else none
/-- A version, as the program reads it: its three numbers and its identifiers. -/
def parse (l : List UInt8) : Option (List (List UInt8) × List (List UInt8)) :=
  if l.head? = some 118 ∧ l.length ≤ 40 then
    match parseN (cutc 45 l.tail).1 with
    | none => none
    | some ns => match (cutc 45 l.tail).2 with
      | none => some (ns, [])
      | some b => (parseI b).map fun i => (ns, i)
  else none

/- The numbers. -/
theorem isNum_iff (p : List UInt8) : isNum p = true ↔ (p ≠ [] ∧ p.all dg = true ∧ ¬ (1 < p.length ∧ p.head? = some 48)) := by
  unfold isNum
  cases p with
  | nil => simp
  | cons c t =>
    cases t with
    | nil =>
      by_cases h : c = 48
      · subst h; simp [dg]
      · simp [h]
    | cons d u => simp [and_comm]

theorem cutc_join (c : UInt8) : ∀ l, l = (cutc c l).1 ++ (match (cutc c l).2 with | none => [] | some b => c :: b)
  | [] => rfl
  | b :: u => by
    unfold cutc
    split
    · rename_i e; simp [e]
    · have := cutc_join c u
      simp only [List.cons_append]
      exact congrArg (b :: ·) this

/- Comparing. -/
/-- Two identifiers, as the program compares them. -/
def cmpId (a b : List UInt8) : Int := if isNum a && isNum b then Lib.compareInt (val a) (val b) else if isNum a then -1 else if isNum b then 1 else Lib.compareBytes a b
def cmpL (f : List UInt8 → List UInt8 → Int) : List (List UInt8) → List (List UInt8) → Int
  | [], [] => 0
  | [], _ :: _ => -1
  | _ :: _, [] => 1
  | a :: as, b :: bs => if f a b = 0 then cmpL f as bs else f a b
def cmpN (a b : List UInt8) : Int := Lib.compareInt (val a) (val b)

theorem val_cons_aux (l : List UInt8) : ∀ a : Nat, l.foldl (fun a c => a * 10 + (c.toNat - 48)) a = a * 10 ^ l.length + val l := by
  induction l with
  | nil => intro a; simp [val]
  | cons c t ih =>
    intro a
    have hv : val (c :: t) = (0 * 10 + (c.toNat - 48)) * 10 ^ t.length + val t := ih _
    rw [List.foldl_cons, ih, hv]
    rw [List.length_cons, Nat.pow_succ]
    rw [Nat.add_mul, Nat.zero_mul, Nat.zero_add]
    have : a * 10 * 10 ^ t.length = a * (10 ^ t.length * 10) := by rw [Nat.mul_assoc, Nat.mul_comm 10]
    omega

theorem val_cons (c : UInt8) (t : List UInt8) : val (c :: t) = (c.toNat - 48) * 10 ^ t.length + val t := by
  unfold val
  rw [List.foldl_cons, val_cons_aux]
  simp [val]

theorem dg_nat {c : UInt8} (h : dg c = true) : 48 ≤ c.toNat ∧ c.toNat ≤ 57 := by
  unfold dg at h
  simp only [Bool.and_eq_true, decide_eq_true_eq, UInt8.le_iff_toNat_le] at h
  exact h

theorem val_lt : ∀ (l : List UInt8), l.all dg = true → val l < 10 ^ l.length
  | [], _ => by simp [val]
  | c :: t, h => by
    simp only [List.all_cons, Bool.and_eq_true] at h
    have hc := dg_nat h.1
    have ht := val_lt t h.2
    rw [val_cons, List.length_cons, Nat.pow_succ]
    have : (c.toNat - 48) * 10 ^ t.length ≤ 9 * 10 ^ t.length := Nat.mul_le_mul_right _ (by omega)
    omega

/-- Numbers of the same length are in order byte by byte. -/
theorem cmp_same_length : ∀ (a b : List UInt8), a.all dg = true → b.all dg = true → a.length = b.length → Lib.compareBytes a b = Lib.compareInt (val a) (val b)
  | [], [], _, _, _ => rfl
  | [], _ :: _, _, _, h => by simp at h
  | _ :: _, [], _, _, h => by simp at h
  | c :: t, d :: u, ha, hb, hl => by
    simp only [List.all_cons, Bool.and_eq_true] at ha hb
    have hc := dg_nat ha.1
    have hd := dg_nat hb.1
    have ht := val_lt t ha.2
    have hu := val_lt u hb.2
    simp only [List.length_cons, Nat.add_right_cancel_iff] at hl
    have ih := cmp_same_length t u ha.2 hb.2 hl
    rw [Lib.compareBytes, val_cons, val_cons, ← hl] 
    rw [← hl] at hu
    have hpos : 0 < 10 ^ t.length := Nat.pow_pos (by omega)
    by_cases h1 : c < d
    · rw [if_pos h1]
      have : c.toNat < d.toNat := h1
      have hm : (c.toNat - 48 + 1) * 10 ^ t.length ≤ (d.toNat - 48) * 10 ^ t.length := Nat.mul_le_mul_right _ (by omega)
      rw [Nat.add_mul, Nat.one_mul] at hm
      unfold Lib.compareInt
      rw [if_pos (by omega)]
    · rw [if_neg h1]
      by_cases h2 : d < c
      · rw [if_pos h2]
        have : d.toNat < c.toNat := h2
        have hm : (d.toNat - 48 + 1) * 10 ^ t.length ≤ (c.toNat - 48) * 10 ^ t.length := Nat.mul_le_mul_right _ (by omega)
        rw [Nat.add_mul, Nat.one_mul] at hm
        unfold Lib.compareInt
        rw [if_neg (by omega), if_pos (by omega)]
      · rw [if_neg h2, ih]
        have e1 : ¬ c.toNat < d.toNat := h1
        have e2 : ¬ d.toNat < c.toNat := h2
        have : c.toNat = d.toNat := by omega
        rw [this]
        generalize (d.toNat - 48) * 10 ^ t.length = K
        unfold Lib.compareInt
        by_cases h3 : (val t : Int) < val u
        · have h5 : ((K + val t : Nat) : Int) < ((K + val u : Nat) : Int) := by omega
          simp only [h3, h5, if_true]
        · have h5 : ¬ ((K + val t : Nat) : Int) < ((K + val u : Nat) : Int) := by omega
          by_cases h4 : (val t : Int) > val u
          · have h6 : ((K + val t : Nat) : Int) > ((K + val u : Nat) : Int) := by omega
            simp only [h3, h5, h4, h6, if_true, if_false]
          · have h6 : ¬ ((K + val t : Nat) : Int) > ((K + val u : Nat) : Int) := by omega
            simp only [h3, h5, h4, h6, if_false]

theorem val_ge {l : List UInt8} (h : l.all dg = true) (hz : ¬ (1 < l.length ∧ l.head? = some 48)) (h1 : 1 < l.length) : 10 ^ (l.length - 1) ≤ val l := by
  cases l with
  | nil => simp at h1
  | cons c t =>
    simp only [List.all_cons, Bool.and_eq_true] at h
    have hc := dg_nat h.1
    have : c ≠ 48 := fun e => hz ⟨h1, by simp [e]⟩
    have hn : c.toNat ≠ 48 := fun e => this (UInt8.toNat.inj e)
    rw [val_cons]
    have hm : 1 * 10 ^ t.length ≤ (c.toNat - 48) * 10 ^ t.length := Nat.mul_le_mul_right _ (by omega)
    simp only [List.length_cons, Nat.add_sub_cancel]
    omega

theorem val_shorter {a b : List UInt8} (ha : isNum a = true) (hb : isNum b = true) (hl : a.length < b.length) : val a < val b := by
  obtain ⟨_, ha2, ha3⟩ := (isNum_iff a).1 ha
  obtain ⟨_, hb2, hb3⟩ := (isNum_iff b).1 hb
  have hpos : 0 < a.length := List.length_pos_iff.2 ((isNum_iff a).1 ha).1
  have h1 := val_lt a ha2
  have h2 := val_ge hb2 hb3 (by omega)
  have : 10 ^ a.length ≤ 10 ^ (b.length - 1) := Nat.pow_le_pow_right (by omega) (by omega)
  omega

/-- The program's comparison of two versions. -/
def cmpV (v w : List (List UInt8) × List (List UInt8)) : Int :=
  if cmpL cmpN v.1 w.1 = 0 then
    (if decide (0 < v.2.length) = decide (0 < w.2.length) then cmpL cmpId v.2 w.2 else if 0 < v.2.length then -1 else 1)
  else cmpL cmpN v.1 w.1
theorem compareBytes_lt : ∀ (a b : List UInt8), (Lib.compareBytes a b = if a < b then -1 else if b < a then 1 else 0)
  | [], [] => by simp [Lib.compareBytes]
  | [], _ :: _ => by simp [Lib.compareBytes]
  | _ :: _, [] => by simp [Lib.compareBytes]
  | x :: as, y :: bs => by
    rw [Lib.compareBytes, compareBytes_lt as bs]
    by_cases h : x < y
    · simp [h, List.cons_lt_cons_iff]
    · by_cases h2 : y < x
      · have hne : x ≠ y := fun e => by subst e; exact h h2
        simp [h, h2, List.cons_lt_cons_iff, hne]
      · have e : x = y := by
          have h1 : ¬ x.toNat < y.toNat := h
          have h3 : ¬ y.toNat < x.toNat := h2
          exact UInt8.toNat.inj (by omega)
        subst e
        simp

theorem atoi_val {l : List UInt8} (h : isNum l = true) : Lib.atoi l = some (val l : Int) := by
  obtain ⟨hne, hall, _⟩ := (isNum_iff l).1 h
  have key : ∀ (l : List UInt8), l.all dg = true → ∀ acc, Lib.decFrom acc l = some (l.foldl (fun a c => a * 10 + (c.toNat - 48)) acc) := by
    intro l
    induction l with
    | nil => intro _ acc; rfl
    | cons c t ih =>
      intro h acc
      simp only [List.all_cons, Bool.and_eq_true] at h
      have hc := dg_nat h.1
      unfold Lib.decFrom
      rw [show Lib.digitVal c = some (c.toNat - 48) from by unfold Lib.digitVal; rw [if_pos hc]]
      exact ih h.2 _
  cases l with
  | nil => simp at hne
  | cons c t =>
    have hc := dg_nat (by simp only [List.all_cons, Bool.and_eq_true] at hall; exact hall.1)
    have h45 : ¬ c = 45 := fun e => by rw [e] at hc; simp at hc
    have h43 : ¬ c = 43 := fun e => by rw [e] at hc; simp at hc
    simp only [Lib.atoi]
    rw [if_neg (by simpa using h45), if_neg (by simpa using h43)]
    unfold Lib.decNat
    rw [if_neg (by simp), key _ hall]
    rfl

end Pv
end Go.Proofs.YtelmkfkgpnadnaaGreatDoor
