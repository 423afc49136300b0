/-
  The plain mathematics of versions: what the program's reading and the document's reading of a version say, and that they say the same. No model's run in this text.
-/
import Derived.Lib.SplitLaws
import Derived.Lib.Atoi
import Derived.Lib.Small
import Derived.Lib.Bytealg
namespace Go.Proofs.YtiamomiafekihaaGreatDoor
namespace Pv

def dg (c : UInt8) : Bool := decide (48 ≤ c) && decide (c ≤ 57)
def sm (c : UInt8) : Bool := decide (97 ≤ c) && decide (c ≤ 122)
def gr (c : UInt8) : Bool := decide (65 ≤ c) && decide (c ≤ 90)
def idb (c : UInt8) : Bool := sm c || dg c || gr c || c == 45
def isNum (l : List UInt8) : Bool := l == [48] || (l != [] && l.head? != some 48 && l.all dg)
def noId (l : List UInt8) : Bool := decide (l.length < 1) || decide (8 < l.length) || (if l.all dg then !isNum l else !l.all idb)

/-- Cut at each c. -/
def spl (c : UInt8) : List UInt8 → List (List UInt8)
  | [] => [[]]
  | b :: l => if b = c then [] :: spl c l else match spl c l with
    | [] => [[b]]
    | p :: ps => (b :: p) :: ps

theorem spl_ne (c : UInt8) : ∀ l, spl c l ≠ []
  | [] => by simp [spl]
  | b :: l => by
    unfold spl
    split
    · simp
    · split <;> simp

theorem spl_miss (c : UInt8) : ∀ l, c ∉ l → spl c l = [l]
  | [], _ => rfl
  | b :: l, h => by
    have hb : b ≠ c := fun e => h (by simp [e])
    have hl : c ∉ l := fun e => h (by simp [e])
    unfold spl
    rw [if_neg hb, spl_miss c l hl]

theorem spl_hit (c : UInt8) : ∀ p q, c ∉ p → spl c (p ++ c :: q) = p :: spl c q
  | [], q, _ => by simp [spl]
  | b :: l, q, h => by
    have hb : b ≠ c := fun e => h (by simp [e])
    have hl : c ∉ l := fun e => h (by simp [e])
    rw [List.cons_append, spl, if_neg hb, spl_hit c l q hl]

theorem occ_one (c : UInt8) (s : List UInt8) (i : Nat) : Lib.occAt s [c] i = (s[i]? == some c) := by
  unfold Lib.occAt
  by_cases h : i < s.length
  · rw [List.drop_eq_getElem_cons h, List.getElem?_eq_getElem h]
    simp only [List.isPrefixOf, Bool.and_true]
    by_cases e : c = s[i]
    · simp [e]
    · have e' : ¬ s[i] = c := fun x => e x.symm
      rw [beq_eq_false_iff_ne.2 e]
      simp [e']
  · rw [List.drop_of_length_le (by omega), List.getElem?_eq_none (by omega)]
    rfl

/-- Where c is first, or that it is not. -/
theorem index_one (c : UInt8) (s : List UInt8) : (Lib.index s [c] = -1 ∧ c ∉ s) ∨ ∃ p q, s = p ++ c :: q ∧ c ∉ p ∧ Lib.index s [c] = (p.length : Int) := by
  rcases Lib.index_spec s [c] with ⟨h, hn⟩ | ⟨i, hi, hle, ho, hbefore⟩
  · left
    refine ⟨h, fun hm => ?_⟩
    obtain ⟨j, hj, e⟩ := List.getElem_of_mem hm
    have := hn j (by omega)
    rw [occ_one, List.getElem?_eq_getElem hj, e] at this
    simp at this
  · right
    rw [occ_one] at ho
    have ho' : s[i]? = some c := by simpa using ho
    obtain ⟨hlt, e⟩ := List.getElem?_eq_some_iff.1 ho'
    refine ⟨s.take i, s.drop (i + 1), ?_, ?_, ?_⟩
    · rw [← e, List.getElem_cons_drop, List.take_append_drop]
    · intro hm
      obtain ⟨j, hj, ej⟩ := List.getElem_of_mem hm
      have hj' : j < i := by simp at hj; omega
      have := hbefore j hj'
      rw [occ_one] at this
      rw [List.getElem_take] at ej
      rw [List.getElem?_eq_getElem (by omega), ej] at this
      simp at this
    · rw [List.length_take, Nat.min_eq_left (by omega)]; exact hi

theorem splitK_spl (c : UInt8) : ∀ (k : Nat) (s : List UInt8), s.count c ≤ k → Lib.splitK [c] 0 k s = spl c s
  | 0, s, h => by
    have : c ∉ s := fun hm => by have := List.count_pos_iff.2 hm; omega
    rw [spl_miss c s this]; rfl
  | k + 1, s, h => by
    unfold Lib.splitK
    rcases index_one c s with ⟨e, hm⟩ | ⟨p, q, rfl, hp, e⟩
    · rw [e, spl_miss c s hm]; rfl
    · rw [e, if_neg (by simp), spl_hit c p q hp]
      have hc : (p ++ c :: q).count c = q.count c + 1 := by
        rw [List.count_append, List.count_cons_self, List.count_eq_zero.2 hp]; omega
      congr 1
      · simp
      · rw [← splitK_spl c k q (by omega)]
        congr 1
        simp

theorem splitB_spl (s sep : ByteArray) (c : UInt8) (hsep : sep.data.toList = [c]) : (Lib.splitB sep 0 (Lib.countB s sep) s).map (·.data.toList) = spl c s.data.toList := by
  rw [Lib.splitB_data, hsep]
  apply splitK_spl
  rw [← Lib.count_one, ← hsep]
  exact Nat.le_refl _

def cutc (c : UInt8) : List UInt8 → List UInt8 × Option (List UInt8)
  | [] => ([], none)
  | b :: l => if b = c then ([], some l) else (b :: (cutc c l).1, (cutc c l).2)

theorem cutc_miss (c : UInt8) : ∀ l, c ∉ l → cutc c l = (l, none)
  | [], _ => rfl
  | b :: l, h => by
    have hb : b ≠ c := fun e => h (by simp [e])
    have hl : c ∉ l := fun e => h (by simp [e])
    unfold cutc
    rw [if_neg hb, cutc_miss c l hl]

theorem cutc_hit (c : UInt8) : ∀ p q, c ∉ p → cutc c (p ++ c :: q) = (p, some q)
  | [], q, _ => by simp [cutc]
  | b :: l, q, h => by
    have hb : b ≠ c := fun e => h (by simp [e])
    have hl : c ∉ l := fun e => h (by simp [e])
    rw [List.cons_append, cutc, if_neg hb, cutc_hit c l q hl]

theorem cut_cutc (c : UInt8) (s : List UInt8) : Lib.cut s [c] = ((cutc c s).1, (cutc c s).2.getD [], (cutc c s).2.isSome) := by
  unfold Lib.cut
  rcases index_one c s with ⟨e, hm⟩ | ⟨p, q, rfl, hp, e⟩
  · rw [e, cutc_miss c s hm]; rfl
  · rw [e, cutc_hit c p q hp, if_pos (by omega)]
    simp

/-- A number's value. -/
def val (l : List UInt8) : Nat := l.foldl (fun a c => a * 10 + (c.toNat - 48)) 0
def okNum (p : List UInt8) : Bool := decide (p.length ≤ 6) && isNum p
def parseN (front : List UInt8) : Option (List (List UInt8)) := if (spl 46 front).length = 3 ∧ (spl 46 front).all okNum = true then some (spl 46 front) else none
def parseI (b : List UInt8) : Option (List (List UInt8)) := if (spl 46 b).length ≤ 4 ∧ (spl 46 b).any noId = false then some (spl 46 b) else none
/-- A version, as the program reads it: its three numbers and its identifiers. -/
def parse (l : List UInt8) : Option (List (List UInt8) × List (List UInt8)) :=
  if l.head? = some 118 ∧ l.length ≤ 40 then
    match parseN (cutc 45 l.tail).1 with
    | none => none
    | some ns => match (cutc 45 l.tail).2 with
      | none => some (ns, [])
      | some b => (parseI b).map fun i => (ns, i)
  else none

/-- The document's reading: a number that stands ahead. -/
def num1 (r : List UInt8) : Option (List UInt8 × List UInt8) :=
  if (r.takeWhile dg).length = 0 ∨ 6 < (r.takeWhile dg).length ∨ (1 < (r.takeWhile dg).length ∧ r.head? = some 48) then none else some (r.takeWhile dg, r.dropWhile dg)
def dot : List UInt8 → Option (List UInt8)
  | [] => none
  | c :: t => if c = 46 then some t else none
/-- Its numbers, from the first on, k of them; and what is left. -/
def scan : Nat → List UInt8 → Option (List (List UInt8) × List UInt8)
  | 0, r => some ([], r)
  | k + 1, r => match scan k r with
    | none => none
    | some (ns, t) => match (if k = 0 then some t else dot t) with
      | none => none
      | some u => match num1 u with
        | none => none
        | some (d, v) => some (ns ++ [d], v)
def bad (p : List UInt8) : Bool := decide (p.length = 0) || decide (8 < p.length) || (decide ((p.takeWhile dg).length = p.length) && decide (1 < (p.takeWhile dg).length) && p.head? == some 48)
def good (p : List UInt8) : Bool := p.all idb && !bad p
/-- Its identifiers, byte by byte. -/
def identGo (acc : List (List UInt8)) (cur : List UInt8) : List UInt8 → Option (List (List UInt8))
  | [] => if bad cur then none else some (acc ++ [cur])
  | b :: t => if b = 46 then (if bad cur then none else identGo (acc ++ [cur]) [] t) else if idb b then identGo acc (cur ++ [b]) t else none
def refI (b : List UInt8) : Option (List (List UInt8)) := match identGo [] [] b with
  | none => none
  | some l => if l.length ≤ 4 then some l else none
def refParse (l : List UInt8) : Option (List (List UInt8) × List (List UInt8)) :=
  if l.head? = some 118 ∧ l.length ≤ 40 then
    match scan 3 l.tail with
    | none => none
    | some (ns, []) => some (ns, [])
    | some (ns, c :: t) => if c = 45 then (refI t).map fun i => (ns, i) else none
  else none

theorem takeWhile_app (p t : List UInt8) (h : p.all dg = true) (ht : ∀ c u, t = c :: u → dg c = false) : (p ++ t).takeWhile dg = p ∧ (p ++ t).dropWhile dg = t := by
  induction p with
  | nil =>
    cases t with
    | nil => simp
    | cons c u => simp [ht c u rfl]
  | cons c u ih =>
    simp only [List.all_cons, Bool.and_eq_true] at h
    have := ih h.2
    simp [h.1, this.1, this.2]

/- The numbers. -/
theorem all_dg_iff (p : List UInt8) : (p.takeWhile dg).length = p.length ↔ p.all dg = true := by
  constructor
  · intro h
    have : p.takeWhile dg = p := (List.takeWhile_prefix dg).eq_of_length h
    rw [← this]
    exact List.all_takeWhile
  · intro h
    have := (takeWhile_app p [] h (by intro c u e; simp at e)).1
    rw [List.append_nil] at this
    rw [this]

theorem isNum_iff (p : List UInt8) : isNum p = true ↔ (p ≠ [] ∧ p.all dg = true ∧ ¬ (1 < p.length ∧ p.head? = some 48)) := by
  unfold isNum
  cases p with
  | nil => simp
  | cons c t =>
    cases t with
    | nil =>
      by_cases h : c = 48
      · subst h; simp [dg]
      · simp [h]
    | cons d u => simp [and_comm]

theorem okNum_iff (p : List UInt8) : okNum p = true ↔ (p.length ≤ 6 ∧ p ≠ [] ∧ p.all dg = true ∧ ¬ (1 < p.length ∧ p.head? = some 48)) := by
  unfold okNum
  rw [Bool.and_eq_true, isNum_iff]
  simp

theorem num1_app (p t : List UInt8) (h : okNum p = true) (ht : ∀ c u, t = c :: u → dg c = false) : num1 (p ++ t) = some (p, t) := by
  obtain ⟨h6, hne, hall, hz⟩ := (okNum_iff p).1 h
  obtain ⟨e1, e2⟩ := takeWhile_app p t hall ht
  unfold num1
  rw [e1, e2, if_neg]
  have hl : 0 < p.length := List.length_pos_iff.2 hne
  rintro (h | h | ⟨h, h'⟩)
  · omega
  · omega
  · refine hz ⟨h, ?_⟩
    cases p with
    | nil => simp at hne
    | cons c u => simpa using h'

theorem num1_some {r d v : List UInt8} (h : num1 r = some (d, v)) : r = d ++ v ∧ okNum d = true ∧ ∀ c u, v = c :: u → dg c = false := by
  unfold num1 at h
  split at h
  · simp at h
  · rename_i hn
    simp only [Option.some.injEq, Prod.mk.injEq] at h
    obtain ⟨rfl, rfl⟩ := h
    refine ⟨(List.takeWhile_append_dropWhile).symm, ?_, ?_⟩
    · rw [okNum_iff]
      refine ⟨by omega, fun e => hn (Or.inl (by rw [e]; rfl)), List.all_takeWhile, ?_⟩
      rintro ⟨h1, h2⟩
      refine hn (Or.inr (Or.inr ⟨h1, ?_⟩))
      cases r with
      | nil => simp at h1
      | cons c u =>
        by_cases hc : dg c = true
        · simp [hc] at h2; simp [h2]
        · simp [hc] at h1
    · intro c u e
      have := List.head?_dropWhile_not (p := dg) (l := r)
      rw [e] at this
      simpa using this

theorem dot_some {r t : List UInt8} (h : dot r = some t) : r = 46 :: t := by
  cases r with
  | nil => simp [dot] at h
  | cons c u =>
    by_cases e : c = 46
    · simp [dot, e] at h
      rw [e, h]
    · simp [dot, e] at h

theorem dg46 : dg 46 = false := by decide

theorem scan3_app (p q s t : List UInt8) (hp : okNum p = true) (hq : okNum q = true) (hs : okNum s = true) (ht : ∀ c u, t = c :: u → dg c = false) : scan 3 (p ++ 46 :: (q ++ 46 :: (s ++ t))) = some ([p, q, s], t) := by
  have h46 : ∀ (x : List UInt8) c u, 46 :: x = c :: u → dg c = false := by
    intro x c u e
    simp only [List.cons.injEq] at e
    rw [← e.1]; exact dg46
  simp [scan, dot, num1_app p _ hp (h46 _), num1_app q _ hq (h46 _), num1_app s t hs ht]

theorem scan3_some {r v : List UInt8} {ns : List (List UInt8)} (h : scan 3 r = some (ns, v)) : ∃ p q s, ns = [p, q, s] ∧ r = p ++ 46 :: (q ++ 46 :: (s ++ v)) ∧ okNum p = true ∧ okNum q = true ∧ okNum s = true ∧ ∀ c u, v = c :: u → dg c = false := by
  simp only [scan, if_true] at h
  cases h1 : num1 r with
  | none => simp [h1] at h
  | some x =>
    obtain ⟨p, r1⟩ := x
    obtain ⟨e1, hp, _⟩ := num1_some h1
    simp [h1] at h
    cases h2 : dot r1 with
    | none => simp [h2] at h
    | some r2 =>
      have e2 := dot_some h2
      simp [h2] at h
      cases h3 : num1 r2 with
      | none => simp [h3] at h
      | some x =>
        obtain ⟨q, r3⟩ := x
        obtain ⟨e3, hq, _⟩ := num1_some h3
        simp [h3] at h
        cases h4 : dot r3 with
        | none => simp [h4] at h
        | some r4 =>
          have e4 := dot_some h4
          simp [h4] at h
          cases h5 : num1 r4 with
          | none => simp [h5] at h
          | some x =>
            obtain ⟨s, r5⟩ := x
            obtain ⟨e5, hs, hv⟩ := num1_some h5
            simp [h5] at h
            obtain ⟨rfl, rfl⟩ := h
            exact ⟨p, q, s, rfl, by rw [e1, e2, e3, e4, e5], hp, hq, hs, hv⟩

theorem not_mem_of_num {p : List UInt8} {c : UInt8} (h : okNum p = true) (hc : dg c = false) : c ∉ p := by
  intro hm
  have := List.all_eq_true.1 ((okNum_iff p).1 h).2.2.1 c hm
  rw [hc] at this; simp at this

theorem spl3 (p q s : List UInt8) (hp : (46 : UInt8) ∉ p) (hq : (46 : UInt8) ∉ q) : spl 46 (p ++ 46 :: (q ++ 46 :: s)) = p :: q :: spl 46 s := by
  rw [spl_hit 46 p _ hp, spl_hit 46 q _ hq]

theorem spl_join : ∀ (l : List UInt8) (p q s : List UInt8), spl 46 l = [p, q, s] → l = p ++ 46 :: (q ++ 46 :: s)
  | l, p, q, s, h => by
    have key : ∀ (l x : List UInt8) (ps : List (List UInt8)), spl 46 l = x :: ps → (ps = [] ∧ l = x) ∨ (∃ y r t, ps = y :: r ∧ l = x ++ 46 :: t ∧ spl 46 t = y :: r) := by
      intro l
      induction l with
      | nil => intro x ps h; simp [spl] at h; left; simp [h]
      | cons b u ih =>
        intro x ps h
        unfold spl at h
        split at h
        · rename_i e
          simp only [List.cons.injEq] at h
          obtain ⟨rfl, h2⟩ := h
          right
          cases hs : spl 46 u with
          | nil => exact absurd hs (spl_ne 46 u)
          | cons y r => exact ⟨y, r, u, by rw [← h2, hs], by rw [e]; rfl, hs⟩
        · split at h
          · rename_i hs; exact absurd hs (spl_ne 46 u)
          · rename_i y r hs
            simp only [List.cons.injEq] at h
            obtain ⟨rfl, rfl⟩ := h
            rcases ih y r hs with ⟨h1, h2⟩ | ⟨y', r', t, h1, h2, h3⟩
            · left; exact ⟨h1, by rw [h2]⟩
            · right; exact ⟨y', r', t, h1, by rw [h2]; rfl, h3⟩
    rcases key l p [q, s] h with ⟨h1, _⟩ | ⟨y, r, t, h1, h2, h3⟩
    · simp at h1
    · simp only [List.cons.injEq] at h1
      obtain ⟨rfl, rfl⟩ := h1
      rcases key t q [s] h3 with ⟨h4, _⟩ | ⟨y, r, t', h4, h5, h6⟩
      · simp at h4
      · simp only [List.cons.injEq] at h4
        obtain ⟨rfl, rfl⟩ := h4
        rcases key t' s [] h6 with ⟨_, h7⟩ | ⟨y, r, _, h8, _, _⟩
        · rw [h2, h5, h7]
        · simp at h8

theorem cutc_join (c : UInt8) : ∀ l, l = (cutc c l).1 ++ (match (cutc c l).2 with | none => [] | some b => c :: b)
  | [] => rfl
  | b :: u => by
    unfold cutc
    split
    · rename_i e; simp [e]
    · have := cutc_join c u
      simp only [List.cons_append]
      exact congrArg (b :: ·) this

theorem dg45 : dg 45 = false := by decide

/-- The numbers: the two readings say the same. -/
theorem numbers_same (r : List UInt8) (ns : List (List UInt8)) (b : Option (List UInt8)) : (parseN (cutc 45 r).1 = some ns ∧ (cutc 45 r).2 = b) ↔ scan 3 r = some (ns, match b with | none => [] | some b => 45 :: b) := by
  constructor
  · rintro ⟨h, rfl⟩
    unfold parseN at h
    split at h
    · rename_i hc
      obtain ⟨hl, ha⟩ := hc
      simp only [Option.some.injEq] at h
      rw [h] at hl ha
      match ns, hl with
      | [p, q, s], _ =>
        simp only [List.all_cons, List.all_nil, Bool.and_true, Bool.and_eq_true] at ha
        have hj := spl_join _ p q s h
        have hr := cutc_join 45 r
        rw [hj] at hr
        rw [show r = p ++ 46 :: (q ++ 46 :: (s ++ (match (cutc 45 r).2 with | none => [] | some b => 45 :: b))) from by
          conv => lhs; rw [hr]
          simp]
        rw [← show r = p ++ 46 :: (q ++ 46 :: (s ++ (match (cutc 45 r).2 with | none => [] | some b => 45 :: b))) from by
          conv => lhs; rw [hr]
          simp]
        have := scan3_app p q s (match (cutc 45 r).2 with | none => [] | some b => 45 :: b) ha.1 ha.2.1 ha.2.2 (by
          intro c u e
          cases hb : (cutc 45 r).2 with
          | none => rw [hb] at e; simp at e
          | some b => rw [hb] at e; simp only [List.cons.injEq] at e; rw [← e.1]; exact dg45)
        rw [← this]
        congr 1
        conv => lhs; rw [hr]
        simp
    · simp at h
  · intro h
    obtain ⟨p, q, s, rfl, e, hp, hq, hs, _⟩ := scan3_some h
    have n45 : (45 : UInt8) ∉ (p ++ 46 :: (q ++ 46 :: s)) := by
      simp [not_mem_of_num hp dg45, not_mem_of_num hq dg45, not_mem_of_num hs dg45]
    have hsp : parseN (p ++ 46 :: (q ++ 46 :: s)) = some [p, q, s] := by
      unfold parseN
      rw [spl3 p q s (not_mem_of_num hp dg46) (not_mem_of_num hq dg46), spl_miss 46 s (not_mem_of_num hs dg46)]
      simp [hp, hq, hs]
    cases b with
    | none =>
      simp only [List.append_nil] at e
      rw [e, cutc_miss 45 _ n45]
      exact ⟨hsp, rfl⟩
    | some b =>
      have e' : r = (p ++ 46 :: (q ++ 46 :: s)) ++ 45 :: b := by rw [e]; simp
      rw [e', cutc_hit 45 _ b n45]
      exact ⟨hsp, rfl⟩

theorem bad_noId (p : List UInt8) : good p = !noId p := by
  unfold good noId bad
  by_cases h0 : p.length = 0
  · simp [h0]
  · by_cases h8 : 8 < p.length
    · simp [h8]
    · have h1 : ¬ p.length < 1 := by omega
      simp only [h0, h8, h1, decide_false, Bool.false_or]
      by_cases ha : p.all dg = true
      · have hlen := (all_dg_iff p).2 ha
        have hidb : p.all idb = true := by
          rw [List.all_eq_true] at ha ⊢
          intro x hx; have := ha x hx; simp [idb, this]
        rw [if_pos ha, hidb, hlen]
        have := isNum_iff p
        cases hn : isNum p with
        | true =>
          have := (this.1 hn).2.2
          by_cases hl : 1 < p.length
          · have : ¬ p.head? = some 48 := fun e => this ⟨hl, e⟩
            simp [hl, this]
          · simp [hl]
        | false =>
          have hne : p ≠ [] := fun e => by simp [e] at h0
          have : 1 < p.length ∧ p.head? = some 48 := by
            apply Classical.byContradiction
            intro hc
            have := this.2 ⟨hne, ha, hc⟩
            rw [hn] at this; simp at this
          simp [this.1, this.2]
      · have hlen : ¬ (p.takeWhile dg).length = p.length := fun e => ha ((all_dg_iff p).1 e)
        rw [if_neg ha]
        simp [hlen]

theorem identGo_spl : ∀ (t : List UInt8) (acc : List (List UInt8)) (cur : List UInt8), cur.all idb = true →
    identGo acc cur t = if ((cur ++ (spl 46 t).head!) :: (spl 46 t).tail).all good = true then some (acc ++ (cur ++ (spl 46 t).head!) :: (spl 46 t).tail) else none
  | [], acc, cur, h => by
    unfold identGo spl
    have hg : good cur = !bad cur := by unfold good; rw [h]; rfl
    cases hb : bad cur <;> simp [hb, hg, List.head!]
  | b :: t, acc, cur, h => by
    unfold identGo
    have hg : good cur = !bad cur := by unfold good; rw [h]; rfl
    by_cases e : b = 46
    · rw [if_pos e]
      have es : spl 46 (b :: t) = [] :: spl 46 t := by rw [spl, if_pos e]
      rw [es]
      have ht := identGo_spl t (acc ++ [cur]) [] rfl
      obtain ⟨x, ps, hx⟩ : ∃ x ps, spl 46 t = x :: ps := by
        cases hs : spl 46 t with
        | nil => exact absurd hs (spl_ne 46 t)
        | cons x ps => exact ⟨x, ps, rfl⟩
      rw [hx] at ht ⊢
      cases hb : bad cur
      · rw [ht]; simp [hg, hb, List.head!]
      · simp [hg, hb, List.head!]
    · rw [if_neg e]
      obtain ⟨x, ps, hx⟩ : ∃ x ps, spl 46 t = x :: ps := by
        cases hs : spl 46 t with
        | nil => exact absurd hs (spl_ne 46 t)
        | cons x ps => exact ⟨x, ps, rfl⟩
      have es : spl 46 (b :: t) = (b :: x) :: ps := by rw [spl, if_neg e, hx]
      rw [es]
      cases hi : idb b
      · have : good (cur ++ b :: x) = false := by unfold good; simp [hi]
        simp [this, List.head!]
      · have hc : (cur ++ [b]).all idb = true := by simp at h ⊢; exact ⟨h, hi⟩
        have ht := identGo_spl t acc (cur ++ [b]) hc
        rw [hx] at ht
        rw [if_pos rfl, ht]
        simp [List.head!]

theorem refI_parseI (b : List UInt8) : refI b = parseI b := by
  obtain ⟨x, ps, hx⟩ : ∃ x ps, spl 46 b = x :: ps := by
    cases hs : spl 46 b with
    | nil => exact absurd hs (spl_ne 46 b)
    | cons x ps => exact ⟨x, ps, rfl⟩
  have hall : ∀ l : List (List UInt8), l.any noId = !(l.all good) := by
    intro l
    induction l with
    | nil => rfl
    | cons y l ih => rw [List.any_cons, List.all_cons, ih, bad_noId]; cases noId y <;> simp
  unfold refI parseI
  rw [hall, hx]
  by_cases hg : (x :: ps).all good = true
  · have e : identGo [] [] b = some (x :: ps) := by
      rw [identGo_spl b [] [] rfl, if_pos (by rw [hx]; exact hg), hx]; rfl
    rw [e, hg]; simp
  · have e : identGo [] [] b = none := by
      rw [identGo_spl b [] [] rfl, if_neg (by rw [hx]; exact hg)]
    have hg' : (x :: ps).all good = false := by simpa using hg
    rw [e, hg']; simp

theorem parse_ref (l : List UInt8) : parse l = refParse l := by
  unfold parse refParse
  split
  · generalize l.tail = r
    cases hs : scan 3 r with
    | none =>
      have : parseN (cutc 45 r).1 = none := by
        cases hp : parseN (cutc 45 r).1 with
        | none => rfl
        | some ns =>
          have := (numbers_same r ns (cutc 45 r).2).1 ⟨hp, rfl⟩
          rw [hs] at this; simp at this
      rw [this]
    | some x =>
      obtain ⟨ns, v⟩ := x
      cases v with
      | nil =>
        obtain ⟨h1, h2⟩ := (numbers_same r ns none).2 hs
        rw [h1, h2]
      | cons c t =>
        by_cases hc : c = 45
        · subst hc
          obtain ⟨h1, h2⟩ := (numbers_same r ns (some t)).2 hs
          rw [h1, h2]
          simp [refI_parseI]
        · have : parseN (cutc 45 r).1 = none := by
            cases hp : parseN (cutc 45 r).1 with
            | none => rfl
            | some ns' =>
              have := (numbers_same r ns' (cutc 45 r).2).1 ⟨hp, rfl⟩
              rw [hs] at this
              simp only [Option.some.injEq, Prod.mk.injEq] at this
              cases hb : (cutc 45 r).2 with
              | none => rw [hb] at this; simp at this
              | some b => rw [hb] at this; simp at this; exact absurd this.2.1 hc
          rw [this]
          simp [hc]
  · rfl

/- Comparing. -/
/-- Two identifiers, as the program compares them. -/
def cmpId (a b : List UInt8) : Int := if isNum a && isNum b then Lib.compareInt (val a) (val b) else if isNum a then -1 else if isNum b then 1 else Lib.compareBytes a b
/-- Two identifiers, as the document's answer compares them. -/
def label (a b : List UInt8) : Int :=
  if a.all dg && b.all dg then (if a.length ≠ b.length then Lib.compareInt a.length b.length else Lib.compareBytes a b)
  else if a.all dg then -1 else if b.all dg then 1 else Lib.compareBytes a b
def cmpL (f : List UInt8 → List UInt8 → Int) : List (List UInt8) → List (List UInt8) → Int
  | [], [] => 0
  | [], _ :: _ => -1
  | _ :: _, [] => 1
  | a :: as, b :: bs => if f a b = 0 then cmpL f as bs else f a b
def cmpN (a b : List UInt8) : Int := Lib.compareInt (val a) (val b)

theorem val_cons_aux (l : List UInt8) : ∀ a : Nat, l.foldl (fun a c => a * 10 + (c.toNat - 48)) a = a * 10 ^ l.length + val l := by
  induction l with
  | nil => intro a; simp [val]
  | cons c t ih =>
    intro a
    have hv : val (c :: t) = (0 * 10 + (c.toNat - 48)) * 10 ^ t.length + val t := ih _
    rw [List.foldl_cons, ih, hv]
    rw [List.length_cons, Nat.pow_succ]
    rw [Nat.add_mul, Nat.zero_mul, Nat.zero_add]
    have : a * 10 * 10 ^ t.length = a * (10 ^ t.length * 10) := by rw [Nat.mul_assoc, Nat.mul_comm 10]
    omega

theorem val_cons (c : UInt8) (t : List UInt8) : val (c :: t) = (c.toNat - 48) * 10 ^ t.length + val t := by
  unfold val
  rw [List.foldl_cons, val_cons_aux]
  simp [val]

theorem dg_nat {c : UInt8} (h : dg c = true) : 48 ≤ c.toNat ∧ c.toNat ≤ 57 := by
  unfold dg at h
  simp only [Bool.and_eq_true, decide_eq_true_eq, UInt8.le_iff_toNat_le] at h
  exact h

theorem val_lt : ∀ (l : List UInt8), l.all dg = true → val l < 10 ^ l.length
  | [], _ => by simp [val]
  | c :: t, h => by
    simp only [List.all_cons, Bool.and_eq_true] at h
    have hc := dg_nat h.1
    have ht := val_lt t h.2
    rw [val_cons, List.length_cons, Nat.pow_succ]
    have : (c.toNat - 48) * 10 ^ t.length ≤ 9 * 10 ^ t.length := Nat.mul_le_mul_right _ (by omega)
    omega

/-- Numbers of the same length are in order byte by byte. -/
theorem cmp_same_length : ∀ (a b : List UInt8), a.all dg = true → b.all dg = true → a.length = b.length → Lib.compareBytes a b = Lib.compareInt (val a) (val b)
  | [], [], _, _, _ => rfl
  | [], _ :: _, _, _, h => by simp at h
  | _ :: _, [], _, _, h => by simp at h
  | c :: t, d :: u, ha, hb, hl => by
    simp only [List.all_cons, Bool.and_eq_true] at ha hb
    have hc := dg_nat ha.1
    have hd := dg_nat hb.1
    have ht := val_lt t ha.2
    have hu := val_lt u hb.2
    simp only [List.length_cons, Nat.add_right_cancel_iff] at hl
    have ih := cmp_same_length t u ha.2 hb.2 hl
    rw [Lib.compareBytes, val_cons, val_cons, ← hl] 
    rw [← hl] at hu
    have hpos : 0 < 10 ^ t.length := Nat.pow_pos (by omega)
    by_cases h1 : c < d
    · rw [if_pos h1]
      have : c.toNat < d.toNat := h1
      have hm : (c.toNat - 48 + 1) * 10 ^ t.length ≤ (d.toNat - 48) * 10 ^ t.length := Nat.mul_le_mul_right _ (by omega)
      rw [Nat.add_mul, Nat.one_mul] at hm
      unfold Lib.compareInt
      rw [if_pos (by omega)]
    · rw [if_neg h1]
      by_cases h2 : d < c
      · rw [if_pos h2]
        have : d.toNat < c.toNat := h2
        have hm : (d.toNat - 48 + 1) * 10 ^ t.length ≤ (c.toNat - 48) * 10 ^ t.length := Nat.mul_le_mul_right _ (by omega)
        rw [Nat.add_mul, Nat.one_mul] at hm
        unfold Lib.compareInt
        rw [if_neg (by omega), if_pos (by omega)]
      · rw [if_neg h2, ih]
        have e1 : ¬ c.toNat < d.toNat := h1
        have e2 : ¬ d.toNat < c.toNat := h2
        have : c.toNat = d.toNat := by omega
        rw [this]
        generalize (d.toNat - 48) * 10 ^ t.length = K
        unfold Lib.compareInt
        by_cases h3 : (val t : Int) < val u
        · have h5 : ((K + val t : Nat) : Int) < ((K + val u : Nat) : Int) := by omega
          simp only [h3, h5, if_true]
        · have h5 : ¬ ((K + val t : Nat) : Int) < ((K + val u : Nat) : Int) := by omega
          by_cases h4 : (val t : Int) > val u
          · have h6 : ((K + val t : Nat) : Int) > ((K + val u : Nat) : Int) := by omega
            simp only [h3, h5, h4, h6, if_true, if_false]
          · have h6 : ¬ ((K + val t : Nat) : Int) > ((K + val u : Nat) : Int) := by omega
            simp only [h3, h5, h4, h6, if_false]

theorem val_ge {l : List UInt8} (h : l.all dg = true) (hz : ¬ (1 < l.length ∧ l.head? = some 48)) (h1 : 1 < l.length) : 10 ^ (l.length - 1) ≤ val l := by
  cases l with
  | nil => simp at h1
  | cons c t =>
    simp only [List.all_cons, Bool.and_eq_true] at h
    have hc := dg_nat h.1
    have : c ≠ 48 := fun e => hz ⟨h1, by simp [e]⟩
    have hn : c.toNat ≠ 48 := fun e => this (UInt8.toNat.inj e)
    rw [val_cons]
    have hm : 1 * 10 ^ t.length ≤ (c.toNat - 48) * 10 ^ t.length := Nat.mul_le_mul_right _ (by omega)
    simp only [List.length_cons, Nat.add_sub_cancel]
    omega

theorem val_shorter {a b : List UInt8} (ha : isNum a = true) (hb : isNum b = true) (hl : a.length < b.length) : val a < val b := by
  obtain ⟨_, ha2, ha3⟩ := (isNum_iff a).1 ha
  obtain ⟨_, hb2, hb3⟩ := (isNum_iff b).1 hb
  have hpos : 0 < a.length := List.length_pos_iff.2 ((isNum_iff a).1 ha).1
  have h1 := val_lt a ha2
  have h2 := val_ge hb2 hb3 (by omega)
  have : 10 ^ a.length ≤ 10 ^ (b.length - 1) := Nat.pow_le_pow_right (by omega) (by omega)
  omega

theorem isNum_all {a : List UInt8} (h : noId a = false) : isNum a = a.all dg := by
  unfold noId at h
  simp only [Bool.or_eq_false_iff] at h
  by_cases ha : a.all dg = true
  · rw [if_pos ha] at h
    rw [ha]; simpa using h.2
  · have : isNum a = false := by
      cases hn : isNum a with
      | false => rfl
      | true => exact absurd ((isNum_iff a).1 hn).2.1 ha
    rw [this]; simpa using ha

theorem label_cmpId {a b : List UInt8} (ha : noId a = false) (hb : noId b = false) : label a b = cmpId a b := by
  have ea := isNum_all ha
  have eb := isNum_all hb
  unfold label cmpId
  rw [ea, eb]
  by_cases h : (a.all dg && b.all dg) = true
  · rw [if_pos h, if_pos h]
    rw [Bool.and_eq_true] at h
    by_cases hl : a.length = b.length
    · rw [if_neg (by simpa using hl)]
      exact cmp_same_length a b h.1 h.2 hl
    · rw [if_pos hl]
      unfold Lib.compareInt
      rw [h.1] at ea
      rw [h.2] at eb
      by_cases hlt : a.length < b.length
      · have := val_shorter ea eb hlt
        rw [if_pos (by omega), if_pos (by omega)]
      · have := val_shorter eb ea (by omega)
        rw [if_neg (by omega), if_pos (by omega), if_neg (by omega), if_pos (by omega)]
  · rw [if_neg h, if_neg h]

theorem cmpL_congr (f g : List UInt8 → List UInt8 → Int) : ∀ (p q : List (List UInt8)), (∀ a ∈ p, ∀ b ∈ q, f a b = g a b) → cmpL f p q = cmpL g p q
  | [], [], _ => rfl
  | [], _ :: _, _ => rfl
  | _ :: _, [], _ => rfl
  | a :: as, b :: bs, h => by
    rw [cmpL, cmpL, h a (by simp) b (by simp), cmpL_congr f g as bs (fun x hx y hy => h x (by simp [hx]) y (by simp [hy]))]

/-- The program's comparison of two versions. -/
def cmpV (v w : List (List UInt8) × List (List UInt8)) : Int :=
  if cmpL cmpN v.1 w.1 = 0 then
    (if decide (0 < v.2.length) = decide (0 < w.2.length) then cmpL cmpId v.2 w.2 else if 0 < v.2.length then -1 else 1)
  else cmpL cmpN v.1 w.1
/-- The document's. -/
def refV (v w : List (List UInt8) × List (List UInt8)) : Int :=
  if cmpL cmpN v.1 w.1 = 0 then
    (if v.2.length = 0 ∨ w.2.length = 0 then Lib.compareInt w.2.length v.2.length else cmpL label v.2 w.2)
  else cmpL cmpN v.1 w.1

theorem parse_ids {l : List UInt8} {v : List (List UInt8) × List (List UInt8)} (h : parse l = some v) : v.2.any noId = false := by
  unfold parse at h
  split at h
  · split at h
    · simp at h
    · split at h
      · simp at h; rw [← h]; rfl
      · rename_i b _
        unfold parseI at h
        split at h
        · rename_i hc; simp at h; rw [← h]; exact hc.2
        · simp at h
  · simp at h

theorem refV_cmpV {v w : List (List UInt8) × List (List UInt8)} (hv : v.2.any noId = false) (hw : w.2.any noId = false) : refV v w = cmpV v w := by
  unfold refV cmpV
  split
  · rcases v with ⟨vn, vi⟩
    rcases w with ⟨wn, wi⟩
    cases vi with
    | nil =>
      cases wi with
      | nil => simp [cmpL, Lib.compareInt]
      | cons b bs => simp [Lib.compareInt] <;> omega
    | cons a as =>
      cases wi with
      | nil => simp [Lib.compareInt] <;> omega
      | cons b bs =>
        simp only [List.length_cons, Nat.add_eq_zero_iff, Nat.succ_ne_self, and_false, or_self, if_false]
        rw [if_pos (by simp)]
        apply cmpL_congr
        intro x hx y hy
        apply label_cmpId
        · simpa using (List.any_eq_false.1 hv) x hx
        · simpa using (List.any_eq_false.1 hw) y hy
  · rfl

theorem compareBytes_lt : ∀ (a b : List UInt8), (Lib.compareBytes a b = if a < b then -1 else if b < a then 1 else 0)
  | [], [] => by simp [Lib.compareBytes]
  | [], _ :: _ => by simp [Lib.compareBytes]
  | _ :: _, [] => by simp [Lib.compareBytes]
  | x :: as, y :: bs => by
    rw [Lib.compareBytes, compareBytes_lt as bs]
    by_cases h : x < y
    · simp [h, List.cons_lt_cons_iff]
    · by_cases h2 : y < x
      · have hne : x ≠ y := fun e => by subst e; exact h h2
        simp [h, h2, List.cons_lt_cons_iff, hne]
      · have e : x = y := by
          have h1 : ¬ x.toNat < y.toNat := h
          have h3 : ¬ y.toNat < x.toNat := h2
          exact UInt8.toNat.inj (by omega)
        subst e
        simp

theorem atoi_val {l : List UInt8} (h : isNum l = true) : Lib.atoi l = some (val l : Int) := by
  obtain ⟨hne, hall, _⟩ := (isNum_iff l).1 h
  have key : ∀ (l : List UInt8), l.all dg = true → ∀ acc, Lib.decFrom acc l = some (l.foldl (fun a c => a * 10 + (c.toNat - 48)) acc) := by
    intro l
    induction l with
    | nil => intro _ acc; rfl
    | cons c t ih =>
      intro h acc
      simp only [List.all_cons, Bool.and_eq_true] at h
      have hc := dg_nat h.1
      unfold Lib.decFrom
      rw [show Lib.digitVal c = some (c.toNat - 48) from by unfold Lib.digitVal; rw [if_pos hc]]
      exact ih h.2 _
  cases l with
  | nil => simp at hne
  | cons c t =>
    have hc := dg_nat (by simp only [List.all_cons, Bool.and_eq_true] at hall; exact hall.1)
    have h45 : ¬ c = 45 := fun e => by rw [e] at hc; simp at hc
    have h43 : ¬ c = 43 := fun e => by rw [e] at hc; simp at hc
    simp only [Lib.atoi]
    rw [if_neg (by simpa using h45), if_neg (by simpa using h43)]
    unfold Lib.decNat
    rw [if_neg (by simp), key _ hall]
    rfl

end Pv
end Go.Proofs.YtiamomiafekihaaGreatDoor
