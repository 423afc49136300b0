/-
  The plain mathematics of texts that are put together out of lines: what their lines say. No model's run in this text.
  The plain mathematics of texts that are put together out of lines: a manifest of few modules and versions. No model's run in this text.
  The plain mathematics of texts that are put together out of lines: what such a manifest says, and its slips. No model's run in this text.
  The plain mathematics of texts that are put together out of lines: the items in order, and the text that Format makes of them. No model's run in this text.
  The plain mathematics of texts that are put together out of lines: a line in other words, lines cut and laid the other way round, a line more unless it is there. No model's run in this text.
  The plain mathematics of texts that are put together out of lines: the three texts of the law, and what they say. No model's run in this text.
-/
import Derived.Test.YtelmkfkgpnadnaaGreatDoorKTA
import Derived.Test.YtelmkfkgpnadnaaGreatDoorKQG
import Derived.Test.YtelmkfkgpnadnaaGreatDoorKCH
namespace Go.Proofs.YtelmkfkgpnadnaaGreatDoor
namespace Rn
open Tx (nb toks toks_run words spoken)

/-- A word's bytes: none is a blank, a tab, a newline or a #. -/
def wdOk (w : List UInt8) : Bool := !w.isEmpty && w.all (fun c => nb c && c != 35 && c != 10)
def blanks (b : List UInt8) : Bool := b.all fun c => c == 32 || c == 9

/-- Blanks and a word, one behind the other. -/
def join : List (List UInt8 × List UInt8) → List UInt8
  | [] => []
  | (b, w) :: r => b ++ (w ++ join r)

/-- Its words with their places. -/
def poss (i : Nat) : List (List UInt8 × List UInt8) → List (Nat × List UInt8)
  | [] => []
  | (b, w) :: r => (i + b.length, w) :: poss (i + b.length + w.length) r

theorem poss_words : ∀ (ps : List (List UInt8 × List UInt8)) (i : Nat), (poss i ps).map (·.2) = ps.map (·.2)
  | [], _ => rfl
  | (b, w) :: r, i => by simp only [poss, List.map_cons, poss_words r]

theorem blank_nb {c : UInt8} (h : (c == 32 || c == 9) = true) : nb c = false := by
  unfold nb; rw [h]; rfl

theorem toks_skip : ∀ (b x : List UInt8) (i : Nat), blanks b = true → toks i none (b ++ x) = toks (i + b.length) none x
  | [], x, i, _ => rfl
  | c :: b, x, i, h => by
    simp only [blanks, List.all_cons, Bool.and_eq_true] at h
    rw [List.cons_append, toks, if_neg (by rw [blank_nb h.1]; decide), toks_skip b x (i + 1) h.2]
    simp only [List.length_cons]
    rw [show i + 1 + b.length = i + (b.length + 1) by omega]

theorem take_run : ∀ (w y : List UInt8), (∀ c ∈ w, nb c = true) → (∀ c u, y = c :: u → nb c = false) → (w ++ y).takeWhile nb = w ∧ (w ++ y).dropWhile nb = y
  | [], y, _, hy => by
    cases y with
    | nil => exact ⟨rfl, rfl⟩
    | cons c u => have h := hy c u rfl; simp [h]
  | c :: w, y, h, hy => by
    have hc := h c (by simp)
    have ih := take_run w y (fun d hd => h d (by simp [hd])) hy
    simp only [List.cons_append, List.takeWhile_cons, List.dropWhile_cons, hc, if_true, ih.1, ih.2]
    exact ⟨trivial, trivial⟩

theorem toks_one (w y : List UInt8) (i : Nat) (hw : wdOk w = true) (hy : ∀ c u, y = c :: u → nb c = false) : toks i none (w ++ y) = (i, w) :: toks (i + w.length) none y := by
  cases w with
  | nil => simp [wdOk] at hw
  | cons c w =>
    have hall : ∀ d ∈ c :: w, nb d = true := fun d hd => by
      simp only [wdOk, Bool.and_eq_true, List.all_eq_true] at hw
      exact (hw.2 d hd).1.1
    have hc := hall c (by simp)
    have ht := take_run w y (fun d hd => hall d (by simp [hd])) hy
    rw [List.cons_append, toks, if_pos hc, toks_run, ht.1, ht.2]
    simp only [List.singleton_append, List.length_cons]
    rw [show i + 1 + w.length = i + (w.length + 1) by omega]

theorem toks_blanks : ∀ (t : List UInt8) (i : Nat), blanks t = true → toks i none t = []
  | t, i, h => by
    have := toks_skip t [] i h
    rw [List.append_nil] at this
    rw [this]; rfl

/-- Rows of blanks and words as they must be. -/
def psOk (ps : List (List UInt8 × List UInt8)) : Prop := (∀ p ∈ ps, blanks p.1 = true ∧ wdOk p.2 = true) ∧ ∀ p ∈ ps.tail, p.1 ≠ []

theorem toks_pieces : ∀ (ps : List (List UInt8 × List UInt8)) (tr : List UInt8) (i : Nat), psOk ps → blanks tr = true → toks i none (join ps ++ tr) = poss i ps
  | [], tr, i, _, ht => toks_blanks tr i ht
  | (b, w) :: r, tr, i, h, ht => by
    have h0 := h.1 (b, w) (by simp)
    have hr : psOk r := ⟨fun p hp => h.1 p (by simp [hp]), fun p hp => h.2 p (by simpa using List.mem_of_mem_tail hp)⟩
    have hy : ∀ c u, join r ++ tr = c :: u → nb c = false := by
      intro c u e
      cases r with
      | nil =>
        cases tr with
        | nil => simp [join] at e
        | cons d t =>
          simp only [join, List.nil_append, List.cons.injEq] at e
          simp only [blanks, List.all_cons, Bool.and_eq_true] at ht
          rw [← e.1]; exact blank_nb ht.1
      | cons q r =>
        obtain ⟨b2, w2⟩ := q
        have hb2 := h.2 (b2, w2) (by simp)
        have hbl := (h.1 (b2, w2) (by simp)).1
        cases b2 with
        | nil => exact absurd rfl hb2
        | cons d t =>
          simp only [join, List.cons_append, List.cons.injEq] at e
          simp only [blanks, List.all_cons, Bool.and_eq_true] at hbl
          rw [← e.1]; exact blank_nb hbl.1
    rw [join, List.append_assoc, toks_skip b _ i h0.1, List.append_assoc, toks_one w _ _ h0.2 hy, toks_pieces r tr _ hr ht, poss]

/-- A line in other words: its pieces, blanks behind, a comment, and lines that say nothing behind it. -/
structure Lx where
  ps : List (List UInt8 × List UInt8)
  tr : List UInt8
  cm : Option (List UInt8)
  ex : Bool

def tail35 (cm : Option (List UInt8)) : List UInt8 := match cm with | none => [] | some c => 35 :: c
def row (l : Lx) : List UInt8 := join l.ps ++ l.tr ++ tail35 l.cm
def txt (l : Lx) : List UInt8 := row l ++ 10 :: (if l.ex then [10, 32, 10, 35, 120, 10] else [])

structure LxOk (l : Lx) : Prop where
  ps : psOk l.ps
  ne : l.ps ≠ []
  tr : blanks l.tr = true
  cm : ∀ c, l.cm = some c → (10 : UInt8) ∉ c

theorem join_no {c : UInt8} (hc : c = 35 ∨ c = 10) : ∀ ps, (∀ p ∈ ps, blanks p.1 = true ∧ wdOk p.2 = true) → c ∉ join ps
  | [], _ => by simp [join]
  | (b, w) :: r, h => by
    have h0 := h (b, w) (by simp)
    have ih := join_no hc r (fun p hp => h p (by simp [hp]))
    simp only [join, List.mem_append, not_or]
    refine ⟨fun hm => ?_, fun hm => ?_, ih⟩
    · have := h0.1
      simp only [blanks, List.all_eq_true] at this
      have h2 := this c hm
      rcases hc with rfl | rfl <;> simp at h2
    · have := h0.2
      simp only [wdOk, Bool.and_eq_true, List.all_eq_true] at this
      have h2 := this.2 c hm
      rcases hc with rfl | rfl
      · simp at h2
      · simp at h2

theorem blanks_no {c : UInt8} (hc : c = 35 ∨ c = 10) {t : List UInt8} (h : blanks t = true) : c ∉ t := fun hm => by
  simp only [blanks, List.all_eq_true] at h
  have h2 := h c hm
  rcases hc with rfl | rfl <;> simp at h2

theorem words_row {l : Lx} (h : LxOk l) : words (row l) = poss 0 l.ps := by
  have hn : (35 : UInt8) ∉ join l.ps ++ l.tr := by
    simp only [List.mem_append, not_or]
    exact ⟨join_no (Or.inl rfl) _ h.ps.1, blanks_no (Or.inl rfl) h.tr⟩
  have e : (Pv.cutc 35 (row l)).1 = join l.ps ++ l.tr := by
    unfold row tail35
    cases l.cm with
    | none => simp only [List.append_nil]; rw [Pv.cutc_miss 35 _ hn]
    | some c => simp only; rw [Pv.cutc_hit 35 _ c hn]
  unfold words
  rw [e]
  exact toks_pieces l.ps l.tr 0 h.ps h.tr

theorem row_no10 {l : Lx} (h : LxOk l) : (10 : UInt8) ∉ row l := by
  unfold row tail35
  simp only [List.mem_append, not_or]
  refine ⟨⟨join_no (Or.inr rfl) _ h.ps.1, blanks_no (Or.inr rfl) h.tr⟩, ?_⟩
  cases hc : l.cm with
  | none => simp
  | some c =>
    simp only [List.mem_cons, not_or]
    exact ⟨by decide, h.cm c hc⟩

theorem poss_ne {ps : List (List UInt8 × List UInt8)} (h : ps ≠ []) (i : Nat) : poss i ps ≠ [] := by
  cases ps with
  | nil => exact absurd rfl h
  | cons p r => obtain ⟨b, w⟩ := p; simp [poss]

/-- The lines that say something, with their numbers. -/
def nums (n : Nat) : List Lx → List Tx.Ln
  | [] => []
  | l :: r => (n, poss 0 l.ps) :: nums (n + if l.ex then 4 else 1) r

theorem spoken_blank (n : Nat) (a : List UInt8) (ls : List (List UInt8)) (h : words a = []) : spoken n (a :: ls) = spoken (n + 1) ls := by rw [spoken, if_pos h]

theorem spoken_txt : ∀ (ls : List Lx) (n : Nat), (∀ l ∈ ls, LxOk l) → spoken n (Pv.spl 10 (ls.flatMap txt)) = nums n ls
  | [], n, _ => by
    show spoken n [[]] = []
    rw [spoken_blank n [] [] rfl]; rfl
  | l :: r, n, h => by
    have h0 := h l (by simp)
    have ih := fun m => spoken_txt r m (fun x hx => h x (by simp [hx]))
    rw [List.flatMap_cons, txt, List.append_assoc, List.cons_append, Pv.spl_hit 10 _ _ (row_no10 h0), spoken, words_row h0, if_neg (poss_ne h0.ne 0), nums]
    congr 1
    cases l.ex with
    | false => simp only [Bool.false_eq_true, if_false, List.nil_append]; exact ih (n + 1)
    | true =>
      simp only [if_true]
      have e : ([10, 32, 10, 35, 120, 10] : List UInt8) ++ r.flatMap txt = [] ++ 10 :: ([32] ++ 10 :: ([35, 120] ++ 10 :: r.flatMap txt)) := rfl
      rw [e, Pv.spl_hit 10 [] _ (by simp), Pv.spl_hit 10 [32] _ (by decide), Pv.spl_hit 10 [35, 120] _ (by decide), spoken_blank _ _ _ rfl, spoken_blank _ _ _ rfl, spoken_blank _ _ _ rfl]
      exact ih (n + 4)

end Rn
end Go.Proofs.YtelmkfkgpnadnaaGreatDoor

namespace Go.Proofs.YtelmkfkgpnadnaaGreatDoor
namespace Rn
open Tx (wM wR wE wP wA)

/-- A module's path, a version, by their numbers. -/
def pW (k : Nat) : List UInt8 := [109, UInt8.ofNat (48 + k)]
def vW (j : Nat) : List UInt8 := if j = 0 then [118, 49, 46, 48, 46, 48] else if j = 1 then [118, 49, 46, 50, 46, 48, 45, 114, 99, 46, 49] else if j = 2 then [118, 49, 46, 50, 46, 48] else [118, 49, 46, 49, 48, 46, 48]

/-- What a line says: a require (0), an exclude (1), a replace (2). -/
structure It where
  t : Nat
  k : Nat
  v : Nat
  b : Nat
deriving DecidableEq

structure ItOk (x : It) : Prop where
  t : x.t < 3
  k : x.k < 7
  v : x.v < 4
  b : x.b < 4

def itW (x : It) : List (List UInt8) := if x.t = 0 then [wR, pW x.k, vW x.v] else if x.t = 1 then [wE, pW x.k, vW x.v] else [wP, pW x.k, vW x.v, wA, vW x.b]

theorem isPath_p : ∀ k, k < 7 → Pv.isPath (pW k) = true := by decide
theorem parse_v : ∀ j, j < 4 → (Pv.parse (vW j)).isSome = true := by decide
theorem p_inj7 : ∀ a, a < 7 → ∀ b, b < 7 → pW a = pW b → a = b := by decide
theorem p_inj (a b : Nat) (ha : a < 7) (hb : b < 7) (h : pW a = pW b) : a = b := p_inj7 a ha b hb h
theorem v_inj4 : ∀ a, a < 4 → ∀ b, b < 4 → vW a = vW b → a = b := by decide
theorem v_inj (a b : Nat) (ha : a < 4) (hb : b < 4) (h : vW a = vW b) : a = b := v_inj4 a ha b hb h

/-- What of it may be said once. -/
def clI (x : It) : Nat × Nat × Nat := (x.t, x.k, if x.t = 0 then 0 else x.v)

theorem own_item {x : It} (hx : ItOk x) {l : List (Nat × List UInt8)} (hl : l.map (·.2) = itW x) : Tx.own false Pv.isPath l = none ∧ (Tx.hd l).2 ≠ wM ∧ ((Tx.hd l).2 = wR ↔ x.t = 0) ∧ Tx.claim l = (if x.t = 0 then (wR, pW x.k, []) else if x.t = 1 then (wE, pW x.k, vW x.v) else (wP, pW x.k, vW x.v)) := by
  have hp := isPath_p x.k hx.k
  have hv := parse_v x.v hx.v
  have hb := parse_v x.b hx.b
  rcases (by have := hx.t; omega : x.t = 0 ∨ x.t = 1 ∨ x.t = 2) with e | e | e
  · unfold itW at hl
    rw [if_pos e] at hl
    match l, hl with
    | [(a0, w0), (a1, w1), (a2, w2)], hl =>
      simp only [List.map_cons, List.map_nil, List.cons.injEq, and_true] at hl
      obtain ⟨rfl, rfl, rfl⟩ := hl
      have hs : Tx.shape false wR = some [5, 6] := by decide
      refine ⟨?_, (by decide : wR ≠ wM), ⟨fun _ => e, fun _ => rfl⟩, ?_⟩
      · simp [Tx.own, Tx.hd, hs, Tx.misfit, Tx.fit, hp, hv]
      · rw [if_pos e]
        have h1 : wR ≠ Tx.wV := by decide
        simp [Tx.claim, Tx.hd, Tx.nth, h1]
  · unfold itW at hl
    rw [if_neg (by omega), if_pos e] at hl
    match l, hl with
    | [(a0, w0), (a1, w1), (a2, w2)], hl =>
      simp only [List.map_cons, List.map_nil, List.cons.injEq, and_true] at hl
      obtain ⟨rfl, rfl, rfl⟩ := hl
      have hs : Tx.shape false wE = some [5, 6] := by decide
      have h2 : wE ≠ wR := by decide
      refine ⟨?_, (by decide : wE ≠ wM), ⟨fun h => absurd h h2, fun h => by omega⟩, ?_⟩
      · simp [Tx.own, Tx.hd, hs, Tx.misfit, Tx.fit, hp, hv]
      · rw [if_neg (by omega), if_pos e]
        have h1 : wE ≠ Tx.wV := by decide
        have h3 : wE ≠ wM := by decide
        simp [Tx.claim, Tx.hd, Tx.nth, h1, h2, h3]
  · unfold itW at hl
    rw [if_neg (by omega), if_neg (by omega)] at hl
    match l, hl with
    | [(a0, w0), (a1, w1), (a2, w2), (a3, w3), (a4, w4)], hl =>
      simp only [List.map_cons, List.map_nil, List.cons.injEq, and_true] at hl
      obtain ⟨rfl, rfl, rfl, rfl, rfl⟩ := hl
      have hs : Tx.shape false wP = some [5, 6, 7, 6] := by decide
      have h2 : wP ≠ wR := by decide
      refine ⟨?_, (by decide : wP ≠ wM), ⟨fun h => absurd h h2, fun h => by omega⟩, ?_⟩
      · simp [Tx.own, Tx.hd, hs, Tx.misfit, Tx.fit, hp, hv, hb]
      · rw [if_neg (by omega), if_neg (by omega)]
        have h1 : wP ≠ Tx.wV := by decide
        have h3 : wP ≠ wM := by decide
        simp [Tx.claim, Tx.hd, Tx.nth, h1, h2, h3]

theorem cl_inj {x y : It} (hx : ItOk x) (hy : ItOk y) {l g : List (Nat × List UInt8)} (hl : l.map (·.2) = itW x) (hg : g.map (·.2) = itW y) (h : Tx.claim g = Tx.claim l) : clI y = clI x := by
  rw [(own_item hx hl).2.2.2, (own_item hy hg).2.2.2] at h
  have hxt := hx.t
  have hyt := hy.t
  unfold clI
  rcases (by omega : x.t = 0 ∨ x.t = 1 ∨ x.t = 2) with e | e | e <;> rcases (by omega : y.t = 0 ∨ y.t = 1 ∨ y.t = 2) with f | f | f <;> rw [e, f] at h ⊢ <;> simp [Prod.mk.injEq] at h ⊢
  · exact p_inj _ _ hy.k hx.k h
  · exact absurd h.1 (by decide)
  · exact absurd h.1 (by decide)
  · exact absurd h.1 (by decide)
  · exact ⟨p_inj _ _ hy.k hx.k h.1, v_inj _ _ hy.v hx.v h.2⟩
  · exact absurd h.1 (by decide)
  · exact absurd h.1 (by decide)
  · exact absurd h.1 (by decide)
  · exact ⟨p_inj _ _ hy.k hx.k h.1, v_inj _ _ hy.v hx.v h.2⟩

theorem cl_same {x y : It} (hx : ItOk x) (hy : ItOk y) {l g : List (Nat × List UInt8)} (hl : l.map (·.2) = itW x) (hg : g.map (·.2) = itW y) (h : clI y = clI x) : Tx.claim g = Tx.claim l := by
  rw [(own_item hx hl).2.2.2, (own_item hy hg).2.2.2]
  unfold clI at h
  simp only [Prod.mk.injEq] at h
  obtain ⟨h1, h2, h3⟩ := h
  rw [h1, h2]
  by_cases e : x.t = 0
  · rw [if_pos e, if_pos e]
  · rw [h1, if_neg e] at h3
    rw [if_neg e] at h3
    rw [h3]

/-- How many require. -/
def nR (l : List It) : Nat := l.countP (fun x => x.t == 0)

/-- Lines that say what these say, none of it said before: all are good. -/
theorem fold_items : ∀ (its : List It) (ls : List Tx.Ln) (g : Tx.Got), (∀ x ∈ its, ItOk x) → ls.map (fun l => l.2.map (·.2)) = its.map itW → 0 < g.spoken → (its.map clI).Nodup → (∀ x ∈ g.good, ∀ y ∈ its, ∀ l : List (Nat × List UInt8), l.map (·.2) = itW y → Tx.claim x.2 ≠ Tx.claim l) → g.requires + nR its ≤ 20 →
    ls.foldl (Tx.stepDoc false Pv.isPath 20) g = ⟨g.good ++ ls, g.slips, g.spoken + ls.length, g.requires + nR its⟩
  | [], ls, g, _, hl, _, _, _, _ => by
    have : ls = [] := by simpa using hl
    subst this
    simp [nR]
  | y :: its, ls, g, hok, hl, hg, hnd, hne, hq => by
    cases ls with
    | nil => simp at hl
    | cons l ls =>
      simp only [List.map_cons, List.cons.injEq] at hl
      have hy := hok y (by simp)
      have ho := own_item hy hl.1
      have hdup : (g.good.any fun x => decide (Tx.claim x.2 = Tx.claim l.2)) = false := by
        rw [List.any_eq_false]
        intro x hx h
        exact hne x hx y (by simp) l.2 hl.1 (of_decide_eq_true h)
      have hnR : nR (y :: its) = nR its + if y.t = 0 then 1 else 0 := by
        unfold nR
        rw [List.countP_cons]
        by_cases e : y.t = 0 <;> simp [e]
      have hmany : ¬ ((Tx.hd l.2).2 = wR ∧ (g.requires == 20) = true) := by
        rintro ⟨h1, h2⟩
        have h3 := ho.2.2.1.1 h1
        rw [hnR, if_pos h3] at hq
        simp at h2
        omega
      have hlead : ¬ (false = false ∧ ((Tx.hd l.2).2 == wM) ≠ (g.spoken == 0)) := by
        have h1 : ((Tx.hd l.2).2 == wM) = false := by simpa using ho.2.1
        have h2 : (g.spoken == 0) = false := by simp; omega
        rw [h1, h2]
        simp
      have hstep : Tx.stepDoc false Pv.isPath 20 g l = ⟨g.good ++ [l], g.slips, g.spoken + 1, g.requires + if y.t = 0 then 1 else 0⟩ := by
        rw [Tx.step_doc]
        unfold Tx.step Tx.slip
        rw [hdup, if_neg hlead, ho.1]
        simp only [Bool.false_eq_true, if_false, if_neg hmany]
        by_cases e : y.t = 0
        · rw [if_pos (ho.2.2.1.2 e), if_pos e]
        · rw [if_neg (fun h => e (ho.2.2.1.1 h)), if_neg e]; rfl
      rw [List.foldl_cons, hstep, fold_items its ls _ (fun x hx => hok x (by simp [hx])) hl.2 (by simp) (List.nodup_cons.1 hnd).2 ?_ ?_]
      · simp only [List.append_assoc, List.singleton_append, List.length_cons, Tx.Got.mk.injEq, true_and]
        rw [hnR]
        omega
      · intro x hx z hz m hm
        rcases List.mem_append.1 hx with h | h
        · exact hne x h z (by simp [hz]) m hm
        · rw [List.mem_singleton.1 h]
          intro e
          have := cl_inj (hok z (by simp [hz])) hy hm hl.1 e
          exact (List.nodup_cons.1 hnd).1 (by rw [this]; exact List.mem_map_of_mem hz)
      · show g.requires + (if y.t = 0 then 1 else 0) + nR its ≤ 20
        rw [hnR] at hq
        omega

/-- The first line. -/
theorem fold_first (l : Tx.Ln) (h : l.2.map (·.2) = [wM, [97, 47, 98]]) : Tx.stepDoc false Pv.isPath 20 got0 l = ⟨[l], [], 1, 0⟩ := by
  obtain ⟨n, l⟩ := l
  match l, h with
  | [(a0, w0), (a1, w1)], h =>
    simp only [List.map_cons, List.map_nil, List.cons.injEq, and_true] at h
    obtain ⟨rfl, rfl⟩ := h
    have hs : Tx.shape false wM = some [5] := by decide
    have hp : Pv.isPath [97, 47, 98] = true := by decide
    have ho : Tx.own false Pv.isPath [(a0, wM), (a1, [97, 47, 98])] = none := by simp [Tx.own, Tx.hd, hs, Tx.misfit, Tx.fit, hp]
    have hM : wM ≠ wR := by decide
    rw [Tx.step_doc]
    unfold Tx.step Tx.slip
    have hh : Tx.hd [(a0, wM), (a1, [97, 47, 98])] = (a0, wM) := rfl
    simp only [hh, ho]
    simp [hM]

end Rn
end Go.Proofs.YtelmkfkgpnadnaaGreatDoor

namespace Go.Proofs.YtelmkfkgpnadnaaGreatDoor
namespace Rn
open Tx (wM wR wE wP wA)
open Mf

def ba (l : List UInt8) : ByteArray := ⟨l.toArray⟩
def iR (x : It) : Option Mo := if x.t = 0 then some (ba (pW x.k), ba (vW x.v)) else none
def iX (x : It) : Option Mo := if x.t = 1 then some (ba (pW x.k), ba (vW x.v)) else none
def iS (x : It) : Option So := if x.t = 2 then some (ba (pW x.k), ba (vW x.v), ba (vW x.b)) else none

theorem wd_un (x : Tx.Ln) (j : Nat) : wd (unoln x).2 j = ba ((x.2.map (·.2)).getD j []) := by
  unfold wd unoln ba
  simp only [List.getD_eq_getElem?_getD, List.getElem?_map]
  cases x.2[j]? <;> rfl

theorem mxStep_item {x : It} (hx : ItOk x) {l : Tx.Ln} (hl : l.2.map (·.2) = itW x) (m : Mx) :
    mxStep m (stOf (unoln l).2) = ⟨m.p, m.R ++ (iR x).toList, m.X ++ (iX x).toList, m.S ++ (iS x).toList⟩ := by
  unfold stOf
  rw [wd_un, wd_un, wd_un, wd_un, hl]
  unfold itW iR iX iS mxStep
  rcases (by have := hx.t; omega : x.t = 0 ∨ x.t = 1 ∨ x.t = 2) with e | e | e
  · rw [e]
    have h2 : ba wR = bReq := rfl
    simp [h2]
  · rw [e]
    have h3 : ba wE = bExc := rfl
    simp [h3]
  · rw [e]
    have h4 : ba wP = bRep := rfl
    simp [h4]

theorem fold_mx : ∀ (its : List It) (L : List Tx.Ln) (m : Mx), (∀ x ∈ its, ItOk x) → L.map (fun l => l.2.map (·.2)) = its.map itW →
    (L.map (fun l => stOf (unoln l).2)).foldl mxStep m = ⟨m.p, m.R ++ its.filterMap iR, m.X ++ its.filterMap iX, m.S ++ its.filterMap iS⟩
  | [], L, m, _, hl => by
    have : L = [] := by simpa using hl
    subst this
    simp
  | y :: its, L, m, hok, hl => by
    cases L with
    | nil => simp at hl
    | cons l L =>
      simp only [List.map_cons, List.cons.injEq] at hl
      rw [List.map_cons, List.foldl_cons, mxStep_item (hok y (by simp)) hl.1, fold_mx its L _ (fun x hx => hok x (by simp [hx])) hl.2]
      simp only [List.append_assoc, List.filterMap_cons]
      congr 2
      · cases iR y <;> rfl
      · cases iX y <;> rfl
      · cases iS y <;> rfl

theorem nums_words : ∀ (ls : List Lx) (n : Nat), (nums n ls).map (fun l => l.2.map (·.2)) = ls.map (fun l => l.ps.map (·.2))
  | [], _ => rfl
  | l :: r, n => by simp only [nums, List.map_cons, poss_words, nums_words r]

theorem nums_snoc : ∀ (ls : List Lx) (d : Lx) (n : Nat), (∀ l ∈ ls, l.ex = false) → nums n (ls ++ [d]) = nums n ls ++ [(n + ls.length, poss 0 d.ps)]
  | [], d, n, _ => rfl
  | l :: r, d, n, h => by
    have h0 := h l (by simp)
    rw [List.cons_append, nums, nums_snoc r d _ (fun x hx => h x (by simp [hx])), nums, h0]
    simp only [Bool.false_eq_true, if_false, List.cons_append, List.length_cons]
    rw [show n + 1 + r.length = n + (r.length + 1) by omega]

theorem got_lines (ls : List Lx) (hls : ∀ l ∈ ls, LxOk l) (s : ByteArray) (hs : s.data.toList = ls.flatMap txt) : manGot s = (nums 1 ls).foldl (Tx.stepDoc false Pv.isPath 20) got0 := by
  unfold manGot
  rw [Tx.lines_same, hs, spoken_txt ls 1 hls]

def moduleW : List (List UInt8) := [wM, [97, 47, 98]]

theorem st_first (l : Tx.Ln) (h : l.2.map (·.2) = moduleW) (m : Mx) : mxStep m (stOf (unoln l).2) = ⟨ba [97, 47, 98], m.R, m.X, m.S⟩ := by
  unfold stOf
  rw [wd_un, wd_un, wd_un, wd_un, h]
  have h1 : ba wM = bMod := rfl
  unfold mxStep moduleW
  simp [h1]

/-- A text of good lines. -/
structure Text (f : Lx) (ls : List Lx) (its : List It) : Prop where
  fok : LxOk f
  fw : f.ps.map (·.2) = moduleW
  lok : ∀ l ∈ ls, LxOk l
  w : ls.map (fun l => l.ps.map (·.2)) = its.map itW
  ok : ∀ x ∈ its, ItOk x
  nd : (its.map clI).Nodup
  q : nR its ≤ 20

theorem claim_first {l : List (Nat × List UInt8)} (h : l.map (·.2) = moduleW) {x : It} (hx : ItOk x) {g : List (Nat × List UInt8)} (hg : g.map (·.2) = itW x) : Tx.claim l ≠ Tx.claim g := by
  have h1 : (Tx.claim l).1 = wM := by
    match l, h with
    | [(a0, w0), (a1, w1)], h =>
      simp only [moduleW, List.map_cons, List.map_nil, List.cons.injEq, and_true] at h
      obtain ⟨rfl, rfl⟩ := h
      rfl
  have h2 : (Tx.claim g).1 ≠ wM := by
    rw [(own_item hx hg).2.2.2]
    split
    · exact (by decide : wR ≠ wM)
    · split
      · exact (by decide : wE ≠ wM)
      · exact (by decide : wP ≠ wM)
  intro e
  rw [e] at h1
  exact h2 h1

theorem got_items {f : Lx} {ls : List Lx} {its : List It} (T : Text f ls its) (s : ByteArray) (hs : s.data.toList = (f :: ls).flatMap txt) : manGot s = ⟨nums 1 (f :: ls), [], its.length + 1, nR its⟩ := by
  have hw : ∀ n, (nums n ls).map (fun l => l.2.map (·.2)) = its.map itW := fun n => by rw [nums_words, T.w]
  have hfw : (poss 0 f.ps).map (·.2) = moduleW := by rw [poss_words, T.fw]
  rw [got_lines (f :: ls) (fun l hl => by rcases List.mem_cons.1 hl with rfl | h; exact T.fok; exact T.lok l h) s hs, nums, List.foldl_cons, fold_first _ hfw, fold_items its _ _ T.ok (hw _) (by simp) T.nd ?_ (by simpa using T.q)]
  · have hl : ∀ n, (nums n ls).length = its.length := fun n => by have := congrArg List.length (hw n); simpa using this
    simp only [List.singleton_append, hl, Tx.Got.mk.injEq, true_and, Nat.zero_add, and_true]
    omega
  · intro x hx y hy l hl
    rw [List.mem_singleton.1 hx]
    exact claim_first hfw (T.ok y hy) hl

theorem read_items {f : Lx} {ls : List Lx} {its : List It} (T : Text f ls its) (s : ByteArray) (hs : s.data.toList = (f :: ls).flatMap txt) (hz : s.size ≤ 2000) :
    manSlips s = [] ∧ manMx s = ⟨ba [97, 47, 98], its.filterMap iR, its.filterMap iX, its.filterMap iS⟩ := by
  have hg := got_items T s hs
  have h1 : manSlips s = [] := by
    unfold manSlips
    rw [if_pos hz, hg]
    unfold fin2
    rw [if_neg (by simp)]
  refine ⟨h1, ?_⟩
  unfold manMx
  rw [if_pos h1, hg]
  have hfw : (poss 0 f.ps).map (·.2) = moduleW := by rw [poss_words, T.fw]
  unfold mxOf
  simp only [nums, List.map_cons, List.foldl_cons]
  rw [st_first _ hfw, fold_mx its _ _ T.ok (by rw [nums_words, T.w])]
  simp

/-- The same, and a line behind that says again what one of them says. -/
theorem read_twice {f : Lx} {ls : List Lx} {its : List It} (T : Text f ls its) (hfe : f.ex = false) (hle : ∀ l ∈ ls, l.ex = false) {d : Lx} (hd : LxOk d) {y : It} (hy : y ∈ its) (hdw : d.ps.map (·.2) = itW y) (h0 : ∀ b w r, d.ps = (b, w) :: r → b = [])
    (s : ByteArray) (hs : s.data.toList = (f :: ls ++ [d]).flatMap txt) (hz : s.size ≤ 2000) : manSlips s = [(its.length + 2, 0, 8)] := by
  have hT := got_items T ⟨((f :: ls).flatMap txt).toArray⟩ (by simp)
  rw [got_lines (f :: ls) (fun l hl => by rcases List.mem_cons.1 hl with rfl | h; exact T.fok; exact T.lok l h) _ (by simp)] at hT
  have hyw : (poss 0 d.ps).map (·.2) = itW y := by rw [poss_words, hdw]
  have ho := own_item (T.ok y hy) hyw
  have hall : ∀ l ∈ f :: ls ++ [d], LxOk l := fun l hl => by
    rcases List.mem_append.1 hl with h | h
    · rcases List.mem_cons.1 h with rfl | h
      · exact T.fok
      · exact T.lok l h
    · rw [List.mem_singleton.1 h]; exact hd
  have hex : ∀ l ∈ f :: ls, l.ex = false := fun l hl => by
    rcases List.mem_cons.1 hl with rfl | h
    · exact hfe
    · exact hle l h
  have hlen : ls.length = its.length := by have := congrArg List.length T.w; simpa using this
  have hg : manGot s = ⟨nums 1 (f :: ls), [(its.length + 2, 0, 8)], its.length + 2, nR its⟩ := by
    rw [got_lines _ hall s hs, nums_snoc _ d 1 hex, List.foldl_append, hT, List.foldl_cons, List.foldl_nil, Tx.step_doc]
    have hdup : ((nums 1 (f :: ls)).any fun x => decide (Tx.claim x.2 = Tx.claim (poss 0 d.ps))) = true := by
      rw [List.any_eq_true]
      have hm : itW y ∈ (nums (1 + if f.ex then 4 else 1) ls).map (fun l => l.2.map (·.2)) := by
        rw [nums_words, T.w]
        exact List.mem_map_of_mem hy
      obtain ⟨l, hl, e⟩ := List.mem_map.1 hm
      exact ⟨l, by rw [nums]; exact List.mem_cons_of_mem _ hl, decide_eq_true (cl_same (T.ok y hy) (T.ok y hy) hyw e rfl)⟩
    have hh : (Tx.hd (poss 0 d.ps)).1 = 0 := by
      match hp : d.ps, hd.ne with
      | (b, w) :: r, _ =>
        have := h0 b w r hp
        subst this
        rfl
    unfold Tx.step Tx.slip
    have hM : ((Tx.hd (poss 0 d.ps)).2 == wM) = false := by simpa using ho.2.1
    simp only [hdup, ho.1, hM, hh]
    simp [hlen]
    omega
  unfold manSlips
  rw [if_pos hz, hg]
  unfold fin2
  rw [if_neg (by simp)]

end Rn
end Go.Proofs.YtelmkfkgpnadnaaGreatDoor

namespace Go.Proofs.YtelmkfkgpnadnaaGreatDoor
namespace Rn
open Tx (wM wR wE wP wA)
open Mf Go.Proofs.YtelmkfkgpnadnaaGreatDoor

section
variable {α : Type} {lt : α → α → Bool}

theorem drop_not (hS : Go.Sort.SWO lt) (v : α) : ∀ D : List α, D.Pairwise (fun b a => lt b a = false) → ∀ a ∈ D.dropWhile (lt v), lt v a = false
  | [], _, a, h => by simp at h
  | d :: D, hD, a, h => by
    rw [List.pairwise_cons] at hD
    rw [List.dropWhile_cons] at h
    by_cases e : lt v d = true
    · rw [if_pos e] at h
      exact drop_not hS v D hD.2 a h
    · rw [if_neg e] at h
      have e' : lt v d = false := by simpa using e
      rcases List.mem_cons.1 h with rfl | h
      · exact e'
      · exact hS.ntrans v d a e' (hD.1 a h)

theorem take_lt (v : α) : ∀ D : List α, ∀ a ∈ D.takeWhile (lt v), lt v a = true
  | [], a, h => by simp at h
  | d :: D, a, h => by
    rw [List.takeWhile_cons] at h
    by_cases e : lt v d = true
    · rw [if_pos e] at h
      rcases List.mem_cons.1 h with rfl | h
      · exact e
      · exact take_lt v D a h
    · rw [if_neg e] at h; simp at h

abbrev Pw (lt : α → α → Bool) (L : List α) : Prop := L.Pairwise fun a b => lt b a = false

theorem ins_pw (hS : Go.Sort.SWO lt) (v : α) (L : List α) (h : Pw lt L) : Pw lt (Ss.ins lt v L) := by
  have hr : L.reverse.Pairwise (fun b a => lt b a = false) := List.pairwise_reverse.2 h
  have hd := drop_not hS v L.reverse hr
  have ht := take_lt (lt := lt) v L.reverse
  have e : L = (L.reverse.dropWhile (lt v)).reverse ++ (L.reverse.takeWhile (lt v)).reverse := by
    rw [← List.reverse_append, List.takeWhile_append_dropWhile, List.reverse_reverse]
  unfold Ss.ins
  have h2 : Pw lt ((L.reverse.dropWhile (lt v)).reverse ++ (L.reverse.takeWhile (lt v)).reverse) := by rw [← e]; exact h
  unfold Pw at h2 ⊢
  rw [List.pairwise_append] at h2
  rw [List.append_assoc, List.pairwise_append]
  refine ⟨h2.1, ?_, ?_⟩
  · rw [List.singleton_append, List.pairwise_cons]
    refine ⟨fun y hy => ?_, h2.2.1⟩
    have h3 := ht y (List.mem_reverse.1 hy)
    cases h4 : lt y v with
    | false => rfl
    | true => have := hS.trans v y v h3 h4; rw [hS.irrefl] at this; exact absurd this (by decide)
  · intro a ha b hb
    rcases List.mem_append.1 hb with hb | hb
    · rw [List.mem_singleton.1 hb]; exact hd a (List.mem_reverse.1 ha)
    · exact h2.2.2 a ha b hb

theorem insAll_pw (hS : Go.Sort.SWO lt) (L : List α) : Pw lt (Ss.insAll lt L) := by
  rw [← L.reverse_reverse]
  induction L.reverse with
  | nil => exact List.Pairwise.nil
  | cons a r ih => rw [List.reverse_cons, Ss.insAll_snoc]; exact ins_pw hS _ _ ih

theorem ins_last (v : α) (L : List α) (h : ∀ y ∈ L, lt v y = false) : Ss.ins lt v L = L ++ [v] := by
  unfold Ss.ins
  have h2 : ∀ D : List α, (∀ y ∈ D, lt v y = false) → D.dropWhile (lt v) = D ∧ D.takeWhile (lt v) = [] := by
    intro D hD
    cases D with
    | nil => exact ⟨rfl, rfl⟩
    | cons d D => simp [hD d (by simp)]
  have h3 := h2 L.reverse (fun y hy => h y (List.mem_reverse.1 hy))
  rw [h3.1, h3.2, List.reverse_reverse]
  simp

theorem insAll_id (L : List α) (h : Pw lt L) : Ss.insAll lt L = L := by
  rw [← L.reverse_reverse] at h ⊢
  generalize L.reverse = M at *
  induction M with
  | nil => rfl
  | cons a r ih =>
    rw [List.reverse_cons] at h ⊢
    unfold Pw at h
    rw [List.pairwise_append] at h
    rw [Ss.insAll_snoc, ih h.1, ins_last]
    intro y hy
    exact h.2.2 y hy a (by simp)
end

theorem swo_R : Go.Sort.SWO (ltOf Sm.cmpP) := Pv.swo_of (fun x : Mo => x.1) cmp_path
theorem swo_X : Go.Sort.SWO (ltOf cmpMod) := Pv.swo_of (fun x : Mo => x) cmp_mod
theorem swo_S : Go.Sort.SWO (ltOf Sw.cmpS) := Pv.swo_of (fun x : So => (x.1, x.2.1)) cmp_mod

theorem reqs_id (L : List Mo) : reqs (reqs L) = reqs L := insAll_id _ (insAll_pw swo_R L)
theorem excs_id (L : List Mo) : excs (excs L) = excs L := insAll_id _ (insAll_pw swo_X L)
theorem reps_id (L : List So) : reps (reps L) = reps L := insAll_id _ (insAll_pw swo_S L)

/-! ### The items in order -/
def mR (x : It) : Mo := (ba (pW x.k), ba (vW x.v))
def mS (x : It) : So := (ba (pW x.k), ba (vW x.v), ba (vW x.b))

theorem fm_map {α β : Type} {f : α → Option β} {g : α → β} {p : α → Bool} (h1 : ∀ x, p x = true → f x = some (g x)) (h0 : ∀ x, p x = false → f x = none) : ∀ l : List α, l.filterMap f = (l.filter p).map g
  | [] => rfl
  | x :: l => by
    cases e : p x with
    | true => rw [List.filterMap_cons_some (h1 x e), List.filter_cons_of_pos e, List.map_cons, fm_map h1 h0 l]
    | false => rw [List.filterMap_cons_none (h0 x e), List.filter_cons_of_neg (by rw [e]; decide), fm_map h1 h0 l]

def is (t : Nat) (x : It) : Bool := x.t == t
theorem fm_R (l : List It) : l.filterMap iR = (l.filter (is 0)).map mR := fm_map (fun x h => by have : x.t = 0 := by simpa [is] using h
                                                                                                simp [iR, mR, this]) (fun x h => by have : ¬ x.t = 0 := by simpa [is] using h
                                                                                                                                    simp [iR, this]) l
theorem fm_X (l : List It) : l.filterMap iX = (l.filter (is 1)).map mR := fm_map (fun x h => by have : x.t = 1 := by simpa [is] using h
                                                                                                simp [iX, mR, this]) (fun x h => by have : ¬ x.t = 1 := by simpa [is] using h
                                                                                                                                    simp [iX, this]) l
theorem fm_S (l : List It) : l.filterMap iS = (l.filter (is 2)).map mS := fm_map (fun x h => by have : x.t = 2 := by simpa [is] using h
                                                                                                simp [iS, mS, this]) (fun x h => by have : ¬ x.t = 2 := by simpa [is] using h
                                                                                                                                    simp [iS, this]) l

def sR (l : List It) : List It := Ss.insAll (fun x y => ltOf Sm.cmpP (mR x) (mR y)) (l.filter (is 0))
def sX (l : List It) : List It := Ss.insAll (fun x y => ltOf cmpMod (mR x) (mR y)) (l.filter (is 1))
def sS (l : List It) : List It := Ss.insAll (fun x y => ltOf Sw.cmpS (mS x) (mS y)) (l.filter (is 2))
def srt (l : List It) : List It := sR l ++ (sX l ++ sS l)

theorem sR_map (l : List It) : (sR l).map mR = reqs (l.filterMap iR) := by rw [fm_R]; exact Ss.insAll_map mR _ (fun _ _ => rfl) _
theorem sX_map (l : List It) : (sX l).map mR = excs (l.filterMap iX) := by rw [fm_X]; exact Ss.insAll_map mR _ (fun _ _ => rfl) _
theorem sS_map (l : List It) : (sS l).map mS = reps (l.filterMap iS) := by rw [fm_S]; exact Ss.insAll_map mS _ (fun _ _ => rfl) _

theorem srt_perm {l : List It} (h : ∀ x ∈ l, ItOk x) : (srt l).Perm l := by
  have h1 : (srt l).Perm (l.filter (is 0) ++ (l.filter (is 1) ++ l.filter (is 2))) := (Ss.insAll_perm _).append ((Ss.insAll_perm _).append (Ss.insAll_perm _))
  refine h1.trans ?_
  induction l with
  | nil => exact List.Perm.nil
  | cons x l ih =>
    have ih := ih (fun y hy => h y (by simp [hy])) ((Ss.insAll_perm _).append ((Ss.insAll_perm _).append (Ss.insAll_perm _)))
    have hx := (h x (by simp)).t
    rcases (by omega : x.t = 0 ∨ x.t = 1 ∨ x.t = 2) with e | e | e
    · simp only [List.filter_cons, is, e]
      exact ih.cons x
    · simp only [List.filter_cons, is, e]
      exact (List.perm_middle).trans (ih.cons x)
    · simp only [List.filter_cons, is, e]
      have e2 : ∀ A B C : List It, A ++ (B ++ x :: C) = (A ++ B) ++ x :: C := fun A B C => by simp
      simp only [Nat.reduceBEq, Bool.false_eq_true, if_false, if_true]
      rw [e2]
      refine (List.perm_middle).trans ?_
      rw [List.append_assoc]
      exact ih.cons x

theorem mem_sR {l : List It} {x : It} (h : x ∈ sR l) : x.t = 0 := by
  have := (Ss.insAll_perm _).mem_iff.1 h
  rw [List.mem_filter] at this
  simpa [is] using this.2
theorem mem_sX {l : List It} {x : It} (h : x ∈ sX l) : x.t = 1 := by
  have := (Ss.insAll_perm _).mem_iff.1 h
  rw [List.mem_filter] at this
  simpa [is] using this.2
theorem mem_sS {l : List It} {x : It} (h : x ∈ sS l) : x.t = 2 := by
  have := (Ss.insAll_perm _).mem_iff.1 h
  rw [List.mem_filter] at this
  simpa [is] using this.2

theorem filter_is {l : List It} {t u : Nat} (h : ∀ x ∈ l, x.t = t) : l.filter (is u) = if t = u then l else [] := by
  by_cases e : t = u
  · rw [if_pos e, List.filter_eq_self]
    intro x hx; simp [is, h x hx, e]
  · rw [if_neg e, List.filter_eq_nil_iff]
    intro x hx; simp [is, h x hx, e]

theorem srt_R (l : List It) : (srt l).filterMap iR = reqs (l.filterMap iR) := by
  rw [fm_R, srt, List.filter_append, List.filter_append, filter_is (fun _ => mem_sR), filter_is (fun _ => mem_sX), filter_is (fun _ => mem_sS), ← sR_map]
  simp
theorem srt_X (l : List It) : (srt l).filterMap iX = excs (l.filterMap iX) := by
  rw [fm_X, srt, List.filter_append, List.filter_append, filter_is (fun _ => mem_sR), filter_is (fun _ => mem_sX), filter_is (fun _ => mem_sS), ← sX_map]
  simp
theorem srt_S (l : List It) : (srt l).filterMap iS = reps (l.filterMap iS) := by
  rw [fm_S, srt, List.filter_append, List.filter_append, filter_is (fun _ => mem_sR), filter_is (fun _ => mem_sX), filter_is (fun _ => mem_sS), ← sS_map]
  simp

/-! ### Plain lines -/
def plainPs : List (List UInt8) → List (List UInt8 × List UInt8)
  | [] => []
  | w :: r => ([], w) :: r.map fun u => ([32], u)
def plain (ws : List (List UInt8)) : Lx := ⟨plainPs ws, [], none, false⟩

theorem plain_words : ∀ ws : List (List UInt8), (plain ws).ps.map (·.2) = ws
  | [] => rfl
  | w :: r => by simp [plain, plainPs, Function.comp_def]

theorem plain_ok {ws : List (List UInt8)} (hne : ws ≠ []) (h : ∀ w ∈ ws, wdOk w = true) : LxOk (plain ws) := by
  cases ws with
  | nil => exact absurd rfl hne
  | cons w r =>
    refine ⟨⟨fun p hp => ?_, fun p hp => ?_⟩, by simp [plain, plainPs], rfl, fun c hc => by simp [plain] at hc⟩
    · simp only [plain, plainPs, List.mem_cons, List.mem_map] at hp
      rcases hp with rfl | ⟨u, hu, rfl⟩
      · exact ⟨rfl, h w (by simp)⟩
      · exact ⟨rfl, h u (by simp [hu])⟩
    · simp only [plain, plainPs, List.tail_cons, List.mem_map] at hp
      obtain ⟨u, _, rfl⟩ := hp
      simp

theorem wd_p : ∀ k, k < 7 → wdOk (pW k) = true := by decide
theorem wd_v : ∀ j, j < 4 → wdOk (vW j) = true := by decide

theorem wd_item {x : It} (hx : ItOk x) : ∀ w ∈ itW x, wdOk w = true := by
  have hp := wd_p x.k hx.k
  have hv := wd_v x.v hx.v
  have hb := wd_v x.b hx.b
  intro w hw
  unfold itW at hw
  split at hw
  · simp only [List.mem_cons, List.not_mem_nil, or_false] at hw
    rcases hw with rfl | rfl | rfl
    · decide
    · exact hp
    · exact hv
  · split at hw
    · simp only [List.mem_cons, List.not_mem_nil, or_false] at hw
      rcases hw with rfl | rfl | rfl
      · decide
      · exact hp
      · exact hv
    · simp only [List.mem_cons, List.not_mem_nil, or_false] at hw
      rcases hw with rfl | rfl | rfl | rfl | rfl
      · decide
      · exact hp
      · exact hv
      · decide
      · exact hb

theorem item_ne (x : It) : itW x ≠ [] := by
  unfold itW; split
  · simp
  · split <;> simp

/-! ### Format's text -/
theorem txt_R {x : It} (h : x.t = 0) : txt (plain (itW x)) = reqLine (mR x) := by
  unfold itW; rw [if_pos h]; simp [txt, row, plain, plainPs, join, tail35, reqLine, lineOf, Lib.join, mR, ba, wR, wRequire]
theorem txt_X {x : It} (h : x.t = 1) : txt (plain (itW x)) = excLine (mR x) := by
  unfold itW; rw [if_neg (by omega), if_pos h]; simp [txt, row, plain, plainPs, join, tail35, excLine, lineOf, Lib.join, mR, ba, wE, wExclude]
theorem txt_S {x : It} (h : x.t = 2) : txt (plain (itW x)) = repLine (mS x) := by
  unfold itW; rw [if_neg (by omega), if_neg (by omega)]; simp [txt, row, plain, plainPs, join, tail35, repLine, lineOf, Lib.join, mS, ba, wP, wReplace, wA, wArrow]
theorem txt_M : txt (plain moduleW) = lineOf [wModule, ba [97, 47, 98]] := by
  simp [txt, row, plain, plainPs, join, tail35, lineOf, Lib.join, ba, moduleW, wM, wModule]

theorem flat_same {α β γ : Type} {f : α → List γ} {g : β → List γ} {h : α → β} : ∀ l : List α, (∀ x ∈ l, f x = g (h x)) → l.flatMap f = (l.map h).flatMap g
  | [], _ => rfl
  | x :: l, hh => by rw [List.flatMap_cons, List.map_cons, List.flatMap_cons, hh x (by simp), flat_same l (fun y hy => hh y (by simp [hy]))]

def fmtLs (l : List It) : List Lx := (srt l).map fun x => plain (itW x)

theorem fmt_is (l : List It) : fmtOf (ba [97, 47, 98]) (reqs (l.filterMap iR)) (excs (l.filterMap iX)) (reps (l.filterMap iS)) = (plain moduleW :: fmtLs l).flatMap txt := by
  unfold fmtOf fmtLs
  rw [List.flatMap_cons, txt_M, List.flatMap_map, srt, List.flatMap_append, List.flatMap_append, ← sR_map, ← sX_map, ← sS_map,
    flat_same (sR l) (fun x hx => txt_R (mem_sR hx)), flat_same (sX l) (fun x hx => txt_X (mem_sX hx)), flat_same (sS l) (fun x hx => txt_S (mem_sS hx))]
  simp only [List.append_assoc]

theorem fmt_text {l : List It} (hok : ∀ x ∈ l, ItOk x) (hnd : (l.map clI).Nodup) (hq : nR l ≤ 20) : Text (plain moduleW) (fmtLs l) (srt l) := by
  have hp := srt_perm hok
  have hok2 : ∀ x ∈ srt l, ItOk x := fun x hx => hok x (hp.mem_iff.1 hx)
  refine ⟨plain_ok (by simp [moduleW]) (by decide), plain_words _, fun y hy => ?_, ?_, hok2, ?_, ?_⟩
  · obtain ⟨x, hx, rfl⟩ := List.mem_map.1 hy
    exact plain_ok (item_ne x) (wd_item (hok2 x hx))
  · unfold fmtLs
    rw [List.map_map]
    exact List.map_congr_left fun x _ => plain_words _
  · exact (hp.map clI).nodup_iff.2 hnd
  · unfold nR; rw [hp.countP_eq]; exact hq

end Rn
end Go.Proofs.YtelmkfkgpnadnaaGreatDoor

namespace Go.Proofs.YtelmkfkgpnadnaaGreatDoor
namespace Rn
open Tx (wM wR wE wP wA)
open Mf

/-- Five bits: blanks ahead, blanks between, blanks behind, a comment, lines that say nothing. -/
structure Bits where
  b0 : Bool
  b1 : Bool
  b2 : Bool
  b3 : Bool
  b4 : Bool

def gap (b : Bits) : List UInt8 := if b.b1 then [9, 32] else []
def lead (b : Bits) : List UInt8 := (if b.b0 then [32, 9] else []) ++ gap b
def lxPs (b : Bits) : List (List UInt8) → List (List UInt8 × List UInt8)
  | [] => []
  | w :: r => (lead b, w) :: r.map fun u => (32 :: gap b, u)
def bReqS : List UInt8 := [32, 114, 101, 113, 117, 105, 114, 101, 32]
def lxOf (b : Bits) (ws : List (List UInt8)) : Lx := ⟨lxPs b ws, if b.b2 then [32] else [], if b.b3 then some (bReqS ++ ws.headD []) else none, b.b4⟩

theorem lx_words (b : Bits) : ∀ ws : List (List UInt8), (lxOf b ws).ps.map (·.2) = ws
  | [] => rfl
  | w :: r => by simp [lxOf, lxPs, Function.comp_def]

theorem gap_bl (b : Bits) : blanks (gap b) = true := by unfold gap; split <;> rfl
theorem lead_bl (b : Bits) : blanks (lead b) = true := by
  unfold lead blanks
  rw [List.all_append, Bool.and_eq_true]
  refine ⟨?_, gap_bl b⟩
  split <;> rfl

theorem lx_ok (b : Bits) {ws : List (List UInt8)} (hne : ws ≠ []) (h : ∀ w ∈ ws, wdOk w = true) : LxOk (lxOf b ws) := by
  cases ws with
  | nil => exact absurd rfl hne
  | cons w r =>
    refine ⟨⟨fun p hp => ?_, fun p hp => ?_⟩, by simp [lxOf, lxPs], ?_, fun c hc => ?_⟩
    · simp only [lxOf, lxPs, List.mem_cons, List.mem_map] at hp
      rcases hp with rfl | ⟨u, hu, rfl⟩
      · exact ⟨lead_bl b, h w (by simp)⟩
      · refine ⟨?_, h u (by simp [hu])⟩
        have := gap_bl b
        unfold blanks at this ⊢
        rw [List.all_cons, this]; rfl
    · simp only [lxOf, lxPs, List.tail_cons, List.mem_map] at hp
      obtain ⟨u, _, rfl⟩ := hp
      simp
    · simp only [lxOf]; split <;> rfl
    · simp only [lxOf] at hc
      split at hc
      · obtain rfl := Option.some.inj hc
        have hw := h w (by simp)
        simp only [wdOk, Bool.and_eq_true, List.all_eq_true] at hw
        simp only [List.headD_cons, List.mem_append, not_or]
        refine ⟨by decide, fun hm => ?_⟩
        have := hw.2 10 hm
        simp at this
      · cases hc

/-- The bytes of some words. -/
def bytesOf (ws : List (List UInt8)) : Nat := (ws.map List.length).sum

theorem gap_len (b : Bits) : (gap b).length ≤ 2 := by unfold gap; split <;> simp
theorem lead_len (b : Bits) : (lead b).length ≤ 4 := by
  unfold lead
  have := gap_len b
  rw [List.length_append]
  split <;> simp <;> omega

theorem join_len {n : Nat} : ∀ ps : List (List UInt8 × List UInt8), (∀ p ∈ ps, p.1.length ≤ n) → (join ps).length ≤ bytesOf (ps.map (·.2)) + ps.length * n
  | [], _ => by simp [join]
  | (b, w) :: r, h => by
    have ih := join_len r (fun p hp => h p (by simp [hp]))
    have h0 := h (b, w) (by simp)
    simp only [join, List.length_append, List.map_cons, bytesOf, List.sum_cons, List.length_cons] at ih ⊢
    rw [Nat.add_one_mul]
    have : b.length ≤ n := h0
    omega

theorem lx_len (b : Bits) (ws : List (List UInt8)) : (txt (lxOf b ws)).length ≤ bytesOf ws + ws.length * 4 + 18 + (ws.headD []).length := by
  have hj := join_len (n := 4) (lxOf b ws).ps (fun p hp => by
    cases ws with
    | nil => simp [lxOf, lxPs] at hp
    | cons w r =>
      simp only [lxOf, lxPs, List.mem_cons, List.mem_map] at hp
      rcases hp with rfl | ⟨u, _, rfl⟩
      · exact lead_len b
      · have := gap_len b; simp; omega)
  rw [lx_words] at hj
  have hl : (lxOf b ws).ps.length = ws.length := by have := congrArg List.length (lx_words b ws); simpa using this
  rw [hl] at hj
  have h1 : (lxOf b ws).tr.length ≤ 1 := by simp only [lxOf]; split <;> simp
  have h2 : (tail35 (lxOf b ws).cm).length ≤ 10 + (ws.headD []).length := by
    simp only [lxOf, tail35]
    split
    · simp
    · rename_i c hc
      split at hc
      · obtain rfl := Option.some.inj hc
        simp [bReqS]; omega
      · cases hc
  unfold txt row
  generalize (ws.headD []).length = hh at *
  simp only [List.length_append, List.length_cons]
  split
  · simp only [List.length_cons, List.length_nil]; omega
  · simp only [List.length_nil]; omega

theorem p_len : ∀ k, k < 7 → (pW k).length = 2 := by decide
theorem v_len : ∀ j, j < 4 → (vW j).length ≤ 11 := by decide

theorem item_len {x : It} (hx : ItOk x) : bytesOf (itW x) ≤ 33 ∧ (itW x).length ≤ 5 ∧ ((itW x).headD []).length = 7 := by
  have hp := p_len x.k hx.k
  have hv := v_len x.v hx.v
  have hb := v_len x.b hx.b
  have h1 : wR.length = 7 := rfl
  have h2 : wE.length = 7 := rfl
  have h3 : wP.length = 7 := rfl
  have h4 : wA.length = 2 := rfl
  unfold itW
  split
  · simp [bytesOf, h1, hp]; omega
  · split
    · simp [bytesOf, h2, hp]; omega
    · simp [bytesOf, h3, h4, hp]; omega

theorem item_txt {x : It} (hx : ItOk x) (b : Bits) : (txt (lxOf b (itW x))).length ≤ 78 := by
  have h := item_len hx
  have := lx_len b (itW x)
  omega

theorem first_txt (b : Bits) : (txt (lxOf b moduleW)).length ≤ 41 := by
  have h1 : bytesOf moduleW = 9 := rfl
  have h2 : moduleW.length = 2 := rfl
  have h3 : (moduleW.headD []).length = 6 := rfl
  have := lx_len b moduleW
  omega

def bits0 : Bits := ⟨false, false, false, false, false⟩
theorem plain_lx : ∀ ws : List (List UInt8), plain ws = lxOf bits0 ws
  | [] => rfl
  | _ :: _ => rfl

theorem flat_len {α : Type} {f : α → List UInt8} {m : Nat} : ∀ l : List α, (∀ x ∈ l, (f x).length ≤ m) → (l.flatMap f).length ≤ l.length * m
  | [], _ => by simp
  | x :: l, h => by
    have ih := flat_len l (fun y hy => h y (by simp [hy]))
    have h0 := h x (by simp)
    rw [List.flatMap_cons, List.length_append, List.length_cons, Nat.add_one_mul]
    omega

/-! ### Cut and laid the other way round -/
def rot (n : Nat) (l : List It) : List It := l.drop n ++ l.take n
theorem rot_perm (n : Nat) (l : List It) : (rot n l).Perm l := by
  unfold rot
  exact List.perm_append_comm.trans (by rw [List.take_append_drop])
theorem rot_len (n : Nat) (l : List It) : (rot n l).length = l.length := (rot_perm n l).length_eq

theorem rot_get (n : Nat) (l : List It) (hn : n ≤ l.length) (i : Nat) (hi : i < l.length) : (rot n l)[i]? = l[(i + n) % l.length]? := by
  unfold rot
  by_cases h : i < l.length - n
  · rw [List.getElem?_append_left (by rw [List.length_drop]; exact h), List.getElem?_drop, Nat.mod_eq_of_lt (by omega), Nat.add_comm]
  · rw [List.getElem?_append_right (by rw [List.length_drop]; omega), List.length_drop, List.getElem?_take_of_lt (by omega)]
    have e : (i + n) % l.length = i + n - l.length := by
      rw [Nat.mod_eq_sub_mod (by omega), Nat.mod_eq_of_lt (by omega)]
    rw [e]
    congr 1
    omega

/-! ### A line more, unless one has its first three words -/
def once (l : List It) (x : It) : List It := if l.any (fun y => y.t == x.t && y.k == x.k && y.v == x.v) then l else l ++ [x]

theorem once_ok {l : List It} {x : It} (h : ∀ y ∈ l, ItOk y) (hx : ItOk x) : ∀ y ∈ once l x, ItOk y := by
  unfold once
  split
  · exact h
  · intro y hy
    rcases List.mem_append.1 hy with hy | hy
    · exact h y hy
    · rw [List.mem_singleton.1 hy]; exact hx

theorem once_len (l : List It) (x : It) : (once l x).length ≤ l.length + 1 := by
  unfold once; split <;> simp

theorem once_nd {l : List It} {x : It} (h : (l.map clI).Nodup) (hx : x.t ≠ 0) : ((once l x).map clI).Nodup := by
  unfold once
  split
  · exact h
  · rename_i hn
    rw [List.map_append, List.nodup_append]
    refine ⟨h, by simp, ?_⟩
    intro a ha b hb e
    simp only [List.map_cons, List.map_nil, List.mem_singleton] at hb
    subst hb
    obtain ⟨y, hy, hye⟩ := List.mem_map.1 ha
    apply hn
    rw [List.any_eq_true]
    refine ⟨y, hy, ?_⟩
    rw [← hye] at e
    unfold clI at e
    simp only [Prod.mk.injEq] at e
    obtain ⟨e1, e2, e3⟩ := e
    rw [e1, if_neg hx] at e3
    rw [if_neg hx] at e3
    simp [e1, e2, e3]

theorem once_nR {l : List It} {x : It} (hx : x.t ≠ 0) : nR (once l x) = nR l := by
  unfold once
  split
  · rfl
  · unfold nR
    rw [List.countP_append]
    simp [hx]

/-! ### The requires: one of each path, the first -/
def reqPut (l : List It) (x : It) : List It := if l.any (fun y => y.k == x.k) then l else l ++ [x]

structure ReqOk (l : List It) : Prop where
  ok : ∀ y ∈ l, ItOk y
  t : ∀ y ∈ l, y.t = 0
  nd : (l.map (·.k)).Nodup

theorem reqPut_ok {l : List It} (h : ReqOk l) {x : It} (hx : ItOk x) (ht : x.t = 0) : ReqOk (reqPut l x) := by
  unfold reqPut
  split
  · exact h
  · rename_i hn
    refine ⟨fun y hy => ?_, fun y hy => ?_, ?_⟩
    · rcases List.mem_append.1 hy with hy | hy
      · exact h.ok y hy
      · rw [List.mem_singleton.1 hy]; exact hx
    · rcases List.mem_append.1 hy with hy | hy
      · exact h.t y hy
      · rw [List.mem_singleton.1 hy]; exact ht
    · rw [List.map_append, List.nodup_append]
      refine ⟨h.nd, by simp, ?_⟩
      intro a ha b hb e
      simp only [List.map_cons, List.map_nil, List.mem_singleton] at hb
      subst hb
      obtain ⟨y, hy, hye⟩ := List.mem_map.1 ha
      apply hn
      rw [List.any_eq_true]
      exact ⟨y, hy, by simp [hye, e]⟩

theorem few : ∀ (n : Nat) (l : List Nat), l.Nodup → (∀ x ∈ l, x < n) → l.length ≤ n
  | 0, l, _, h => by
    cases l with
    | nil => simp
    | cons a r => exact absurd (h a (by simp)) (by omega)
  | n + 1, l, hnd, h => by
    have h1 := few n (l.erase n) (hnd.erase n) (fun x hx => by
      have hx2 := (hnd.mem_erase_iff).1 hx
      have := h x hx2.2
      have := hx2.1
      omega)
    by_cases hm : n ∈ l
    · rw [List.length_erase_of_mem hm] at h1; omega
    · rw [List.erase_of_not_mem hm] at h1; omega

theorem ReqOk.len {l : List It} (h : ReqOk l) : l.length ≤ 7 := by
  have := few 7 (l.map (·.k)) h.nd (fun x hx => by obtain ⟨y, hy, rfl⟩ := List.mem_map.1 hx; exact (h.ok y hy).k)
  simpa using this

theorem ReqOk.cl {l : List It} (h : ReqOk l) : (l.map clI).Nodup := by
  have h1 := h.nd
  unfold List.Nodup at h1 ⊢
  rw [List.pairwise_map] at h1 ⊢
  refine h1.imp ?_
  intro a b hab e
  unfold clI at e
  simp only [Prod.mk.injEq] at e
  exact hab e.2.1

theorem ReqOk.nR {l : List It} (h : ReqOk l) : Rn.nR l = l.length := by
  unfold Rn.nR
  rw [List.countP_eq_length]
  intro y hy; simp [h.t y hy]

end Rn
end Go.Proofs.YtelmkfkgpnadnaaGreatDoor

namespace Go.Proofs.YtelmkfkgpnadnaaGreatDoor
namespace Rn
open Tx (wM wR wE wP wA)
open Mf

/-- Items that may stand in one manifest. -/
structure Its (its : List It) : Prop where
  ok : ∀ x ∈ its, ItOk x
  nd : (its.map clI).Nodup
  q : nR its ≤ 7
  len : its.length ≤ 19

def lxs (bf : Nat → Bits) : Nat → List It → List Lx
  | _, [] => []
  | i, x :: r => lxOf (bf i) (itW x) :: lxs bf (i + 1) r

theorem lxs_get (bf : Nat → Bits) : ∀ (l : List It) (k i : Nat), (lxs bf k l)[i]? = l[i]?.map fun x => lxOf (bf (k + i)) (itW x)
  | [], _, _ => by simp [lxs]
  | x :: r, k, 0 => by simp [lxs]
  | x :: r, k, i + 1 => by
    simp only [lxs, List.getElem?_cons_succ]
    rw [lxs_get bf r (k + 1) i, show k + 1 + i = k + (i + 1) by omega]

theorem lxs_len (bf : Nat → Bits) : ∀ (l : List It) (k : Nat), (lxs bf k l).length = l.length
  | [], _ => rfl
  | x :: r, k => by simp [lxs, lxs_len bf r]

theorem lxs_words (bf : Nat → Bits) : ∀ (l : List It) (k : Nat), (lxs bf k l).map (fun l => l.ps.map (·.2)) = l.map itW
  | [], _ => rfl
  | x :: r, k => by simp only [lxs, List.map_cons, lx_words, lxs_words bf r]

theorem lxs_mem (bf : Nat → Bits) : ∀ (l : List It) (k : Nat) (y : Lx), y ∈ lxs bf k l → ∃ x ∈ l, ∃ b, y = lxOf b (itW x)
  | [], _, y, h => by simp [lxs] at h
  | x :: r, k, y, h => by
    simp only [lxs, List.mem_cons] at h
    rcases h with rfl | h
    · exact ⟨x, by simp, _, rfl⟩
    · obtain ⟨z, hz, b, e⟩ := lxs_mem bf r (k + 1) y h
      exact ⟨z, by simp [hz], b, e⟩

theorem Its.rot {its : List It} (H : Its its) (n : Nat) : Its (rot n its) := by
  have hp := rot_perm n its
  exact ⟨fun x hx => H.ok x (hp.mem_iff.1 hx), (hp.map clI).nodup_iff.2 H.nd, by unfold nR; rw [hp.countP_eq]; exact H.q, by rw [hp.length_eq]; exact H.len⟩

theorem Its.srt {its : List It} (H : Its its) : Its (srt its) := by
  have hp := srt_perm H.ok
  exact ⟨fun x hx => H.ok x (hp.mem_iff.1 hx), (hp.map clI).nodup_iff.2 H.nd, by unfold nR; rw [hp.countP_eq]; exact H.q, by rw [hp.length_eq]; exact H.len⟩

theorem text_of {l : List It} (H : Its l) (b : Bits) (bf : Nat → Bits) : Text (lxOf b moduleW) (lxs bf 0 l) l := by
  refine ⟨lx_ok b (by simp [moduleW]) (by decide), lx_words _ _, fun y hy => ?_, lxs_words _ _ _, H.ok, H.nd, by have := H.q; omega⟩
  obtain ⟨x, hx, c, rfl⟩ := lxs_mem bf l 0 y hy
  exact lx_ok c (item_ne x) (wd_item (H.ok x hx))

theorem lines_len {l : List It} (H : Its l) (b : Bits) (bf : Nat → Bits) : ((lxOf b moduleW :: lxs bf 0 l).flatMap txt).length ≤ 1523 := by
  have h1 := first_txt b
  have h2 := flat_len (f := txt) (m := 78) (lxs bf 0 l) (fun y hy => by
    obtain ⟨x, hx, c, rfl⟩ := lxs_mem bf l 0 y hy
    exact item_txt (H.ok x hx) c)
  rw [lxs_len] at h2
  have h3 := H.len
  rw [List.flatMap_cons, List.length_append]
  omega

theorem ba_size {s : ByteArray} {l : List UInt8} (h : s.data.toList = l) : s.size = l.length := by rw [← h]; rfl

/-- The first text: the lines in other words, and in another order. -/
theorem read_first {l : List It} (H : Its l) (b : Bits) (bf : Nat → Bits) {s : ByteArray} (hs : s.data.toList = (lxOf b moduleW :: lxs bf 0 l).flatMap txt) :
    manSlips s = [] ∧ manMx s = ⟨ba [97, 47, 98], l.filterMap iR, l.filterMap iX, l.filterMap iS⟩ :=
  read_items (text_of H b bf) s hs (by rw [ba_size hs]; have := lines_len H b bf; omega)

theorem fmtLs_lx (l : List It) : fmtLs l = lxs (fun _ => bits0) 0 (srt l) := by
  unfold fmtLs
  generalize srt l = m
  have : ∀ (m : List It) (k : Nat), m.map (fun x => plain (itW x)) = lxs (fun _ => bits0) k m := by
    intro m
    induction m with
    | nil => intro k; rfl
    | cons x r ih => intro k; rw [List.map_cons, lxs, plain_lx, ih (k + 1)]
  exact this m 0

theorem fmt_len {l : List It} (H : Its l) : ((plain moduleW :: fmtLs l).flatMap txt).length ≤ 1523 := by
  rw [plain_lx, fmtLs_lx]; exact lines_len H.srt bits0 _

/-- What Format writes of it. -/
theorem read_fmt {l : List It} (H : Its l) {s : ByteArray} (hs : s.data.toList = fmtOf (ba [97, 47, 98]) (reqs (l.filterMap iR)) (excs (l.filterMap iX)) (reps (l.filterMap iS))) :
    manSlips s = [] ∧ manMx s = ⟨ba [97, 47, 98], reqs (l.filterMap iR), excs (l.filterMap iX), reps (l.filterMap iS)⟩ := by
  rw [fmt_is] at hs
  have h := read_items (fmt_text H.ok H.nd (by have := H.q; omega)) s hs (by rw [ba_size hs]; have := fmt_len H; omega)
  rw [srt_R, srt_X, srt_S] at h
  exact h

/-- And a line behind that says again what one of them says. -/
theorem read_again {l : List It} (H : Its l) {y : It} (hy : y ∈ l) {s : ByteArray} (hs : s.data.toList = fmtOf (ba [97, 47, 98]) (reqs (l.filterMap iR)) (excs (l.filterMap iX)) (reps (l.filterMap iS)) ++ txt (lxOf bits0 (itW y))) :
    manSlips s = [(l.length + 2, 0, 8)] := by
  have hp := srt_perm H.ok
  rw [fmt_is] at hs
  have e : (plain moduleW :: fmtLs l).flatMap txt ++ txt (lxOf bits0 (itW y)) = (plain moduleW :: fmtLs l ++ [lxOf bits0 (itW y)]).flatMap txt := by rw [List.flatMap_append]; simp
  rw [e] at hs
  have hz : s.size ≤ 2000 := by
    rw [ba_size hs, ← e, List.length_append]
    have h1 := fmt_len H
    have h2 := item_txt (H.ok y hy) bits0
    omega
  have h := read_twice (fmt_text H.ok H.nd (by have := H.q; omega)) rfl (fun x hx => by
    obtain ⟨z, _, rfl⟩ := List.mem_map.1 hx
    rfl) (lx_ok bits0 (item_ne y) (wd_item (H.ok y hy))) (hp.mem_iff.2 hy) (lx_words _ _) (fun b w r hb => by
    rw [← plain_lx] at hb
    have hne := item_ne y
    revert hb hne
    cases itW y with
    | nil => intro hb hne; exact absurd rfl hne
    | cons u v => intro hb _; simp only [plain, plainPs, List.cons.injEq, Prod.mk.injEq] at hb; exact hb.1.1.symm) s hs hz
  rw [h, hp.length_eq]

theorem three_len {l : List It} (H : Its l) : (l.filterMap iR).length + (l.filterMap iX).length + (l.filterMap iS).length = l.length := by
  have hp := (srt_perm H.ok).length_eq
  rw [srt, List.length_append, List.length_append] at hp
  have h1 := congrArg List.length (sR_map l)
  have h2 := congrArg List.length (sX_map l)
  have h3 := congrArg List.length (sS_map l)
  rw [List.length_map, Ss.insAll_len] at h1 h2 h3
  omega

theorem has_R {l : List It} {x : It} (hx : x ∈ l) (ht : x.t = 0) : mR x ∈ reqs (l.filterMap iR) := by
  refine (Ss.insAll_perm _).mem_iff.2 ?_
  rw [fm_R]
  exact List.mem_map_of_mem (List.mem_filter.2 ⟨hx, by simp [is, ht]⟩)

theorem ba_inj {a b : List UInt8} (h : ba a = ba b) : a = b := by
  have := congrArg (fun x : ByteArray => x.data.toList) h
  simpa [ba] using this

/-- The requires stand by their paths, each path once. -/
theorem paths_up {l : List It} (H : Its l) : (reqs (l.filterMap iR)).Pairwise fun a b => cmpPath a.1 b.1 < 0 := by
  have h1 := insAll_pw swo_R (l.filterMap iR)
  have h2 : (reqs (l.filterMap iR)).Pairwise fun a b => a.1 ≠ b.1 := by
    have hs : ∀ {x y : Mo}, x.1 ≠ y.1 → y.1 ≠ x.1 := fun h e => h e.symm
    refine ((Ss.insAll_perm (lt := ltOf Sm.cmpP) (l.filterMap iR)).pairwise_iff (R := fun a b : Mo => a.1 ≠ b.1) hs).2 ?_
    rw [fm_R, List.pairwise_map]
    have hf : (l.filter (is 0)).Pairwise fun a b => clI a ≠ clI b := by
      have := H.nd
      unfold List.Nodup at this
      rw [List.pairwise_map] at this
      exact this.filter _
    refine hf.imp_of_mem ?_
    intro a b ha hb hab e
    rw [List.mem_filter] at ha hb
    have ta : a.t = 0 := by simpa [is] using ha.2
    have tb : b.t = 0 := by simpa [is] using hb.2
    have hk := p_inj a.k b.k (H.ok a ha.1).k (H.ok b hb.1).k (ba_inj e)
    apply hab
    unfold clI
    rw [ta, tb, hk]
    simp
  refine (h1.and h2).imp ?_
  rintro a b ⟨h3, h4⟩
  have h5 : ¬ cmpPath b.1 a.1 < 0 := by
    intro h
    have : ltOf Sm.cmpP b a = true := decide_eq_true h
    rw [this] at h3
    cases h3
  have h6 := cmp_path.anti a.1 b.1 trivial trivial
  have h7 : cmpPath a.1 b.1 ≠ 0 := fun h => h4 (cmp_path.zero a.1 b.1 trivial trivial h)
  omega

end Rn
end Go.Proofs.YtelmkfkgpnadnaaGreatDoor
