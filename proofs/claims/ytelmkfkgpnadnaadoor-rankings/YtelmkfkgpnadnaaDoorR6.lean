/-
  spell, whole; and the order of what is spelt.
-/
import Derived.Test.YtelmkfkgpnadnaaDoorR4
import Derived.Test.YtelmkfkgpnadnaaDoorR5
import Derived.Test.YtelmkfkgpnadnaaDoorW12
namespace Go.Proofs.YtelmkfkgpnadnaaDoor
open Go.RowKit

theorem intOf_owns {w : World} {base : Nat} {v : Value} {ks : List Nat} (h : w.ownsRow base 3 1 v ks.length (ks.map fun (n : Nat) => Value.int .i64 (n : Int))) : IntOf w v ks := by
  obtain ⟨h1, h2⟩ := h
  rcases h2 with ⟨h, h0⟩ | ⟨g, cap, cur, hv, hg, hh, hc, hm, hs, ht⟩
  · exact ⟨none, 0, by rw [h, h0], fun j hj => by omega⟩
  · refine ⟨some ⟨g, 0, none⟩, cap, hv, fun j hj => ⟨g, rfl, ?_, ?_⟩⟩
    · apply Classical.byContradiction
      intro hn
      rw [Array.getElem?_eq_none (by omega)] at hh
      simp at hh
    · rw [World.cell?]
      dsimp only
      rw [hh]
      dsimp only
      have e : cur.toList[j]? = some (.int .i64 ks[j]!) := by
        have : (cur.toList.take (ks.length * 1))[j]? = cur.toList[j]? := by rw [List.getElem?_take, if_pos (by omega)]
        rw [← this, ht, List.getElem?_map, List.getElem?_eq_getElem hj, getElem!_pos ks j hj]
        rfl
      rw [← e]
      simp

theorem sel_facts (k : Nat) (hk : k ≤ 3) (L : List Int) : (∀ x ∈ sel k L, x < 12) ∧ (sel k L).length ≤ 3 ∧ ∀ i, 0 < i → (sel k L)[i]? ≠ some 3 := by
  refine ⟨?_, by rw [sel_len]; exact hk, ?_⟩
  · intro x hx
    unfold sel at hx
    obtain ⟨i, _, rfl⟩ := List.mem_map.1 hx
    exact kadj_lt _ _
  · intro i hi h
    unfold sel at h
    rw [List.getElem?_map] at h
    by_cases hik : i < k
    · rw [List.getElem?_range hik] at h
      simp only [Option.map_some, Option.some.injEq] at h
      unfold kadj at h
      split at h
      · simp at h
      · rename_i hn; exact hn ⟨h, hi⟩
    · rw [List.getElem?_eq_none (by simp; omega)] at h
      simp at h

/-- What is spelt, as a version. -/
def ver (a b c : Nat) (ks : List Nat) : List (List UInt8) × List (List UInt8) := ([Rk.dec a, Rk.dec b, Rk.dec c], ks.map Rk.lab)

def nk (x : Int) : Nat := (pk x 1000000).toNat

theorem nk_lt (x : Int) : nk x < 1000000 := by
  obtain ⟨k, h1, h2⟩ := pk_nat x 1000000 (by decide)
  unfold nk
  rw [h1]; omega

theorem spell_any (a b c : Int) (ad : Option Addr) (len cap : Nat) (L : List Int) (w : World)
    (ha : -9223372036854775808 ≤ a ∧ a ≤ 9223372036854775807) (hb : -9223372036854775808 ≤ b ∧ b ≤ 9223372036854775807) (hc : -9223372036854775808 ≤ c ∧ c ≤ 9223372036854775807)
    (hL : ∀ j, j < len → ∃ lb lo, ad = some ⟨lb, lo, none⟩ ∧ lb < w.heap.size ∧ w.cell? ⟨lb, lo + j, none⟩ = some (.int .i64 L[j]!) ∧ -9223372036854775808 ≤ L[j]! ∧ L[j]! ≤ 9223372036854775807)
    (hlen : (len : Int) ≤ 9223372036854775807) :
    Calls Tryd.prog 6 #[.agg #[.int .i64 a, .int .i64 b, .int .i64 c, .slice ad len cap]] w fun e w' => ∃ (t : ByteArray) (sl : Value), e = .returned (.tuple #[.string t, .agg #[.int .i64 (nk a), .int .i64 (nk b), .int .i64 (nk c), sl]]) ∧ Below w.heap.size w w' ∧ Pv.parse t.data.toList = some (ver (nk a) (nk b) (nk c) (sel (min len 3) L)) ∧ t.size ≤ 40 ∧ IntOf w' sl (sel (min len 3) L) := by
  have pn : ∀ x : Int, pk x 1000000 = (nk x : Int) := by
    intro x
    obtain ⟨k, h1, h2⟩ := pk_nat x 1000000 (by decide)
    unfold nk
    rw [h1]; simp
  have pk' : ∀ x : Int, -9223372036854775808 ≤ x ∧ x ≤ 9223372036854775807 → ∀ W, Calls Tryd.prog 8 #[.int .i64 x, .int .i64 1000000] W fun e w' => e = .returned (.int .i64 (nk x)) ∧ w' = W := by
    intro x hx W
    have := pick_any x 1000000 W (by decide) (by decide) hx.1 hx.2
    rw [pn] at this
    exact this
  have ds : ∀ x : Int, (⟨(Rk.dec (nk x)).toArray⟩ : ByteArray).size ≤ 6 := by
    intro x
    rw [Lib.size_eq]
    exact Rk.dec_len 6 (nk x) (by have := nk_lt x; omega) (by decide)
  refine (spell_core a b c ad len cap L w (nk a) (nk b) (nk c) _ _ _ (pk' a ha) (pk' b hb) (pk' c hc) (fun W => digitsOf_any (nk a) (nk_lt a) W) (fun W => digitsOf_any (nk b) (nk_lt b) W) (fun W => digitsOf_any (nk c) (nk_lt c) W) (ds a) (ds b) (ds c) hL hlen).mono ?_
  rintro e w' ⟨t, sl, rfl, hbw, ht, hown⟩
  obtain ⟨s1, s2, s3⟩ := sel_facts (min len 3) (by omega) L
  obtain ⟨j1, j2, j3, j4⟩ := Rk.join_lab _ s1 s2 s3
  have htx : t.data.toList = Rk.text (nk a) (nk b) (nk c) ((sel (min len 3) L).map Rk.lab) := by
    rw [ht]
    unfold Rk.text Rk.front sfx
    by_cases h : sel (min len 3) L = []
    · rw [h]; rfl
    · rw [if_neg h, if_neg (by simpa using h)]; rfl
  refine ⟨t, sl, rfl, hbw, ?_, ?_, ?_⟩
  · rw [htx]
    exact Rk.parse_text _ _ _ (nk_lt a) (nk_lt b) (nk_lt c) _ j4 j2 j3 j1
  · rw [Lib.size_eq, htx]
    have := (Rk.front_facts (nk a) (nk b) (nk c) (nk_lt a) (nk_lt b) (nk_lt c)).2.2
    unfold Rk.text
    split
    · simp; omega
    · simp; omega
  · refine intOf_owns (base := w.heap.size + 3) ?_
    rw [sel_len]
    exact hown

/-- The order of two such versions. -/
def rkZ (x y k m : List Nat) : Int := if cmpZ x y = 0 then (if k.length = 0 ∧ 0 < m.length then 1 else if 0 < k.length ∧ m.length = 0 then -1 else cmpZ k m) else cmpZ x y

theorem cmpZ_anti : ∀ (l m : List Nat), cmpZ m l = - cmpZ l m
  | [], [] => rfl
  | [], _ :: _ => rfl
  | _ :: _, [] => rfl
  | a :: s, b :: t => by
    unfold cmpZ
    rw [cmpZ_anti s t]
    by_cases h : a < b
    · rw [if_neg (by omega : ¬ b < a), if_pos h, if_pos h]; rfl
    · by_cases h' : b < a
      · rw [if_pos h', if_neg h, if_pos h']
      · rw [if_neg h', if_neg h, if_neg h, if_neg h']
theorem cmpZ_self (l : List Nat) : cmpZ l l = 0 := by
  have := cmpZ_anti l l
  omega

theorem rkZ_anti (x y k m : List Nat) : rkZ y x m k = - rkZ x y k m := by
  unfold rkZ
  rw [cmpZ_anti x y, cmpZ_anti k m]
  by_cases h : cmpZ x y = 0
  · rw [if_pos h, if_pos (by omega)]
    by_cases h1 : k.length = 0
    · by_cases h2 : m.length = 0
      · rw [if_neg (by omega), if_neg (by omega), if_neg (by omega), if_neg (by omega)]
      · rw [if_neg (by omega), if_pos (by omega), if_pos (by omega)]
    · by_cases h2 : m.length = 0
      · rw [if_pos (by omega), if_neg (by omega), if_pos (by omega)]; rfl
      · rw [if_neg (by omega), if_neg (by omega), if_neg (by omega), if_neg (by omega)]
  · rw [if_neg h, if_neg (by omega)]
theorem rkZ_self (x k : List Nat) : rkZ x x k k = 0 := by
  have := rkZ_anti x x k k
  omega

theorem cmpZ_small : ∀ (l m : List Nat), -1 ≤ cmpZ l m ∧ cmpZ l m ≤ 1
  | [], [] => by decide
  | [], _ :: _ => by simp [cmpZ]
  | _ :: _, [] => by simp [cmpZ]
  | a :: s, b :: t => by
    have := cmpZ_small s t
    unfold cmpZ
    split
    · omega
    · split <;> omega
theorem rkZ_small (x y k m : List Nat) : -1 ≤ rkZ x y k m ∧ rkZ x y k m ≤ 1 := by
  have h1 := cmpZ_small x y
  have h2 := cmpZ_small k m
  unfold rkZ
  split
  · split
    · omega
    · split <;> omega
  · exact h1

theorem cmpL_map (f : List UInt8 → List UInt8 → Int) (g : Nat → List UInt8) (h : Nat → Bool) (hf : ∀ i j, h i = true → h j = true → f (g i) (g j) = Lib.compareInt i j) : ∀ (l m : List Nat), (∀ i ∈ l, h i = true) → (∀ i ∈ m, h i = true) → Pv.cmpL f (l.map g) (m.map g) = cmpZ l m
  | [], [], _, _ => rfl
  | [], _ :: _, _, _ => rfl
  | _ :: _, [], _, _ => rfl
  | a :: s, b :: t, hl, hm => by
    have ih := cmpL_map f g h hf s t (fun i hi => hl i (by simp [hi])) (fun i hi => hm i (by simp [hi]))
    rw [List.map_cons, List.map_cons, Pv.cmpL, ih, hf a b (hl a (by simp)) (hm b (by simp)), cmpZ]
    unfold Lib.compareInt
    by_cases h1 : a < b
    · rw [if_pos (by omega : (a : Int) < b), if_pos h1]; rfl
    · rw [if_neg (by omega : ¬ (a : Int) < b), if_neg h1]
      by_cases h2 : b < a
      · rw [if_pos (by omega : (a : Int) > b), if_pos h2]; rfl
      · rw [if_neg (by omega : ¬ (a : Int) > b), if_neg h2]; rfl

theorem cmpV_rk (a b c x y z : Nat) (ks ms : List Nat) (hk : ∀ i ∈ ks, i < 12) (hm : ∀ i ∈ ms, i < 12) : Pv.cmpV (ver a b c ks) (ver x y z ms) = rkZ [a, b, c] [x, y, z] ks ms := by
  have e1 : Pv.cmpL Pv.cmpN [Rk.dec a, Rk.dec b, Rk.dec c] [Rk.dec x, Rk.dec y, Rk.dec z] = cmpZ [a, b, c] [x, y, z] :=
    cmpL_map Pv.cmpN Rk.dec (fun _ => true) (fun i j _ _ => Rk.cmpN_dec i j) [a, b, c] [x, y, z] (fun _ _ => rfl) (fun _ _ => rfl)
  have e2 : Pv.cmpL Pv.cmpId (ks.map Rk.lab) (ms.map Rk.lab) = cmpZ ks ms :=
    cmpL_map Pv.cmpId Rk.lab (fun i => decide (i < 12)) (fun i j hi hj => Rk.lab_cmp i (by simpa using hi) j (by simpa using hj)) ks ms (fun i hi => by simpa using hk i hi) (fun i hi => by simpa using hm i hi)
  unfold Pv.cmpV ver rkZ
  dsimp only
  rw [e1, e2]
  simp only [List.length_map]
  by_cases h : cmpZ [a, b, c] [x, y, z] = 0
  · rw [if_pos h, if_pos h]
    by_cases h1 : 0 < ks.length
    · by_cases h2 : 0 < ms.length
      · rw [if_pos (by simp [h1, h2]), if_neg (by omega), if_neg (by omega)]
      · rw [if_neg (by rw [decide_eq_true h1, decide_eq_false h2]; decide), if_pos h1, if_neg (by omega), if_pos (by omega)]
    · by_cases h2 : 0 < ms.length
      · rw [if_neg (by rw [decide_eq_false h1, decide_eq_true h2]; decide), if_neg h1, if_pos (by omega)]
      · rw [if_pos (by simp [h1, h2]), if_neg (by omega), if_neg (by omega)]
  · rw [if_neg h, if_neg h]

end Go.Proofs.YtelmkfkgpnadnaaDoor
