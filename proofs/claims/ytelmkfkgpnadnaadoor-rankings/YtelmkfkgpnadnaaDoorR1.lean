/-
  The plain mathematics of the law Rankings: what is spelt is read back; a wrong byte is never in a version.
-/
import Derived.Test.YtelmkfkgpnadnaaDoorPure
namespace Go.Proofs.YtelmkfkgpnadnaaDoor
namespace Rk

/-- A number's decimal digits. -/
def dec (n : Nat) : List UInt8 := if n < 10 then [UInt8.ofNat (48 + n)] else dec (n / 10) ++ [UInt8.ofNat (48 + n % 10)]

theorem dig_ok (d : Nat) (h : d < 10) : Pv.dg (UInt8.ofNat (48 + d)) = true ∧ (UInt8.ofNat (48 + d)).toNat = 48 + d := by
  have e : (UInt8.ofNat (48 + d)).toNat = 48 + d := by rw [UInt8.toNat_ofNat']; omega
  refine ⟨?_, e⟩
  unfold Pv.dg
  simp only [Bool.and_eq_true, decide_eq_true_eq, UInt8.le_iff_toNat_le]
  rw [e]
  exact ⟨by simp, by simp; omega⟩

theorem val_snoc (l : List UInt8) (c : UInt8) : Pv.val (l ++ [c]) = Pv.val l * 10 + (c.toNat - 48) := by
  unfold Pv.val; rw [List.foldl_append]; rfl

theorem dec_facts (n : Nat) : (dec n).all Pv.dg = true ∧ Pv.val (dec n) = n ∧ dec n ≠ [] ∧ ((dec n).head? = some 48 → n = 0) := by
  induction n using Nat.strongRecOn with
  | ind n ih =>
    by_cases h : n < 10
    · obtain ⟨h1, h2⟩ := dig_ok n h
      have e : dec n = [UInt8.ofNat (48 + n)] := by rw [dec, if_pos h]
      rw [e]
      refine ⟨by rw [List.all_cons, h1]; rfl, ?_, by simp, ?_⟩
      · show Pv.val ([] ++ [UInt8.ofNat (48 + n)]) = n
        rw [val_snoc, h2]; simp [Pv.val]
      · intro hh
        simp only [List.head?_cons, Option.some.injEq] at hh
        have := congrArg UInt8.toNat hh
        rw [h2] at this
        simp at this
        exact this
    · obtain ⟨h1, h2⟩ := dig_ok (n % 10) (by omega)
      obtain ⟨i1, i2, i3, i4⟩ := ih (n / 10) (by omega)
      have e : dec n = dec (n / 10) ++ [UInt8.ofNat (48 + n % 10)] := by rw [dec, if_neg h]
      rw [e]
      refine ⟨by rw [List.all_append, i1, List.all_cons, h1]; rfl, ?_, by simp, ?_⟩
      · rw [val_snoc, i2, h2]; omega
      · intro hh
        cases hd : dec (n / 10) with
        | nil => exact absurd hd i3
        | cons c t =>
          rw [hd] at hh i4
          have := i4 (by simpa using hh)
          omega

theorem dec_len (k : Nat) : ∀ n, n < 10 ^ k → 0 < k → (dec n).length ≤ k := by
  induction k with
  | zero => intro n _ h; omega
  | succ k ih =>
    intro n hn _
    by_cases h : n < 10
    · rw [dec, if_pos h]; simp
    · rw [dec, if_neg h, List.length_append]
      have hk : 0 < k := by
        rcases Nat.eq_zero_or_pos k with rfl | h'
        · simp at hn; omega
        · exact h'
      have := ih (n / 10) (by rw [Nat.pow_succ] at hn; omega) hk
      simp; omega

theorem dec_okNum (n : Nat) (h : n < 1000000) : Pv.okNum (dec n) = true := by
  obtain ⟨h1, h2, h3, h4⟩ := dec_facts n
  rw [Pv.okNum_iff]
  refine ⟨dec_len 6 n (by omega) (by omega), h3, h1, ?_⟩
  rintro ⟨h5, h6⟩
  have := h4 h6
  subst this
  rw [dec, if_pos (by omega)] at h5
  simp at h5

/-- The identifiers of the law, by their places. -/
def tab : List (List UInt8) := [[48], [50], [49, 48], [57, 57, 57, 57, 57, 57, 57, 57], [45], [48, 97], [65], [66, 48], [97], [97, 45], [97, 98], [98]]
def lab (k : Nat) : List UInt8 := tab.getD k []

theorem lab_facts : ∀ k, k < 12 → Pv.noId (lab k) = false ∧ (46 : UInt8) ∉ lab k ∧ 1 ≤ (lab k).length ∧ (lab k).length ≤ 8 ∧ (k ≠ 3 → (lab k).length ≤ 2) := by decide

theorem lab_cmp : ∀ i, i < 12 → ∀ j, j < 12 → Pv.cmpId (lab i) (lab j) = Lib.compareInt i j := by decide +kernel

/-- Identifiers, with dots between. -/
def join : List (List UInt8) → List UInt8
  | [] => []
  | [x] => x
  | x :: y :: t => x ++ 46 :: join (y :: t)

theorem spl_join' : ∀ (l : List (List UInt8)), l ≠ [] → (∀ x ∈ l, (46 : UInt8) ∉ x) → Pv.spl 46 (join l) = l
  | [], h, _ => absurd rfl h
  | [x], _, h => Pv.spl_miss 46 x (h x (by simp))
  | x :: y :: t, _, h => by
    rw [join, Pv.spl_hit 46 x _ (h x (by simp)), spl_join' (y :: t) (by simp) (fun z hz => h z (by simp [hz]))]

/-- A version's text. -/
def front (a b c : Nat) : List UInt8 := dec a ++ 46 :: (dec b ++ 46 :: dec c)
def text (a b c : Nat) (ids : List (List UInt8)) : List UInt8 := 118 :: (front a b c ++ (if ids = [] then [] else 45 :: join ids))

theorem front_facts (a b c : Nat) (ha : a < 1000000) (hb : b < 1000000) (hc : c < 1000000) : Pv.parseN (front a b c) = some [dec a, dec b, dec c] ∧ (45 : UInt8) ∉ front a b c ∧ (front a b c).length ≤ 20 := by
  have oa := dec_okNum a ha
  have ob := dec_okNum b hb
  have oc := dec_okNum c hc
  refine ⟨?_, ?_, ?_⟩
  · unfold Pv.parseN front
    rw [Pv.spl3 _ _ _ (Pv.not_mem_of_num oa Pv.dg46) (Pv.not_mem_of_num ob Pv.dg46), Pv.spl_miss 46 _ (Pv.not_mem_of_num oc Pv.dg46)]
    simp [oa, ob, oc]
  · unfold front
    simp [Pv.not_mem_of_num oa Pv.dg45, Pv.not_mem_of_num ob Pv.dg45, Pv.not_mem_of_num oc Pv.dg45]
  · unfold front
    have h1 := dec_len 6 a (by omega) (by omega)
    have h2 := dec_len 6 b (by omega) (by omega)
    have h3 := dec_len 6 c (by omega) (by omega)
    simp only [List.length_append, List.length_cons]
    omega

theorem parse_text (a b c : Nat) (ha : a < 1000000) (hb : b < 1000000) (hc : c < 1000000) (ids : List (List UInt8)) (h4 : ids.length ≤ 4) (hn : ids.any Pv.noId = false) (h46 : ∀ x ∈ ids, (46 : UInt8) ∉ x) (hl : (join ids).length ≤ 18) :
    Pv.parse (text a b c ids) = some ([dec a, dec b, dec c], ids) := by
  obtain ⟨f1, f2, f3⟩ := front_facts a b c ha hb hc
  unfold Pv.parse text
  by_cases h : ids = []
  · subst h
    rw [if_pos rfl, List.append_nil, if_pos ⟨rfl, by simp; omega⟩]
    simp only [List.tail_cons]
    rw [Pv.cutc_miss 45 _ f2]
    simp only [f1]
  · rw [if_neg h, if_pos ⟨rfl, by simp; omega⟩]
    simp only [List.tail_cons]
    rw [Pv.cutc_hit 45 _ _ f2]
    simp only [f1]
    unfold Pv.parseI
    rw [spl_join' ids h h46, if_pos ⟨h4, hn⟩]
    rfl

theorem mem_spl (c x : UInt8) : ∀ (l : List UInt8), x ∈ l → x = c ∨ ∃ p ∈ Pv.spl c l, x ∈ p
  | [], h => by simp at h
  | b :: t, h => by
    unfold Pv.spl
    split
    · rename_i e
      rcases List.mem_cons.1 h with rfl | h
      · exact Or.inl e
      · rcases mem_spl c x t h with h | ⟨p, hp, hx⟩
        · exact Or.inl h
        · exact Or.inr ⟨p, by simp [hp], hx⟩
    · split
      · rename_i e; exact absurd e (Pv.spl_ne c t)
      · rename_i p ps e
        rcases List.mem_cons.1 h with rfl | h
        · exact Or.inr ⟨x :: p, by simp, by simp⟩
        · rcases mem_spl c x t h with h | ⟨q, hq, hx⟩
          · exact Or.inl h
          · rw [e] at hq
            rcases List.mem_cons.1 hq with rfl | hq
            · exact Or.inr ⟨b :: q, by simp, by simp [hx]⟩
            · exact Or.inr ⟨q, by simp [hq], hx⟩

/-- In a version there is no low line. -/
theorem no_low {l : List UInt8} (h : (95 : UInt8) ∈ l) : Pv.parse l = none := by
  cases hp : Pv.parse l with
  | none => rfl
  | some v =>
    exfalso
    unfold Pv.parse at hp
    split at hp
    · rename_i hc
      have hmem : (95 : UInt8) ∈ l.tail := by
        cases l with
        | nil => simp at h
        | cons c t =>
          have hc' : c = 118 := by simpa using hc.1
          rcases List.mem_cons.1 h with e | h
          · rw [hc'] at e; exact absurd e (by decide)
          · exact h
      have hj := Pv.cutc_join 45 l.tail
      rw [hj] at hmem
      cases hN : Pv.parseN (Pv.cutc 45 l.tail).1 with
      | none => rw [hN] at hp; simp at hp
      | some ns =>
        rcases List.mem_append.1 hmem with hm | hm
        · unfold Pv.parseN at hN
          split at hN
          · rename_i hall
            rcases mem_spl 46 95 _ hm with e | ⟨p, hp', hx⟩
            · exact absurd e (by decide)
            · exact Pv.not_mem_of_num (List.all_eq_true.1 hall.2 p hp') (by decide) hx
          · simp at hN
        · rw [hN] at hp
          cases hb : (Pv.cutc 45 l.tail).2 with
          | none => rw [hb] at hm; simp at hm
          | some b =>
            rw [hb] at hm hp
            have hm' : (95 : UInt8) ∈ b := by
              rcases List.mem_cons.1 hm with e | h
              · exact absurd e (by decide)
              · exact h
            dsimp only at hp
            unfold Pv.parseI at hp
            split at hp
            · rename_i hc2
              rcases mem_spl 46 95 _ hm' with e | ⟨p, hp', hx⟩
              · exact absurd e (by decide)
              · have hg := Pv.bad_noId p
                have hn := List.any_eq_false.1 hc2.2 p hp'
                simp only [Bool.not_eq_true] at hn
                rw [hn] at hg
                unfold Pv.good at hg
                simp only [Bool.not_false, Bool.and_eq_true] at hg
                have := List.all_eq_true.1 hg.1 95 hx
                exact absurd this (by decide)
            · simp at hp
    · simp at hp

/-- Numbers and places, in order. -/
def rank (x y : List Nat) (k m : List Nat) : Int :=
  if Pv.cmpL Pv.cmpN (x.map dec) (y.map dec) = 0 then (if decide (0 < k.length) = decide (0 < m.length) then Pv.cmpL Pv.cmpId (k.map lab) (m.map lab) else if 0 < k.length then -1 else 1)
  else Pv.cmpL Pv.cmpN (x.map dec) (y.map dec)

theorem cmpN_dec (a b : Nat) : Pv.cmpN (dec a) (dec b) = Lib.compareInt a b := by
  unfold Pv.cmpN
  rw [(dec_facts a).2.1, (dec_facts b).2.1]

theorem join_lab (k : List Nat) (h : ∀ x ∈ k, x < 12) (h3 : k.length ≤ 3) (h2 : ∀ i, 0 < i → k[i]? ≠ some 3) : (join (k.map lab)).length ≤ 18 ∧ (k.map lab).any Pv.noId = false ∧ (∀ x ∈ k.map lab, (46 : UInt8) ∉ x) ∧ (k.map lab).length ≤ 4 := by
  refine ⟨?_, ?_, ?_, by simp; omega⟩
  · match k, h, h3, h2 with
    | [], _, _, _ => simp [join]
    | [a], h, _, _ =>
      have := (lab_facts a (h a (by simp))).2.2.2.1
      simp [join]; omega
    | [a, b], h, _, h2 =>
      have h1 := (lab_facts a (h a (by simp))).2.2.2.1
      have h3 := (lab_facts b (h b (by simp))).2.2.2.2 (fun e => h2 1 (by omega) (by simp [e]))
      simp [join]; omega
    | [a, b, c], h, _, h2 =>
      have h1 := (lab_facts a (h a (by simp))).2.2.2.1
      have h3 := (lab_facts b (h b (by simp))).2.2.2.2 (fun e => h2 1 (by omega) (by simp [e]))
      have h4 := (lab_facts c (h c (by simp))).2.2.2.2 (fun e => h2 2 (by omega) (by simp [e]))
      simp [join]; omega
  · rw [List.any_eq_false]
    intro x hx
    obtain ⟨i, hi, rfl⟩ := List.mem_map.1 hx
    simp [(lab_facts i (h i hi)).1]
  · intro x hx
    obtain ⟨i, hi, rfl⟩ := List.mem_map.1 hx
    exact (lab_facts i (h i hi)).2.1

end Rk
end Go.Proofs.YtelmkfkgpnadnaaDoor
