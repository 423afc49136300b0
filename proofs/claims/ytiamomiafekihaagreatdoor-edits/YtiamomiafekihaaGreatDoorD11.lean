/-
  With the draws counted.   The reading of a version, all ways together; and the program's Compare.
-/
import Derived.Test.YtiamomiafekihaaGreatDoorD9
import Derived.Test.YtiamomiafekihaaGreatDoorD10
namespace Go.Proofs.YtiamomiafekihaaGreatDoor.Dr
open Go.RowKit

/-- Strings that are short. -/
structure Short where
  val : ByteArray
  property : val.size ≤ 40

theorem short_list : ∀ (l : List ByteArray), (∀ x ∈ l, x.size ≤ 40) → ∃ z : List Short, z.map Short.val = l
  | [], _ => ⟨[], rfl⟩
  | x :: t, h => by
    obtain ⟨z, hz⟩ := short_list t (fun y hy => h y (by simp [hy]))
    exact ⟨⟨x, h x (by simp)⟩ :: z, by simp [hz]⟩

theorem containsFunc_any (l : List ByteArray) (hl : ∀ x ∈ l, x.size ≤ 40) (hn : l.length ≤ 40) (b c : Nat) (W : World) (hc : ∀ j, j < l.length → W.cell? ⟨b, j, none⟩ = some (.string l[j]!)) :
    Calls Tryz.prog 76 #[.slice (some ⟨b, 0, none⟩) l.length c, .func (.func 101) #[] #[]] W fun e w' => e = .returned (.bool ((l.map (·.data.toList)).any Pv.noId)) ∧ ∃ q, w' = W.drewN q := by
  letI : Inhabited Short := ⟨⟨ByteArray.empty, by decide⟩⟩
  obtain ⟨z, rfl⟩ := short_list l hl
  have hp : PredAt Tryz.prog 101 #[] (fun x : Short => Value.string x.val) (fun x => Pv.noId x.val.data.toList) W := by
    intro W' x _
    refine (isNoIdentifier_any x.val W' (by have := x.property; unfold maxLen; omega)).mono ?_
    rintro e w' ⟨rfl, rfl⟩
    exact ⟨rfl, 0, rfl⟩
  have k := Tryz.slices_ContainsFunc (fun x : Short => Value.string x.val) (fun x => Pv.noId x.val.data.toList) 101 #[] enters23 b 0 z.length c z W hp (Nat.le_refl _) (by simp at hn; omega) (by
    intro j hj
    have := hc j (by simpa using hj)
    rw [Nat.zero_add, this, getElem!_pos _ j (by simpa using hj), getElem!_pos z j hj]
    simp)
  rw [List.take_length] at k
  rw [List.length_map, List.map_map, List.any_map]
  exact k

theorem hasPrefix_v (l : List UInt8) : Lib.hasPrefix l [118] = decide (l.head? = some 118) := by
  cases l with
  | nil => rfl
  | cons c t =>
    unfold Lib.hasPrefix
    by_cases h : c = 118
    · subst h; simp [List.isPrefixOf]
    · have : ¬ (118 = c) := fun e => h e.symm
      simp [List.isPrefixOf, h, this]
theorem trimPrefix_v (l : List UInt8) (h : l.head? = some 118) : Lib.trimPrefix l [118] = l.tail := by
  unfold Lib.trimPrefix
  rw [hasPrefix_v, decide_eq_true h]
  cases l <;> simp

theorem spl_len_count (c : UInt8) : ∀ l : List UInt8, (Pv.spl c l).length ≤ l.length + 1
  | [] => by simp [Pv.spl]
  | b :: t => by
    have := spl_len_count c t
    unfold Pv.spl
    split
    · simp; exact this
    · split
      · simp
      · rename_i p ps e
        rw [e] at this
        simp at this ⊢; omega

theorem cutc_len (c : UInt8) : ∀ l : List UInt8, (Pv.cutc c l).1.length ≤ l.length ∧ ∀ b, (Pv.cutc c l).2 = some b → b.length ≤ l.length
  | [] => by simp [Pv.cutc]
  | x :: t => by
    have := cutc_len c t
    unfold Pv.cutc
    split
    · simp
    · simp
      refine ⟨this.1, fun b hb => ?_⟩
      have := this.2 b hb
      omega

/-- All that the reading of a version calls, at one string. -/
theorem reading (s : ByteArray) (w : World) (hm : Ml w) (h118 : s.data.toList.head? = some 118) (h40 : s.size ≤ 40) :
    ∃ rest front back : ByteArray, front.data.toList = (Pv.cutc 45 s.data.toList.tail).1 ∧ (∀ b, (Pv.cutc 45 s.data.toList.tail).2 = some b → back.data.toList = b) ∧ front.size ≤ 40 ∧ back.size ≤ 40 ∧
      (∀ W, Calls Tryz.prog 97 #[.string s, .string ⟨#[118]⟩] W fun e w' => e = .returned (.tuple #[.string rest, .bool true]) ∧ w' = W) ∧
      (∀ W, Below w.heap.size w W → Calls Tryz.prog 98 #[.string rest, .string ⟨#[45]⟩] W fun e w' => e = .returned (.tuple #[.string front, .string back, .bool (Pv.cutc 45 s.data.toList.tail).2.isSome]) ∧ ∃ n, w' = W.drewN n) := by
  have hsz := Lib.size_eq s
  have htl : s.data.toList.tail.length ≤ 40 := by rw [List.length_tail]; omega
  have hcl := cutc_len 45 s.data.toList.tail
  have e1 : (⟨s.data.toList.tail.toArray⟩ : ByteArray).data.toList = s.data.toList.tail := rfl
  have hcut := Pv.cut_cutc 45 s.data.toList.tail
  refine ⟨⟨s.data.toList.tail.toArray⟩, ⟨(Pv.cutc 45 s.data.toList.tail).1.toArray⟩, ⟨((Pv.cutc 45 s.data.toList.tail).2.getD []).toArray⟩, rfl, ?_, ?_, ?_, ?_, ?_⟩
  · intro b hb
    show (Pv.cutc 45 s.data.toList.tail).2.getD [] = b
    rw [hb]; rfl
  · rw [Lib.size_eq]
    show (Pv.cutc 45 s.data.toList.tail).1.length ≤ 40
    omega
  · rw [Lib.size_eq]
    show ((Pv.cutc 45 s.data.toList.tail).2.getD []).length ≤ 40
    cases hb : (Pv.cutc 45 s.data.toList.tail).2 with
    | none => simp
    | some b => have := hcl.2 b hb; simp; omega
  · intro W
    have k := Tryz.strings_CutPrefix s ⟨#[118]⟩ W
    rw [show (⟨#[118]⟩ : ByteArray).data.toList = [118] from rfl, hasPrefix_v, decide_eq_true h118, trimPrefix_v _ h118] at k
    exact k
  · intro W hb
    obtain ⟨m, hmm⟩ := hm.below hb
    have k := Tryz.strings_Cut ⟨s.data.toList.tail.toArray⟩ ⟨#[45]⟩ m W (by rw [Lib.size_eq, e1]; omega) hmm
    rw [show (⟨#[45]⟩ : ByteArray).data.toList = [45] from rfl, e1, hcut] at k
    exact k

theorem parseN_three {l : List UInt8} {ns : List (List UInt8)} (h : Pv.parseN l = some ns) : ∃ p q r, ns = [p, q, r] := by
  unfold Pv.parseN at h
  split at h
  · rename_i hc
    simp only [Option.some.injEq] at h
    rw [h] at hc
    match ns, hc.1 with
    | [p, q, r], _ => exact ⟨p, q, r, rfl⟩
  · simp at h

theorem parseVersion_none (s : ByteArray) (w : World) (hm : Ml w) (h : Pv.parse s.data.toList = none) :
    Calls Tryz.prog 71 #[.string s] w fun e w' => e = .returned (.tuple #[.agg #[.int .i64 0, .int .i64 0, .int .i64 0, .slice none 0 0], .bool false]) ∧ Below w.heap.size w w' := by
  by_cases h118 : s.data.toList.head? = some 118
  · by_cases h40 : s.size ≤ 40
    · obtain ⟨rest, front, back, hf, hbk, hfs, hbs, k1, k2⟩ := reading s w hm h118 h40
      unfold Pv.parse at h
      rw [if_pos ⟨h118, by rw [← Lib.size_eq]; exact h40⟩, ← hf] at h
      cases hN : Pv.parseN front.data.toList with
      | none =>
        exact parseVersion_a3 s rest front back _ w (by omega) k1 k2 (fun W hb => parseNumbers_none front W (hm.below hb) hfs hN)
      | some ns =>
        rw [hN] at h
        obtain ⟨p, q, r, rfl⟩ := parseN_three hN
        have k3 := fun W (hb : Below w.heap.size w W) => parseNumbers_some front W (hm.below hb) hfs p q r hN
        cases hb : (Pv.cutc 45 s.data.toList.tail).2 with
        | none => rw [hb] at h; simp at h
        | some b =>
          rw [hb] at h k2
          simp only [Option.map_eq_none_iff] at h
          have hbe := hbk b hb
          obtain ⟨l, hl, hz, k4⟩ := split_any back (by omega)
          rw [hbe] at hl
          have k4 := fun W (hb : Below w.heap.size w W) => k4 W (hm.below hb)
          unfold Pv.parseI at h
          rw [← hl] at h
          by_cases h4 : l.length ≤ 4
          · have hany : (l.map (·.data.toList)).any Pv.noId = true := by
              cases ha : (l.map (·.data.toList)).any Pv.noId with
              | true => rfl
              | false => rw [if_pos ⟨by simpa using h4, ha⟩] at h; simp at h
            have k5 := fun W b (hc : ∀ j, j < l.length → W.cell? ⟨b, j, none⟩ = some (.string l[j]!)) => containsFunc_any l (fun x hx => by have := hz x hx; omega) (by omega) b l.length W hc
            rw [hany] at k5
            exact parseVersion_a6 s rest front back l _ _ _ w (by omega) (by omega) k1 k2 k3 k4 k5
          · exact parseVersion_a5 s rest front back l _ _ _ w (by omega) (by omega) k1 k2 k3 k4
    · have k1 := fun W => Tryz.strings_CutPrefix s ⟨#[118]⟩ W
      rw [show (⟨#[118]⟩ : ByteArray).data.toList = [118] from rfl, hasPrefix_v, decide_eq_true h118] at k1
      exact parseVersion_a2 s _ w (by omega) k1
  · have k1 := fun W => Tryz.strings_CutPrefix s ⟨#[118]⟩ W
    rw [show (⟨#[118]⟩ : ByteArray).data.toList = [118] from rfl, hasPrefix_v, decide_eq_false h118] at k1
    exact parseVersion_a1 s _ w k1

theorem parseVersion_some (s : ByteArray) (w : World) (hm : Ml w) (v : List (List UInt8) × List (List UInt8)) (h : Pv.parse s.data.toList = some v) :
    ∃ (p q r : List UInt8) (l : List ByteArray), v = ([p, q, r], l.map (·.data.toList)) ∧ l.length ≤ 4 ∧ (∀ x ∈ l, x.size ≤ 8) ∧
      Calls Tryz.prog 71 #[.string s] w fun e w' => ∃ sl, e = .returned (.tuple #[.agg #[.int .i64 (Pv.val p), .int .i64 (Pv.val q), .int .i64 (Pv.val r), sl], .bool true]) ∧ Below w.heap.size w w' ∧ SlOf w' sl l := by
  unfold Pv.parse at h
  split at h
  · rename_i hc
    obtain ⟨h118, h40⟩ := hc
    rw [← Lib.size_eq] at h40
    obtain ⟨rest, front, back, hf, hbk, hfs, hbs, k1, k2⟩ := reading s w hm h118 h40
    rw [← hf] at h
    cases hN : Pv.parseN front.data.toList with
    | none => rw [hN] at h; simp at h
    | some ns =>
      rw [hN] at h
      obtain ⟨p, q, r, rfl⟩ := parseN_three hN
      have k3 := fun W (hb : Below w.heap.size w W) => parseNumbers_some front W (hm.below hb) hfs p q r hN
      cases hb : (Pv.cutc 45 s.data.toList.tail).2 with
      | none =>
        rw [hb] at h k2
        simp only [Option.some.injEq] at h
        refine ⟨p, q, r, [], by rw [← h]; rfl, by simp, by simp, ?_⟩
        refine (parseVersion_a4 s rest front back _ _ _ w (by omega) k1 k2 k3).mono ?_
        rintro e w' ⟨rfl, hb'⟩
        exact ⟨_, rfl, hb', Or.inl ⟨rfl, rfl⟩⟩
      | some b =>
        rw [hb] at h k2
        have hbe := hbk b hb
        obtain ⟨l, hl, hz, k4⟩ := split_any back (by omega)
        rw [hbe] at hl
        have k4 := fun W (hb : Below w.heap.size w W) => k4 W (hm.below hb)
        dsimp only at h
        unfold Pv.parseI at h
        rw [← hl] at h
        split at h
        · rename_i hc
          obtain ⟨h4, hany⟩ := hc
          simp only [Option.map_some, Option.some.injEq] at h
          have h4' : l.length ≤ 4 := by simpa using h4
          have k5 := fun W b (hc : ∀ j, j < l.length → W.cell? ⟨b, j, none⟩ = some (.string l[j]!)) => containsFunc_any l (fun x hx => by have := hz x hx; omega) (by omega) b l.length W hc
          rw [hany] at k5
          refine ⟨p, q, r, l, h.symm, h4', ?_, ?_⟩
          · intro x hx
            have := List.any_eq_false.1 hany x.data.toList (List.mem_map_of_mem hx)
            simp only [Bool.not_eq_true] at this
            unfold Pv.noId at this
            simp only [Bool.or_eq_false_iff, decide_eq_false_iff_not] at this
            rw [Lib.size_eq]; omega
          · have hne : l ≠ [] := by
              intro e
              rw [e] at hl
              exact Pv.spl_ne 46 b hl.symm
            exact parseVersion_a7 s rest front back l _ _ _ w (by omega) (by omega) hne k1 k2 k3 k4 k5
        · simp at h
  · simp at h

end Go.Proofs.YtiamomiafekihaaGreatDoor.Dr
