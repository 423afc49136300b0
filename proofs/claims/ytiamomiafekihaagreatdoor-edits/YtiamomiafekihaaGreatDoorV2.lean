/-
  The document's answer: the identifiers of a prerelease.
-/
import Derived.Test.YtiamomiafekihaaGreatDoorW11
namespace Go.Proofs.YtiamomiafekihaaGreatDoor
open Go.RowKit

/-- What the reading of identifiers comes to. -/
def IdRes (w' : World) (v : Value) (ok : Bool) (G : Option (List (List UInt8))) : Prop := match G with
  | none => ok = false ∧ ∃ ad n k, v = .slice ad n k
  | some L => ok = decide (L.length ≤ 4) ∧ ∃ l : List ByteArray, l.map (·.data.toList) = L ∧ SlOf w' v l

/-- Where the reading stands. -/
def IdAt (t : List UInt8) (k fr : Nat) (acc : List ByteArray) (G : Option (List (List UInt8))) : Prop :=
  (k ≤ t.length ∧ fr ≤ k ∧ G = Pv.identGo (acc.map (·.data.toList)) ((t.drop fr).take (k - fr)) (t.drop k)) ∨ (k = t.length + 1 ∧ G = some (acc.map (·.data.toList)))

theorem IdAt.start (t : List UInt8) : IdAt t 0 0 [] (Pv.identGo [] [] t) := Or.inl ⟨by omega, by omega, by simp⟩

theorem cur_snoc (t : List UInt8) (k fr : Nat) (h : k < t.length) (hf : fr ≤ k) : (t.drop fr).take (k + 1 - fr) = (t.drop fr).take (k - fr) ++ [t[k]] := by
  rw [show k + 1 - fr = (k - fr) + 1 by omega, List.take_succ_eq_append_getElem (by simp; omega)]
  congr 2
  rw [List.getElem_drop]
  congr 1
  omega

theorem IdAt.byte {t : List UInt8} {k fr : Nat} {acc : List ByteArray} {G : Option (List (List UInt8))} (h : IdAt t k fr acc G) (hk : k < t.length) (h46 : t[k] ≠ 46) :
    (Pv.idb t[k] = true → IdAt t (k + 1) fr acc G) ∧ (Pv.idb t[k] = false → G = none) := by
  rcases h with ⟨h1, h2, h3⟩ | ⟨h1, _⟩
  · rw [List.drop_eq_getElem_cons hk, Pv.identGo, if_neg h46] at h3
    constructor
    · intro hi
      rw [if_pos hi] at h3
      exact Or.inl ⟨by omega, by omega, by rw [cur_snoc t k fr hk h2]; exact h3⟩
    · intro hi
      rw [if_neg (by simp [hi])] at h3
      exact h3
  · omega

theorem IdAt.piece {t : List UInt8} {k fr : Nat} {acc : List ByteArray} {G : Option (List (List UInt8))} (h : IdAt t k fr acc G) (hk : k = t.length ∨ ∃ h : k < t.length, t[k] = 46) (x : ByteArray) (hx : x.data.toList = (t.drop fr).take (k - fr)) :
    (Pv.bad x.data.toList = false → IdAt t (k + 1) (k + 1) (acc ++ [x]) G) ∧ (Pv.bad x.data.toList = true → G = none) := by
  rcases h with ⟨h1, h2, h3⟩ | ⟨h1, _⟩
  · rw [← hx] at h3
    rcases hk with rfl | ⟨hlt, h46⟩
    · rw [List.drop_of_length_le (Nat.le_refl _), Pv.identGo] at h3
      constructor
      · intro hb
        rw [if_neg (by simp [hb])] at h3
        exact Or.inr ⟨rfl, by rw [h3]; simp⟩
      · intro hb
        rw [if_pos hb] at h3
        exact h3
    · rw [List.drop_eq_getElem_cons hlt, Pv.identGo, if_pos h46] at h3
      constructor
      · intro hb
        rw [if_neg (by simp [hb])] at h3
        exact Or.inl ⟨by omega, by omega, by rw [h3]; simp⟩
      · intro hb
        rw [if_pos hb] at h3
        exact h3
  · rcases hk with h | ⟨h, _⟩ <;> omega

theorem IdAt.out {t : List UInt8} {k fr : Nat} {acc : List ByteArray} {G : Option (List (List UInt8))} (h : IdAt t k fr acc G) (hk : t.length < k) : G = some (acc.map (·.data.toList)) := by
  rcases h with ⟨h1, _, _⟩ | ⟨_, h⟩
  · omega
  · exact h

theorem IdAt.le {t : List UInt8} {k fr : Nat} {acc : List ByteArray} {G : Option (List (List UInt8))} (h : IdAt t k fr acc G) (hk : k ≤ t.length) : fr ≤ k := by
  rcases h with ⟨_, h, _⟩ | ⟨h, _⟩
  · exact h
  · omega

theorem slOf_owns {w : World} {base : Nat} {v : Value} {l : List ByteArray} (h : w.ownsRow base 9 1 v l.length (l.map Value.string)) (hne : l ≠ []) : SlOf w v l := by
  obtain ⟨h1, h2⟩ := h
  have hpos : 0 < l.length := List.length_pos_iff.2 hne
  rcases h2 with ⟨_, h⟩ | ⟨g, cap, cur, hv, hg, hh, hc, hm, hs, ht⟩
  · omega
  · refine Or.inr ⟨g, cap, hv, hne, ?_, fun j hj => ?_⟩
    · apply Classical.byContradiction
      intro hn
      rw [Array.getElem?_eq_none (by omega)] at hh
      simp at hh
    · rw [World.cell?]
      dsimp only
      rw [hh]
      dsimp only
      have e : cur.toList[j]? = some (.string l[j]!) := by
        have : (cur.toList.take (l.length * 1))[j]? = cur.toList[j]? := by rw [List.getElem?_take, if_pos (by omega)]
        rw [← this, ht, List.getElem?_map, List.getElem?_eq_getElem hj, getElem!_pos l j hj]
        rfl
      rw [← e]
      simp

theorem info9 : (Tryz.prog.info? 9).map (fun i => (i.zero, i.size, i.bytes)) = some (some (.string ByteArray.empty), 1, 16) := by kernel_rfl
theorem info9' : ∃ i, Tryz.prog.info? 9 = some i ∧ i.zero = some (.string ByteArray.empty) ∧ i.size = 1 ∧ i.bytes = 16 := by
  have h := info9
  rw [Option.map_eq_some_iff] at h
  obtain ⟨i, h1, h2⟩ := h
  simp only [Prod.mk.injEq] at h2
  exact ⟨i, h1, h2.1, h2.2.1, h2.2.2⟩

theorem own_base {w wr : World} {e size n : Nat} {v : Value} {xs : List Value} (h : wr.ownsRow w.heap.size e size v n xs) : ∀ k, v.ownBlock = some k → w.heap.size ≤ k := by
  intro k hk
  rcases h.2 with ⟨rfl, _⟩ | ⟨g, cap, cur, rfl, hg, _⟩
  · simp [Value.ownBlock] at hk
  · simp [Value.ownBlock] at hk; omega

/-- When a piece is bad, case by case. -/
theorem bad_at (x : ByteArray) : (x.size = 0 → Pv.bad x.data.toList = true) ∧ (8 < x.size → Pv.bad x.data.toList = true) ∧
    (1 ≤ x.size ∧ x.size ≤ 8 ∧ (x.data.toList.takeWhile Pv.dg).length ≠ x.size → Pv.bad x.data.toList = false) ∧
    (1 ≤ x.size ∧ x.size ≤ 8 ∧ ¬ 1 < (x.data.toList.takeWhile Pv.dg).length → Pv.bad x.data.toList = false) ∧
    (∀ h : 0 < x.size, x.size ≤ 8 → (x.data.toList.takeWhile Pv.dg).length = x.size → 1 < (x.data.toList.takeWhile Pv.dg).length → Pv.bad x.data.toList = ((x[0].toNat : Int) == 48)) := by
  have hs := Lib.size_eq x
  unfold Pv.bad
  rw [← hs]
  refine ⟨fun h => by simp [h], fun h => by simp [h], ?_, ?_, ?_⟩
  · rintro ⟨h1, h2, h3⟩
    rw [decide_eq_false (by omega), decide_eq_false (by omega), decide_eq_false h3]; rfl
  · rintro ⟨h1, h2, h3⟩
    rw [decide_eq_false (by omega), decide_eq_false (by omega), decide_eq_false h3]; simp
  · intro h h2 h3 h4
    rw [decide_eq_false (by omega), decide_eq_false (by omega), decide_eq_true h3, decide_eq_true h4, head_of x h]
    simp only [Bool.false_or, Bool.true_and]
    rw [Bool.eq_iff_iff]
    simp
    constructor
    · intro h; rw [h]; rfl
    · intro h; exact UInt8.toNat.inj (by simpa using (by omega : x[0].toNat = 48))

theorem identGo_ne : ∀ (t : List UInt8) (acc : List (List UInt8)) (cur : List UInt8), ¬ Pv.identGo acc cur t = some []
  | [], acc, cur => by
    unfold Pv.identGo
    split
    · simp
    · simp
  | b :: t, acc, cur => by
    unfold Pv.identGo
    split
    · split
      · simp
      · exact identGo_ne t _ _
    · split
      · exact identGo_ne t _ _
      · simp

theorem idb_d {c : UInt8} (h : Pv.dg c = true) : Pv.idb c = true := by unfold Pv.idb; rw [h]; simp
theorem idb_l {c : UInt8} (h : (Pv.sm c || Pv.gr c) = true) : Pv.idb c = true := by
  unfold Pv.idb
  cases h1 : Pv.sm c <;> cases h2 : Pv.gr c <;> simp_all
theorem idb_5 {c : UInt8} (h : ((c.toNat : Int) == 45) = true) : Pv.idb c = true := by unfold Pv.idb; rw [eq45, h]; simp
theorem idb_n {c : UInt8} (h1 : Pv.dg c = false) (h2 : (Pv.sm c || Pv.gr c) = false) (h3 : ((c.toNat : Int) == 45) = false) : Pv.idb c = false := by
  unfold Pv.idb
  rw [eq45, h3, h1]
  simp only [Bool.or_eq_false_iff] at h2
  rw [h2.1, h2.2]; rfl

set_option maxRecDepth 100000 in
set_option maxHeartbeats 8000000 in
theorem identifiers_any (s : ByteArray) (w : World) (hs : s.size ≤ 40) :
    Calls Tryz.prog 104 #[.string s] w fun e w' => ∃ v ok, e = .returned (.tuple #[v, .bool ok]) ∧ Below w.heap.size w w' ∧ IdRes w' v ok (Pv.identGo [] [] s.data.toList) := by
  have hst := IdAt.start s.data.toList
  have hg := identGo_ne s.data.toList [] []
  generalize Pv.identGo [] [] s.data.toList = G at hst hg
  have HG : Hid (¬ G = some []) := hg
  clear hg
  have HS : Hid (s.data.toList.length = s.size) := (Lib.size_eq s).symm
  generalize ht : s.data.toList = t at hst HS
  have HT : Hid (s.data.toList = t) := ht
  clear ht
  have HST : Hid (IdAt t 0 0 [] G) := hst
  clear hst
  obtain ⟨i9, hi1, hi2, hi3, hi4⟩ := info9'
  have HI : Hid (Tryz.prog.info? 9 = some i9 ∧ i9.zero = some (.string ByteArray.empty) ∧ i9.size = 1 ∧ i9.bytes = 16) := ⟨hi1, hi2, hi3, hi4⟩
  clear hi1 hi2 hi3 hi4
  go_enter Tryz.func104, Tryz.ntmps104
  go_wp2
  go_loopg [4, 5, 6] (s.size + 1) (fun gg v f i wr => ∃ (k fr : Nat) (acc : List ByteArray), k ≤ s.size + 1 ∧ fr ≤ s.size + 1 ∧ s.size + 1 - k ≤ gg ∧ f = .int .i64 fr ∧ i = .int .i64 k ∧ acc.length ≤ k ∧ wr.ownsRow w.heap.size 9 1 v acc.length (acc.map Value.string) ∧ Below w.heap.size w wr ∧ Hid (IdAt t k fr acc G))
  case atStart => exact ⟨0, 0, [], by omega, by omega, by omega, rfl, rfl, by simp, World.ownsRow_nil _ _ _ _, Below.refl _ _, HST⟩
  case round =>
    obtain ⟨k, fr, acc, hk, hfr, hg, rfl, rfl, hal, hown, hbw, A⟩ := hrel
    by_cases hlt : k < s.size
    · have hlt' : k < t.length := by rw [HS.out]; exact hlt
      have HE : Hid (t[k] = s[k]) := by
        show t[k] = s[k]
        have := HT.out
        subst this
        rfl
      by_cases h46 : (s[k].toNat : Int) = 46
      · have hfk := A.out.le (by rw [HS.out]; omega)
        have h46' : ((s[k].toNat : Int) != 46) = false := by rw [h46]; rfl
        have kx := fun W => digits_any (s.extract fr k) 0 W (by unfold maxLen; simp; omega) (by omega)
        obtain ⟨x, hxe⟩ : ∃ x, x = s.extract fr k := ⟨_, rfl⟩
        have PC := A.out.piece (Or.inr ⟨hlt', by rw [HE.out]; exact UInt8.toNat.inj (by simpa using (by omega : s[k].toNat = 46))⟩) x (by rw [hxe, Lib.extract_data, HT.out])
        have hx40 : x.size ≤ 40 := by rw [hxe]; simp; omega
        go_wp2_with (go_at_call 103; fail)
        rw [← hxe] at kx ⊢
        clear hxe
        rw [List.drop_zero] at kx
        have PB := bad_at x
        generalize hnd : (x.data.toList.takeWhile Pv.dg).length = nd at kx PB
        have hnd40 : nd ≤ x.size := by rw [← hnd, Lib.size_eq]; exact (List.takeWhile_prefix (p := Pv.dg) (l := x.data.toList)).length_le
        clear hnd
        refine (kx _).mono ?_
        rintro e w' ⟨rfl, hw'⟩
        rw [hw']
        clear hw'
        by_cases h0 : x.size = 0
        · have HN : Hid (G = none) := PC.2 (PB.1 h0)
          have h01 : ((x.size : Int) == 0) = true := beq_iff_eq.2 (by omega)
          clear PC PB h0
          go_wp2
          go_ret2
          exact ⟨_, _, rfl, hbw, by rw [HN.out]; exact ⟨rfl, _, _, _, rfl⟩⟩
        · have h01 : ((x.size : Int) == 0) = false := beq_eq_false_iff_ne.2 (by omega)
          have h02 : ¬ x = ByteArray.empty := fun e => h0 (by rw [e]; rfl)
          by_cases h8 : 8 < x.size
          · have HN : Hid (G = none) := PC.2 (PB.2.1 h8)
            have h81 : (8 : Int) < (x.size : Int) := by omega
            clear PC PB h0
            go_wp2
            go_ret2
            exact ⟨_, _, rfl, hbw, by rw [HN.out]; exact ⟨rfl, _, _, _, rfl⟩⟩
          · have h81 : (x.size : Int) ≤ 8 := by omega
            have h1 : 1 ≤ x.size := by omega
            by_cases hn : nd = x.size
            · have hn1 : ((nd : Int) == (x.size : Int)) = true := by simp; omega
              by_cases hn2 : 1 < nd
              · have hx0 : 0 < x.size := by omega
                have PB5 := PB.2.2.2.2 hx0 (by omega) hn hn2
                have hn3 : (1 : Int) < (nd : Int) := by omega
                cases h48 : ((x[0].toNat : Int) == 48)
                · have HN : Hid (IdAt t (k + 1) (k + 1) (acc ++ [x]) G) := PC.1 (by rw [PB5, h48])
                  clear PC PB PB5 h0 hn hn2
                  go_wp2_with (at_builtin; refine wpList_append_own _ rfl _ _ 57 rfl w.heap.size 9 i9 (.string ByteArray.empty) 1 16 Tryz.underlying57 HI.out.1 HI.out.2.1 HI.out.2.2.1 HI.out.2.2.2 rfl (by decide) _ _ _ rfl (hown.alloc _) ⟨wr.heap.size, 0, none⟩ 1 1 [.string x] rfl rfl ?_ ?_ ?_ ?_ ?_ ?_)
                  all_goals first
                    | exact cell_one_new _ _ _
                    | (show (Value.string x).oneCell' = true; rfl)
                    | (show ∀ u ∈ [Value.string x], u.oneCell' = true; intro u hu; simp at hu; subst hu; rfl)
                    | (show acc.length + 1 ≤ maxLen; unfold maxLen; omega)
                    | (show (acc.length + 1) * 16 ≤ 140737488355328; omega)
                    | (show w.heap.size ≤ (wr.alloc _).heap.size; have := hbw.size; simp; omega)
                    | (show w.heap.size ≤ wr.heap.size + 1; have := hbw.size; omega)
                    | skip
                  intro v' w1 hown' hgrow _
                  have hbw1 : Below w.heap.size w w1 := (hbw.alloc hbw.size _).grown hgrow (by have := hbw.size; simp; omega) (own_base hown)
                  have hown1 : w1.ownsRow w.heap.size 9 1 v' (acc ++ [x]).length ((acc ++ [x]).map Value.string) := by rw [List.map_append, List.length_append]; exact hown'
                  clear hown' hgrow hown
                  go_wp2
                  go_roundg (s.size + 1 - (k + 1))
                  case measure => omega
                  case rel => exact ⟨k + 1, k + 1, acc ++ [x], by omega, by omega, by omega, by go_num, by go_num, by simp; omega, hown1, hbw1, HN⟩
                · have HN : Hid (G = none) := PC.2 (by rw [PB5, h48])
                  clear PC PB PB5 h0 hn hn2
                  go_wp2
                  go_ret2
                  exact ⟨_, _, rfl, hbw, by rw [HN.out]; exact ⟨rfl, _, _, _, rfl⟩⟩
              · have HN : Hid (IdAt t (k + 1) (k + 1) (acc ++ [x]) G) := PC.1 (PB.2.2.2.1 ⟨h1, by omega, hn2⟩)
                have hn3 : (nd : Int) ≤ 1 := by omega
                clear PC PB h0 hn hn2
                go_wp2_with (at_builtin; refine wpList_append_own _ rfl _ _ 57 rfl w.heap.size 9 i9 (.string ByteArray.empty) 1 16 Tryz.underlying57 HI.out.1 HI.out.2.1 HI.out.2.2.1 HI.out.2.2.2 rfl (by decide) _ _ _ rfl (hown.alloc _) ⟨wr.heap.size, 0, none⟩ 1 1 [.string x] rfl rfl ?_ ?_ ?_ ?_ ?_ ?_)
                all_goals first
                  | exact cell_one_new _ _ _
                  | (show (Value.string x).oneCell' = true; rfl)
                  | (show ∀ u ∈ [Value.string x], u.oneCell' = true; intro u hu; simp at hu; subst hu; rfl)
                  | (show acc.length + 1 ≤ maxLen; unfold maxLen; omega)
                  | (show (acc.length + 1) * 16 ≤ 140737488355328; omega)
                  | (show w.heap.size ≤ (wr.alloc _).heap.size; have := hbw.size; simp; omega)
                  | (show w.heap.size ≤ wr.heap.size + 1; have := hbw.size; omega)
                  | skip
                intro v' w1 hown' hgrow _
                have hbw1 : Below w.heap.size w w1 := (hbw.alloc hbw.size _).grown hgrow (by have := hbw.size; simp; omega) (own_base hown)
                have hown1 : w1.ownsRow w.heap.size 9 1 v' (acc ++ [x]).length ((acc ++ [x]).map Value.string) := by rw [List.map_append, List.length_append]; exact hown'
                clear hown' hgrow hown
                go_wp2
                go_roundg (s.size + 1 - (k + 1))
                case measure => omega
                case rel => exact ⟨k + 1, k + 1, acc ++ [x], by omega, by omega, by omega, by go_num, by go_num, by simp; omega, hown1, hbw1, HN⟩
            · have hn1 : ((nd : Int) == (x.size : Int)) = false := by simp; omega
              have HN : Hid (IdAt t (k + 1) (k + 1) (acc ++ [x]) G) := PC.1 (PB.2.2.1 ⟨h1, by omega, hn⟩)
              clear PC PB h0 hn
              go_wp2_with (at_builtin; refine wpList_append_own _ rfl _ _ 57 rfl w.heap.size 9 i9 (.string ByteArray.empty) 1 16 Tryz.underlying57 HI.out.1 HI.out.2.1 HI.out.2.2.1 HI.out.2.2.2 rfl (by decide) _ _ _ rfl (hown.alloc _) ⟨wr.heap.size, 0, none⟩ 1 1 [.string x] rfl rfl ?_ ?_ ?_ ?_ ?_ ?_)
              all_goals first
                | exact cell_one_new _ _ _
                | (show (Value.string x).oneCell' = true; rfl)
                | (show ∀ u ∈ [Value.string x], u.oneCell' = true; intro u hu; simp at hu; subst hu; rfl)
                | (show acc.length + 1 ≤ maxLen; unfold maxLen; omega)
                | (show (acc.length + 1) * 16 ≤ 140737488355328; omega)
                | (show w.heap.size ≤ (wr.alloc _).heap.size; have := hbw.size; simp; omega)
                | (show w.heap.size ≤ wr.heap.size + 1; have := hbw.size; omega)
                | skip
              intro v' w1 hown' hgrow _
              have hbw1 : Below w.heap.size w w1 := (hbw.alloc hbw.size _).grown hgrow (by have := hbw.size; simp; omega) (own_base hown)
              have hown1 : w1.ownsRow w.heap.size 9 1 v' (acc ++ [x]).length ((acc ++ [x]).map Value.string) := by rw [List.map_append, List.length_append]; exact hown'
              clear hown' hgrow hown
              go_wp2
              go_roundg (s.size + 1 - (k + 1))
              case measure => omega
              case rel => exact ⟨k + 1, k + 1, acc ++ [x], by omega, by omega, by omega, by go_num, by go_num, by simp; omega, hown1, hbw1, HN⟩
      · have HB := A.out.byte hlt' (by rw [HE.out]; intro e; exact h46 (by rw [e]; rfl))
        rw [HE.out] at HB
        have kd := fun W => refDigit_any s[k] W
        have kl := fun W => refLetter_any s[k] W
        cases hd : Pv.dg s[k]
        · cases hl : (Pv.sm s[k] || Pv.gr s[k])
          · cases h5 : ((s[k].toNat : Int) == 45)
            · have HN : Hid (G = none) := HB.2 (idb_n hd hl h5)
              rw [hd] at kd
              rw [hl] at kl
              clear HB hd hl
              go_wp2_with (first | (go_at_call 59; refine (kd _).mono ?_; rintro e w' ⟨rfl, rfl⟩) | (go_at_call 130; refine (kl _).mono ?_; rintro e w' ⟨rfl, rfl⟩))
              go_ret2
              exact ⟨_, _, rfl, hbw, by rw [HN.out]; exact ⟨rfl, _, _, _, rfl⟩⟩
            · have HN : Hid (IdAt t (k + 1) fr acc G) := HB.1 (idb_5 h5)
              rw [hd] at kd
              rw [hl] at kl
              clear HB hd hl
              go_wp2_with (first | (go_at_call 59; refine (kd _).mono ?_; rintro e w' ⟨rfl, rfl⟩) | (go_at_call 130; refine (kl _).mono ?_; rintro e w' ⟨rfl, rfl⟩))
              go_roundg (s.size + 1 - (k + 1))
              case measure => omega
              case rel => exact ⟨k + 1, fr, acc, by omega, by omega, by omega, rfl, by go_num, by omega, hown, hbw, HN⟩
          · have HN : Hid (IdAt t (k + 1) fr acc G) := HB.1 (idb_l hl)
            rw [hd] at kd
            rw [hl] at kl
            clear hd hl HB
            go_wp2_with (first | (go_at_call 59; refine (kd _).mono ?_; rintro e w' ⟨rfl, rfl⟩) | (go_at_call 130; refine (kl _).mono ?_; rintro e w' ⟨rfl, rfl⟩))
            go_roundg (s.size + 1 - (k + 1))
            case measure => omega
            case rel => exact ⟨k + 1, fr, acc, by omega, by omega, by omega, rfl, by go_num, by omega, hown, hbw, HN⟩
        · have HN : Hid (IdAt t (k + 1) fr acc G) := HB.1 (idb_d hd)
          rw [hd] at kd
          clear hd HB
          go_wp2_with (first | (go_at_call 59; refine (kd _).mono ?_; rintro e w' ⟨rfl, rfl⟩) | (go_at_call 130; refine (kl _).mono ?_; rintro e w' ⟨rfl, rfl⟩))
          go_roundg (s.size + 1 - (k + 1))
          case measure => omega
          case rel => exact ⟨k + 1, fr, acc, by omega, by omega, by omega, rfl, by go_num, by omega, hown, hbw, HN⟩
    · by_cases hend : k ≤ s.size
      · have hfk := A.out.le (by rw [HS.out]; omega)
        have kx := fun W => digits_any (s.extract fr k) 0 W (by unfold maxLen; simp; omega) (by omega)
        obtain ⟨x, hxe⟩ : ∃ x, x = s.extract fr k := ⟨_, rfl⟩
        have PC := A.out.piece (Or.inl (by rw [HS.out]; omega)) x (by rw [hxe, Lib.extract_data, HT.out])
        have hx40 : x.size ≤ 40 := by rw [hxe]; simp; omega
        go_wp2_with (go_at_call 103; fail)
        rw [← hxe] at kx ⊢
        clear hxe
        rw [List.drop_zero] at kx
        have PB := bad_at x
        generalize hnd : (x.data.toList.takeWhile Pv.dg).length = nd at kx PB
        have hnd40 : nd ≤ x.size := by rw [← hnd, Lib.size_eq]; exact (List.takeWhile_prefix (p := Pv.dg) (l := x.data.toList)).length_le
        clear hnd
        refine (kx _).mono ?_
        rintro e w' ⟨rfl, hw'⟩
        rw [hw']
        clear hw'
        by_cases h0 : x.size = 0
        · have HN : Hid (G = none) := PC.2 (PB.1 h0)
          have h01 : ((x.size : Int) == 0) = true := beq_iff_eq.2 (by omega)
          clear PC PB h0
          go_wp2
          go_ret2
          exact ⟨_, _, rfl, hbw, by rw [HN.out]; exact ⟨rfl, _, _, _, rfl⟩⟩
        · have h01 : ((x.size : Int) == 0) = false := beq_eq_false_iff_ne.2 (by omega)
          have h02 : ¬ x = ByteArray.empty := fun e => h0 (by rw [e]; rfl)
          by_cases h8 : 8 < x.size
          · have HN : Hid (G = none) := PC.2 (PB.2.1 h8)
            have h81 : (8 : Int) < (x.size : Int) := by omega
            clear PC PB h0
            go_wp2
            go_ret2
            exact ⟨_, _, rfl, hbw, by rw [HN.out]; exact ⟨rfl, _, _, _, rfl⟩⟩
          · have h81 : (x.size : Int) ≤ 8 := by omega
            have h1 : 1 ≤ x.size := by omega
            by_cases hn : nd = x.size
            · have hn1 : ((nd : Int) == (x.size : Int)) = true := by simp; omega
              by_cases hn2 : 1 < nd
              · have hx0 : 0 < x.size := by omega
                have PB5 := PB.2.2.2.2 hx0 (by omega) hn hn2
                have hn3 : (1 : Int) < (nd : Int) := by omega
                cases h48 : ((x[0].toNat : Int) == 48)
                · have HN : Hid (IdAt t (k + 1) (k + 1) (acc ++ [x]) G) := PC.1 (by rw [PB5, h48])
                  clear PC PB PB5 h0 hn hn2
                  go_wp2_with (at_builtin; refine wpList_append_own _ rfl _ _ 57 rfl w.heap.size 9 i9 (.string ByteArray.empty) 1 16 Tryz.underlying57 HI.out.1 HI.out.2.1 HI.out.2.2.1 HI.out.2.2.2 rfl (by decide) _ _ _ rfl (hown.alloc _) ⟨wr.heap.size, 0, none⟩ 1 1 [.string x] rfl rfl ?_ ?_ ?_ ?_ ?_ ?_)
                  all_goals first
                    | exact cell_one_new _ _ _
                    | (show (Value.string x).oneCell' = true; rfl)
                    | (show ∀ u ∈ [Value.string x], u.oneCell' = true; intro u hu; simp at hu; subst hu; rfl)
                    | (show acc.length + 1 ≤ maxLen; unfold maxLen; omega)
                    | (show (acc.length + 1) * 16 ≤ 140737488355328; omega)
                    | (show w.heap.size ≤ (wr.alloc _).heap.size; have := hbw.size; simp; omega)
                    | (show w.heap.size ≤ wr.heap.size + 1; have := hbw.size; omega)
                    | skip
                  intro v' w1 hown' hgrow _
                  have hbw1 : Below w.heap.size w w1 := (hbw.alloc hbw.size _).grown hgrow (by have := hbw.size; simp; omega) (own_base hown)
                  have hown1 : w1.ownsRow w.heap.size 9 1 v' (acc ++ [x]).length ((acc ++ [x]).map Value.string) := by rw [List.map_append, List.length_append]; exact hown'
                  clear hown' hgrow hown
                  go_wp2
                  go_roundg (s.size + 1 - (k + 1))
                  case measure => omega
                  case rel => exact ⟨k + 1, k + 1, acc ++ [x], by omega, by omega, by omega, by go_num, by go_num, by simp; omega, hown1, hbw1, HN⟩
                · have HN : Hid (G = none) := PC.2 (by rw [PB5, h48])
                  clear PC PB PB5 h0 hn hn2
                  go_wp2
                  go_ret2
                  exact ⟨_, _, rfl, hbw, by rw [HN.out]; exact ⟨rfl, _, _, _, rfl⟩⟩
              · have HN : Hid (IdAt t (k + 1) (k + 1) (acc ++ [x]) G) := PC.1 (PB.2.2.2.1 ⟨h1, by omega, hn2⟩)
                have hn3 : (nd : Int) ≤ 1 := by omega
                clear PC PB h0 hn hn2
                go_wp2_with (at_builtin; refine wpList_append_own _ rfl _ _ 57 rfl w.heap.size 9 i9 (.string ByteArray.empty) 1 16 Tryz.underlying57 HI.out.1 HI.out.2.1 HI.out.2.2.1 HI.out.2.2.2 rfl (by decide) _ _ _ rfl (hown.alloc _) ⟨wr.heap.size, 0, none⟩ 1 1 [.string x] rfl rfl ?_ ?_ ?_ ?_ ?_ ?_)
                all_goals first
                  | exact cell_one_new _ _ _
                  | (show (Value.string x).oneCell' = true; rfl)
                  | (show ∀ u ∈ [Value.string x], u.oneCell' = true; intro u hu; simp at hu; subst hu; rfl)
                  | (show acc.length + 1 ≤ maxLen; unfold maxLen; omega)
                  | (show (acc.length + 1) * 16 ≤ 140737488355328; omega)
                  | (show w.heap.size ≤ (wr.alloc _).heap.size; have := hbw.size; simp; omega)
                  | (show w.heap.size ≤ wr.heap.size + 1; have := hbw.size; omega)
                  | skip
                intro v' w1 hown' hgrow _
                have hbw1 : Below w.heap.size w w1 := (hbw.alloc hbw.size _).grown hgrow (by have := hbw.size; simp; omega) (own_base hown)
                have hown1 : w1.ownsRow w.heap.size 9 1 v' (acc ++ [x]).length ((acc ++ [x]).map Value.string) := by rw [List.map_append, List.length_append]; exact hown'
                clear hown' hgrow hown
                go_wp2
                go_roundg (s.size + 1 - (k + 1))
                case measure => omega
                case rel => exact ⟨k + 1, k + 1, acc ++ [x], by omega, by omega, by omega, by go_num, by go_num, by simp; omega, hown1, hbw1, HN⟩
            · have hn1 : ((nd : Int) == (x.size : Int)) = false := by simp; omega
              have HN : Hid (IdAt t (k + 1) (k + 1) (acc ++ [x]) G) := PC.1 (PB.2.2.1 ⟨h1, by omega, hn⟩)
              clear PC PB h0 hn
              go_wp2_with (at_builtin; refine wpList_append_own _ rfl _ _ 57 rfl w.heap.size 9 i9 (.string ByteArray.empty) 1 16 Tryz.underlying57 HI.out.1 HI.out.2.1 HI.out.2.2.1 HI.out.2.2.2 rfl (by decide) _ _ _ rfl (hown.alloc _) ⟨wr.heap.size, 0, none⟩ 1 1 [.string x] rfl rfl ?_ ?_ ?_ ?_ ?_ ?_)
              all_goals first
                | exact cell_one_new _ _ _
                | (show (Value.string x).oneCell' = true; rfl)
                | (show ∀ u ∈ [Value.string x], u.oneCell' = true; intro u hu; simp at hu; subst hu; rfl)
                | (show acc.length + 1 ≤ maxLen; unfold maxLen; omega)
                | (show (acc.length + 1) * 16 ≤ 140737488355328; omega)
                | (show w.heap.size ≤ (wr.alloc _).heap.size; have := hbw.size; simp; omega)
                | (show w.heap.size ≤ wr.heap.size + 1; have := hbw.size; omega)
                | skip
              intro v' w1 hown' hgrow _
              have hbw1 : Below w.heap.size w w1 := (hbw.alloc hbw.size _).grown hgrow (by have := hbw.size; simp; omega) (own_base hown)
              have hown1 : w1.ownsRow w.heap.size 9 1 v' (acc ++ [x]).length ((acc ++ [x]).map Value.string) := by rw [List.map_append, List.length_append]; exact hown'
              clear hown' hgrow hown
              go_wp2
              go_roundg (s.size + 1 - (k + 1))
              case measure => omega
              case rel => exact ⟨k + 1, k + 1, acc ++ [x], by omega, by omega, by omega, by go_num, by go_num, by simp; omega, hown1, hbw1, HN⟩
      · have HN : Hid (G = some (acc.map (·.data.toList))) := A.out.out (by rw [HS.out]; omega)
        have hle : acc.length ≤ 41 := by omega
        have hsh : ∃ ad c, u4 = .slice ad acc.length c := by
          rcases hown.2 with ⟨h, h'⟩ | ⟨g, cap, cur, h, _⟩
          · exact ⟨none, 0, by rw [h', h]⟩
          · exact ⟨_, _, h⟩
        obtain ⟨ad, c, hu4⟩ := hsh
        have HO : Hid (wr.ownsRow w.heap.size 9 1 u4 acc.length (acc.map Value.string)) := hown
        clear hown
        rw [hu4] at HO ⊢
        clear hu4
        go_wp2
        go_ret2
        refine ⟨_, _, rfl, hbw, ?_⟩
        rw [HN.out]
        refine ⟨by simp; omega, acc, rfl, slOf_owns HO.out ?_⟩
        intro e
        exact HG.out (by rw [HN.out, e]; rfl)

end Go.Proofs.YtiamomiafekihaaGreatDoor
