/-
  The document's answer: the comparison of two identifiers.
  The document's answer: the identifiers of a prerelease.
  The document's answer: where the reading of a version's numbers stands.
  The document's answer: the walk of the reading of a version.
  The document's answer: the walk of the reading of a version, second part.
  The document's answer: the walk of the reading of a version, third part.
  The document's answer: the reading of a version, all cases; IsVersion.
  The document's answer: the comparison of two versions.
  The document's Compare; that the program's is the same; the law.
-/
import Derived.Test.YtelmkfkgpnadnaaGreatDoorKWA
import Derived.Test.YtelmkfkgpnadnaaGreatDoorKWB
import Derived.Test.YtelmkfkgpnadnaaGreatDoorKPure
namespace Go.Proofs.YtelmkfkgpnadnaaGreatDoor
open Go.RowKit

set_option maxHeartbeats 1000000 in
theorem label_core (a b : ByteArray) (n m : Nat) (cb co : Int) (w : World)
    (k1 : ∀ W, Calls Tryz.prog 255 #[.string a, .int .i64 0] W fun e w' => e = .returned (.int .i64 n) ∧ w' = W)
    (k2 : ∀ W, Calls Tryz.prog 255 #[.string b, .int .i64 0] W fun e w' => e = .returned (.int .i64 m) ∧ w' = W)
    (kb : ∀ W, Calls Tryz.prog 206 #[.string a, .string b] W fun e w' => e = .returned (.int .i64 cb) ∧ w' = W)
    (ko : ∀ W, Calls Tryz.prog 207 #[.int .i64 a.size, .int .i64 b.size] W fun e w' => e = .returned (.int .i64 co) ∧ w' = W) :
    Calls Tryz.prog 208 #[.string a, .string b] w fun e w' => e = .returned (.int .i64 (if n = a.size then (if m = b.size then (if a.size = b.size then cb else co) else -1) else if m = b.size then 1 else cb)) ∧ w' = w := by
  by_cases h1 : n = a.size
  · have b1 : ((n : Int) == (a.size : Int)) = true := by simp [h1]
    rw [if_pos h1]
    by_cases h2 : m = b.size
    · have b2 : ((m : Int) == (b.size : Int)) = true := by simp [h2]
      rw [if_pos h2]
      by_cases h3 : a.size = b.size
      · have b3 : ((a.size : Int) != (b.size : Int)) = false := by simp [h3]
        rw [if_pos h3]
        clear h1 h2 h3
        go_enter Tryz.func208, Tryz.ntmps208
        go_wp2_with (go_at_call 255; fail)
        refine (k1 _).mono ?_
        rintro e w' ⟨rfl, rfl⟩
        go_wp2_with (first | (go_at_call 255; refine (k2 _).mono ?_; rintro e w' ⟨rfl, rfl⟩) | (go_at_call 206; refine (kb _).mono ?_; rintro e w' ⟨rfl, rfl⟩) | (go_at_call 207; refine (ko _).mono ?_; rintro e w' ⟨rfl, rfl⟩))
        go_ret
        exact ⟨rfl, rfl⟩
      · have b3 : ((a.size : Int) != (b.size : Int)) = true := by simp; omega
        rw [if_neg h3]
        clear h1 h2 h3
        go_enter Tryz.func208, Tryz.ntmps208
        go_wp2_with (go_at_call 255; fail)
        refine (k1 _).mono ?_
        rintro e w' ⟨rfl, rfl⟩
        go_wp2_with (first | (go_at_call 255; refine (k2 _).mono ?_; rintro e w' ⟨rfl, rfl⟩) | (go_at_call 206; refine (kb _).mono ?_; rintro e w' ⟨rfl, rfl⟩) | (go_at_call 207; refine (ko _).mono ?_; rintro e w' ⟨rfl, rfl⟩))
        go_ret
        exact ⟨rfl, rfl⟩
    · have b2 : ((m : Int) == (b.size : Int)) = false := by simp; omega
      rw [if_neg h2]
      clear h1 h2
      go_enter Tryz.func208, Tryz.ntmps208
      go_wp2_with (go_at_call 255; fail)
      refine (k1 _).mono ?_
      rintro e w' ⟨rfl, rfl⟩
      go_wp2_with (first | (go_at_call 255; refine (k2 _).mono ?_; rintro e w' ⟨rfl, rfl⟩) | (go_at_call 206; refine (kb _).mono ?_; rintro e w' ⟨rfl, rfl⟩) | (go_at_call 207; refine (ko _).mono ?_; rintro e w' ⟨rfl, rfl⟩))
      go_ret
      exact ⟨rfl, rfl⟩
  · have b1 : ((n : Int) == (a.size : Int)) = false := by simp; omega
    rw [if_neg h1]
    by_cases h2 : m = b.size
    · have b2 : ((m : Int) == (b.size : Int)) = true := by simp [h2]
      rw [if_pos h2]
      clear h1 h2
      go_enter Tryz.func208, Tryz.ntmps208
      go_wp2_with (go_at_call 255; fail)
      refine (k1 _).mono ?_
      rintro e w' ⟨rfl, rfl⟩
      go_wp2_with (first | (go_at_call 255; refine (k2 _).mono ?_; rintro e w' ⟨rfl, rfl⟩) | (go_at_call 206; refine (kb _).mono ?_; rintro e w' ⟨rfl, rfl⟩) | (go_at_call 207; refine (ko _).mono ?_; rintro e w' ⟨rfl, rfl⟩))
      go_ret
      exact ⟨rfl, rfl⟩
    · have b2 : ((m : Int) == (b.size : Int)) = false := by simp; omega
      rw [if_neg h2]
      clear h1 h2
      go_enter Tryz.func208, Tryz.ntmps208
      go_wp2_with (go_at_call 255; fail)
      refine (k1 _).mono ?_
      rintro e w' ⟨rfl, rfl⟩
      go_wp2_with (first | (go_at_call 255; refine (k2 _).mono ?_; rintro e w' ⟨rfl, rfl⟩) | (go_at_call 206; refine (kb _).mono ?_; rintro e w' ⟨rfl, rfl⟩) | (go_at_call 207; refine (ko _).mono ?_; rintro e w' ⟨rfl, rfl⟩))
      go_ret
      exact ⟨rfl, rfl⟩

theorem label_any (a b : ByteArray) (w : World) (ha : a.size ≤ 40) (hb : b.size ≤ 40) :
    Calls Tryz.prog 208 #[.string a, .string b] w fun e w' => e = .returned (.int .i64 (Pv.label a.data.toList b.data.toList)) ∧ w' = w := by
  have k1 := fun w => digits_any a 0 w (by unfold maxLen; omega) (by omega)
  have k2 := fun w => digits_any b 0 w (by unfold maxLen; omega) (by omega)
  have k := label_core a b _ _ _ _ w k1 k2 (fun W => bytes_any a b W) (fun W => order_any a.size b.size W)
  have e : Pv.label a.data.toList b.data.toList = (if ((a.data.toList.drop 0).takeWhile Pv.dg).length = a.size then (if ((b.data.toList.drop 0).takeWhile Pv.dg).length = b.size then (if a.size = b.size then Lib.compareBytes a.data.toList b.data.toList else Lib.compareInt a.size b.size) else -1) else if ((b.data.toList.drop 0).takeWhile Pv.dg).length = b.size then 1 else Lib.compareBytes a.data.toList b.data.toList) := by
    unfold Pv.label
    rw [List.drop_zero, List.drop_zero, Lib.size_eq a, Lib.size_eq b]
    by_cases h1 : a.data.toList.all Pv.dg = true
    · rw [if_pos ((Pv.all_dg_iff _).2 h1)]
      by_cases h2 : b.data.toList.all Pv.dg = true
      · rw [if_pos ((Pv.all_dg_iff _).2 h2), h1, h2]
        by_cases h3 : a.data.toList.length = b.data.toList.length
        · rw [if_pos h3, if_pos (by rfl), if_neg (by simpa using h3)]
        · rw [if_neg h3, if_pos (by rfl), if_pos h3]
      · rw [if_neg (fun e => h2 ((Pv.all_dg_iff _).1 e))]
        have h2' : b.data.toList.all Pv.dg = false := by simpa using h2
        rw [h1, h2']; rfl
    · rw [if_neg (fun e => h1 ((Pv.all_dg_iff _).1 e))]
      have h1' : a.data.toList.all Pv.dg = false := by simpa using h1
      by_cases h2 : b.data.toList.all Pv.dg = true
      · rw [if_pos ((Pv.all_dg_iff _).2 h2), h1', h2]; rfl
      · rw [if_neg (fun e => h2 ((Pv.all_dg_iff _).1 e))]
        have h2' : b.data.toList.all Pv.dg = false := by simpa using h2
        rw [h1', h2']; rfl
  rw [e]
  exact k

end Go.Proofs.YtelmkfkgpnadnaaGreatDoor

namespace Go.Proofs.YtelmkfkgpnadnaaGreatDoor
open Go.RowKit

/-- What the reading of identifiers comes to. -/
def IdRes (w' : World) (v : Value) (ok : Bool) (G : Option (List (List UInt8))) : Prop := match G with
  | none => ok = false ∧ ∃ ad n k, v = .slice ad n k
  | some L => ok = decide (L.length ≤ 4) ∧ ∃ l : List ByteArray, l.map (·.data.toList) = L ∧ SlOf w' v l

/-- Where the reading stands. -/
def IdAt (t : List UInt8) (k fr : Nat) (acc : List ByteArray) (G : Option (List (List UInt8))) : Prop :=
  (k ≤ t.length ∧ fr ≤ k ∧ G = Pv.identGo (acc.map (·.data.toList)) ((t.drop fr).take (k - fr)) (t.drop k)) ∨ (k = t.length + 1 ∧ G = some (acc.map (·.data.toList)))

theorem IdAt.start (t : List UInt8) : IdAt t 0 0 [] (Pv.identGo [] [] t) := Or.inl ⟨by omega, by omega, by simp⟩

theorem cur_snoc (t : List UInt8) (k fr : Nat) (h : k < t.length) (hf : fr ≤ k) : (t.drop fr).take (k + 1 - fr) = (t.drop fr).take (k - fr) ++ [t[k]] := by
  rw [show k + 1 - fr = (k - fr) + 1 by omega, List.take_succ_eq_append_getElem (by simp; omega)]
  congr 2
  rw [List.getElem_drop]
  congr 1
  omega

theorem IdAt.byte {t : List UInt8} {k fr : Nat} {acc : List ByteArray} {G : Option (List (List UInt8))} (h : IdAt t k fr acc G) (hk : k < t.length) (h46 : t[k] ≠ 46) :
    (Pv.idb t[k] = true → IdAt t (k + 1) fr acc G) ∧ (Pv.idb t[k] = false → G = none) := by
  rcases h with ⟨h1, h2, h3⟩ | ⟨h1, _⟩
  · rw [List.drop_eq_getElem_cons hk, Pv.identGo, if_neg h46] at h3
    constructor
    · intro hi
      rw [if_pos hi] at h3
      exact Or.inl ⟨by omega, by omega, by rw [cur_snoc t k fr hk h2]; exact h3⟩
    · intro hi
      rw [if_neg (by simp [hi])] at h3
      exact h3
  · omega

theorem IdAt.piece {t : List UInt8} {k fr : Nat} {acc : List ByteArray} {G : Option (List (List UInt8))} (h : IdAt t k fr acc G) (hk : k = t.length ∨ ∃ h : k < t.length, t[k] = 46) (x : ByteArray) (hx : x.data.toList = (t.drop fr).take (k - fr)) :
    (Pv.bad x.data.toList = false → IdAt t (k + 1) (k + 1) (acc ++ [x]) G) ∧ (Pv.bad x.data.toList = true → G = none) := by
  rcases h with ⟨h1, h2, h3⟩ | ⟨h1, _⟩
  · rw [← hx] at h3
    rcases hk with rfl | ⟨hlt, h46⟩
    · rw [List.drop_of_length_le (Nat.le_refl _), Pv.identGo] at h3
      constructor
      · intro hb
        rw [if_neg (by simp [hb])] at h3
        exact Or.inr ⟨rfl, by rw [h3]; simp⟩
      · intro hb
        rw [if_pos hb] at h3
        exact h3
    · rw [List.drop_eq_getElem_cons hlt, Pv.identGo, if_pos h46] at h3
      constructor
      · intro hb
        rw [if_neg (by simp [hb])] at h3
        exact Or.inl ⟨by omega, by omega, by rw [h3]; simp⟩
      · intro hb
        rw [if_pos hb] at h3
        exact h3
  · rcases hk with h | ⟨h, _⟩ <;> omega

theorem IdAt.out {t : List UInt8} {k fr : Nat} {acc : List ByteArray} {G : Option (List (List UInt8))} (h : IdAt t k fr acc G) (hk : t.length < k) : G = some (acc.map (·.data.toList)) := by
  rcases h with ⟨h1, _, _⟩ | ⟨_, h⟩
  · omega
  · exact h

theorem IdAt.le {t : List UInt8} {k fr : Nat} {acc : List ByteArray} {G : Option (List (List UInt8))} (h : IdAt t k fr acc G) (hk : k ≤ t.length) : fr ≤ k := by
  rcases h with ⟨_, h, _⟩ | ⟨h, _⟩
  · exact h
  · omega

theorem slOf_owns {w : World} {base : Nat} {v : Value} {l : List ByteArray} (h : w.ownsRow base 9 1 v l.length (l.map Value.string)) (hne : l ≠ []) : SlOf w v l := by
  obtain ⟨h1, h2⟩ := h
  have hpos : 0 < l.length := List.length_pos_iff.2 hne
  rcases h2 with ⟨_, h⟩ | ⟨g, cap, cur, hv, hg, hh, hc, hm, hs, ht⟩
  · omega
  · refine Or.inr ⟨g, cap, hv, hne, ?_, fun j hj => ?_⟩
    · apply Classical.byContradiction
      intro hn
      rw [Array.getElem?_eq_none (by omega)] at hh
      simp at hh
    · rw [World.cell?]
      dsimp only
      rw [hh]
      dsimp only
      have e : cur.toList[j]? = some (.string l[j]!) := by
        have : (cur.toList.take (l.length * 1))[j]? = cur.toList[j]? := by rw [List.getElem?_take, if_pos (by omega)]
        rw [← this, ht, List.getElem?_map, List.getElem?_eq_getElem hj, getElem!_pos l j hj]
        rfl
      rw [← e]
      simp

theorem info9 : (Tryz.prog.info? 9).map (fun i => (i.zero, i.size, i.bytes)) = some (some (.string ByteArray.empty), 1, 16) := by kernel_rfl
theorem info9' : ∃ i, Tryz.prog.info? 9 = some i ∧ i.zero = some (.string ByteArray.empty) ∧ i.size = 1 ∧ i.bytes = 16 := by
  have h := info9
  rw [Option.map_eq_some_iff] at h
  obtain ⟨i, h1, h2⟩ := h
  simp only [Prod.mk.injEq] at h2
  exact ⟨i, h1, h2.1, h2.2.1, h2.2.2⟩

theorem own_base {w wr : World} {e size n : Nat} {v : Value} {xs : List Value} (h : wr.ownsRow w.heap.size e size v n xs) : ∀ k, v.ownBlock = some k → w.heap.size ≤ k := by
  intro k hk
  rcases h.2 with ⟨rfl, _⟩ | ⟨g, cap, cur, rfl, hg, _⟩
  · simp [Value.ownBlock] at hk
  · simp [Value.ownBlock] at hk; omega

/-- When a piece is bad, case by case. -/
theorem bad_at (x : ByteArray) : (x.size = 0 → Pv.bad x.data.toList = true) ∧ (8 < x.size → Pv.bad x.data.toList = true) ∧
    (1 ≤ x.size ∧ x.size ≤ 8 ∧ (x.data.toList.takeWhile Pv.dg).length ≠ x.size → Pv.bad x.data.toList = false) ∧
    (1 ≤ x.size ∧ x.size ≤ 8 ∧ ¬ 1 < (x.data.toList.takeWhile Pv.dg).length → Pv.bad x.data.toList = false) ∧
    (∀ h : 0 < x.size, x.size ≤ 8 → (x.data.toList.takeWhile Pv.dg).length = x.size → 1 < (x.data.toList.takeWhile Pv.dg).length → Pv.bad x.data.toList = ((x[0].toNat : Int) == 48)) := by
  have hs := Lib.size_eq x
  unfold Pv.bad
  rw [← hs]
  refine ⟨fun h => by simp [h], fun h => by simp [h], ?_, ?_, ?_⟩
  · rintro ⟨h1, h2, h3⟩
    rw [decide_eq_false (by omega), decide_eq_false (by omega), decide_eq_false h3]; rfl
  · rintro ⟨h1, h2, h3⟩
    rw [decide_eq_false (by omega), decide_eq_false (by omega), decide_eq_false h3]; simp
  · intro h h2 h3 h4
    rw [decide_eq_false (by omega), decide_eq_false (by omega), decide_eq_true h3, decide_eq_true h4, head_of x h]
    simp only [Bool.false_or, Bool.true_and]
    rw [Bool.eq_iff_iff]
    simp
    constructor
    · intro h; rw [h]; rfl
    · intro h; exact UInt8.toNat.inj (by simpa using (by omega : x[0].toNat = 48))

theorem identGo_ne : ∀ (t : List UInt8) (acc : List (List UInt8)) (cur : List UInt8), ¬ Pv.identGo acc cur t = some []
  | [], acc, cur => by
    unfold Pv.identGo
    split
    · simp
    · simp
  | b :: t, acc, cur => by
    unfold Pv.identGo
    split
    · split
      · simp
      · exact identGo_ne t _ _
    · split
      · exact identGo_ne t _ _
      · simp

theorem idb_d {c : UInt8} (h : Pv.dg c = true) : Pv.idb c = true := by unfold Pv.idb; rw [h]; simp
theorem idb_l {c : UInt8} (h : (Pv.sm c || Pv.gr c) = true) : Pv.idb c = true := by
  unfold Pv.idb
  cases h1 : Pv.sm c <;> cases h2 : Pv.gr c <;> simp_all
theorem idb_5 {c : UInt8} (h : ((c.toNat : Int) == 45) = true) : Pv.idb c = true := by unfold Pv.idb; rw [eq45, h]; simp
theorem idb_n {c : UInt8} (h1 : Pv.dg c = false) (h2 : (Pv.sm c || Pv.gr c) = false) (h3 : ((c.toNat : Int) == 45) = false) : Pv.idb c = false := by
  unfold Pv.idb
  rw [eq45, h3, h1]
  simp only [Bool.or_eq_false_iff] at h2
  rw [h2.1, h2.2]; rfl

set_option maxRecDepth 100000 in
set_option maxHeartbeats 8000000 in
theorem identifiers_any (s : ByteArray) (w : World) (hs : s.size ≤ 40) :
    Calls Tryz.prog 256 #[.string s] w fun e w' => ∃ v ok, e = .returned (.tuple #[v, .bool ok]) ∧ Below w.heap.size w w' ∧ IdRes w' v ok (Pv.identGo [] [] s.data.toList) := by
  have hst := IdAt.start s.data.toList
  have hg := identGo_ne s.data.toList [] []
  generalize Pv.identGo [] [] s.data.toList = G at hst hg
  have HG : Hid (¬ G = some []) := hg
  clear hg
  have HS : Hid (s.data.toList.length = s.size) := (Lib.size_eq s).symm
  generalize ht : s.data.toList = t at hst HS
  have HT : Hid (s.data.toList = t) := ht
  clear ht
  have HST : Hid (IdAt t 0 0 [] G) := hst
  clear hst
  obtain ⟨i9, hi1, hi2, hi3, hi4⟩ := info9'
  have HI : Hid (Tryz.prog.info? 9 = some i9 ∧ i9.zero = some (.string ByteArray.empty) ∧ i9.size = 1 ∧ i9.bytes = 16) := ⟨hi1, hi2, hi3, hi4⟩
  clear hi1 hi2 hi3 hi4
  go_enter Tryz.func256, Tryz.ntmps256
  go_wp2
  go_loopg [4, 5, 6] (s.size + 1) (fun gg v f i wr => ∃ (k fr : Nat) (acc : List ByteArray), k ≤ s.size + 1 ∧ fr ≤ s.size + 1 ∧ s.size + 1 - k ≤ gg ∧ f = .int .i64 fr ∧ i = .int .i64 k ∧ acc.length ≤ k ∧ wr.ownsRow w.heap.size 9 1 v acc.length (acc.map Value.string) ∧ Below w.heap.size w wr ∧ Hid (IdAt t k fr acc G))
  case atStart => exact ⟨0, 0, [], by omega, by omega, by omega, rfl, rfl, by simp, World.ownsRow_nil _ _ _ _, Below.refl _ _, HST⟩
  case round =>
    obtain ⟨k, fr, acc, hk, hfr, hg, rfl, rfl, hal, hown, hbw, A⟩ := hrel
    by_cases hlt : k < s.size
    · have hlt' : k < t.length := by rw [HS.out]; exact hlt
      have HE : Hid (t[k] = s[k]) := by
        show t[k] = s[k]
        have := HT.out
        subst this
        rfl
      by_cases h46 : (s[k].toNat : Int) = 46
      · have hfk := A.out.le (by rw [HS.out]; omega)
        have h46' : ((s[k].toNat : Int) != 46) = false := by rw [h46]; rfl
        have kx := fun W => digits_any (s.extract fr k) 0 W (by unfold maxLen; simp; omega) (by omega)
        obtain ⟨x, hxe⟩ : ∃ x, x = s.extract fr k := ⟨_, rfl⟩
        have PC := A.out.piece (Or.inr ⟨hlt', by rw [HE.out]; exact UInt8.toNat.inj (by simpa using (by omega : s[k].toNat = 46))⟩) x (by rw [hxe, Lib.extract_data, HT.out])
        have hx40 : x.size ≤ 40 := by rw [hxe]; simp; omega
        go_wp2_with (go_at_call 255; fail)
        rw [← hxe] at kx ⊢
        clear hxe
        rw [List.drop_zero] at kx
        have PB := bad_at x
        generalize hnd : (x.data.toList.takeWhile Pv.dg).length = nd at kx PB
        have hnd40 : nd ≤ x.size := by rw [← hnd, Lib.size_eq]; exact (List.takeWhile_prefix (p := Pv.dg) (l := x.data.toList)).length_le
        clear hnd
        refine (kx _).mono ?_
        rintro e w' ⟨rfl, hw'⟩
        rw [hw']
        clear hw'
        by_cases h0 : x.size = 0
        · have HN : Hid (G = none) := PC.2 (PB.1 h0)
          have h01 : ((x.size : Int) == 0) = true := beq_iff_eq.2 (by omega)
          clear PC PB h0
          go_wp2
          go_ret2
          exact ⟨_, _, rfl, hbw, by rw [HN.out]; exact ⟨rfl, _, _, _, rfl⟩⟩
        · have h01 : ((x.size : Int) == 0) = false := beq_eq_false_iff_ne.2 (by omega)
          have h02 : ¬ x = ByteArray.empty := fun e => h0 (by rw [e]; rfl)
          by_cases h8 : 8 < x.size
          · have HN : Hid (G = none) := PC.2 (PB.2.1 h8)
            have h81 : (8 : Int) < (x.size : Int) := by omega
            clear PC PB h0
            go_wp2
            go_ret2
            exact ⟨_, _, rfl, hbw, by rw [HN.out]; exact ⟨rfl, _, _, _, rfl⟩⟩
          · have h81 : (x.size : Int) ≤ 8 := by omega
            have h1 : 1 ≤ x.size := by omega
            by_cases hn : nd = x.size
            · have hn1 : ((nd : Int) == (x.size : Int)) = true := by simp; omega
              by_cases hn2 : 1 < nd
              · have hx0 : 0 < x.size := by omega
                have PB5 := PB.2.2.2.2 hx0 (by omega) hn hn2
                have hn3 : (1 : Int) < (nd : Int) := by omega
                cases h48 : ((x[0].toNat : Int) == 48)
                · have HN : Hid (IdAt t (k + 1) (k + 1) (acc ++ [x]) G) := PC.1 (by rw [PB5, h48])
                  clear PC PB PB5 h0 hn hn2
                  go_wp2_with (at_builtin; refine wpList_append_own _ rfl _ _ 33 rfl w.heap.size 9 i9 (.string ByteArray.empty) 1 16 Tryz.underlying33 HI.out.1 HI.out.2.1 HI.out.2.2.1 HI.out.2.2.2 rfl (by decide) _ _ _ rfl (hown.alloc _) ⟨wr.heap.size, 0, none⟩ 1 1 [.string x] rfl rfl ?_ ?_ ?_ ?_ ?_ ?_)
                  all_goals first
                    | exact cell_one_new _ _ _
                    | (show (Value.string x).oneCell' = true; rfl)
                    | (show ∀ u ∈ [Value.string x], u.oneCell' = true; intro u hu; simp at hu; subst hu; rfl)
                    | (show acc.length + 1 ≤ maxLen; unfold maxLen; omega)
                    | (show (acc.length + 1) * 16 ≤ 140737488355328; omega)
                    | (show w.heap.size ≤ (wr.alloc _).heap.size; have := hbw.size; simp; omega)
                    | (show w.heap.size ≤ wr.heap.size + 1; have := hbw.size; omega)
                    | skip
                  intro v' w1 hown' hgrow _
                  have hbw1 : Below w.heap.size w w1 := (hbw.alloc hbw.size _).grown hgrow (by have := hbw.size; simp; omega) (own_base hown)
                  have hown1 : w1.ownsRow w.heap.size 9 1 v' (acc ++ [x]).length ((acc ++ [x]).map Value.string) := by rw [List.map_append, List.length_append]; exact hown'
                  clear hown' hgrow hown
                  go_wp2
                  go_roundg (s.size + 1 - (k + 1))
                  case measure => omega
                  case rel => exact ⟨k + 1, k + 1, acc ++ [x], by omega, by omega, by omega, by go_num, by go_num, by simp; omega, hown1, hbw1, HN⟩
                · have HN : Hid (G = none) := PC.2 (by rw [PB5, h48])
                  clear PC PB PB5 h0 hn hn2
                  go_wp2
                  go_ret2
                  exact ⟨_, _, rfl, hbw, by rw [HN.out]; exact ⟨rfl, _, _, _, rfl⟩⟩
              · have HN : Hid (IdAt t (k + 1) (k + 1) (acc ++ [x]) G) := PC.1 (PB.2.2.2.1 ⟨h1, by omega, hn2⟩)
                have hn3 : (nd : Int) ≤ 1 := by omega
                clear PC PB h0 hn hn2
                go_wp2_with (at_builtin; refine wpList_append_own _ rfl _ _ 33 rfl w.heap.size 9 i9 (.string ByteArray.empty) 1 16 Tryz.underlying33 HI.out.1 HI.out.2.1 HI.out.2.2.1 HI.out.2.2.2 rfl (by decide) _ _ _ rfl (hown.alloc _) ⟨wr.heap.size, 0, none⟩ 1 1 [.string x] rfl rfl ?_ ?_ ?_ ?_ ?_ ?_)
                all_goals first
                  | exact cell_one_new _ _ _
                  | (show (Value.string x).oneCell' = true; rfl)
                  | (show ∀ u ∈ [Value.string x], u.oneCell' = true; intro u hu; simp at hu; subst hu; rfl)
                  | (show acc.length + 1 ≤ maxLen; unfold maxLen; omega)
                  | (show (acc.length + 1) * 16 ≤ 140737488355328; omega)
                  | (show w.heap.size ≤ (wr.alloc _).heap.size; have := hbw.size; simp; omega)
                  | (show w.heap.size ≤ wr.heap.size + 1; have := hbw.size; omega)
                  | skip
                intro v' w1 hown' hgrow _
                have hbw1 : Below w.heap.size w w1 := (hbw.alloc hbw.size _).grown hgrow (by have := hbw.size; simp; omega) (own_base hown)
                have hown1 : w1.ownsRow w.heap.size 9 1 v' (acc ++ [x]).length ((acc ++ [x]).map Value.string) := by rw [List.map_append, List.length_append]; exact hown'
                clear hown' hgrow hown
                go_wp2
                go_roundg (s.size + 1 - (k + 1))
                case measure => omega
                case rel => exact ⟨k + 1, k + 1, acc ++ [x], by omega, by omega, by omega, by go_num, by go_num, by simp; omega, hown1, hbw1, HN⟩
            · have hn1 : ((nd : Int) == (x.size : Int)) = false := by simp; omega
              have HN : Hid (IdAt t (k + 1) (k + 1) (acc ++ [x]) G) := PC.1 (PB.2.2.1 ⟨h1, by omega, hn⟩)
              clear PC PB h0 hn
              go_wp2_with (at_builtin; refine wpList_append_own _ rfl _ _ 33 rfl w.heap.size 9 i9 (.string ByteArray.empty) 1 16 Tryz.underlying33 HI.out.1 HI.out.2.1 HI.out.2.2.1 HI.out.2.2.2 rfl (by decide) _ _ _ rfl (hown.alloc _) ⟨wr.heap.size, 0, none⟩ 1 1 [.string x] rfl rfl ?_ ?_ ?_ ?_ ?_ ?_)
              all_goals first
                | exact cell_one_new _ _ _
                | (show (Value.string x).oneCell' = true; rfl)
                | (show ∀ u ∈ [Value.string x], u.oneCell' = true; intro u hu; simp at hu; subst hu; rfl)
                | (show acc.length + 1 ≤ maxLen; unfold maxLen; omega)
                | (show (acc.length + 1) * 16 ≤ 140737488355328; omega)
                | (show w.heap.size ≤ (wr.alloc _).heap.size; have := hbw.size; simp; omega)
                | (show w.heap.size ≤ wr.heap.size + 1; have := hbw.size; omega)
                | skip
              intro v' w1 hown' hgrow _
              have hbw1 : Below w.heap.size w w1 := (hbw.alloc hbw.size _).grown hgrow (by have := hbw.size; simp; omega) (own_base hown)
              have hown1 : w1.ownsRow w.heap.size 9 1 v' (acc ++ [x]).length ((acc ++ [x]).map Value.string) := by rw [List.map_append, List.length_append]; exact hown'
              clear hown' hgrow hown
              go_wp2
              go_roundg (s.size + 1 - (k + 1))
              case measure => omega
              case rel => exact ⟨k + 1, k + 1, acc ++ [x], by omega, by omega, by omega, by go_num, by go_num, by simp; omega, hown1, hbw1, HN⟩
      · have HB := A.out.byte hlt' (by rw [HE.out]; intro e; exact h46 (by rw [e]; rfl))
        rw [HE.out] at HB
        have kd := fun W => refDigit_any s[k] W
        have kl := fun W => refLetter_any s[k] W
        cases hd : Pv.dg s[k]
        · cases hl : (Pv.sm s[k] || Pv.gr s[k])
          · cases h5 : ((s[k].toNat : Int) == 45)
            · have HN : Hid (G = none) := HB.2 (idb_n hd hl h5)
              rw [hd] at kd
              rw [hl] at kl
              clear HB hd hl
              go_wp2_with (first | (go_at_call 182; refine (kd _).mono ?_; rintro e w' ⟨rfl, rfl⟩) | (go_at_call 296; refine (kl _).mono ?_; rintro e w' ⟨rfl, rfl⟩))
              go_ret2
              exact ⟨_, _, rfl, hbw, by rw [HN.out]; exact ⟨rfl, _, _, _, rfl⟩⟩
            · have HN : Hid (IdAt t (k + 1) fr acc G) := HB.1 (idb_5 h5)
              rw [hd] at kd
              rw [hl] at kl
              clear HB hd hl
              go_wp2_with (first | (go_at_call 182; refine (kd _).mono ?_; rintro e w' ⟨rfl, rfl⟩) | (go_at_call 296; refine (kl _).mono ?_; rintro e w' ⟨rfl, rfl⟩))
              go_roundg (s.size + 1 - (k + 1))
              case measure => omega
              case rel => exact ⟨k + 1, fr, acc, by omega, by omega, by omega, rfl, by go_num, by omega, hown, hbw, HN⟩
          · have HN : Hid (IdAt t (k + 1) fr acc G) := HB.1 (idb_l hl)
            rw [hd] at kd
            rw [hl] at kl
            clear hd hl HB
            go_wp2_with (first | (go_at_call 182; refine (kd _).mono ?_; rintro e w' ⟨rfl, rfl⟩) | (go_at_call 296; refine (kl _).mono ?_; rintro e w' ⟨rfl, rfl⟩))
            go_roundg (s.size + 1 - (k + 1))
            case measure => omega
            case rel => exact ⟨k + 1, fr, acc, by omega, by omega, by omega, rfl, by go_num, by omega, hown, hbw, HN⟩
        · have HN : Hid (IdAt t (k + 1) fr acc G) := HB.1 (idb_d hd)
          rw [hd] at kd
          clear hd HB
          go_wp2_with (first | (go_at_call 182; refine (kd _).mono ?_; rintro e w' ⟨rfl, rfl⟩) | (go_at_call 296; refine (kl _).mono ?_; rintro e w' ⟨rfl, rfl⟩))
          go_roundg (s.size + 1 - (k + 1))
          case measure => omega
          case rel => exact ⟨k + 1, fr, acc, by omega, by omega, by omega, rfl, by go_num, by omega, hown, hbw, HN⟩
    · by_cases hend : k ≤ s.size
      · have hfk := A.out.le (by rw [HS.out]; omega)
        have kx := fun W => digits_any (s.extract fr k) 0 W (by unfold maxLen; simp; omega) (by omega)
        obtain ⟨x, hxe⟩ : ∃ x, x = s.extract fr k := ⟨_, rfl⟩
        have PC := A.out.piece (Or.inl (by rw [HS.out]; omega)) x (by rw [hxe, Lib.extract_data, HT.out])
        have hx40 : x.size ≤ 40 := by rw [hxe]; simp; omega
        go_wp2_with (go_at_call 255; fail)
        rw [← hxe] at kx ⊢
        clear hxe
        rw [List.drop_zero] at kx
        have PB := bad_at x
        generalize hnd : (x.data.toList.takeWhile Pv.dg).length = nd at kx PB
        have hnd40 : nd ≤ x.size := by rw [← hnd, Lib.size_eq]; exact (List.takeWhile_prefix (p := Pv.dg) (l := x.data.toList)).length_le
        clear hnd
        refine (kx _).mono ?_
        rintro e w' ⟨rfl, hw'⟩
        rw [hw']
        clear hw'
        by_cases h0 : x.size = 0
        · have HN : Hid (G = none) := PC.2 (PB.1 h0)
          have h01 : ((x.size : Int) == 0) = true := beq_iff_eq.2 (by omega)
          clear PC PB h0
          go_wp2
          go_ret2
          exact ⟨_, _, rfl, hbw, by rw [HN.out]; exact ⟨rfl, _, _, _, rfl⟩⟩
        · have h01 : ((x.size : Int) == 0) = false := beq_eq_false_iff_ne.2 (by omega)
          have h02 : ¬ x = ByteArray.empty := fun e => h0 (by rw [e]; rfl)
          by_cases h8 : 8 < x.size
          · have HN : Hid (G = none) := PC.2 (PB.2.1 h8)
            have h81 : (8 : Int) < (x.size : Int) := by omega
            clear PC PB h0
            go_wp2
            go_ret2
            exact ⟨_, _, rfl, hbw, by rw [HN.out]; exact ⟨rfl, _, _, _, rfl⟩⟩
          · have h81 : (x.size : Int) ≤ 8 := by omega
            have h1 : 1 ≤ x.size := by omega
            by_cases hn : nd = x.size
            · have hn1 : ((nd : Int) == (x.size : Int)) = true := by simp; omega
              by_cases hn2 : 1 < nd
              · have hx0 : 0 < x.size := by omega
                have PB5 := PB.2.2.2.2 hx0 (by omega) hn hn2
                have hn3 : (1 : Int) < (nd : Int) := by omega
                cases h48 : ((x[0].toNat : Int) == 48)
                · have HN : Hid (IdAt t (k + 1) (k + 1) (acc ++ [x]) G) := PC.1 (by rw [PB5, h48])
                  clear PC PB PB5 h0 hn hn2
                  go_wp2_with (at_builtin; refine wpList_append_own _ rfl _ _ 33 rfl w.heap.size 9 i9 (.string ByteArray.empty) 1 16 Tryz.underlying33 HI.out.1 HI.out.2.1 HI.out.2.2.1 HI.out.2.2.2 rfl (by decide) _ _ _ rfl (hown.alloc _) ⟨wr.heap.size, 0, none⟩ 1 1 [.string x] rfl rfl ?_ ?_ ?_ ?_ ?_ ?_)
                  all_goals first
                    | exact cell_one_new _ _ _
                    | (show (Value.string x).oneCell' = true; rfl)
                    | (show ∀ u ∈ [Value.string x], u.oneCell' = true; intro u hu; simp at hu; subst hu; rfl)
                    | (show acc.length + 1 ≤ maxLen; unfold maxLen; omega)
                    | (show (acc.length + 1) * 16 ≤ 140737488355328; omega)
                    | (show w.heap.size ≤ (wr.alloc _).heap.size; have := hbw.size; simp; omega)
                    | (show w.heap.size ≤ wr.heap.size + 1; have := hbw.size; omega)
                    | skip
                  intro v' w1 hown' hgrow _
                  have hbw1 : Below w.heap.size w w1 := (hbw.alloc hbw.size _).grown hgrow (by have := hbw.size; simp; omega) (own_base hown)
                  have hown1 : w1.ownsRow w.heap.size 9 1 v' (acc ++ [x]).length ((acc ++ [x]).map Value.string) := by rw [List.map_append, List.length_append]; exact hown'
                  clear hown' hgrow hown
                  go_wp2
                  go_roundg (s.size + 1 - (k + 1))
                  case measure => omega
                  case rel => exact ⟨k + 1, k + 1, acc ++ [x], by omega, by omega, by omega, by go_num, by go_num, by simp; omega, hown1, hbw1, HN⟩
                · have HN : Hid (G = none) := PC.2 (by rw [PB5, h48])
                  clear PC PB PB5 h0 hn hn2
                  go_wp2
                  go_ret2
                  exact ⟨_, _, rfl, hbw, by rw [HN.out]; exact ⟨rfl, _, _, _, rfl⟩⟩
              · have HN : Hid (IdAt t (k + 1) (k + 1) (acc ++ [x]) G) := PC.1 (PB.2.2.2.1 ⟨h1, by omega, hn2⟩)
                have hn3 : (nd : Int) ≤ 1 := by omega
                clear PC PB h0 hn hn2
                go_wp2_with (at_builtin; refine wpList_append_own _ rfl _ _ 33 rfl w.heap.size 9 i9 (.string ByteArray.empty) 1 16 Tryz.underlying33 HI.out.1 HI.out.2.1 HI.out.2.2.1 HI.out.2.2.2 rfl (by decide) _ _ _ rfl (hown.alloc _) ⟨wr.heap.size, 0, none⟩ 1 1 [.string x] rfl rfl ?_ ?_ ?_ ?_ ?_ ?_)
                all_goals first
                  | exact cell_one_new _ _ _
                  | (show (Value.string x).oneCell' = true; rfl)
                  | (show ∀ u ∈ [Value.string x], u.oneCell' = true; intro u hu; simp at hu; subst hu; rfl)
                  | (show acc.length + 1 ≤ maxLen; unfold maxLen; omega)
                  | (show (acc.length + 1) * 16 ≤ 140737488355328; omega)
                  | (show w.heap.size ≤ (wr.alloc _).heap.size; have := hbw.size; simp; omega)
                  | (show w.heap.size ≤ wr.heap.size + 1; have := hbw.size; omega)
                  | skip
                intro v' w1 hown' hgrow _
                have hbw1 : Below w.heap.size w w1 := (hbw.alloc hbw.size _).grown hgrow (by have := hbw.size; simp; omega) (own_base hown)
                have hown1 : w1.ownsRow w.heap.size 9 1 v' (acc ++ [x]).length ((acc ++ [x]).map Value.string) := by rw [List.map_append, List.length_append]; exact hown'
                clear hown' hgrow hown
                go_wp2
                go_roundg (s.size + 1 - (k + 1))
                case measure => omega
                case rel => exact ⟨k + 1, k + 1, acc ++ [x], by omega, by omega, by omega, by go_num, by go_num, by simp; omega, hown1, hbw1, HN⟩
            · have hn1 : ((nd : Int) == (x.size : Int)) = false := by simp; omega
              have HN : Hid (IdAt t (k + 1) (k + 1) (acc ++ [x]) G) := PC.1 (PB.2.2.1 ⟨h1, by omega, hn⟩)
              clear PC PB h0 hn
              go_wp2_with (at_builtin; refine wpList_append_own _ rfl _ _ 33 rfl w.heap.size 9 i9 (.string ByteArray.empty) 1 16 Tryz.underlying33 HI.out.1 HI.out.2.1 HI.out.2.2.1 HI.out.2.2.2 rfl (by decide) _ _ _ rfl (hown.alloc _) ⟨wr.heap.size, 0, none⟩ 1 1 [.string x] rfl rfl ?_ ?_ ?_ ?_ ?_ ?_)
              all_goals first
                | exact cell_one_new _ _ _
                | (show (Value.string x).oneCell' = true; rfl)
                | (show ∀ u ∈ [Value.string x], u.oneCell' = true; intro u hu; simp at hu; subst hu; rfl)
                | (show acc.length + 1 ≤ maxLen; unfold maxLen; omega)
                | (show (acc.length + 1) * 16 ≤ 140737488355328; omega)
                | (show w.heap.size ≤ (wr.alloc _).heap.size; have := hbw.size; simp; omega)
                | (show w.heap.size ≤ wr.heap.size + 1; have := hbw.size; omega)
                | skip
              intro v' w1 hown' hgrow _
              have hbw1 : Below w.heap.size w w1 := (hbw.alloc hbw.size _).grown hgrow (by have := hbw.size; simp; omega) (own_base hown)
              have hown1 : w1.ownsRow w.heap.size 9 1 v' (acc ++ [x]).length ((acc ++ [x]).map Value.string) := by rw [List.map_append, List.length_append]; exact hown'
              clear hown' hgrow hown
              go_wp2
              go_roundg (s.size + 1 - (k + 1))
              case measure => omega
              case rel => exact ⟨k + 1, k + 1, acc ++ [x], by omega, by omega, by omega, by go_num, by go_num, by simp; omega, hown1, hbw1, HN⟩
      · have HN : Hid (G = some (acc.map (·.data.toList))) := A.out.out (by rw [HS.out]; omega)
        have hle : acc.length ≤ 41 := by omega
        have hsh : ∃ ad c, u4 = .slice ad acc.length c := by
          rcases hown.2 with ⟨h, h'⟩ | ⟨g, cap, cur, h, _⟩
          · exact ⟨none, 0, by rw [h', h]⟩
          · exact ⟨_, _, h⟩
        obtain ⟨ad, c, hu4⟩ := hsh
        have HO : Hid (wr.ownsRow w.heap.size 9 1 u4 acc.length (acc.map Value.string)) := hown
        clear hown
        rw [hu4] at HO ⊢
        clear hu4
        go_wp2
        go_ret2
        refine ⟨_, _, rfl, hbw, ?_⟩
        rw [HN.out]
        refine ⟨by simp; omega, acc, rfl, slOf_owns HO.out ?_⟩
        intro e
        exact HG.out (by rw [HN.out, e]; rfl)

end Go.Proofs.YtelmkfkgpnadnaaGreatDoor

namespace Go.Proofs.YtelmkfkgpnadnaaGreatDoor

/-- k numbers are read, the next byte is l[i]. -/
def ScAt (l : List UInt8) (k i : Nat) (ns : List (List UInt8)) : Prop := Pv.scan k l.tail = some (ns, l.drop i) ∧ 1 ≤ i ∧ i ≤ l.length ∧ ns.length = k

theorem ScAt.start {l : List UInt8} (h : 0 < l.length) : ScAt l 0 1 [] := by
  refine ⟨?_, by omega, by omega, rfl⟩
  cases l with
  | nil => simp at h
  | cons c t => simp [Pv.scan]

theorem scan_stays (r : List UInt8) : ∀ (k j : Nat), Pv.scan k r = none → Pv.scan (k + j) r = none
  | k, 0, h => h
  | k, j + 1, h => by
    have := scan_stays r k j h
    rw [show k + (j + 1) = (k + j) + 1 by omega, Pv.scan, this]

/-- A number is to be read at l[i]. -/
def Mid (l : List UInt8) (k i : Nat) (ns : List (List UInt8)) : Prop := Pv.scan (k + 1) l.tail = (match Pv.num1 (l.drop i) with | none => none | some (d, v) => some (ns ++ [d], v)) ∧ 1 ≤ i ∧ i ≤ l.length ∧ ns.length = k

theorem ScAt.first {l : List UInt8} {i : Nat} {ns : List (List UInt8)} (h : ScAt l 0 i ns) : Mid l 0 i ns := by
  obtain ⟨h1, h2, h3, h4⟩ := h
  exact ⟨by rw [Pv.scan, h1]; rfl, h2, h3, h4⟩

theorem ScAt.dot {l : List UInt8} {k i : Nat} {ns : List (List UInt8)} (h : ScAt l k i ns) (hk : 0 < k) (hi : i < l.length) (hd : l[i] = 46) : Mid l k (i + 1) ns := by
  obtain ⟨h1, h2, h3, h4⟩ := h
  refine ⟨?_, by omega, by omega, h4⟩
  rw [Pv.scan, h1]
  dsimp only
  rw [if_neg (by omega), List.drop_eq_getElem_cons hi, Pv.dot, if_pos hd]
  rfl

theorem ScAt.nodot {l : List UInt8} {k i : Nat} {ns : List (List UInt8)} (h : ScAt l k i ns) (hk : 0 < k) (hi : ∀ h : i < l.length, l[i] ≠ 46) : Pv.scan (k + 1) l.tail = none := by
  obtain ⟨h1, h2, h3, h4⟩ := h
  rw [Pv.scan, h1]
  dsimp only
  rw [if_neg (by omega)]
  by_cases hlt : i < l.length
  · rw [List.drop_eq_getElem_cons hlt, Pv.dot, if_neg (hi hlt)]
  · rw [List.drop_of_length_le (by omega)]; rfl

theorem Mid.bad {l : List UInt8} {k i : Nat} {ns : List (List UInt8)} (h : Mid l k i ns) (hb : ((l.drop i).takeWhile Pv.dg).length = 0 ∨ 6 < ((l.drop i).takeWhile Pv.dg).length ∨ (1 < ((l.drop i).takeWhile Pv.dg).length ∧ ∃ hi : i < l.length, l[i] = 48)) : Pv.scan (k + 1) l.tail = none := by
  obtain ⟨h1, h2, h3, h4⟩ := h
  rw [h1]
  unfold Pv.num1
  rw [if_pos]
  rcases hb with h | h | ⟨h, hi, e⟩
  · exact Or.inl h
  · exact Or.inr (Or.inl h)
  · exact Or.inr (Or.inr ⟨h, by rw [List.head?_drop, List.getElem?_eq_getElem hi, e]⟩)

theorem Mid.good {l : List UInt8} {k i : Nat} {ns : List (List UInt8)} (h : Mid l k i ns) (h0 : ((l.drop i).takeWhile Pv.dg).length ≠ 0) (h6 : ((l.drop i).takeWhile Pv.dg).length ≤ 6) (hz : 1 < ((l.drop i).takeWhile Pv.dg).length → ∀ hi : i < l.length, l[i] ≠ 48) :
    ScAt l (k + 1) (i + ((l.drop i).takeWhile Pv.dg).length) (ns ++ [(l.drop i).takeWhile Pv.dg]) := by
  obtain ⟨h1, h2, h3, h4⟩ := h
  have hd : (l.drop i).dropWhile Pv.dg = l.drop (i + ((l.drop i).takeWhile Pv.dg).length) := by
    rw [← List.drop_drop]
    have := List.takeWhile_append_dropWhile (p := Pv.dg) (l := l.drop i)
    conv => rhs; rw [← this]
    rw [List.drop_left']
    rw [this]
  have hle : ((l.drop i).takeWhile Pv.dg).length ≤ l.length - i := by
    have := (List.takeWhile_prefix (p := Pv.dg) (l := l.drop i)).length_le
    rwa [List.length_drop] at this
  refine ⟨?_, by omega, by omega, by simp [h4]⟩
  rw [h1]
  unfold Pv.num1
  rw [if_neg]
  · rw [hd]
  · rintro (h | h | ⟨h, e⟩)
    · exact h0 h
    · omega
    · rw [List.head?_drop] at e
      obtain ⟨hi, e'⟩ := List.getElem?_eq_some_iff.1 e
      exact hz h hi e'

/-- The digits that are read, and their value so far. -/
theorem val_take_step (d : List UInt8) (j : Nat) (h : j < d.length) : Pv.val (d.take (j + 1)) = Pv.val (d.take j) * 10 + (d[j].toNat - 48) := by
  rw [List.take_succ_eq_append_getElem h]
  unfold Pv.val
  rw [List.foldl_append]
  rfl

theorem tw_get (l : List UInt8) (i j : Nat) (h : j < ((l.drop i).takeWhile Pv.dg).length) : ∃ h' : i + j < l.length, ((l.drop i).takeWhile Pv.dg)[j] = l[i + j] ∧ Pv.dg l[i + j] = true := by
  have hp := List.takeWhile_prefix (p := Pv.dg) (l := l.drop i)
  have hle := hp.length_le
  rw [List.length_drop] at hle
  refine ⟨by omega, ?_⟩
  have e : ((l.drop i).takeWhile Pv.dg)[j] = (l.drop i)[j]'(by rw [List.length_drop]; omega) := hp.getElem h
  rw [List.getElem_drop] at e
  refine ⟨e, ?_⟩
  rw [← e]
  exact List.all_eq_true.1 (List.all_takeWhile (p := Pv.dg) (l := l.drop i)) _ (List.getElem_mem h)

end Go.Proofs.YtelmkfkgpnadnaaGreatDoor

namespace Go.Proofs.YtelmkfkgpnadnaaGreatDoor
open Go.RowKit

/-- A slice of numbers. -/
def NumOf (w : World) (v : Value) (ns : List (List UInt8)) : Prop :=
  ∃ b c, v = .slice (some ⟨b, 0, none⟩) ns.length c ∧ b < w.heap.size ∧ ∀ j, j < ns.length → w.cell? ⟨b, j, none⟩ = some (.int .i64 (Pv.val ns[j]!))

theorem NumOf.below {w w' : World} {v : Value} {ns : List (List UInt8)} (h : NumOf w v ns) (hb : Below w.heap.size w w') : NumOf w' v ns := by
  obtain ⟨b, c, h1, h3, h4⟩ := h
  exact ⟨b, c, h1, Nat.lt_of_lt_of_le h3 hb.size, fun j hj => by rw [hb.cell (p := ⟨b, j, none⟩) h3]; exact h4 j hj⟩

theorem numOf_owns {w : World} {base : Nat} {v : Value} {l : List (List UInt8)} (h : w.ownsRow base 3 1 v l.length (l.map fun d => Value.int .i64 (Pv.val d))) (hpos : 0 < l.length) : NumOf w v l := by
  obtain ⟨h1, h2⟩ := h
  rcases h2 with ⟨_, h⟩ | ⟨g, cap, cur, hv, hg, hh, hc, hm, hs, ht⟩
  · omega
  · refine ⟨g, cap, hv, ?_, fun j hj => ?_⟩
    · apply Classical.byContradiction
      intro hn
      rw [Array.getElem?_eq_none (by omega)] at hh
      simp at hh
    · rw [World.cell?]
      dsimp only
      rw [hh]
      dsimp only
      have e : cur.toList[j]? = some (.int .i64 (Pv.val l[j]!)) := by
        have : (cur.toList.take (l.length * 1))[j]? = cur.toList[j]? := by rw [List.getElem?_take, if_pos (by omega)]
        rw [← this, ht, List.getElem?_map, List.getElem?_eq_getElem hj, getElem!_pos l j hj]
        rfl
      rw [← e]
      simp

/-- What the reading of a version comes to. -/
def VRes (w' : World) (v1 v2 : Value) (ok : Bool) (R : Option (List (List UInt8) × List (List UInt8))) : Prop := match R with
  | none => ok = false ∧ (∃ ad n k, v1 = .slice ad n k) ∧ ∃ ad n k, v2 = .slice ad n k
  | some (ns, ids) => ok = true ∧ NumOf w' v1 ns ∧ ns.length = 3 ∧ ∃ l : List ByteArray, l.map (·.data.toList) = ids ∧ l.length ≤ 4 ∧ SlOf w' v2 l

theorem VRes.no {w' : World} {R : Option (List (List UInt8) × List (List UInt8))} (h : R = none) : VRes w' (.slice none 0 0) (.slice none 0 0) false R := by
  rw [h]; exact ⟨rfl, ⟨_, _, _, rfl⟩, ⟨_, _, _, rfl⟩⟩

theorem ref_none {l : List UInt8} {k : Nat} (hk : k ≤ 3) (h : Pv.scan k l.tail = none) : Pv.refParse l = none := by
  have := scan_stays l.tail k (3 - k) h
  rw [show k + (3 - k) = 3 by omega] at this
  unfold Pv.refParse
  rw [this]
  split <;> rfl

theorem info3 : (Tryz.prog.info? 3).map (fun i => (i.zero, i.size, i.bytes)) = some (some (.int .i64 0), 1, 8) := by kernel_rfl
theorem info3' : ∃ i, Tryz.prog.info? 3 = some i ∧ i.zero = some (.int .i64 0) ∧ i.size = 1 ∧ i.bytes = 8 := by
  have h := info3
  rw [Option.map_eq_some_iff] at h
  obtain ⟨i, h1, h2⟩ := h
  simp only [Prod.mk.injEq] at h2
  exact ⟨i, h1, h2.1, h2.2.1, h2.2.2⟩

set_option maxRecDepth 100000 in
set_option maxHeartbeats 1000000 in
theorem version_bad (s : ByteArray) (w : World) (h : s.size = 0 ∨ 40 < s.size) :
    Calls Tryz.prog 205 #[.string s] w fun e w' => e = .returned (.tuple #[.slice none 0 0, .slice none 0 0, .bool false]) ∧ w' = w := by
  rcases h with h | h
  · have h1 : ((s.size : Int) == 0) = true := beq_iff_eq.2 (by omega)
    clear h
    go_enter Tryz.func205, Tryz.ntmps205
    go_wp2
    go_ret3
    exact ⟨rfl, rfl⟩
  · have h1 : ((s.size : Int) == 0) = false := beq_eq_false_iff_ne.2 (by omega)
    have h2 : (40 : Int) < (s.size : Int) := by omega
    clear h
    go_enter Tryz.func205, Tryz.ntmps205
    go_wp2
    go_ret3
    exact ⟨rfl, rfl⟩

set_option maxRecDepth 100000 in
set_option maxHeartbeats 1000000 in
theorem version_not (s : ByteArray) (w : World) (h0 : 0 < s.size) (h40 : s.size ≤ 40) (hv : ¬ s[0] = 118) :
    Calls Tryz.prog 205 #[.string s] w fun e w' => e = .returned (.tuple #[.slice none 0 0, .slice none 0 0, .bool false]) ∧ w' = w := by
  have h1 : ((s.size : Int) == 0) = false := beq_eq_false_iff_ne.2 (by omega)
  have h2 : (s.size : Int) ≤ 40 := by omega
  have h3 : ((s[0].toNat : Int) != 118) = true := by
    rw [bne_iff_ne]
    intro e
    exact hv (UInt8.toNat.inj (by simpa using (by omega : s[0].toNat = 118)))
  clear hv
  go_enter Tryz.func205, Tryz.ntmps205
  go_wp2
  go_ret3
  exact ⟨rfl, rfl⟩

end Go.Proofs.YtelmkfkgpnadnaaGreatDoor

namespace Go.Proofs.YtelmkfkgpnadnaaGreatDoor
open Go.RowKit

/-- All that the reading of one number needs: how many digits there are, and their value digit by digit. -/
structure NumAt (s : ByteArray) (k i2 : Nat) (ns : List (List UInt8)) (R : Option (List (List UInt8) × List (List UInt8))) (nd : Nat) (d : List UInt8) : Prop where
  room : i2 + nd ≤ s.size
  len : d.length = nd
  bad : nd = 0 ∨ 6 < nd → R = none
  zero : ∀ h : i2 < s.size, 1 < nd → s[i2] = 48 → R = none
  good : 1 ≤ nd → nd ≤ 6 → (1 < nd → ∀ h : i2 < s.size, s[i2] ≠ 48) → ScAt s.data.toList (k + 1) (i2 + nd) (ns ++ [d])
  step : ∀ j, j < nd → ∃ h : i2 + j < s.size, Pv.val (d.take (j + 1)) = Pv.val (d.take j) * 10 + (s[i2 + j].toNat - 48) ∧ 48 ≤ s[i2 + j].toNat ∧ s[i2 + j].toNat ≤ 57
  small : nd ≤ 6 → ∀ j, Pv.val (d.take j) < 1000000

theorem numAt (s : ByteArray) (k i2 : Nat) (ns : List (List UInt8)) (R : Option (List (List UInt8) × List (List UInt8))) (hk : k < 3) (hM : Mid s.data.toList k i2 ns) (hR : ∀ k, k ≤ 3 → Pv.scan k s.data.toList.tail = none → R = none) :
    NumAt s k i2 ns R ((s.data.toList.drop i2).takeWhile Pv.dg).length ((s.data.toList.drop i2).takeWhile Pv.dg) := by
  have hs := Lib.size_eq s
  have hle : ((s.data.toList.drop i2).takeWhile Pv.dg).length ≤ s.data.toList.length - i2 := by
    have := (List.takeWhile_prefix (p := Pv.dg) (l := s.data.toList.drop i2)).length_le
    rwa [List.length_drop] at this
  have hi := hM.2.2.1
  refine ⟨by omega, rfl, ?_, ?_, ?_, ?_, ?_⟩
  · rintro (h | h)
    · exact hR (k + 1) (by omega) (hM.bad (Or.inl h))
    · exact hR (k + 1) (by omega) (hM.bad (Or.inr (Or.inl h)))
  · intro h h1 h48
    exact hR (k + 1) (by omega) (hM.bad (Or.inr (Or.inr ⟨h1, by omega, h48⟩)))
  · intro h1 h6 hz
    exact hM.good (by omega) h6 (fun h hi => hz h (by omega))
  · intro j hj
    obtain ⟨h', e, hd⟩ := tw_get s.data.toList i2 j hj
    have hlt : i2 + j < s.size := by omega
    refine ⟨hlt, ?_, ?_⟩
    · rw [val_take_step _ j hj, e]; rfl
    · exact Pv.dg_nat hd
  · intro h6 j
    have ha : (((s.data.toList.drop i2).takeWhile Pv.dg).take j).all Pv.dg = true := by
      rw [List.all_eq_true]
      intro x hx
      exact List.all_eq_true.1 (List.all_takeWhile (p := Pv.dg) (l := s.data.toList.drop i2)) x (List.mem_of_mem_take hx)
    have h1 := Pv.val_lt _ ha
    have h2 : 10 ^ (((s.data.toList.drop i2).takeWhile Pv.dg).take j).length ≤ 10 ^ 6 := Nat.pow_le_pow_right (by omega) (by rw [List.length_take]; omega)
    omega

end Go.Proofs.YtelmkfkgpnadnaaGreatDoor

namespace Go.Proofs.YtelmkfkgpnadnaaGreatDoor
open Go.RowKit

theorem SlOf.shape {w : World} {v : Value} {ids : List ByteArray} (h : SlOf w v ids) : ∃ ad n k, v = .slice ad n k := by
  rcases h with ⟨_, h⟩ | ⟨b, c, h, _⟩
  · exact ⟨_, _, _, h⟩
  · exact ⟨_, _, _, h⟩

theorem map_data_inj : ∀ l l' : List ByteArray, l.map (·.data.toList) = l'.map (·.data.toList) → l = l'
  | [], [], _ => rfl
  | [], _ :: _, h => by simp at h
  | _ :: _, [], h => by simp at h
  | x :: t, y :: u, h => by
    simp only [List.map_cons, List.cons.injEq] at h
    have e : x = y := by
      obtain ⟨⟨a⟩⟩ := x
      obtain ⟨⟨b⟩⟩ := y
      have : a = b := h.1
      rw [this]
    rw [e, map_data_inj t u h.2]

theorem vres_id {w1 : World} {v1 v : Value} {ok : Bool} {ns : List (List UInt8)} {R : Option (List (List UInt8) × List (List UInt8))} {G : Option (List (List UInt8))} (hres : IdRes w1 v ok G)
    (hR : R = Option.map (fun i => (ns, i)) (match G with | none => none | some l => if l.length ≤ 4 then some l else none)) (hN : NumOf w1 v1 ns) (h3 : ns.length = 3) : VRes w1 v1 v ok R := by
  have hsh : ∃ ad n k, v1 = .slice ad n k := by
    obtain ⟨b, c, h, _⟩ := hN
    exact ⟨_, _, _, h⟩
  cases G with
  | none =>
    rw [hR]
    exact ⟨hres.1, hsh, hres.2⟩
  | some L =>
    obtain ⟨hok, l, hl, hsl⟩ := hres
    dsimp only at hR
    by_cases hL : L.length ≤ 4
    · rw [decide_eq_true hL] at hok
      rw [if_pos hL] at hR
      rw [hR]
      exact ⟨hok, hN, h3, l, hl, by rw [← hl] at hL; simpa using hL, hsl⟩
    · rw [decide_eq_false hL] at hok
      rw [if_neg hL] at hR
      rw [hR]
      exact ⟨hok, hsh, hsl.shape⟩

set_option maxRecDepth 100000 in
set_option maxHeartbeats 8000000 in
theorem version_main (s : ByteArray) (w : World) (h0 : 0 < s.size) (h40 : s.size ≤ 40) (hv : s[0] = 118) (R : Option (List (List UInt8) × List (List UInt8)))
    (hR0 : ∀ k, k ≤ 3 → Pv.scan k s.data.toList.tail = none → R = none)
    (hR1 : ∀ ns, Pv.scan 3 s.data.toList.tail = some (ns, []) → R = some (ns, []))
    (hR2 : ∀ ns c t, Pv.scan 3 s.data.toList.tail = some (ns, c :: t) → c ≠ 45 → R = none)
    (hR3 : ∀ ns t, Pv.scan 3 s.data.toList.tail = some (ns, 45 :: t) → R = (Pv.refI t).map fun i => (ns, i)) :
    Calls Tryz.prog 205 #[.string s] w fun e w' => ∃ v1 v2 ok, e = .returned (.tuple #[v1, v2, .bool ok]) ∧ Below w.heap.size w w' ∧ VRes w' v1 v2 ok R := by
  have RN : Hid (∀ k, k ≤ 3 → Pv.scan k s.data.toList.tail = none → R = none) := hR0
  have R1 : Hid (∀ ns, Pv.scan 3 s.data.toList.tail = some (ns, []) → R = some (ns, [])) := hR1
  have R2 : Hid (∀ ns c t, Pv.scan 3 s.data.toList.tail = some (ns, c :: t) → c ≠ 45 → R = none) := hR2
  have R3 : Hid (∀ ns t, Pv.scan 3 s.data.toList.tail = some (ns, 45 :: t) → R = (Pv.refI t).map fun i => (ns, i)) := hR3
  clear hR0 hR1 hR2 hR3
  have hb0 : ((s.size : Int) == 0) = false := beq_eq_false_iff_ne.2 (by omega)
  have hb40 : (s.size : Int) ≤ 40 := by omega
  have hbv : ((s[0].toNat : Int) != 118) = false := by rw [hv]; rfl
  clear hv
  have HS : Hid (s.data.toList.length = s.size) := (Lib.size_eq s).symm
  have ST : Hid (ScAt s.data.toList 0 1 []) := ScAt.start (by rw [HS.out]; exact h0)
  obtain ⟨i3, hi1, hi2, hi3, hi4⟩ := info3'
  have HI : Hid (Tryz.prog.info? 3 = some i3 ∧ i3.zero = some (.int .i64 0) ∧ i3.size = 1 ∧ i3.bytes = 8) := ⟨hi1, hi2, hi3, hi4⟩
  clear hi1 hi2 hi3 hi4
  go_enter Tryz.func205, Tryz.ntmps205
  go_wp2
  clear hb0 hb40 hbv
  go_loopg [5, 6, 7] 3 (fun gg v iv kv wr => ∃ (k i : Nat) (ns : List (List UInt8)), k ≤ 3 ∧ 3 - k ≤ gg ∧ kv = .int .i64 k ∧ iv = .int .i64 i ∧ 1 ≤ i ∧ i ≤ s.size ∧ ns.length ≤ 3 ∧ wr.ownsRow w.heap.size 3 1 v ns.length (ns.map fun d => Value.int .i64 (Pv.val d)) ∧ Below w.heap.size w wr ∧ Hid (ScAt s.data.toList k i ns))
  case atStart => exact ⟨0, 1, [], by omega, by omega, rfl, rfl, by omega, by omega, by simp, World.ownsRow_nil _ _ _ _, Below.refl _ _, ST⟩
  case round =>
    obtain ⟨k, i, ns, hk, hgk, rfl, rfl, hi1, hi2, hns, hown, hbw, A⟩ := hrel
    clear ST
    by_cases hk3 : k < 3
    · by_cases hk0 : k = 0
      · have MD : Mid s.data.toList k i ns := by
          have := A.out
          rw [hk0] at this ⊢
          exact this.first
        have hkn : (k : Int) ≤ 0 := by omega
        clear hk0 A
        go_wp2_with (go_at_call 255; fail)
        obtain ⟨i2, rfl⟩ : ∃ i2, i2 = i := ⟨i, rfl⟩
        have NA := numAt s k i2 ns R (by omega) MD RN.out
        have kdg := fun W => digits_any s i2 W (by unfold maxLen; omega) (by omega)
        generalize ((s.data.toList.drop i2).takeWhile Pv.dg).length = nd at NA kdg
        generalize (s.data.toList.drop i2).takeWhile Pv.dg = d at NA
        have hroom := NA.room
        have HL : Hid (d.length = nd) := NA.len
        have VB : Hid (nd ≤ 6 → ∀ j, Pv.val (d.take j) < 1000000) := NA.small
        have VS : Hid (∀ j, j < nd → ∃ h : i2 + j < s.size, Pv.val (d.take (j + 1)) = Pv.val (d.take j) * 10 + (s[i2 + j].toNat - 48) ∧ 48 ≤ s[i2 + j].toNat ∧ s[i2 + j].toNat ≤ 57) := NA.step
        have NB : Hid (nd = 0 ∨ 6 < nd → R = none) := NA.bad
        have NZ : Hid (∀ h : i2 < s.size, 1 < nd → s[i2] = 48 → R = none) := NA.zero
        have NG : Hid (1 ≤ nd → nd ≤ 6 → (1 < nd → ∀ h : i2 < s.size, s[i2] ≠ 48) → ScAt s.data.toList (k + 1) (i2 + nd) (ns ++ [d])) := NA.good
        clear NA MD
        refine (kdg _).mono ?_
        rintro e w' ⟨rfl, hw'⟩
        rw [hw']
        clear hw' kdg
        by_cases hn0 : nd = 0
        · have HN : Hid (R = none) := NB.out (Or.inl hn0)
          have hb0 : ((nd : Int) == 0) = true := beq_iff_eq.2 (by omega)
          clear NB NZ NG VB VS HL hn0
          go_wp2
          go_ret3
          exact ⟨_, _, _, rfl, hbw, VRes.no HN.out⟩
        · have hb0 : ((nd : Int) == 0) = false := beq_eq_false_iff_ne.2 (by omega)
          have hn1 : 1 ≤ nd := by omega
          by_cases hn6 : 6 < nd
          · have HN : Hid (R = none) := NB.out (Or.inr hn6)
            have hb6 : (6 : Int) < (nd : Int) := by omega
            clear NB NZ NG VB VS HL hn0
            go_wp2
            go_ret3
            exact ⟨_, _, _, rfl, hbw, VRes.no HN.out⟩
          · have hb6 : (nd : Int) ≤ 6 := by omega
            have VB := VB.out (by omega)
            by_cases hn2 : 1 < nd
            · have hb1 : (1 : Int) < (nd : Int) := by omega
              have hi2 : i2 < s.size := by omega
              by_cases h48 : (s[i2].toNat : Int) = 48
              · have HN : Hid (R = none) := NZ.out hi2 hn2 (UInt8.toNat.inj (by simpa using (by omega : s[i2].toNat = 48)))
                have hb48 : ((s[i2].toNat : Int) == 48) = true := beq_iff_eq.2 h48
                clear NB NZ NG VB VS HL hn0 h48
                go_wp2
                go_ret3
                exact ⟨_, _, _, rfl, hbw, VRes.no HN.out⟩
              · have HG : Hid (ScAt s.data.toList (k + 1) (i2 + nd) (ns ++ [d])) := NG.out hn1 (by omega) (fun _ _ e => h48 (by rw [e]; rfl))
                have hb48 : ((s[i2].toNat : Int) == 48) = false := beq_eq_false_iff_ne.2 h48
                clear NB NZ NG hn0 h48
                obtain ⟨V, hV⟩ : ∃ V : Nat → Nat, ∀ j, Pv.val (d.take j) = V j := ⟨_, fun _ => rfl⟩
                have V0 : Hid (V 0 = 0) := by show V 0 = 0; rw [← hV]; rfl
                have VN : Hid (Pv.val d = V nd) := by show Pv.val d = V nd; rw [← hV, List.take_of_length_le (by rw [HL.out]; omega)]
                have VS2 : Hid (∀ j, j < nd → ∃ h : i2 + j < s.size, V (j + 1) = V j * 10 + (s[i2 + j].toNat - 48) ∧ 48 ≤ s[i2 + j].toNat ∧ s[i2 + j].toNat ≤ 57) := by
                  intro j hj
                  obtain ⟨q1, q2, q3⟩ := VS.out j hj
                  rw [hV, hV] at q2
                  exact ⟨q1, q2, q3⟩
                have VB2 : Hid (∀ j, V j < 1000000) := by
                  intro j
                  rw [← hV]
                  exact VB j
                clear VS VB hV
                go_wp2
                go_loopg [9, 10] nd (fun g x j wx => ∃ jj : Nat, jj ≤ nd ∧ nd - jj ≤ g ∧ j = .int .i64 jj ∧ x = .int .i64 (V jj) ∧ wx = wr)
                case atStart => exact ⟨0, by omega, by omega, rfl, by rw [V0.out]; rfl, rfl⟩
                case round =>
                  obtain ⟨jj, hj1, hj2, rfl, rfl, rfl⟩ := hrel
                  have HV := VB2.out jj
                  by_cases hj : jj < nd
                  · obtain ⟨q1, q2, q3, q4⟩ := VS2.out jj hj
                    have q5 : (48 : Int) ≤ (s[i2 + jj].toNat : Int) := by omega
                    have q6 : (s[i2 + jj].toNat : Int) ≤ 57 := by omega
                    have Q2 : Hid (V (jj + 1) = V jj * 10 + (s[i2 + jj].toNat - 48)) := q2
                    clear q2 q3 q4
                    go_wp2
                    go_roundg (nd - (jj + 1))
                    case measure => omega
                    case rel => exact ⟨jj + 1, by omega, by omega, by go_num, congrArg (Value.int .i64) (by rw [Q2.out]; omega), rfl⟩
                  · have hj' : jj = nd := by omega
                    rw [hj']
                    clear hj' hj hj1 hj2 HV
                    go_wp2_with (at_builtin; refine wpList_append_own _ rfl _ _ 30 rfl w.heap.size 3 i3 (.int .i64 0) 1 8 Tryz.underlying30 HI.out.1 HI.out.2.1 HI.out.2.2.1 HI.out.2.2.2 rfl (by decide) _ _ _ rfl (hown.alloc _) ⟨wr.heap.size, 0, none⟩ 1 1 [.int .i64 (V nd)] rfl rfl ?_ ?_ ?_ ?_ ?_ ?_)
                    all_goals first
                      | exact cell_one_new _ _ _
                      | (show (Value.int .i64 (V nd)).oneCell' = true; rfl)
                      | (show ∀ u ∈ [Value.int .i64 (V nd)], u.oneCell' = true; intro u hu; simp at hu; subst hu; rfl)
                      | (show ns.length + 1 ≤ maxLen; unfold maxLen; omega)
                      | (show (ns.length + 1) * 8 ≤ 140737488355328; omega)
                      | (show w.heap.size ≤ (wr.alloc _).heap.size; have := hbw.size; simp; omega)
                      | (show w.heap.size ≤ wr.heap.size + 1; have := hbw.size; omega)
                      | skip
                    intro v' w1 hown' hgrow _
                    have hbw1 : Below w.heap.size w w1 := (hbw.alloc hbw.size _).grown hgrow (by have := hbw.size; simp; omega) (own_base hown)
                    have hown1 : w1.ownsRow w.heap.size 3 1 v' (ns ++ [d]).length ((ns ++ [d]).map fun d => Value.int .i64 (Pv.val d)) := by rw [List.map_append, List.length_append, List.map_cons, List.map_nil, VN.out]; exact hown'
                    have hns' : ns.length = k := HG.out.2.2.2 |> fun h => by simp at h; omega
                    clear hown' hgrow hown
                    go_wp2
                    go_roundg (3 - (k + 1))
                    case measure => omega
                    case rel => exact ⟨k + 1, i2 + nd, ns ++ [d], by omega, by omega, by go_num, by go_num, by omega, by omega, by simp; omega, hown1, hbw1, HG⟩
            · have hb1 : (nd : Int) ≤ 1 := by omega
              have HG : Hid (ScAt s.data.toList (k + 1) (i2 + nd) (ns ++ [d])) := NG.out hn1 (by omega) (fun h => absurd h hn2)
              clear NB NZ NG hn0 hn2
              obtain ⟨V, hV⟩ : ∃ V : Nat → Nat, ∀ j, Pv.val (d.take j) = V j := ⟨_, fun _ => rfl⟩
              have V0 : Hid (V 0 = 0) := by show V 0 = 0; rw [← hV]; rfl
              have VN : Hid (Pv.val d = V nd) := by show Pv.val d = V nd; rw [← hV, List.take_of_length_le (by rw [HL.out]; omega)]
              have VS2 : Hid (∀ j, j < nd → ∃ h : i2 + j < s.size, V (j + 1) = V j * 10 + (s[i2 + j].toNat - 48) ∧ 48 ≤ s[i2 + j].toNat ∧ s[i2 + j].toNat ≤ 57) := by
                intro j hj
                obtain ⟨q1, q2, q3⟩ := VS.out j hj
                rw [hV, hV] at q2
                exact ⟨q1, q2, q3⟩
              have VB2 : Hid (∀ j, V j < 1000000) := by
                intro j
                rw [← hV]
                exact VB j
              clear VS VB hV
              go_wp2
              go_loopg [9, 10] nd (fun g x j wx => ∃ jj : Nat, jj ≤ nd ∧ nd - jj ≤ g ∧ j = .int .i64 jj ∧ x = .int .i64 (V jj) ∧ wx = wr)
              case atStart => exact ⟨0, by omega, by omega, rfl, by rw [V0.out]; rfl, rfl⟩
              case round =>
                obtain ⟨jj, hj1, hj2, rfl, rfl, rfl⟩ := hrel
                have HV := VB2.out jj
                by_cases hj : jj < nd
                · obtain ⟨q1, q2, q3, q4⟩ := VS2.out jj hj
                  have q5 : (48 : Int) ≤ (s[i2 + jj].toNat : Int) := by omega
                  have q6 : (s[i2 + jj].toNat : Int) ≤ 57 := by omega
                  have Q2 : Hid (V (jj + 1) = V jj * 10 + (s[i2 + jj].toNat - 48)) := q2
                  clear q2 q3 q4
                  go_wp2
                  go_roundg (nd - (jj + 1))
                  case measure => omega
                  case rel => exact ⟨jj + 1, by omega, by omega, by go_num, congrArg (Value.int .i64) (by rw [Q2.out]; omega), rfl⟩
                · have hj' : jj = nd := by omega
                  rw [hj']
                  clear hj' hj hj1 hj2 HV
                  go_wp2_with (at_builtin; refine wpList_append_own _ rfl _ _ 30 rfl w.heap.size 3 i3 (.int .i64 0) 1 8 Tryz.underlying30 HI.out.1 HI.out.2.1 HI.out.2.2.1 HI.out.2.2.2 rfl (by decide) _ _ _ rfl (hown.alloc _) ⟨wr.heap.size, 0, none⟩ 1 1 [.int .i64 (V nd)] rfl rfl ?_ ?_ ?_ ?_ ?_ ?_)
                  all_goals first
                    | exact cell_one_new _ _ _
                    | (show (Value.int .i64 (V nd)).oneCell' = true; rfl)
                    | (show ∀ u ∈ [Value.int .i64 (V nd)], u.oneCell' = true; intro u hu; simp at hu; subst hu; rfl)
                    | (show ns.length + 1 ≤ maxLen; unfold maxLen; omega)
                    | (show (ns.length + 1) * 8 ≤ 140737488355328; omega)
                    | (show w.heap.size ≤ (wr.alloc _).heap.size; have := hbw.size; simp; omega)
                    | (show w.heap.size ≤ wr.heap.size + 1; have := hbw.size; omega)
                    | skip
                  intro v' w1 hown' hgrow _
                  have hbw1 : Below w.heap.size w w1 := (hbw.alloc hbw.size _).grown hgrow (by have := hbw.size; simp; omega) (own_base hown)
                  have hown1 : w1.ownsRow w.heap.size 3 1 v' (ns ++ [d]).length ((ns ++ [d]).map fun d => Value.int .i64 (Pv.val d)) := by rw [List.map_append, List.length_append, List.map_cons, List.map_nil, VN.out]; exact hown'
                  have hns' : ns.length = k := HG.out.2.2.2 |> fun h => by simp at h; omega
                  clear hown' hgrow hown
                  go_wp2
                  go_roundg (3 - (k + 1))
                  case measure => omega
                  case rel => exact ⟨k + 1, i2 + nd, ns ++ [d], by omega, by omega, by go_num, by go_num, by omega, by omega, by simp; omega, hown1, hbw1, HG⟩
      · have hkp : (0 : Int) < (k : Int) := by omega
        by_cases hil : i < s.size
        · have HE : Hid (s.data.toList[i]'(by rw [HS.out]; exact hil) = s[i]) := rfl
          by_cases h46 : (s[i].toNat : Int) = 46
          · have MD := A.out.dot (by omega) (by rw [HS.out]; exact hil) (by rw [HE.out]; exact UInt8.toNat.inj (by simpa using (by omega : s[i].toNat = 46)))
            have hb46 : ((s[i].toNat : Int) != 46) = false := by rw [h46]; rfl
            have hil' : (i : Int) < (s.size : Int) := by omega
            clear h46 hk0
            go_wp2_with (go_at_call 255; fail)
            obtain ⟨i2, hi2e⟩ : ∃ i2 : Nat, i2 = i + 1 := ⟨_, rfl⟩
            have ec : (i : Int) + 1 = (i2 : Int) := by omega
            rw [← hi2e] at MD
            rw [ec]
            have hi21 : 1 ≤ i2 := by omega
            have hi22 : i2 ≤ s.size := by omega
            clear hi2e ec hb46 HE A
            have NA := numAt s k i2 ns R (by omega) MD RN.out
            have kdg := fun W => digits_any s i2 W (by unfold maxLen; omega) (by omega)
            generalize ((s.data.toList.drop i2).takeWhile Pv.dg).length = nd at NA kdg
            generalize (s.data.toList.drop i2).takeWhile Pv.dg = d at NA
            have hroom := NA.room
            have HL : Hid (d.length = nd) := NA.len
            have VB : Hid (nd ≤ 6 → ∀ j, Pv.val (d.take j) < 1000000) := NA.small
            have VS : Hid (∀ j, j < nd → ∃ h : i2 + j < s.size, Pv.val (d.take (j + 1)) = Pv.val (d.take j) * 10 + (s[i2 + j].toNat - 48) ∧ 48 ≤ s[i2 + j].toNat ∧ s[i2 + j].toNat ≤ 57) := NA.step
            have NB : Hid (nd = 0 ∨ 6 < nd → R = none) := NA.bad
            have NZ : Hid (∀ h : i2 < s.size, 1 < nd → s[i2] = 48 → R = none) := NA.zero
            have NG : Hid (1 ≤ nd → nd ≤ 6 → (1 < nd → ∀ h : i2 < s.size, s[i2] ≠ 48) → ScAt s.data.toList (k + 1) (i2 + nd) (ns ++ [d])) := NA.good
            clear NA MD
            refine (kdg _).mono ?_
            rintro e w' ⟨rfl, hw'⟩
            rw [hw']
            clear hw' kdg
            by_cases hn0 : nd = 0
            · have HN : Hid (R = none) := NB.out (Or.inl hn0)
              have hb0 : ((nd : Int) == 0) = true := beq_iff_eq.2 (by omega)
              clear NB NZ NG VB VS HL hn0
              go_wp2
              go_ret3
              exact ⟨_, _, _, rfl, hbw, VRes.no HN.out⟩
            · have hb0 : ((nd : Int) == 0) = false := beq_eq_false_iff_ne.2 (by omega)
              have hn1 : 1 ≤ nd := by omega
              by_cases hn6 : 6 < nd
              · have HN : Hid (R = none) := NB.out (Or.inr hn6)
                have hb6 : (6 : Int) < (nd : Int) := by omega
                clear NB NZ NG VB VS HL hn0
                go_wp2
                go_ret3
                exact ⟨_, _, _, rfl, hbw, VRes.no HN.out⟩
              · have hb6 : (nd : Int) ≤ 6 := by omega
                have VB := VB.out (by omega)
                by_cases hn2 : 1 < nd
                · have hb1 : (1 : Int) < (nd : Int) := by omega
                  have hi2 : i2 < s.size := by omega
                  by_cases h48 : (s[i2].toNat : Int) = 48
                  · have HN : Hid (R = none) := NZ.out hi2 hn2 (UInt8.toNat.inj (by simpa using (by omega : s[i2].toNat = 48)))
                    have hb48 : ((s[i2].toNat : Int) == 48) = true := beq_iff_eq.2 h48
                    clear NB NZ NG VB VS HL hn0 h48
                    go_wp2
                    go_ret3
                    exact ⟨_, _, _, rfl, hbw, VRes.no HN.out⟩
                  · have HG : Hid (ScAt s.data.toList (k + 1) (i2 + nd) (ns ++ [d])) := NG.out hn1 (by omega) (fun _ _ e => h48 (by rw [e]; rfl))
                    have hb48 : ((s[i2].toNat : Int) == 48) = false := beq_eq_false_iff_ne.2 h48
                    clear NB NZ NG hn0 h48
                    obtain ⟨V, hV⟩ : ∃ V : Nat → Nat, ∀ j, Pv.val (d.take j) = V j := ⟨_, fun _ => rfl⟩
                    have V0 : Hid (V 0 = 0) := by show V 0 = 0; rw [← hV]; rfl
                    have VN : Hid (Pv.val d = V nd) := by show Pv.val d = V nd; rw [← hV, List.take_of_length_le (by rw [HL.out]; omega)]
                    have VS2 : Hid (∀ j, j < nd → ∃ h : i2 + j < s.size, V (j + 1) = V j * 10 + (s[i2 + j].toNat - 48) ∧ 48 ≤ s[i2 + j].toNat ∧ s[i2 + j].toNat ≤ 57) := by
                      intro j hj
                      obtain ⟨q1, q2, q3⟩ := VS.out j hj
                      rw [hV, hV] at q2
                      exact ⟨q1, q2, q3⟩
                    have VB2 : Hid (∀ j, V j < 1000000) := by
                      intro j
                      rw [← hV]
                      exact VB j
                    clear VS VB hV
                    go_wp2
                    go_loopg [9, 10] nd (fun g x j wx => ∃ jj : Nat, jj ≤ nd ∧ nd - jj ≤ g ∧ j = .int .i64 jj ∧ x = .int .i64 (V jj) ∧ wx = wr)
                    case atStart => exact ⟨0, by omega, by omega, rfl, by rw [V0.out]; rfl, rfl⟩
                    case round =>
                      obtain ⟨jj, hj1, hj2, rfl, rfl, rfl⟩ := hrel
                      have HV := VB2.out jj
                      by_cases hj : jj < nd
                      · obtain ⟨q1, q2, q3, q4⟩ := VS2.out jj hj
                        have q5 : (48 : Int) ≤ (s[i2 + jj].toNat : Int) := by omega
                        have q6 : (s[i2 + jj].toNat : Int) ≤ 57 := by omega
                        have Q2 : Hid (V (jj + 1) = V jj * 10 + (s[i2 + jj].toNat - 48)) := q2
                        clear q2 q3 q4
                        go_wp2
                        go_roundg (nd - (jj + 1))
                        case measure => omega
                        case rel => exact ⟨jj + 1, by omega, by omega, by go_num, congrArg (Value.int .i64) (by rw [Q2.out]; omega), rfl⟩
                      · have hj' : jj = nd := by omega
                        rw [hj']
                        clear hj' hj hj1 hj2 HV
                        go_wp2_with (at_builtin; refine wpList_append_own _ rfl _ _ 30 rfl w.heap.size 3 i3 (.int .i64 0) 1 8 Tryz.underlying30 HI.out.1 HI.out.2.1 HI.out.2.2.1 HI.out.2.2.2 rfl (by decide) _ _ _ rfl (hown.alloc _) ⟨wr.heap.size, 0, none⟩ 1 1 [.int .i64 (V nd)] rfl rfl ?_ ?_ ?_ ?_ ?_ ?_)
                        all_goals first
                          | exact cell_one_new _ _ _
                          | (show (Value.int .i64 (V nd)).oneCell' = true; rfl)
                          | (show ∀ u ∈ [Value.int .i64 (V nd)], u.oneCell' = true; intro u hu; simp at hu; subst hu; rfl)
                          | (show ns.length + 1 ≤ maxLen; unfold maxLen; omega)
                          | (show (ns.length + 1) * 8 ≤ 140737488355328; omega)
                          | (show w.heap.size ≤ (wr.alloc _).heap.size; have := hbw.size; simp; omega)
                          | (show w.heap.size ≤ wr.heap.size + 1; have := hbw.size; omega)
                          | skip
                        intro v' w1 hown' hgrow _
                        have hbw1 : Below w.heap.size w w1 := (hbw.alloc hbw.size _).grown hgrow (by have := hbw.size; simp; omega) (own_base hown)
                        have hown1 : w1.ownsRow w.heap.size 3 1 v' (ns ++ [d]).length ((ns ++ [d]).map fun d => Value.int .i64 (Pv.val d)) := by rw [List.map_append, List.length_append, List.map_cons, List.map_nil, VN.out]; exact hown'
                        have hns' : ns.length = k := HG.out.2.2.2 |> fun h => by simp at h; omega
                        clear hown' hgrow hown
                        go_wp2
                        go_roundg (3 - (k + 1))
                        case measure => omega
                        case rel => exact ⟨k + 1, i2 + nd, ns ++ [d], by omega, by omega, by go_num, by go_num, by omega, by omega, by simp; omega, hown1, hbw1, HG⟩
                · have hb1 : (nd : Int) ≤ 1 := by omega
                  have HG : Hid (ScAt s.data.toList (k + 1) (i2 + nd) (ns ++ [d])) := NG.out hn1 (by omega) (fun h => absurd h hn2)
                  clear NB NZ NG hn0 hn2
                  obtain ⟨V, hV⟩ : ∃ V : Nat → Nat, ∀ j, Pv.val (d.take j) = V j := ⟨_, fun _ => rfl⟩
                  have V0 : Hid (V 0 = 0) := by show V 0 = 0; rw [← hV]; rfl
                  have VN : Hid (Pv.val d = V nd) := by show Pv.val d = V nd; rw [← hV, List.take_of_length_le (by rw [HL.out]; omega)]
                  have VS2 : Hid (∀ j, j < nd → ∃ h : i2 + j < s.size, V (j + 1) = V j * 10 + (s[i2 + j].toNat - 48) ∧ 48 ≤ s[i2 + j].toNat ∧ s[i2 + j].toNat ≤ 57) := by
                    intro j hj
                    obtain ⟨q1, q2, q3⟩ := VS.out j hj
                    rw [hV, hV] at q2
                    exact ⟨q1, q2, q3⟩
                  have VB2 : Hid (∀ j, V j < 1000000) := by
                    intro j
                    rw [← hV]
                    exact VB j
                  clear VS VB hV
                  go_wp2
                  go_loopg [9, 10] nd (fun g x j wx => ∃ jj : Nat, jj ≤ nd ∧ nd - jj ≤ g ∧ j = .int .i64 jj ∧ x = .int .i64 (V jj) ∧ wx = wr)
                  case atStart => exact ⟨0, by omega, by omega, rfl, by rw [V0.out]; rfl, rfl⟩
                  case round =>
                    obtain ⟨jj, hj1, hj2, rfl, rfl, rfl⟩ := hrel
                    have HV := VB2.out jj
                    by_cases hj : jj < nd
                    · obtain ⟨q1, q2, q3, q4⟩ := VS2.out jj hj
                      have q5 : (48 : Int) ≤ (s[i2 + jj].toNat : Int) := by omega
                      have q6 : (s[i2 + jj].toNat : Int) ≤ 57 := by omega
                      have Q2 : Hid (V (jj + 1) = V jj * 10 + (s[i2 + jj].toNat - 48)) := q2
                      clear q2 q3 q4
                      go_wp2
                      go_roundg (nd - (jj + 1))
                      case measure => omega
                      case rel => exact ⟨jj + 1, by omega, by omega, by go_num, congrArg (Value.int .i64) (by rw [Q2.out]; omega), rfl⟩
                    · have hj' : jj = nd := by omega
                      rw [hj']
                      clear hj' hj hj1 hj2 HV
                      go_wp2_with (at_builtin; refine wpList_append_own _ rfl _ _ 30 rfl w.heap.size 3 i3 (.int .i64 0) 1 8 Tryz.underlying30 HI.out.1 HI.out.2.1 HI.out.2.2.1 HI.out.2.2.2 rfl (by decide) _ _ _ rfl (hown.alloc _) ⟨wr.heap.size, 0, none⟩ 1 1 [.int .i64 (V nd)] rfl rfl ?_ ?_ ?_ ?_ ?_ ?_)
                      all_goals first
                        | exact cell_one_new _ _ _
                        | (show (Value.int .i64 (V nd)).oneCell' = true; rfl)
                        | (show ∀ u ∈ [Value.int .i64 (V nd)], u.oneCell' = true; intro u hu; simp at hu; subst hu; rfl)
                        | (show ns.length + 1 ≤ maxLen; unfold maxLen; omega)
                        | (show (ns.length + 1) * 8 ≤ 140737488355328; omega)
                        | (show w.heap.size ≤ (wr.alloc _).heap.size; have := hbw.size; simp; omega)
                        | (show w.heap.size ≤ wr.heap.size + 1; have := hbw.size; omega)
                        | skip
                      intro v' w1 hown' hgrow _
                      have hbw1 : Below w.heap.size w w1 := (hbw.alloc hbw.size _).grown hgrow (by have := hbw.size; simp; omega) (own_base hown)
                      have hown1 : w1.ownsRow w.heap.size 3 1 v' (ns ++ [d]).length ((ns ++ [d]).map fun d => Value.int .i64 (Pv.val d)) := by rw [List.map_append, List.length_append, List.map_cons, List.map_nil, VN.out]; exact hown'
                      have hns' : ns.length = k := HG.out.2.2.2 |> fun h => by simp at h; omega
                      clear hown' hgrow hown
                      go_wp2
                      go_roundg (3 - (k + 1))
                      case measure => omega
                      case rel => exact ⟨k + 1, i2 + nd, ns ++ [d], by omega, by omega, by go_num, by go_num, by omega, by omega, by simp; omega, hown1, hbw1, HG⟩
          · have HN : Hid (R = none) := RN.out (k + 1) (by omega) (A.out.nodot (by omega) (fun h => by rw [HE.out]; intro e; exact h46 (by rw [e]; rfl)))
            have hb46 : ((s[i].toNat : Int) != 46) = true := by simpa using h46
            have hil' : (i : Int) < (s.size : Int) := by omega
            clear h46 hk0 HE
            go_wp2
            go_ret3
            exact ⟨_, _, _, rfl, hbw, VRes.no HN.out⟩
        · have HN : Hid (R = none) := RN.out (k + 1) (by omega) (A.out.nodot (by omega) (fun h => absurd h (by rw [HS.out]; exact hil)))
          have hil' : (s.size : Int) ≤ (i : Int) := by omega
          clear hil hk0
          go_wp2
          go_ret3
          exact ⟨_, _, _, rfl, hbw, VRes.no HN.out⟩
    · have hk3' : (3 : Int) ≤ (k : Int) := by omega
      have hke : k = 3 := by omega
      have AS : Pv.scan 3 s.data.toList.tail = some (ns, s.data.toList.drop i) := by have := A.out.1; rw [hke] at this; exact this
      have hn3 : ns.length = 3 := by have := A.out.2.2.2; omega
      have NO := numOf_owns hown (by omega)
      have hsh : ∃ ad n c, u5 = .slice ad n c := by
        obtain ⟨b, c, h, _⟩ := NO
        exact ⟨_, _, _, h⟩
      obtain ⟨ad, n, c, hu5⟩ := hsh
      rw [hu5] at NO ⊢
      have NH : Hid (NumOf wr (.slice ad n c) ns) := NO
      have HN3 : Hid (ns.length = 3) := hn3
      clear hu5 NO hown hke hn3 A
      by_cases hil : i < s.size
      · have HE : Hid (s.data.toList[i]'(by rw [HS.out]; exact hil) = s[i]) := rfl
        rw [List.drop_eq_getElem_cons (by rw [HS.out]; exact hil), HE.out] at AS
        have hie : ((i : Int) == (s.size : Int)) = false := beq_eq_false_iff_ne.2 (by omega)
        have hil' : (i : Int) < (s.size : Int) := by omega
        by_cases h45 : (s[i].toNat : Int) = 45
        · have e45 : s[i] = 45 := UInt8.toNat.inj (by simpa using (by omega : s[i].toNat = 45))
          rw [e45] at AS
          have HR := R3.out ns _ AS
          have hb45 : ((s[i].toNat : Int) != 45) = false := by rw [h45]; rfl
          clear h45 e45 AS HE RN R1 R2 R3
          have kid := fun W => identifiers_any (s.extract (i + 1) s.size) W (by simp; omega)
          have hex : (s.extract (i + 1) s.size).data.toList = s.data.toList.drop (i + 1) := by
            rw [Lib.extract_data]
            exact List.take_of_length_le (by rw [List.length_drop, HS.out]; omega)
          rw [hex] at kid
          clear hex
          generalize s.data.toList.drop (i + 1) = b at kid HR
          unfold Pv.refI at HR
          generalize Pv.identGo [] [] b = G at kid HR
          have HRR : Hid (R = Option.map (fun i => (ns, i)) (match G with | none => none | some l => if l.length ≤ 4 then some l else none)) := HR
          clear HR
          go_wp2_with (go_at_call 256; fail)
          refine (kid _).mono ?_
          rintro e w1 ⟨v, ok, rfl, hb1, hres⟩
          go_wp2
          go_ret3
          refine ⟨_, _, _, rfl, hbw.trans (hb1.mono hbw.size), ?_⟩
          exact vres_id hres HRR.out (NH.out.below hb1) HN3.out
        · have HN : Hid (R = none) := R2.out ns _ _ AS (fun e => h45 (by rw [e]; rfl))
          have hb45 : ((s[i].toNat : Int) != 45) = true := by simpa using h45
          clear h45 AS HE
          go_wp2
          go_ret3
          exact ⟨_, _, _, rfl, hbw, VRes.no HN.out⟩
      · rw [List.drop_of_length_le (by rw [HS.out]; omega)] at AS
        have HR : Hid (R = some (ns, [])) := R1.out ns AS
        have hie : ((i : Int) == (s.size : Int)) = true := beq_iff_eq.2 (by omega)
        clear hil AS
        go_wp2
        go_ret3
        refine ⟨_, _, _, rfl, hbw, ?_⟩
        rw [HR.out]
        exact ⟨rfl, NH.out, HN3.out, [], rfl, by simp, Or.inl ⟨rfl, rfl⟩⟩

end Go.Proofs.YtelmkfkgpnadnaaGreatDoor

namespace Go.Proofs.YtelmkfkgpnadnaaGreatDoor
open Go.RowKit

theorem version_any (s : ByteArray) (w : World) :
    Calls Tryz.prog 205 #[.string s] w fun e w' => ∃ v1 v2 ok, e = .returned (.tuple #[v1, v2, .bool ok]) ∧ Below w.heap.size w w' ∧ VRes w' v1 v2 ok (Pv.parse s.data.toList) := by
  rw [Pv.parse_ref]
  have hs := Lib.size_eq s
  by_cases h : s.size = 0 ∨ 40 < s.size
  · refine (version_bad s w h).mono ?_
    rintro e w' ⟨rfl, rfl⟩
    refine ⟨_, _, _, rfl, Below.refl _ _, VRes.no ?_⟩
    unfold Pv.refParse
    rw [if_neg]
    rintro ⟨h1, h2⟩
    rcases h with h | h
    · have : s.data.toList = [] := List.eq_nil_of_length_eq_zero (by omega)
      rw [this] at h1; simp at h1
    · omega
  · have h0 : 0 < s.size := by omega
    have h40 : s.size ≤ 40 := by omega
    by_cases hv : s[0] = 118
    · have hh : s.data.toList.head? = some 118 ∧ s.data.toList.length ≤ 40 := ⟨by rw [head_of s h0, hv], by omega⟩
      refine version_main s w h0 h40 hv _ ?_ ?_ ?_ ?_
      · intro k hk hn
        exact ref_none hk hn
      · intro ns hn
        unfold Pv.refParse
        rw [if_pos hh, hn]
      · intro ns c t hn hc
        unfold Pv.refParse
        rw [if_pos hh, hn]
        dsimp only
        rw [if_neg hc]
      · intro ns t hn
        unfold Pv.refParse
        rw [if_pos hh, hn]
        dsimp only
        rw [if_pos rfl]
    · refine (version_not s w h0 h40 hv).mono ?_
      rintro e w' ⟨rfl, rfl⟩
      refine ⟨_, _, _, rfl, Below.refl _ _, VRes.no ?_⟩
      unfold Pv.refParse
      rw [if_neg]
      rintro ⟨h1, _⟩
      rw [head_of s h0] at h1
      exact hv (Option.some.inj h1)

set_option maxHeartbeats 1000000 in
theorem isVersion_any (s : ByteArray) (w : World) :
    Calls Tryz.prog 181 #[.string s] w fun e w' => e = .returned (.bool (Pv.parse s.data.toList).isSome) ∧ Below w.heap.size w w' := by
  have k := version_any s w
  generalize Pv.parse s.data.toList = R at k
  go_enter Tryz.func181, Tryz.ntmps181
  go_wp2_with (go_at_call 205; fail)
  refine k.mono ?_
  rintro e w1 ⟨v1, v2, ok, rfl, hb1, hres⟩
  have HOK : Hid (ok = R.isSome) := by
    show ok = R.isSome
    cases R with
    | none => exact hres.1
    | some x => exact hres.1
  clear hres
  go_wp2
  go_ret
  exact ⟨ret_bool HOK.out, hb1⟩

end Go.Proofs.YtelmkfkgpnadnaaGreatDoor

namespace Go.Proofs.YtelmkfkgpnadnaaGreatDoor
open Go.RowKit

theorem SlOf.len {w : World} {v : Value} {ids : List ByteArray} (h : SlOf w v ids) : ∃ ad k, v = .slice ad ids.length k := by
  rcases h with ⟨rfl, h⟩ | ⟨b, c, h, _⟩
  · exact ⟨_, _, h⟩
  · exact ⟨_, _, h⟩

theorem compareInt_ne {x y : Int} (h : x ≠ y) : Lib.compareInt x y ≠ 0 := by
  unfold Lib.compareInt
  split
  · decide
  · split
    · decide
    · omega
theorem compareInt_eq (x : Int) : Lib.compareInt x x = 0 := by
  unfold Lib.compareInt
  simp

theorem SlOf.at {w : World} {ad : Option Addr} {n k : Nat} {ids : List ByteArray} (h : SlOf w (.slice ad n k) ids) (hne : ids ≠ []) : ∃ b, ad = some ⟨b, 0, none⟩ ∧ ∀ j, j < ids.length → w.cell? ⟨b, j, none⟩ = some (.string ids[j]!) := by
  rcases h with ⟨h, _⟩ | ⟨b, c, h, _, _, hc⟩
  · exact absurd h hne
  · simp only [Value.slice.injEq] at h
    exact ⟨b, h.1, hc⟩

theorem map_at (l : List ByteArray) (j : Nat) (hj : j < l.length) (hl : ∀ x ∈ l, x.size ≤ 8) : (l.map (·.data.toList))[j]! = l[j]!.data.toList ∧ l[j]!.size ≤ 8 := by
  rw [getElem!_pos l j hj, getElem!_pos _ j (by simpa using hj)]
  exact ⟨by simp, hl _ (List.getElem_mem hj)⟩

set_option maxRecDepth 100000 in
set_option maxHeartbeats 4000000 in
theorem words_core (a b : ByteArray) (w : World) (ns ms : List (List UInt8)) (l m : List ByteArray) (r : Int)
    (k1 : ∀ W, Calls Tryz.prog 205 #[.string a] W fun e w' => ∃ v1 v2 ok, e = .returned (.tuple #[v1, v2, .bool ok]) ∧ Below W.heap.size W w' ∧ ok = true ∧ NumOf w' v1 ns ∧ SlOf w' v2 l)
    (k2 : ∀ W, Calls Tryz.prog 205 #[.string b] W fun e w' => ∃ v1 v2 ok, e = .returned (.tuple #[v1, v2, .bool ok]) ∧ Below W.heap.size W w' ∧ ok = true ∧ NumOf w' v1 ms ∧ SlOf w' v2 m)
    (hn3 : ns.length = 3) (hm3 : ms.length = 3) (hl4 : l.length ≤ 4) (hm4 : m.length ≤ 4) (hl8 : ∀ x ∈ l, x.size ≤ 8) (hm8 : ∀ x ∈ m, x.size ≤ 8)
    (hr0 : Pv.cmpL Pv.cmpN ns ms ≠ 0 → r = Pv.cmpL Pv.cmpN ns ms)
    (hr1 : Pv.cmpL Pv.cmpN ns ms = 0 → l.length = 0 ∨ m.length = 0 → r = Lib.compareInt m.length l.length)
    (hr2 : Pv.cmpL Pv.cmpN ns ms = 0 → l.length ≠ 0 → m.length ≠ 0 → r = Pv.cmpL Pv.label (l.map (·.data.toList)) (m.map (·.data.toList))) :
    Calls Tryz.prog 164 #[.string a, .string b] w fun e w' => e = .returned (.int .i64 r) ∧ Below w.heap.size w w' := by
  generalize hrn : Pv.cmpL Pv.cmpN ns ms = rn at hr0 hr1 hr2
  have RN : Hid (Pv.cmpL Pv.cmpN (ns.drop 0) (ms.drop 0) = rn) := hrn
  have R0 : Hid (rn ≠ 0 → r = rn) := hr0
  have R1 : Hid (rn = 0 → l.length = 0 ∨ m.length = 0 → r = Lib.compareInt m.length l.length) := hr1
  have R2 : Hid (rn = 0 → l.length ≠ 0 → m.length ≠ 0 → r = Pv.cmpL Pv.label (l.map (·.data.toList)) (m.map (·.data.toList))) := hr2
  clear hrn hr0 hr1 hr2
  have L8 : Hid (∀ x ∈ l, x.size ≤ 8) := hl8
  have M8 : Hid (∀ x ∈ m, x.size ≤ 8) := hm8
  have HN3 : Hid (ns.length = 3) := hn3
  have HM3 : Hid (ms.length = 3) := hm3
  clear hl8 hm8 hn3 hm3
  go_enter Tryz.func164, Tryz.ntmps164
  go_wp2_with (go_at_call 205; fail)
  refine (k1 _).mono ?_
  rintro e w1 ⟨v1, v2, ok, rfl, hb1, rfl, hN1, hS1⟩
  go_wp2_with (go_at_call 205; fail)
  refine (k2 _).mono ?_
  rintro e w2 ⟨u1, u2, ok, rfl, hb2, rfl, hN2, hS2⟩
  have hN1 := hN1.below hb2
  have hS1 := hS1.below hb2
  have HB : Below w.heap.size w w2 := hb1.trans (hb2.mono hb1.size)
  clear hb1 hb2
  obtain ⟨b1, c1, e1, hx1, hc1⟩ := hN1
  obtain ⟨b2, c2, e2, hx2, hc2⟩ := hN2
  rw [HN3.out] at e1 hc1
  rw [HM3.out] at e2 hc2
  obtain ⟨ad1, d1, f1⟩ := hS1.len
  obtain ⟨ad2, d2, f2⟩ := hS2.len
  rw [f1] at hS1
  rw [f2] at hS2
  rw [e1, e2, f1, f2]
  clear e1 e2 f1 f2
  have C1 : Hid (∀ j, j < 3 → w2.cell? ⟨b1, j, none⟩ = some (.int .i64 (Pv.val ns[j]!))) := hc1
  have C2 : Hid (∀ j, j < 3 → w2.cell? ⟨b2, j, none⟩ = some (.int .i64 (Pv.val ms[j]!))) := hc2
  have S1 : Hid (SlOf w2 (.slice ad1 l.length d1) l) := hS1
  have S2 : Hid (SlOf w2 (.slice ad2 m.length d2) m) := hS2
  clear hc1 hc2 hS1 hS2
  go_wp2
  go_loopg [11] 3 (fun gg s11 wr => ∃ k q : Nat, k ≤ 3 ∧ 3 - k ≤ gg ∧ s11 = .int .i64 k ∧ wr = w2.drewN q ∧ Hid (Pv.cmpL Pv.cmpN (ns.drop k) (ms.drop k) = rn))
  case atStart => exact ⟨0, 0, by omega, by omega, rfl, rfl, RN⟩
  case round =>
    obtain ⟨k, q, hk, hg, rfl, rfl, A⟩ := hrel
    by_cases hlt : k < 3
    · have hltI : (k : Int) < 3 := by omega
      have hcell := C1.out k hlt
      have hcell' := C2.out k hlt
      have hbo := cmpL_both Pv.cmpN ns ms k (by rw [HN3.out]; exact hlt) (by rw [HM3.out]; exact hlt)
      rw [A.out] at hbo
      unfold Pv.cmpN at hbo
      generalize (Pv.val ns[k]! : Int) = x at hcell hbo
      generalize (Pv.val ms[k]! : Int) = y at hcell' hbo
      by_cases hxy : x = y
      · rw [hxy, compareInt_eq, if_pos rfl] at hbo
        have HNX : Hid (Pv.cmpL Pv.cmpN (ns.drop (k + 1)) (ms.drop (k + 1)) = rn) := hbo.symm
        have hxyb : (x != y) = false := by rw [hxy]; simp
        clear hbo
        go_wp2
        go_quiet (fail)
        go_wp2
        go_roundg (3 - (k + 1))
        case measure => omega
        case rel => exact ⟨k + 1, _, by omega, by omega, by go_num, rfl, HNX⟩
      · rw [if_neg (compareInt_ne hxy)] at hbo
        have HNX : Hid (r = Lib.compareInt x y) := (R0.out (by rw [hbo]; exact compareInt_ne hxy)).trans hbo
        have hxyb : (x != y) = true := by simpa using hxy
        have ko := fun W => order_any x y W
        rw [← HNX.out] at ko
        clear hbo hxy HNX
        go_wp2
        go_quiet (fail)
        go_wp2
        have hc3 : ((w2.drewN q).drewN nq).cell? ⟨b1, k, none⟩ = some (.int .i64 x) := hcell
        have hc3' : ((w2.drewN q).drewN nq).cell? ⟨b2, k, none⟩ = some (.int .i64 y) := hcell'
        have HB3 : Below w.heap.size w ((w2.drewN q).drewN nq) := below_drewN' (below_drewN' HB _) _
        clear hcell hcell'
        generalize (w2.drewN q).drewN nq = W3 at hc3 hc3' HB3 ⊢
        go_quiet ((go_at_call 207; exact Calls.quiet_of_same (ko _)))
        go_wp2
        go_ret
        exact ⟨rfl, below_drewN' HB3 _⟩
    · have hke : k = 3 := by omega
      have hkI : (3 : Int) ≤ (k : Int) := by omega
      have h0 := cmpL_none Pv.cmpN ns ms k (by rw [HN3.out]; omega) (by rw [HM3.out]; omega)
      rw [A.out] at h0
      have S1' := S1.out.below (below_drewN' (Below.refl _ _) q)
      have S2' := S2.out.below (below_drewN' (Below.refl _ _) q)
      have HB3 : Below w.heap.size w (w2.drewN q) := below_drewN' HB _
      have R1' := R1.out h0
      have R2' := R2.out h0
      clear hke S1 S2 C1 C2 R0 R1 R2 RN A HB h0 HN3 HM3 hlt hk hg hx1 hx2
      generalize w2.drewN q = W3 at S1' S2' HB3 ⊢
      by_cases hl0 : l.length = 0
      · have hb : ((l.length : Int) == 0) = true := beq_iff_eq.2 (by omega)
        have ko := fun W => order_any m.length l.length W
        rw [← R1' (Or.inl hl0)] at ko
        clear R1' R2' hl0 S1' S2'
        go_wp2_with (go_at_call 207; refine (ko _).mono ?_; rintro e w' ⟨rfl, rfl⟩)
        go_ret
        exact ⟨rfl, HB3⟩
      · have hb : ((l.length : Int) == 0) = false := beq_eq_false_iff_ne.2 (by omega)
        by_cases hm0 : m.length = 0
        · have hb' : ((m.length : Int) == 0) = true := beq_iff_eq.2 (by omega)
          have ko := fun W => order_any m.length l.length W
          rw [← R1' (Or.inr hm0)] at ko
          clear R1' R2' hl0 hm0 S1' S2'
          go_wp2_with (go_at_call 207; refine (ko _).mono ?_; rintro e w' ⟨rfl, rfl⟩)
          go_ret
          exact ⟨rfl, HB3⟩
        · have hb' : ((m.length : Int) == 0) = false := beq_eq_false_iff_ne.2 (by omega)
          have HR := R2' hl0 hm0
          have T1 := S1'.at (fun e => hl0 (by rw [e]; rfl))
          have T2 := S2'.at (fun e => hm0 (by rw [e]; rfl))
          obtain ⟨b3, rfl, hc3⟩ := T1
          obtain ⟨b4, rfl, hc4⟩ := T2
          clear R1' R2' hl0 hm0 S1' S2'
          have C3 : Hid (∀ j, j < l.length → W3.cell? ⟨b3, j, none⟩ = some (.string l[j]!)) := hc3
          have C4 : Hid (∀ j, j < m.length → W3.cell? ⟨b4, j, none⟩ = some (.string m[j]!)) := hc4
          clear hc3 hc4
          have HLE : Hid (∀ j, j < l.length → (l.map (·.data.toList))[j]! = l[j]!.data.toList ∧ l[j]!.size ≤ 8) := fun j hj => map_at l j hj L8.out
          have HME : Hid (∀ j, j < m.length → (m.map (·.data.toList))[j]! = m[j]!.data.toList ∧ m[j]!.size ≤ 8) := fun j hj => map_at m j hj M8.out
          have HLL : Hid ((l.map (·.data.toList)).length = l.length) := by show (l.map _).length = _; simp
          have HML : Hid ((m.map (·.data.toList)).length = m.length) := by show (m.map _).length = _; simp
          generalize l.map (·.data.toList) = L at HR HLE HLL
          generalize m.map (·.data.toList) = M at HR HME HML
          have HR0 : Hid (Pv.cmpL Pv.label (L.drop 0) (M.drop 0) = r) := HR.symm
          clear HR
          go_wp2
          go_loopg [12] l.length (fun gg s12 wr => ∃ k : Nat, k ≤ l.length ∧ k ≤ m.length ∧ l.length - k ≤ gg ∧ s12 = .int .i64 k ∧ Hid (∀ j, j < l.length → wr.cell? ⟨b3, j, none⟩ = some (.string l[j]!)) ∧ Hid (∀ j, j < m.length → wr.cell? ⟨b4, j, none⟩ = some (.string m[j]!)) ∧ Below w.heap.size w wr ∧ Hid (Pv.cmpL Pv.label (L.drop k) (M.drop k) = r))
          case atStart => exact ⟨0, by omega, by omega, by omega, rfl, C3, C4, HB3, HR0⟩
          case round =>
            clear C3 C4 HB3
            obtain ⟨k, hk, hk', hg, rfl, C3, C4, HB3, A⟩ := hrel
            by_cases hlt : k < l.length
            · have hltI : (k : Int) < (l.length : Int) := by omega
              by_cases hlt' : k < m.length
              · have hltI' : (k : Int) < (m.length : Int) := by omega
                have hcell := C3.out k hlt
                have hcell' := C4.out k hlt'
                have hbo := cmpL_both Pv.label L M k (by rw [HLL.out]; exact hlt) (by rw [HML.out]; exact hlt')
                rw [A.out, (HLE.out k hlt).1, (HME.out k hlt').1] at hbo
                have kcc := fun W => label_any l[k]! m[k]! W (by have := (HLE.out k hlt).2; omega) (by have := (HME.out k hlt').2; omega)
                generalize Pv.label l[k]!.data.toList m[k]!.data.toList = z at kcc hbo
                generalize l[k]! = x at hcell kcc
                generalize m[k]! = y at hcell' kcc
                by_cases hz : z = 0
                · rw [if_pos hz] at hbo
                  have HNX : Hid (Pv.cmpL Pv.label (L.drop (k + 1)) (M.drop (k + 1)) = r) := hbo.symm
                  have hzb : (z != 0) = false := by rw [hz]; rfl
                  clear hbo hz
                  go_wp2
                  go_quiet ((go_at_call 208; exact Calls.quiet_of_same (kcc _)))
                  go_wp2
                  go_roundg (l.length - (k + 1))
                  case measure => omega
                  case rel => exact ⟨k + 1, by omega, by omega, by omega, by go_num, C3, C4, below_drewN' HB3 _, HNX⟩
                · rw [if_neg hz] at hbo
                  have HNX : Hid (r = z) := hbo
                  have hzb : (z != 0) = true := by simpa using hz
                  clear hbo hz
                  go_wp2
                  go_quiet ((go_at_call 208; exact Calls.quiet_of_same (kcc _)))
                  go_wp2
                  go_ret
                  exact ⟨ret_int HNX.out.symm, below_drewN' HB3 _⟩
              · have hltI' : (m.length : Int) ≤ (k : Int) := by omega
                have h1 := cmpL_left Pv.label L M k (by rw [HLL.out]; exact hlt) (by rw [HML.out]; omega)
                rw [A.out] at h1
                have ko := fun W => order_any l.length m.length W
                rw [show Lib.compareInt (l.length : Int) (m.length : Int) = r from by rw [h1]; unfold Lib.compareInt; rw [if_neg (by omega), if_pos (by omega)]] at ko
                clear h1
                go_wp2_with (go_at_call 207; refine (ko _).mono ?_; rintro e w' ⟨rfl, rfl⟩)
                go_ret
                exact ⟨rfl, HB3⟩
            · have hltI : (l.length : Int) ≤ (k : Int) := by omega
              have ko := fun W => order_any l.length m.length W
              have h1 : Lib.compareInt (l.length : Int) (m.length : Int) = r := by
                unfold Lib.compareInt
                by_cases hlt' : k < m.length
                · have h1 := cmpL_right Pv.label L M k (by rw [HLL.out]; omega) (by rw [HML.out]; exact hlt')
                  rw [A.out] at h1
                  rw [h1, if_pos (by omega)]
                · have h1 := cmpL_none Pv.label L M k (by rw [HLL.out]; omega) (by rw [HML.out]; omega)
                  rw [A.out] at h1
                  rw [h1, if_neg (by omega), if_neg (by omega)]
              rw [h1] at ko
              clear h1
              go_wp2_with (go_at_call 207; refine (ko _).mono ?_; rintro e w' ⟨rfl, rfl⟩)
              go_ret
              exact ⟨rfl, HB3⟩

end Go.Proofs.YtelmkfkgpnadnaaGreatDoor

namespace Go.Proofs.YtelmkfkgpnadnaaGreatDoor
open Go.RowKit

theorem parse_lens {l : List UInt8} {v : List (List UInt8) × List (List UInt8)} (h : Pv.parse l = some v) : v.1.length = 3 ∧ v.2.length ≤ 4 := by
  unfold Pv.parse at h
  split at h
  · split at h
    · simp at h
    · rename_i ns hN
      obtain ⟨p, q, r, rfl⟩ := parseN_three hN
      split at h
      · simp at h; rw [← h]; simp
      · unfold Pv.parseI at h
        split at h
        · rename_i hc
          simp at h; rw [← h]
          exact ⟨rfl, hc.1⟩
        · simp at h
  · simp at h

theorem ids_back (ids : List (List UInt8)) : (ids.map fun x => (⟨x.toArray⟩ : ByteArray)).map (·.data.toList) = ids := by
  rw [List.map_map]
  conv => rhs; rw [← List.map_id ids]
  rfl

theorem words_any (a b : ByteArray) (w : World) (va vb : List (List UInt8) × List (List UInt8)) (ha : Pv.parse a.data.toList = some va) (hb : Pv.parse b.data.toList = some vb) :
    Calls Tryz.prog 164 #[.string a, .string b] w fun e w' => e = .returned (.int .i64 (Pv.cmpV va vb)) ∧ Below w.heap.size w w' := by
  rw [← Pv.refV_cmpV (Pv.parse_ids ha) (Pv.parse_ids hb)]
  obtain ⟨ns, is⟩ := va
  obtain ⟨ms, js⟩ := vb
  have la := parse_lens ha
  have lb := parse_lens hb
  have ia := Pv.parse_ids ha
  have ib := Pv.parse_ids hb
  have k1 := fun w => version_any a w
  have k2 := fun w => version_any b w
  rw [ha] at k1
  rw [hb] at k2
  have e1 := ids_back is
  have e2 := ids_back js
  have sz : ∀ (ids : List (List UInt8)), ids.any Pv.noId = false → ∀ x ∈ ids.map (fun x => (⟨x.toArray⟩ : ByteArray)), x.size ≤ 8 := by
    intro ids h x hx
    obtain ⟨y, hy, rfl⟩ := List.mem_map.1 hx
    have := List.any_eq_false.1 h y hy
    simp only [Bool.not_eq_true] at this
    unfold Pv.noId at this
    simp only [Bool.or_eq_false_iff, decide_eq_false_iff_not] at this
    rw [Lib.size_eq]
    show y.length ≤ 8
    omega
  refine words_core a b w ns ms (is.map fun x => ⟨x.toArray⟩) (js.map fun x => ⟨x.toArray⟩) _ ?_ ?_ la.1 lb.1 (by simpa using la.2) (by simpa using lb.2) (sz is ia) (sz js ib) ?_ ?_ ?_
  · intro W
    refine (k1 W).mono ?_
    rintro e w' ⟨v1, v2, ok, rfl, hbw, hok, hN, _, l, hl, _, hS⟩
    have : l = is.map fun x => (⟨x.toArray⟩ : ByteArray) := map_data_inj _ _ (by rw [hl, e1])
    rw [← this]
    exact ⟨_, _, _, rfl, hbw, hok, hN, hS⟩
  · intro W
    refine (k2 W).mono ?_
    rintro e w' ⟨v1, v2, ok, rfl, hbw, hok, hN, _, l, hl, _, hS⟩
    have : l = js.map fun x => (⟨x.toArray⟩ : ByteArray) := map_data_inj _ _ (by rw [hl, e2])
    rw [← this]
    exact ⟨_, _, _, rfl, hbw, hok, hN, hS⟩
  · intro h
    unfold Pv.refV
    rw [if_neg h]
  · intro h h0
    unfold Pv.refV
    rw [if_pos h]
    simp only [List.length_map] at h0
    rw [if_pos h0, List.length_map, List.length_map]
  · intro h h1 h2
    unfold Pv.refV
    simp only [List.length_map] at h1 h2
    rw [if_pos h, if_neg (by rintro (h | h); exact h1 h; exact h2 h), e1, e2]

end Go.Proofs.YtelmkfkgpnadnaaGreatDoor
