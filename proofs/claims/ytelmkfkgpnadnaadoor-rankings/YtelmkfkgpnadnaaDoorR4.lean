/-
  The walk of spell: its blocks, its first loop.
-/
import Derived.Test.YtelmkfkgpnadnaaDoorR2
import Derived.Test.YtelmkfkgpnadnaaDoorR3
import Derived.Test.YtelmkfkgpnadnaaDoorW10
namespace Go.Proofs.YtelmkfkgpnadnaaDoor
open Go.RowKit

/-- The three blocks of the call: what came in, its result, what it fills. -/
def Sp (w wr : World) (a b c : Int) (lv : Value) (q0 q1 q2 : Int) (sl : Value) : Prop :=
  Below w.heap.size w wr ∧ w.heap.size + 2 < wr.heap.size ∧ wr.heap[w.heap.size]? = some (.cells #[.int .i64 a, .int .i64 b, .int .i64 c, lv] 26) ∧
  wr.heap[w.heap.size + 1]? = some (.cells #[.int .i64 0, .int .i64 0, .int .i64 0, .slice none 0 0] 26) ∧ wr.heap[w.heap.size + 2]? = some (.cells #[.int .i64 q0, .int .i64 q1, .int .i64 q2, sl] 26)

theorem Sp.start (w : World) (a b c : Int) (lv : Value) (q : Int) : Sp w (((w.alloc (.cells #[.int .i64 a, .int .i64 b, .int .i64 c, lv] 26)).alloc (.cells #[.int .i64 0, .int .i64 0, .int .i64 0, .slice none 0 0] 26)).alloc (.cells #[.int .i64 q, .int .i64 0, .int .i64 0, .slice none 0 0] 26)) a b c lv q 0 0 (.slice none 0 0) := by
  refine ⟨(((Below.refl _ _).alloc (Nat.le_refl _) _).alloc (by simp) _).alloc (by simp; omega) _, by simp, ?_, ?_, ?_⟩
  all_goals
    show (((w.heap.push _).push _).push _)[_]? = _
    rw [Array.getElem?_push, Array.getElem?_push, Array.getElem?_push]
    simp only [Array.size_push]
  · rw [if_neg (by omega), if_neg (by omega), if_pos trivial]
  · rw [if_neg (by omega), if_pos trivial]
  · rw [if_pos trivial]

theorem Sp.below {w wr w' : World} {a b c : Int} {lv : Value} {q0 q1 q2 : Int} {sl : Value} (h : Sp w wr a b c lv q0 q1 q2 sl) (hb : Below wr.heap.size wr w') : Sp w w' a b c lv q0 q1 q2 sl := by
  obtain ⟨h1, h2, h3, h4, h5⟩ := h
  have := hb.size
  exact ⟨h1.trans (hb.mono h1.size), by omega, by rw [hb.block _ (by omega)]; exact h3, by rw [hb.block _ (by omega)]; exact h4, by rw [hb.block _ (by omega)]; exact h5⟩

theorem Sp.set {w wr : World} {a b c : Int} {lv : Value} {q0 q1 q2 : Int} {sl : Value} (h : Sp w wr a b c lv q0 q1 q2 sl) (v : Int) (u : Value) :
    Sp w (wr.setCell ⟨w.heap.size + 2, 0, none⟩ (.int .i64 v)) a b c lv v q1 q2 sl ∧ Sp w (wr.setCell ⟨w.heap.size + 2, 1, none⟩ (.int .i64 v)) a b c lv q0 v q2 sl ∧ Sp w (wr.setCell ⟨w.heap.size + 2, 2, none⟩ (.int .i64 v)) a b c lv q0 q1 v sl ∧ Sp w (wr.setCell ⟨w.heap.size + 2, 3, none⟩ u) a b c lv q0 q1 q2 u := by
  obtain ⟨h1, h2, h3, h4, h5⟩ := h
  refine ⟨?_, ?_, ?_, ?_⟩
  all_goals
    refine ⟨h1.setCell (by simp) _, by simpa [World.setCell] using h2, ?_, ?_, ?_⟩
    · rw [Below.heap_setCell _ _ _ _ (by simp)]; exact h3
    · rw [Below.heap_setCell _ _ _ _ (by simp)]; exact h4
    · simp [World.setCell, Array.getElem?_modify, h5]

theorem pk_nat (c n : Int) (hn : 0 < n) : ∃ k : Nat, pk c n = (k : Int) ∧ (k : Int) < n := by
  have h1 : 0 ≤ pk c n := Int.emod_nonneg _ (by omega)
  have h2 : pk c n < n := Int.emod_lt_of_pos _ hn
  exact ⟨(pk c n).toNat, by omega, by omega⟩

theorem cat_size (x y : ByteArray) (n m : Nat) (h1 : x.size ≤ n) (h2 : y.size ≤ m) : (x ++ y).size ≤ n + m := by
  rw [ByteArray.size_append]; omega

theorem Sp.grown {w wr w1 : World} {a b c : Int} {lv : Value} {q0 q1 q2 : Int} {sl : Value} {row : Option Nat} (h : Sp w wr a b c lv q0 q1 q2 sl) (hg : wr.grownBy w1 row) (hr : ∀ k, row = some k → w.heap.size + 3 ≤ k) : Sp w w1 a b c lv q0 q1 q2 sl := by
  obtain ⟨h1, h2, h3, h4, h5⟩ := h
  have hs := hg.size
  have hb : ∀ k, k < w.heap.size + 3 → w1.heap[k]? = wr.heap[k]? := fun k hk => hg.block k (by omega) (fun e => by have := hr k e.symm; omega)
  exact ⟨h1.grown hg h1.size (fun k hk => by have := hr k hk; omega), by omega, by rw [hb _ (by omega)]; exact h3, by rw [hb _ (by omega)]; exact h4, by rw [hb _ (by omega)]; exact h5⟩

theorem info3q : (Tryd.prog.info? 3).map (fun i => (i.zero, i.size, i.bytes)) = some (some (.int .i64 0), 1, 8) := by kernel_rfl
theorem info3r : ∃ i, Tryd.prog.info? 3 = some i ∧ i.zero = some (.int .i64 0) ∧ i.size = 1 ∧ i.bytes = 8 := by
  have h := info3q
  rw [Option.map_eq_some_iff] at h
  obtain ⟨i, h1, h2⟩ := h
  simp only [Prod.mk.injEq] at h2
  exact ⟨i, h1, h2.1, h2.2.1, h2.2.2⟩

theorem own_base3 {w wr : World} {e size n : Nat} {v : Value} {xs : List Value} (h : wr.ownsRow (w.heap.size + 3) e size v n xs) : ∀ k, v.ownBlock = some k → w.heap.size + 3 ≤ k := by
  intro k hk
  rcases h.2 with ⟨rfl, _⟩ | ⟨g, cap, cur, rfl, hg, _⟩
  · simp [Value.ownBlock] at hk
  · simp [Value.ownBlock] at hk; omega

theorem lab_size (k : Nat) (h : k < 12) : (⟨(Rk.lab k).toArray⟩ : ByteArray).size ≤ 8 := by
  rw [Lib.size_eq]
  exact (Rk.lab_facts k h).2.2.2.1

/-- Which identifier a raw number speaks of, at a place. -/
def kadj (i : Nat) (x : Int) : Nat := if (pk x 12).toNat = 3 ∧ 0 < i then 2 else (pk x 12).toNat
def sel (k : Nat) (L : List Int) : List Nat := (List.range k).map fun i => kadj i L[i]!
def sfx (ks : List Nat) : List UInt8 := if ks = [] then [] else 45 :: Rk.join (ks.map Rk.lab)

theorem sel_succ (k : Nat) (L : List Int) : sel (k + 1) L = sel k L ++ [kadj k L[k]!] := by
  unfold sel; rw [List.range_succ, List.map_append]; rfl
theorem sel_len (k : Nat) (L : List Int) : (sel k L).length = k := by unfold sel; simp
theorem kadj_lt (i : Nat) (x : Int) : kadj i x < 12 := by
  obtain ⟨k, h1, h2⟩ := pk_nat x 12 (by decide)
  unfold kadj
  rw [h1]
  split
  · decide
  · omega
theorem join_snoc : ∀ (l : List (List UInt8)) (x : List UInt8), l ≠ [] → Rk.join (l ++ [x]) = Rk.join l ++ 46 :: x
  | [], _, h => absurd rfl h
  | [y], x, _ => rfl
  | y :: z :: t, x, _ => by
    have := join_snoc (z :: t) x (by simp)
    rw [List.cons_append, List.cons_append, Rk.join, ← List.cons_append, this, Rk.join]
    simp
theorem sfx_succ (k : Nat) (L : List Int) : sfx (sel (k + 1) L) = sfx (sel k L) ++ (if k = 0 then (45 : UInt8) else 46) :: Rk.lab (kadj k L[k]!) := by
  rw [sel_succ]
  unfold sfx
  rw [if_neg (by simp)]
  by_cases h : k = 0
  · subst h
    rw [if_pos rfl, if_pos (by rfl)]
    rfl
  · have hne : sel k L ≠ [] := fun e => h (by have := sel_len k L; rw [e] at this; simpa using this.symm)
    rw [if_neg h, if_neg hne, List.map_append, List.map_cons, List.map_nil, join_snoc _ _ (by simpa using hne)]
    simp

set_option maxRecDepth 100000 in
set_option maxHeartbeats 8000000 in
theorem spell_core (a b c : Int) (ad : Option Addr) (len cap : Nat) (L : List Int) (w : World) (ka kb kc : Nat) (da db dc : ByteArray)
    (p0 : ∀ W, Calls Tryd.prog 8 #[.int .i64 a, .int .i64 1000000] W fun e w' => e = .returned (.int .i64 ka) ∧ w' = W)
    (p1 : ∀ W, Calls Tryd.prog 8 #[.int .i64 b, .int .i64 1000000] W fun e w' => e = .returned (.int .i64 kb) ∧ w' = W)
    (p2 : ∀ W, Calls Tryd.prog 8 #[.int .i64 c, .int .i64 1000000] W fun e w' => e = .returned (.int .i64 kc) ∧ w' = W)
    (d0 : ∀ W, Calls Tryd.prog 12 #[.int .i64 ka] W fun e w' => e = .returned (.string da) ∧ Below W.heap.size W w')
    (d1 : ∀ W, Calls Tryd.prog 12 #[.int .i64 kb] W fun e w' => e = .returned (.string db) ∧ Below W.heap.size W w')
    (d2 : ∀ W, Calls Tryd.prog 12 #[.int .i64 kc] W fun e w' => e = .returned (.string dc) ∧ Below W.heap.size W w')
    (h0 : da.size ≤ 6) (h1 : db.size ≤ 6) (h2 : dc.size ≤ 6)
    (hL : ∀ j, j < len → ∃ lb lo, ad = some ⟨lb, lo, none⟩ ∧ lb < w.heap.size ∧ w.cell? ⟨lb, lo + j, none⟩ = some (.int .i64 L[j]!) ∧ -9223372036854775808 ≤ L[j]! ∧ L[j]! ≤ 9223372036854775807)
    (hlen : (len : Int) ≤ 9223372036854775807) :
    Calls Tryd.prog 6 #[.agg #[.int .i64 a, .int .i64 b, .int .i64 c, .slice ad len cap]] w fun e w' => ∃ (t : ByteArray) (sl : Value), e = .returned (.tuple #[.string t, .agg #[.int .i64 ka, .int .i64 kb, .int .i64 kc, sl]]) ∧ Below w.heap.size w w' ∧ t.data.toList = 118 :: (da.data.toList ++ 46 :: (db.data.toList ++ 46 :: dc.data.toList)) ++ sfx (sel (min len 3) L) ∧ w'.ownsRow (w.heap.size + 3) 3 1 sl (min len 3) ((sel (min len 3) L).map fun (n : Nat) => Value.int .i64 (n : Int)) := by
  have HL : Hid (∀ j, j < len → ∃ lb lo, ad = some ⟨lb, lo, none⟩ ∧ lb < w.heap.size ∧ w.cell? ⟨lb, lo + j, none⟩ = some (.int .i64 L[j]!) ∧ -9223372036854775808 ≤ L[j]! ∧ L[j]! ≤ 9223372036854775807) := hL
  clear hL
  have S0 : Hid (Sp w _ a b c (.slice ad len cap) ka 0 0 (.slice none 0 0)) := Sp.start w a b c (.slice ad len cap) ka
  go_enter Tryd.func6, Tryd.ntmps6
  go_wp2
  refine wp_loop_rounds 4 ?_
  rw [rounds_succ]
  go_wp2_with (first | (go_at_call_of 8 a; refine (p0 _).mono ?_; rintro e w' ⟨rfl, rfl⟩) | (go_at_call 12; fail))
  refine (d0 _).mono ?_
  rintro e w1 ⟨rfl, hb1⟩
  have S1 := S0.out.below hb1
  clear hb1 S0
  obtain ⟨⟨x0, x1, x2, x3⟩, _⟩ := cells4 S1.2.2.1
  obtain ⟨⟨y0, y1, y2, y3⟩, ⟨g0, g1, g2, g3⟩⟩ := cells4 S1.2.2.2.2
  have S1' : Hid (Sp w _ a b c (.slice ad len cap) ka kb 0 (.slice none 0 0)) := (S1.set kb (.slice none 0 0)).2.1
  clear S1
  have hs1 : (⟨#[118]⟩ : ByteArray).size = 1 := rfl
  go_wp2
  have hz1 : (({ data := #[118] } : ByteArray) ++ da).size ≤ 7 := cat_size _ _ 1 6 (by decide) h0
  have T1 : Hid ((({ data := #[118] } : ByteArray) ++ da).data.toList = 118 :: da.data.toList) := by show (_ ++ da).data.toList = _; rw [app_data]; rfl
  generalize (({ data := #[118] } : ByteArray) ++ da) = t1 at hz1 T1 ⊢
  rw [rounds_succ]
  go_wp2_with (first | (go_at_call_of 8 b; refine (p1 _).mono ?_; rintro e w' ⟨rfl, rfl⟩) | (go_at_call 12; fail))
  refine (d1 _).mono ?_
  rintro e w2 ⟨rfl, hb2⟩
  have S2 := S1'.out.below hb2
  clear hb2 S1' x0 x1 x2 x3 y0 y1 y2 y3 g0 g1 g2 g3
  obtain ⟨⟨x0, x1, x2, x3⟩, _⟩ := cells4 S2.2.2.1
  obtain ⟨⟨y0, y1, y2, y3⟩, ⟨g0, g1, g2, g3⟩⟩ := cells4 S2.2.2.2.2
  have S2' : Hid (Sp w _ a b c (.slice ad len cap) ka kb kc (.slice none 0 0)) := (S2.set kc (.slice none 0 0)).2.2.1
  clear S2
  have hz1' : (t1 ++ ({ data := #[46] } : ByteArray)).size ≤ 8 := cat_size _ _ 7 1 hz1 (by decide)
  go_wp2
  have hz2 : (t1 ++ ({ data := #[46] } : ByteArray) ++ db).size ≤ 14 := cat_size _ _ 8 6 hz1' h1
  have T2 : Hid ((t1 ++ ({ data := #[46] } : ByteArray) ++ db).data.toList = 118 :: (da.data.toList ++ 46 :: db.data.toList)) := by
    show (_ ++ db).data.toList = _
    rw [app_data, app_data, T1.out]
    simp
  clear T1 hz1'
  generalize (t1 ++ ({ data := #[46] } : ByteArray) ++ db) = t2 at hz2 T2 ⊢
  rw [rounds_succ]
  go_wp2_with (first | (go_at_call_of 8 c; refine (p2 _).mono ?_; rintro e w' ⟨rfl, rfl⟩) | (go_at_call 12; fail))
  refine (d2 _).mono ?_
  rintro e w3 ⟨rfl, hb3⟩
  have S3 := S2'.out.below hb3
  clear hb3 S2' x0 x1 x2 x3 y0 y1 y2 y3 g0 g1 g2 g3
  have hz2' : (t2 ++ ({ data := #[46] } : ByteArray)).size ≤ 15 := cat_size _ _ 14 1 hz2 (by decide)
  have S3' : Hid (Sp w w3 a b c (.slice ad len cap) ka kb kc (.slice none 0 0)) := S3
  clear S3
  go_wp2
  have hz3 : (t2 ++ ({ data := #[46] } : ByteArray) ++ dc).size ≤ 21 := cat_size _ _ 15 6 hz2' h2
  have T3 : Hid ((t2 ++ ({ data := #[46] } : ByteArray) ++ dc).data.toList = 118 :: (da.data.toList ++ 46 :: (db.data.toList ++ 46 :: dc.data.toList))) := by
    show (_ ++ dc).data.toList = _
    rw [app_data, app_data, T2.out]
    simp
  clear T2 hz2'
  generalize (t2 ++ ({ data := #[46] } : ByteArray) ++ dc) = t3 at hz3 T3 ⊢
  rw [rounds_succ]
  go_wp2
  have OW : w3.ownsRow (w.heap.size + 3) 3 1 (.slice none 0 0) 0 ((sel 0 L).map fun (n : Nat) => Value.int .i64 (n : Int)) := World.ownsRow_nil _ _ _ _
  have T3' : Hid (t3.data.toList = (118 :: (da.data.toList ++ 46 :: (db.data.toList ++ 46 :: dc.data.toList))) ++ sfx (sel 0 L)) := by
    show t3.data.toList = _ ++ []
    rw [List.append_nil]; exact T3.out
  clear T3
  generalize hbase : 118 :: (da.data.toList ++ 46 :: (db.data.toList ++ 46 :: dc.data.toList)) = base at T3'
  have HBS : Hid (118 :: (da.data.toList ++ 46 :: (db.data.toList ++ 46 :: dc.data.toList)) = base) := hbase
  clear hbase
  obtain ⟨i3, hi1, hi2, hi3, hi4⟩ := info3r
  have HI : Hid (Tryd.prog.info? 3 = some i3 ∧ i3.zero = some (.int .i64 0) ∧ i3.size = 1 ∧ i3.bytes = 8) := ⟨hi1, hi2, hi3, hi4⟩
  clear hi1 hi2 hi3 hi4
  go_loopg [5, 7] 3 (fun gg sv iv wr => ∃ (k : Nat) (t : ByteArray) (sl : Value), k ≤ 3 ∧ k ≤ len ∧ 3 - k ≤ gg ∧ iv = .int .i64 k ∧ sv = .string t ∧ t.size ≤ 21 + 9 * k ∧ Hid (Sp w wr a b c (.slice ad len cap) ka kb kc sl) ∧ wr.ownsRow (w.heap.size + 3) 3 1 sl k ((sel k L).map fun (n : Nat) => Value.int .i64 (n : Int)) ∧ Hid (t.data.toList = base ++ sfx (sel k L)))
  case atStart => exact ⟨0, t3, _, by omega, by omega, by omega, rfl, rfl, by omega, S3', OW, T3'⟩
  case round =>
    obtain ⟨k, t, sl, hk, hkl, hg, rfl, rfl, ht, S, hown, HT⟩ := hrel
    clear S3' OW T3'
    obtain ⟨⟨x0, x1, x2, x3⟩, _⟩ := cells4 S.out.2.2.1
    obtain ⟨⟨y0, y1, y2, y3⟩, ⟨g0, g1, g2, g3⟩⟩ := cells4 S.out.2.2.2.2
    have hsh : ∃ sad sc, sl = .slice sad k sc := by
      rcases hown.2 with ⟨h, h'⟩ | ⟨g, cp, cur, h, _⟩
      · exact ⟨none, 0, by rw [h', h]⟩
      · exact ⟨_, _, h⟩
    obtain ⟨sad, sc, rfl⟩ := hsh
    by_cases hgo : k < len ∧ k < 3
    · obtain ⟨hk1, hk2⟩ := hgo
      have hk1I : (k : Int) < (len : Int) := by omega
      have hk2I : (k : Int) < 3 := by omega
      obtain ⟨lb, lo, hade, hlb, hcell, hb1, hb2⟩ := HL.out k hk1
      have hcellr : wr.cell? ⟨lb, lo + k, none⟩ = some (.int .i64 L[k]!) := by rw [S.out.1.cell (p := ⟨lb, lo + k, none⟩) hlb]; exact hcell
      have pp := fun W => pick_any L[k]! 12 W (by decide) (by decide) hb1 hb2
      have HK : Hid (kadj k L[k]! = if (pk L[k]! 12).toNat = 3 ∧ 0 < k then 2 else (pk L[k]! 12).toNat) := rfl
      have HS : Hid (sfx (sel (k + 1) L) = sfx (sel k L) ++ (if k = 0 then (45 : UInt8) else 46) :: Rk.lab (kadj k L[k]!)) := sfx_succ k L
      have HSE : Hid (sel (k + 1) L = sel k L ++ [kadj k L[k]!]) := sel_succ k L
      have HKL := kadj_lt k L[k]!
      obtain ⟨kp, hkp, hkp12⟩ := pk_nat L[k]! 12 (by decide)
      rw [hkp] at pp
      have HKP : Hid (kadj k L[k]! = if kp = 3 ∧ 0 < k then 2 else kp) := by
        have := HK.out
        rw [hkp, Int.toNat_natCast] at this
        exact this
      generalize kadj k L[k]! = kk at HKP HS HSE HKL
      clear hb1 hb2 hcell HK hkp
      generalize L[k]! = lx at hcellr pp
      subst hade
      by_cases hk0 : k = 0
      · subst hk0
        have hkk : kk = kp := by have := HKP.out; rw [if_neg (fun h => by omega)] at this; exact this
        subst hkk
        clear HKP
        rw [Nat.add_zero] at hcellr
        by_cases h3 : kk = 3
        · have h3b : ((kk : Int) == 3) = true := beq_iff_eq.2 (by omega)
          clear h3
          go_wp2_with (go_at_call 8; fail)
          refine (pp _).mono ?_
          rintro e w' ⟨rfl, hw'⟩
          rw [hw']
          clear hw'
          go_wp2_with (at_builtin; refine wpList_append_own _ rfl _ _ 24 rfl (w.heap.size + 3) 3 i3 (.int .i64 0) 1 8 Tryd.underlying24 HI.out.1 HI.out.2.1 HI.out.2.2.1 HI.out.2.2.2 rfl (by decide) _ _ _ rfl (hown.alloc _) ⟨wr.heap.size, 0, none⟩ 1 1 [.int .i64 kk] rfl rfl ?_ ?_ ?_ ?_ ?_ ?_)
          all_goals first
            | exact cell_one_new _ _ _
            | (show (Value.int .i64 _).oneCell' = true; rfl)
            | (show ∀ u ∈ [Value.int .i64 _], u.oneCell' = true; intro u hu; simp at hu; subst hu; rfl)
            | (show 0 + 1 ≤ maxLen; unfold maxLen; omega)
            | (show (0 + 1) * 8 ≤ 140737488355328; omega)
            | (unfold maxLen; omega)
            | omega
            | (show w.heap.size + 3 ≤ (wr.alloc _).heap.size; have := S.out.2.1; simp; omega)
            | (show w.heap.size + 3 ≤ wr.heap.size + 1; have := S.out.2.1; omega)
            | skip
          intro v' w1 hown' hgrow _
          have SG := (S.out.below ((Below.refl _ _).alloc (Nat.le_refl _) _)).grown hgrow (own_base3 hown)
          have hsh' : ∃ sad' sc', v' = .slice sad' (0 + 1) sc' := by
            rcases hown'.2 with ⟨_, h'⟩ | ⟨g, cp, cur, h, _⟩
            · omega
            · exact ⟨_, _, h⟩
          obtain ⟨sad', sc', hv'⟩ := hsh'
          rw [hv'] at hown' ⊢
          have SN : Hid (Sp w _ a b c _ ka kb kc (.slice sad' (0 + 1) sc')) := (SG.set 0 (.slice sad' (0 + 1) sc')).2.2.2
          have hown1 := ownsRow_setCell_below hown' (a := ⟨w.heap.size + 2, 3, none⟩) (by show w.heap.size + 2 < w.heap.size + 3; omega) (.slice sad' (0 + 1) sc')
          rw [show ((sel 0 L).map fun (n : Nat) => Value.int .i64 (n : Int)) ++ [Value.int .i64 (kk : Int)] = (sel (0 + 1) L).map fun (n : Nat) => Value.int .i64 (n : Int) from by rw [HSE.out, List.map_append ]; rfl] at hown1
          obtain ⟨⟨z0, z1, z2, z3⟩, ⟨f0, f1, f2, f3⟩⟩ := cells4 SG.2.2.2.2
          clear hv' hown' hgrow hown SG S x0 x1 x2 x3 y0 y1 y2 y3 g0 g1 g2 g3 hcellr pp
          obtain ⟨lbl, hlz, hlk, HLB⟩ : ∃ lbl : ByteArray, lbl.size ≤ 8 ∧ (∀ W, Calls Tryd.prog 13 #[.int .i64 kk] W fun e w' => e = .returned (.string lbl) ∧ w' = W) ∧ Hid (lbl.data.toList = Rk.lab kk) := ⟨⟨(Rk.lab kk).toArray⟩, lab_size kk HKL, fun W => labelOf_any kk HKL W, rfl⟩
          have hzt := cat_size t (⟨#[45]⟩ : ByteArray) (21 + 9 * 0) 1 ht (by decide)
          have HTN : Hid ((t ++ (⟨#[45]⟩ : ByteArray) ++ lbl).data.toList = base ++ sfx (sel (0 + 1) L)) := by
            show (_ ++ lbl).data.toList = _
            rw [app_data, app_data, HT.out, HS.out, HLB.out]
            simp
          have hzn := cat_size (t ++ (⟨#[45]⟩ : ByteArray)) lbl (21 + 9 * 0 + 1) 8 hzt hlz
          go_wp2_with (go_at_call 13; fail)
          refine (hlk _).mono ?_
          rintro e w2 ⟨rfl, hw2⟩
          rw [hw2]
          clear hw2 hlk
          go_wp2
          go_roundg (3 - (0 + 1))
          case measure => omega
          case rel => exact ⟨0 + 1, _, _, by omega, by omega, by omega, by go_num, rfl, by omega, SN, hown1, HTN⟩
        · have h3b : ((kk : Int) == 3) = false := beq_eq_false_iff_ne.2 (by omega)
          clear h3
          go_wp2_with (go_at_call 8; fail)
          refine (pp _).mono ?_
          rintro e w' ⟨rfl, hw'⟩
          rw [hw']
          clear hw'
          go_wp2_with (at_builtin; refine wpList_append_own _ rfl _ _ 24 rfl (w.heap.size + 3) 3 i3 (.int .i64 0) 1 8 Tryd.underlying24 HI.out.1 HI.out.2.1 HI.out.2.2.1 HI.out.2.2.2 rfl (by decide) _ _ _ rfl (hown.alloc _) ⟨wr.heap.size, 0, none⟩ 1 1 [.int .i64 kk] rfl rfl ?_ ?_ ?_ ?_ ?_ ?_)
          all_goals first
            | exact cell_one_new _ _ _
            | (show (Value.int .i64 _).oneCell' = true; rfl)
            | (show ∀ u ∈ [Value.int .i64 _], u.oneCell' = true; intro u hu; simp at hu; subst hu; rfl)
            | (show 0 + 1 ≤ maxLen; unfold maxLen; omega)
            | (show (0 + 1) * 8 ≤ 140737488355328; omega)
            | (unfold maxLen; omega)
            | omega
            | (show w.heap.size + 3 ≤ (wr.alloc _).heap.size; have := S.out.2.1; simp; omega)
            | (show w.heap.size + 3 ≤ wr.heap.size + 1; have := S.out.2.1; omega)
            | skip
          intro v' w1 hown' hgrow _
          have SG := (S.out.below ((Below.refl _ _).alloc (Nat.le_refl _) _)).grown hgrow (own_base3 hown)
          have hsh' : ∃ sad' sc', v' = .slice sad' (0 + 1) sc' := by
            rcases hown'.2 with ⟨_, h'⟩ | ⟨g, cp, cur, h, _⟩
            · omega
            · exact ⟨_, _, h⟩
          obtain ⟨sad', sc', hv'⟩ := hsh'
          rw [hv'] at hown' ⊢
          have SN : Hid (Sp w _ a b c _ ka kb kc (.slice sad' (0 + 1) sc')) := (SG.set 0 (.slice sad' (0 + 1) sc')).2.2.2
          have hown1 := ownsRow_setCell_below hown' (a := ⟨w.heap.size + 2, 3, none⟩) (by show w.heap.size + 2 < w.heap.size + 3; omega) (.slice sad' (0 + 1) sc')
          rw [show ((sel 0 L).map fun (n : Nat) => Value.int .i64 (n : Int)) ++ [Value.int .i64 (kk : Int)] = (sel (0 + 1) L).map fun (n : Nat) => Value.int .i64 (n : Int) from by rw [HSE.out, List.map_append ]; rfl] at hown1
          obtain ⟨⟨z0, z1, z2, z3⟩, ⟨f0, f1, f2, f3⟩⟩ := cells4 SG.2.2.2.2
          clear hv' hown' hgrow hown SG S x0 x1 x2 x3 y0 y1 y2 y3 g0 g1 g2 g3 hcellr pp
          obtain ⟨lbl, hlz, hlk, HLB⟩ : ∃ lbl : ByteArray, lbl.size ≤ 8 ∧ (∀ W, Calls Tryd.prog 13 #[.int .i64 kk] W fun e w' => e = .returned (.string lbl) ∧ w' = W) ∧ Hid (lbl.data.toList = Rk.lab kk) := ⟨⟨(Rk.lab kk).toArray⟩, lab_size kk HKL, fun W => labelOf_any kk HKL W, rfl⟩
          have hzt := cat_size t (⟨#[45]⟩ : ByteArray) (21 + 9 * 0) 1 ht (by decide)
          have HTN : Hid ((t ++ (⟨#[45]⟩ : ByteArray) ++ lbl).data.toList = base ++ sfx (sel (0 + 1) L)) := by
            show (_ ++ lbl).data.toList = _
            rw [app_data, app_data, HT.out, HS.out, HLB.out]
            simp
          have hzn := cat_size (t ++ (⟨#[45]⟩ : ByteArray)) lbl (21 + 9 * 0 + 1) 8 hzt hlz
          go_wp2_with (go_at_call 13; fail)
          refine (hlk _).mono ?_
          rintro e w2 ⟨rfl, hw2⟩
          rw [hw2]
          clear hw2 hlk
          go_wp2
          go_roundg (3 - (0 + 1))
          case measure => omega
          case rel => exact ⟨0 + 1, _, _, by omega, by omega, by omega, by go_num, rfl, by omega, SN, hown1, HTN⟩
      · have hkI : (0 : Int) < (k : Int) := by omega
        have hk0b : ((k : Int) == 0) = false := beq_eq_false_iff_ne.2 (by omega)
        have hk0' := hk0
        clear hk0
        have HK0 : Hid (¬ k = 0) := hk0'
        by_cases h3 : kp = 3
        · have hkk : kk = 2 := by have := HKP.out; rw [if_pos ⟨h3, by omega⟩] at this; exact this
          have h3b : ((kp : Int) == 3) = true := beq_iff_eq.2 (by omega)
          have HK2 : Hid (kk = 2) := hkk
          clear HKP h3 hkk
          go_wp2_with (go_at_call 8; fail)
          refine (pp _).mono ?_
          rintro e w' ⟨rfl, hw'⟩
          rw [hw']
          clear hw'
          go_wp2_with (at_builtin; refine wpList_append_own _ rfl _ _ 24 rfl (w.heap.size + 3) 3 i3 (.int .i64 0) 1 8 Tryd.underlying24 HI.out.1 HI.out.2.1 HI.out.2.2.1 HI.out.2.2.2 rfl (by decide) _ _ _ rfl (hown.alloc _) ⟨wr.heap.size, 0, none⟩ 1 1 [.int .i64 2] rfl rfl ?_ ?_ ?_ ?_ ?_ ?_)
          all_goals first
            | exact cell_one_new _ _ _
            | (show (Value.int .i64 _).oneCell' = true; rfl)
            | (show ∀ u ∈ [Value.int .i64 _], u.oneCell' = true; intro u hu; simp at hu; subst hu; rfl)
            | (show k + 1 ≤ maxLen; unfold maxLen; omega)
            | (show (k + 1) * 8 ≤ 140737488355328; omega)
            | (unfold maxLen; omega)
            | omega
            | (show w.heap.size + 3 ≤ (wr.alloc _).heap.size; have := S.out.2.1; simp; omega)
            | (show w.heap.size + 3 ≤ wr.heap.size + 1; have := S.out.2.1; omega)
            | skip
          intro v' w1 hown' hgrow _
          have SG := (S.out.below ((Below.refl _ _).alloc (Nat.le_refl _) _)).grown hgrow (own_base3 hown)
          have hsh' : ∃ sad' sc', v' = .slice sad' (k + 1) sc' := by
            rcases hown'.2 with ⟨_, h'⟩ | ⟨g, cp, cur, h, _⟩
            · omega
            · exact ⟨_, _, h⟩
          obtain ⟨sad', sc', hv'⟩ := hsh'
          rw [hv'] at hown' ⊢
          have SN : Hid (Sp w _ a b c _ ka kb kc (.slice sad' (k + 1) sc')) := (SG.set 0 (.slice sad' (k + 1) sc')).2.2.2
          have hown1 := ownsRow_setCell_below hown' (a := ⟨w.heap.size + 2, 3, none⟩) (by show w.heap.size + 2 < w.heap.size + 3; omega) (.slice sad' (k + 1) sc')
          rw [show ((sel k L).map fun (n : Nat) => Value.int .i64 (n : Int)) ++ [Value.int .i64 (2 : Int)] = (sel (k + 1) L).map fun (n : Nat) => Value.int .i64 (n : Int) from by rw [HSE.out, List.map_append , HK2.out]; rfl] at hown1
          obtain ⟨⟨z0, z1, z2, z3⟩, ⟨f0, f1, f2, f3⟩⟩ := cells4 SG.2.2.2.2
          clear hv' hown' hgrow hown SG S x0 x1 x2 x3 y0 y1 y2 y3 g0 g1 g2 g3 hcellr pp
          obtain ⟨lbl, hlz, hlk, HLB⟩ : ∃ lbl : ByteArray, lbl.size ≤ 8 ∧ (∀ W, Calls Tryd.prog 13 #[.int .i64 2] W fun e w' => e = .returned (.string lbl) ∧ w' = W) ∧ Hid (lbl.data.toList = Rk.lab kk) := ⟨⟨(Rk.lab 2).toArray⟩, lab_size 2 (by decide), fun W => labelOf_any 2 (by decide) W, (by show _ = Rk.lab kk; rw [HK2.out])⟩
          have hzt := cat_size t (⟨#[46]⟩ : ByteArray) (21 + 9 * k) 1 ht (by decide)
          have HTN : Hid ((t ++ (⟨#[46]⟩ : ByteArray) ++ lbl).data.toList = base ++ sfx (sel (k + 1) L)) := by
            show (_ ++ lbl).data.toList = _
            rw [app_data, app_data, HT.out, HS.out, HLB.out]
            rw [if_neg hk0']; simp
          have hzn := cat_size (t ++ (⟨#[46]⟩ : ByteArray)) lbl (21 + 9 * k + 1) 8 hzt hlz
          go_wp2_with (go_at_call 13; fail)
          refine (hlk _).mono ?_
          rintro e w2 ⟨rfl, hw2⟩
          rw [hw2]
          clear hw2 hlk
          go_wp2
          go_roundg (3 - (k + 1))
          case measure => omega
          case rel => exact ⟨k + 1, _, _, by omega, by omega, by omega, by go_num, rfl, by omega, SN, hown1, HTN⟩
        · have hkk : kk = kp := by have := HKP.out; rw [if_neg (fun h => h3 h.1)] at this; exact this
          have h3b : ((kp : Int) == 3) = false := beq_eq_false_iff_ne.2 (by omega)
          subst hkk
          clear HKP h3
          go_wp2_with (go_at_call 8; fail)
          refine (pp _).mono ?_
          rintro e w' ⟨rfl, hw'⟩
          rw [hw']
          clear hw'
          go_wp2_with (at_builtin; refine wpList_append_own _ rfl _ _ 24 rfl (w.heap.size + 3) 3 i3 (.int .i64 0) 1 8 Tryd.underlying24 HI.out.1 HI.out.2.1 HI.out.2.2.1 HI.out.2.2.2 rfl (by decide) _ _ _ rfl (hown.alloc _) ⟨wr.heap.size, 0, none⟩ 1 1 [.int .i64 kk] rfl rfl ?_ ?_ ?_ ?_ ?_ ?_)
          all_goals first
            | exact cell_one_new _ _ _
            | (show (Value.int .i64 _).oneCell' = true; rfl)
            | (show ∀ u ∈ [Value.int .i64 _], u.oneCell' = true; intro u hu; simp at hu; subst hu; rfl)
            | (show k + 1 ≤ maxLen; unfold maxLen; omega)
            | (show (k + 1) * 8 ≤ 140737488355328; omega)
            | (unfold maxLen; omega)
            | omega
            | (show w.heap.size + 3 ≤ (wr.alloc _).heap.size; have := S.out.2.1; simp; omega)
            | (show w.heap.size + 3 ≤ wr.heap.size + 1; have := S.out.2.1; omega)
            | skip
          intro v' w1 hown' hgrow _
          have SG := (S.out.below ((Below.refl _ _).alloc (Nat.le_refl _) _)).grown hgrow (own_base3 hown)
          have hsh' : ∃ sad' sc', v' = .slice sad' (k + 1) sc' := by
            rcases hown'.2 with ⟨_, h'⟩ | ⟨g, cp, cur, h, _⟩
            · omega
            · exact ⟨_, _, h⟩
          obtain ⟨sad', sc', hv'⟩ := hsh'
          rw [hv'] at hown' ⊢
          have SN : Hid (Sp w _ a b c _ ka kb kc (.slice sad' (k + 1) sc')) := (SG.set 0 (.slice sad' (k + 1) sc')).2.2.2
          have hown1 := ownsRow_setCell_below hown' (a := ⟨w.heap.size + 2, 3, none⟩) (by show w.heap.size + 2 < w.heap.size + 3; omega) (.slice sad' (k + 1) sc')
          rw [show ((sel k L).map fun (n : Nat) => Value.int .i64 (n : Int)) ++ [Value.int .i64 (kk : Int)] = (sel (k + 1) L).map fun (n : Nat) => Value.int .i64 (n : Int) from by rw [HSE.out, List.map_append ]; rfl] at hown1
          obtain ⟨⟨z0, z1, z2, z3⟩, ⟨f0, f1, f2, f3⟩⟩ := cells4 SG.2.2.2.2
          clear hv' hown' hgrow hown SG S x0 x1 x2 x3 y0 y1 y2 y3 g0 g1 g2 g3 hcellr pp
          obtain ⟨lbl, hlz, hlk, HLB⟩ : ∃ lbl : ByteArray, lbl.size ≤ 8 ∧ (∀ W, Calls Tryd.prog 13 #[.int .i64 kk] W fun e w' => e = .returned (.string lbl) ∧ w' = W) ∧ Hid (lbl.data.toList = Rk.lab kk) := ⟨⟨(Rk.lab kk).toArray⟩, lab_size kk HKL, fun W => labelOf_any kk HKL W, rfl⟩
          have hzt := cat_size t (⟨#[46]⟩ : ByteArray) (21 + 9 * k) 1 ht (by decide)
          have HTN : Hid ((t ++ (⟨#[46]⟩ : ByteArray) ++ lbl).data.toList = base ++ sfx (sel (k + 1) L)) := by
            show (_ ++ lbl).data.toList = _
            rw [app_data, app_data, HT.out, HS.out, HLB.out]
            rw [if_neg hk0']; simp
          have hzn := cat_size (t ++ (⟨#[46]⟩ : ByteArray)) lbl (21 + 9 * k + 1) 8 hzt hlz
          go_wp2_with (go_at_call 13; fail)
          refine (hlk _).mono ?_
          rintro e w2 ⟨rfl, hw2⟩
          rw [hw2]
          clear hw2 hlk
          go_wp2
          go_roundg (3 - (k + 1))
          case measure => omega
          case rel => exact ⟨k + 1, _, _, by omega, by omega, by omega, by go_num, rfl, by omega, SN, hown1, HTN⟩
    · have hmin : min len 3 = k := by omega
      have HM : Hid (min len 3 = k) := hmin
      clear hmin
      obtain ⟨⟨r0, r1, r2, r3⟩, ⟨q0, q1, q2, q3⟩⟩ := cells4 S.out.2.2.2.1
      by_cases hk1 : k < len
      · have hk1I : (k : Int) < (len : Int) := by omega
        have hk2I : (3 : Int) ≤ (k : Int) := by omega
        clear hgo hk1
        go_wp2
        go_region
        go_wp2
        refine bodyPost_ret (v := .tuple #[.string t, .agg #[.int .i64 ka, .int .i64 kb, .int .i64 kc, .slice sad k sc]]) (by simp [results, Tryd.results6, go_sem, r0, r1, r2, r3]) rfl ⟨t, _, rfl, ?_, ?_, ?_⟩
        · exact Below.drew ((((S.out.1.setCell (Nat.le_succ _) _).setCell (Nat.le_succ _) _).setCell (Nat.le_succ _) _).setCell (Nat.le_succ _) _)
        · rw [HT.out, ← HBS.out, HM.out]; rfl
        · rw [HM.out]
          exact ownsRow_setCell_below (ownsRow_setCell_below (ownsRow_setCell_below (ownsRow_setCell_below hown (by simp) _) (by simp) _) (by simp) _) (by simp) _
      · have hk1I : (len : Int) ≤ (k : Int) := by omega
        clear hgo hk1
        go_wp2
        go_region
        go_wp2
        refine bodyPost_ret (v := .tuple #[.string t, .agg #[.int .i64 ka, .int .i64 kb, .int .i64 kc, .slice sad k sc]]) (by simp [results, Tryd.results6, go_sem, r0, r1, r2, r3]) rfl ⟨t, _, rfl, ?_, ?_, ?_⟩
        · exact Below.drew ((((S.out.1.setCell (Nat.le_succ _) _).setCell (Nat.le_succ _) _).setCell (Nat.le_succ _) _).setCell (Nat.le_succ _) _)
        · rw [HT.out, ← HBS.out, HM.out]; rfl
        · rw [HM.out]
          exact ownsRow_setCell_below (ownsRow_setCell_below (ownsRow_setCell_below (ownsRow_setCell_below hown (by simp) _) (by simp) _) (by simp) _) (by simp) _

end Go.Proofs.YtelmkfkgpnadnaaDoor
