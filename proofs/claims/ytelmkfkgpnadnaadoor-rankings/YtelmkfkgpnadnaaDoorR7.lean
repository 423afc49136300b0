/-
  The walk of the law Rankings.
-/
import Derived.Test.YtelmkfkgpnadnaaDoorR6
namespace Go.Proofs.YtelmkfkgpnadnaaDoor
open Go.RowKit

/-- What is kept through the calls: the two blocks that hold what was spelt. -/
def Kp (w W : World) (pb qb : Nat) (P Q : Obj) (s1 s2 : Value) (ks ms : List Nat) : Prop :=
  Below w.heap.size w W ∧ pb < W.heap.size ∧ qb < W.heap.size ∧ W.heap[pb]? = some P ∧ W.heap[qb]? = some Q ∧ IntOf W s1 ks ∧ IntOf W s2 ms

theorem Kp.below {w W W' : World} {pb qb : Nat} {P Q : Obj} {s1 s2 : Value} {ks ms : List Nat} (h : Kp w W pb qb P Q s1 s2 ks ms) (hb : Below W.heap.size W W') : Kp w W' pb qb P Q s1 s2 ks ms := by
  obtain ⟨h1, h2, h3, h4, h5, h6, h7⟩ := h
  have := hb.size
  exact ⟨h1.trans (hb.mono h1.size), by omega, by omega, by rw [hb.block _ h2]; exact h4, by rw [hb.block _ h3]; exact h5, h6.below hb, h7.below hb⟩

set_option maxRecDepth 100000 in
set_option maxHeartbeats 8000000 in
theorem rankings_core (x0 x1 x2 y0 y1 y2 : Value) (la lb : Value) (pt : Int) (w : World) (hm : Ml w) (a0 a1 a2 b0 b1 b2 : Nat) (ks ms : List Nat) (hk3 : ks.length ≤ 3) (hm3 : ms.length ≤ 3) (hk12 : ∀ i ∈ ks, i < 12) (hm12 : ∀ i ∈ ms, i < 12)
    (hsx : ∃ (p q r : Int) (ad : Option Addr) (n c : Nat), x0 = .int .i64 p ∧ x1 = .int .i64 q ∧ x2 = .int .i64 r ∧ la = .slice ad n c)
    (hsy : ∃ (p q r : Int) (ad : Option Addr) (n c : Nat), y0 = .int .i64 p ∧ y1 = .int .i64 q ∧ y2 = .int .i64 r ∧ lb = .slice ad n c)
    (hp1 : -9223372036854775808 ≤ pt) (hp2 : pt ≤ 9223372036854775807)
    (kx : ∀ W, Below w.heap.size w W → Calls Tryd.prog 6 #[.agg #[x0, x1, x2, la]] W fun e w' => ∃ (t : ByteArray) (sl : Value), e = .returned (.tuple #[.string t, .agg #[.int .i64 a0, .int .i64 a1, .int .i64 a2, sl]]) ∧ Below W.heap.size W w' ∧ Pv.parse t.data.toList = some (ver a0 a1 a2 ks) ∧ t.size ≤ 40 ∧ IntOf w' sl ks)
    (ky : ∀ W, Below w.heap.size w W → Calls Tryd.prog 6 #[.agg #[y0, y1, y2, lb]] W fun e w' => ∃ (t : ByteArray) (sl : Value), e = .returned (.tuple #[.string t, .agg #[.int .i64 b0, .int .i64 b1, .int .i64 b2, sl]]) ∧ Below W.heap.size W w' ∧ Pv.parse t.data.toList = some (ver b0 b1 b2 ms) ∧ t.size ≤ 40 ∧ IntOf w' sl ms) :
    Calls Tryd.prog 4 #[.agg #[x0, x1, x2, la], .agg #[y0, y1, y2, lb], .int .i64 pt] w fun e w' => e = .returned (.bool true) ∧ Below w.heap.size w w' := by
  obtain ⟨p, q, r, ad, n, c, rfl, rfl, rfl, rfl⟩ := hsx
  obtain ⟨p', q', r', ad', n', c', rfl, rfl, rfl, rfl⟩ := hsy
  have HM : Hid (Ml w) := hm
  clear hm
  go_enter Tryd.func4, Tryd.ntmps4
  go_wp2_with (go_at_call 6; fail)
  refine (kx _ (((Below.refl _ _).alloc (Nat.le_refl _) _).alloc (by simp) _)).mono ?_
  rintro e w1 ⟨t, sl, rfl, hb1, hpt, ht40, hi1⟩
  have hb1w : Below w.heap.size w w1 := (((Below.refl _ _).alloc (Nat.le_refl _) _).alloc (by simp) _).trans (hb1.mono (by simp; omega))
  have hblk : w1.heap[w.heap.size + 1]? = some (.cells #[.int .i64 p', .int .i64 q', .int .i64 r', .slice ad' n' c'] 26) := by
    rw [hb1.block _ (by simp)]
    show ((w.heap.push _).push _)[w.heap.size + 1]? = _
    rw [Array.getElem?_push, if_pos (by simp)]
  have hz1 : w.heap.size + 1 < w1.heap.size := by have := hb1.size; simp at this; omega
  obtain ⟨⟨g0, g1, g2, g3⟩, _⟩ := cells4 hblk
  have I1 : Hid (IntOf w1 sl ks) := hi1
  obtain ⟨sad, scp, hsl, _⟩ := hi1
  rw [hsl] at I1 ⊢
  clear hsl hblk hb1
  have HP1 : Hid (Pv.parse t.data.toList = some (ver a0 a1 a2 ks)) := hpt
  clear hpt
  go_wp2_with (go_at_call 6; fail)
  refine (ky _ (hb1w.alloc hb1w.size _)).mono ?_
  rintro e w2 ⟨u, sl', rfl, hb2, hpt, hu40, hi2⟩
  have HP2 : Hid (Pv.parse u.data.toList = some (ver b0 b1 b2 ms)) := hpt
  clear hpt g0 g1 g2 g3
  have I2 : IntOf w2 sl' ms := hi2
  obtain ⟨sad', scp', hsl', _⟩ := hi2
  rw [hsl'] at I2 ⊢
  clear hsl'
  have hz2 : w1.heap.size < w2.heap.size := by have := hb2.size; simp at this; omega
  have hb12 : Below w1.heap.size w1 w2 := ((Below.refl _ _).alloc (Nat.le_refl _) _).trans (hb2.mono (by simp))
  have KK : Hid (Kp w (w2.alloc (.cells #[.int .i64 b0, .int .i64 b1, .int .i64 b2, .slice sad' ms.length scp'] 26)) w1.heap.size w2.heap.size (.cells #[.int .i64 a0, .int .i64 a1, .int .i64 a2, .slice sad ks.length scp] 26) (.cells #[.int .i64 b0, .int .i64 b1, .int .i64 b2, .slice sad' ms.length scp'] 26) (.slice sad ks.length scp) (.slice sad' ms.length scp') ks ms) := by
    have hw2 : Below w.heap.size w w2 := hb1w.trans (hb12.mono hb1w.size)
    have hal : Below w2.heap.size w2 (w2.alloc (.cells #[.int .i64 b0, .int .i64 b1, .int .i64 b2, .slice sad' ms.length scp'] 26)) := (Below.refl _ _).alloc (Nat.le_refl _) _
    refine ⟨hw2.alloc hw2.size _, by simp; omega, by simp, ?_, ?_, (I1.out.below hb12).below hal, I2.below hal⟩
    · rw [Below.heap_alloc _ _ _ hz2, hb2.block _ (by simp)]
      show (w1.heap.push _)[w1.heap.size]? = _
      rw [Array.getElem?_push, if_pos rfl]
    · show (w2.heap.push _)[w2.heap.size]? = _
      rw [Array.getElem?_push, if_pos rfl]
  clear hb1w hb12 hb2 I1 I2
  have cv := cmpV_rk a0 a1 a2 b0 b1 b2 ks ms hk12 hm12
  have cv' := cmpV_rk b0 b1 b2 a0 a1 a2 ms ks hm12 hk12
  have cs := cmpV_rk a0 a1 a2 a0 a1 a2 ks ks hk12 hk12
  rw [rkZ_anti [a0, a1, a2] [b0, b1, b2] ks ms] at cv'
  rw [rkZ_self] at cs
  have hzs := rkZ_small [a0, a1, a2] [b0, b1, b2] ks ms
  have kab : ∀ W, Below w.heap.size w W → Calls Tryd.prog 7 #[.string t, .string u] W fun e w' => e = .returned (.tuple #[.int .i64 (rkZ [a0, a1, a2] [b0, b1, b2] ks ms), .int .i64 0]) ∧ Below W.heap.size W w' := by
    intro W hb
    have := compare_any t u W (HM.out.below hb)
    unfold Pv.cmpR at this
    rw [HP1.out, HP2.out] at this
    dsimp only at this
    rw [cv] at this
    exact this
  have kba : ∀ W, Below w.heap.size w W → Calls Tryd.prog 7 #[.string u, .string t] W fun e w' => e = .returned (.tuple #[.int .i64 (-rkZ [a0, a1, a2] [b0, b1, b2] ks ms), .int .i64 0]) ∧ Below W.heap.size W w' := by
    intro W hb
    have := compare_any u t W (HM.out.below hb)
    unfold Pv.cmpR at this
    rw [HP1.out, HP2.out] at this
    dsimp only at this
    rw [cv'] at this
    exact this
  have kaa : ∀ W, Below w.heap.size w W → Calls Tryd.prog 7 #[.string t, .string t] W fun e w' => e = .returned (.tuple #[.int .i64 0, .int .i64 0]) ∧ Below W.heap.size W w' := by
    intro W hb
    have := compare_any t t W (HM.out.below hb)
    unfold Pv.cmpR at this
    rw [HP1.out] at this
    dsimp only at this
    rw [cs] at this
    exact this
  have krk : ∀ W, Below w.heap.size w W → IntOf W (.slice sad ks.length scp) ks → IntOf W (.slice sad' ms.length scp') ms → Calls Tryd.prog 9 #[.agg #[.int .i64 a0, .int .i64 a1, .int .i64 a2, .slice sad ks.length scp], .agg #[.int .i64 b0, .int .i64 b1, .int .i64 b2, .slice sad' ms.length scp']] W fun e w' => e = .returned (.int .i64 (rkZ [a0, a1, a2] [b0, b1, b2] ks ms)) ∧ Below W.heap.size W w' := by
    intro W _ i1 i2
    refine rank_core a0 a1 a2 b0 b1 b2 [a0, a1, a2] [b0, b1, b2] ks ms _ _ _ W rfl rfl hk3 hm3 i1 i2 ?_ ?_ ?_ ?_
    · intro h; unfold rkZ; rw [if_neg h]
    · intro h h1 h2; unfold rkZ; rw [if_pos h, if_pos ⟨h1, h2⟩]
    · intro h h1 h2; unfold rkZ; rw [if_pos h, if_neg (by omega), if_pos ⟨h1, h2⟩]
    · intro h h1; unfold rkZ; rw [if_pos h, if_neg (by omega), if_neg (by omega)]
  have kbad : ∀ (s : ByteArray), (95 : UInt8) ∈ s.data.toList → ∀ W, Below w.heap.size w W → (Calls Tryd.prog 7 #[.string s, .string u] W fun e w' => e = .returned (.tuple #[.int .i64 0, .int .i64 3]) ∧ Below W.heap.size W w') ∧ (Calls Tryd.prog 7 #[.string u, .string s] W fun e w' => e = .returned (.tuple #[.int .i64 0, .int .i64 3]) ∧ Below W.heap.size W w') := by
    intro s hs W hb
    have h1 := compare_any s u W (HM.out.below hb)
    have h2 := compare_any u s W (HM.out.below hb)
    unfold Pv.cmpR at h1 h2
    rw [Rk.no_low hs] at h1 h2
    refine ⟨h1, ?_⟩
    rw [HP2.out] at h2
    exact h2
  generalize rkZ [a0, a1, a2] [b0, b1, b2] ks ms = z at hzs kab kba krk
  clear cv cv' cs HP1 HP2 HM kx ky
  go_wp2_with (go_at_call 7; fail)
  refine (kab _ KK.out.1).mono ?_
  rintro e w3 ⟨rfl, hb3⟩
  have K3 : Hid (Kp w w3 _ _ _ _ _ _ ks ms) := KK.out.below hb3
  clear hb3 KK kab
  go_wp2_with (go_at_call 7; fail)
  refine (kba _ K3.out.1).mono ?_
  rintro e w4 ⟨rfl, hb4⟩
  have K4 : Hid (Kp w w4 _ _ _ _ _ _ ks ms) := K3.out.below hb4
  clear hb4 K3 kba
  go_wp2_with (go_at_call 7; fail)
  refine (kaa _ K4.out.1).mono ?_
  rintro e w5 ⟨rfl, hb5⟩
  have K5 : Hid (Kp w w5 _ _ _ _ _ _ ks ms) := K4.out.below hb5
  clear hb5 K4 kaa
  have kpk := fun W => pick_any pt ((t.size : Int) + 1) W (by omega) (by omega) hp1 hp2
  obtain ⟨kp, hkp, hkl⟩ := pk_nat pt ((t.size : Int) + 1) (by omega)
  rw [hkp] at kpk
  clear hkp
  have hkl' : kp ≤ t.size := by omega
  clear hkl
  go_wp2_with (go_at_call 8; fail)
  refine (kpk _).mono ?_
  rintro e w6 ⟨rfl, hw6⟩
  rw [hw6]
  clear hw6 kpk
  go_wp2
  have hkI : (kp : Int) ≤ (t.size : Int) := by omega
  have hk0 : (0 : Int) ≤ (kp : Int) := by omega
  have he1 : (t.extract 0 kp).size ≤ 40 := by simp; omega
  have he2 : (t.extract kp t.size).size ≤ 40 := by simp; omega
  have he3 : ((t.extract 0 kp) ++ (⟨#[95]⟩ : ByteArray)).size ≤ 41 := cat_size _ _ 40 1 he1 (by decide)
  have ht47 : (t.size : Int) ≤ 40 := by omega
  go_quiet (fail)
  go_wp2_with (go_at_call 7; fail)
  have hmem : (95 : UInt8) ∈ (t.extract 0 kp ++ (⟨#[95]⟩ : ByteArray) ++ t.extract kp t.size).data.toList := by
    rw [app_data, app_data]
    simp
  have kb := kbad _ hmem
  generalize (t.extract 0 kp ++ (⟨#[95]⟩ : ByteArray) ++ t.extract kp t.size) = bd at kb ⊢
  clear kbad hmem he1 he2 he3
  have K5' : Hid (Kp w (w5.drewN nq) _ _ _ _ _ _ ks ms) := K5.out.below (below_drewN' (Below.refl _ _) nq)
  clear K5
  refine (kb _ K5'.out.1).1.mono ?_
  rintro e w6 ⟨rfl, hb6⟩
  have K6 : Hid (Kp w w6 _ _ _ _ _ _ ks ms) := K5'.out.below hb6
  clear hb6 K5'
  go_wp2_with (go_at_call 7; fail)
  refine (kb _ K6.out.1).2.mono ?_
  rintro e w7 ⟨rfl, hb7⟩
  have K7 : Hid (Kp w w7 _ _ _ _ _ _ ks ms) := K6.out.below hb7
  clear hb7 K6 kb
  obtain ⟨⟨g0, g1, g2, g3⟩, _⟩ := cells4 K7.out.2.2.2.1
  obtain ⟨⟨f0, f1, f2, f3⟩, _⟩ := cells4 K7.out.2.2.2.2.1
  have krk := krk w7 K7.out.1 K7.out.2.2.2.2.2.1 K7.out.2.2.2.2.2.2
  have HBW : Below w.heap.size w w7 := K7.out.1
  clear K7
  have hzz : (z == z) = true := by simp
  have hnz : (-z == -z) = true := by simp
  obtain ⟨hzs1, hzs2⟩ := hzs
  go_wp2_with (go_at_call 9; refine krk.mono ?_; rintro e w8 ⟨rfl, hb8⟩)
  go_ret
  exact ⟨rfl, HBW.trans (hb8.mono HBW.size)⟩

end Go.Proofs.YtelmkfkgpnadnaaDoor
