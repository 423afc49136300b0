/-
  The statement's own call: Manifests.
-/
import Derived.Test.YtelmkfkgpnadnaaGreatDoorKBM9
import Derived.Test.YtelmkfkgpnadnaaGreatDoorKBC
import Derived.Test.YtelmkfkgpnadnaaGreatDoorKQI
import Derived.Test.YtelmkfkgpnadnaaGreatDoorKCF
import Derived.Test.YtelmkfkgpnadnaaGreatDoorKBA
namespace Go.Proofs.YtelmkfkgpnadnaaGreatDoor
open Go.RowKit Mf
namespace Bm

variable {w w' w0 : World} {bp n kb : Nat}

theorem own_ne {B e s m : Nat} {v : Value} {xs : List Value} {W : World} (h : W.ownsRow B e s v m xs) (b : Nat) (hb : v.ownBlock = some b) : b < W.heap.size := (h.lt b hb).2

set_option maxRecDepth 100000 in
set_option maxHeartbeats 4000000 in
theorem read_any (s : ByteArray) (w : World) (h : Book w0 w bp n kb) (hk : kb ≤ 900) (hn : n ≤ 800000) :
    Calls Tryz.prog 44 #[.pointer (some ⟨bp, 0, none⟩), .string s] w fun e w' => e = .returned (.bool true) ∧ Book w0 w' bp (n + 4) (kb + 16) := by
  have HI : Hid (Book w0 w bp n kb) := h
  have kp := progManifest s w (h.old.2.below h.old.1)
  have kd := fun W => docManifest s W
  clear h
  go_enter Tryz.func44, Tryz.ntmps44
  go_wp2_with (go_at_call 20; fail)
  go_at_call 20
  refine kp.mono ?_
  rintro e w1 ⟨p, rv, xv, sv, lv, rfl, ho1, hb1, hap⟩
  clear kp
  have HO1 : Hid (OutM w.heap.size s w1 p rv xv sv lv) := ho1
  have HB1 : Hid (Below w.heap.size w w1) := hb1
  have HAp : Hid (Apart rv xv sv ∧ ∀ b, lv.ownBlock = some b → rv.ownBlock ≠ some b ∧ xv.ownBlock ≠ some b ∧ sv.ownBlock ≠ some b) := hap
  obtain ⟨ra, rn, rc, e1⟩ := own_shape ho1.re
  obtain ⟨xa, xn, xc, e2⟩ := own_shape ho1.xe
  obtain ⟨sa, sn, sc, e3⟩ := own_shape ho1.se
  obtain ⟨la, ln, lc, e4⟩ := own_shape ho1.le
  subst e1 e2 e3 e4
  clear ho1 hb1 hap
  have HBx : Hid (Below w1.heap.size w1 (w1.alloc (.cells #[.string p, .slice ra rn rc, .slice xa xn xc, .slice sa sn sc] 26)) ∧ (w1.alloc (.cells #[.string p, .slice ra rn rc, .slice xa xn xc, .slice sa sn sc] 26)).heap[w1.heap.size]? = some (.cells #[.string p, .slice ra rn rc, .slice xa xn xc, .slice sa sn sc] 26) ∧ w1.heap.size < (w1.alloc (.cells #[.string p, .slice ra rn rc, .slice xa xn xc, .slice sa sn sc] 26)).heap.size) := ⟨(Below.refl _ _).alloc (Nat.le_refl _) _, heap_alloc_new _ _, by simp⟩
  go_wp2_with (go_at_call 72; fail)
  generalize w1.alloc (.cells #[.string p, .slice ra rn rc, .slice xa xn xc, .slice sa sn sc] 26) = W1 at *
  go_at_call 72
  refine (kd _).mono ?_
  rintro e w2 ⟨p', rv', xv', sv', lv', rfl, ho2, hb2⟩
  clear kd
  have hpp : p' = p := ho2.pe.trans HO1.out.pe.symm
  subst hpp
  have HO2 : Hid (OutM W1.heap.size s w2 p' rv' xv' sv' lv') := ho2
  have HB2 : Hid (Below W1.heap.size W1 w2) := hb2
  obtain ⟨ra', rn', rc', e1⟩ := own_shape ho2.re
  obtain ⟨xa', xn', xc', e2⟩ := own_shape ho2.xe
  obtain ⟨sa', sn', sc', e3⟩ := own_shape ho2.se
  obtain ⟨la', ln', lc', e4⟩ := own_shape ho2.le
  subst e1 e2 e3 e4
  clear ho2 hb2
  have HB12 : Hid (Below w1.heap.size w1 w2 ∧ w2.heap[w1.heap.size]? = some (.cells #[.string p', .slice ra rn rc, .slice xa xn xc, .slice sa sn sc] 26) ∧ w1.heap.size < w2.heap.size) := ⟨HBx.out.1.trans (HB2.out.mono HBx.out.1.size), by rw [HB2.out.block w1.heap.size HBx.out.2.2]; exact HBx.out.2.1, Nat.lt_of_lt_of_le HBx.out.2.2 HB2.out.size⟩
  have HBy : Hid (Below w2.heap.size w2 (w2.alloc (.cells #[.string p', .slice ra' rn' rc', .slice xa' xn' xc', .slice sa' sn' sc'] 26)) ∧ (w2.alloc (.cells #[.string p', .slice ra' rn' rc', .slice xa' xn' xc', .slice sa' sn' sc'] 26)).heap[w2.heap.size]? = some (.cells #[.string p', .slice ra' rn' rc', .slice xa' xn' xc', .slice sa' sn' sc'] 26)) := ⟨(Below.refl _ _).alloc (Nat.le_refl _) _, heap_alloc_new _ _⟩
  have HQ1 : Hid (OutM w.heap.size s (w2.alloc (.cells #[.string p', .slice ra' rn' rc', .slice xa' xn' xc', .slice sa' sn' sc'] 26)) p' (.slice ra rn rc) (.slice xa xn xc) (.slice sa sn sc) (.slice la ln lc)) := (HO1.out.below HB12.out.1).below HBy.out.1
  have HQ2 : Hid (OutM W1.heap.size s (w2.alloc (.cells #[.string p', .slice ra' rn' rc', .slice xa' xn' xc', .slice sa' sn' sc'] 26)) p' (.slice ra' rn' rc') (.slice xa' xn' xc') (.slice sa' sn' sc') (.slice la' ln' lc')) := HO2.out.below HBy.out.1
  obtain ⟨⟨g0, g1, g2, g3⟩, _⟩ := Dr.cells4 HB12.out.2.1
  have hl12 : w1.heap.size < w2.heap.size := HB12.out.2.2
  have HB13 : Hid (Below w1.heap.size w1 (w2.alloc (.cells #[.string p', .slice ra' rn' rc', .slice xa' xn' xc', .slice sa' sn' sc'] 26)) ∧ (w2.alloc (.cells #[.string p', .slice ra' rn' rc', .slice xa' xn' xc', .slice sa' sn' sc'] 26)).heap[w1.heap.size]? = some (.cells #[.string p', .slice ra rn rc, .slice xa xn xc, .slice sa sn sc] 26)) := ⟨HB12.out.1.trans (HBy.out.1.mono HB12.out.1.size), by rw [HBy.out.1.block w1.heap.size hl12]; exact HB12.out.2.1⟩
  have hN := HQ1.out.ne
  have km := sameManifest_any p' (.slice ra rn rc) (.slice xa xn xc) (.slice sa sn sc) (.slice ra' rn' rc') (.slice xa' xn' xc') (.slice sa' sn' sc') (reqs (manMx s).R) (excs (manMx s).X) (reps (manMx s).S) (w2.alloc (.cells #[.string p', .slice ra' rn' rc', .slice xa' xn' xc', .slice sa' sn' sc'] 26)) (by rw [Ss.insAll_len]; omega) (by rw [Ss.insAll_len]; omega) (by rw [Ss.insAll_len]; omega)
    (rd_of_mcs (B := w.heap.size) (by rw [Ss.insAll_len]; exact HQ1.out.re)) (rd_of_mcs (B := w.heap.size) (by rw [Ss.insAll_len]; exact HQ1.out.xe)) (rd_of_scs (B := w.heap.size) (by rw [Ss.insAll_len]; exact HQ1.out.se))
    (rd_of_mcs (B := W1.heap.size) (by rw [Ss.insAll_len]; exact HQ2.out.re)) (rd_of_mcs (B := W1.heap.size) (by rw [Ss.insAll_len]; exact HQ2.out.xe)) (rd_of_scs (B := W1.heap.size) (by rw [Ss.insAll_len]; exact HQ2.out.se))
  have HNl : Hid ((manMx s).R.length ≤ 2001 ∧ (manMx s).X.length ≤ 2001 ∧ (manMx s).S.length ≤ 2001 ∧ (manSlips s).length ≤ 2001) := hN
  clear hN
  go_wp2_with (go_at_call 73; fail)
  clear g0 g1 g2 g3 hl12
  generalize w2.alloc (.cells #[.string p', .slice ra' rn' rc', .slice xa' xn' xc', .slice sa' sn' sc'] 26) = W2 at *
  go_at_call 73
  refine km.mono ?_
  rintro e w3 ⟨rfl, hb3⟩
  have ks := Bk.sameSlips_rows (manSlips s) (.slice la ln lc) (.slice la' ln' lc') _ _ w3 (by have := HNl.out.2.2.2; omega) (HQ1.out.below hb3).le (HQ2.out.below hb3).le
  have HB3 : Hid (Below W2.heap.size W2 w3) := hb3
  clear km hb3
  go_wp2_with (go_at_call 74; fail)
  go_at_call 74
  refine ks.mono ?_
  rintro e w4 ⟨rfl, hb4⟩
  have HB4 : Hid (Below W2.heap.size W2 w4) := HB3.out.trans (hb4.mono HB3.out.size)
  clear ks hb4 HB3
  have HR0 : Hid (Ready w0 w4 bp n kb w1.heap.size (.cells #[.string p', .slice ra rn rc, .slice xa xn xc, .slice sa sn sc] 26) [⟨.slice ra rn rc, 29, 2, (manMx s).R.length⟩, ⟨.slice xa xn xc, 29, 2, (manMx s).X.length⟩, ⟨.slice sa sn sc, 137, 3, (manMx s).S.length⟩, ⟨.slice la ln lc, 45, 3, (manSlips s).length⟩]) := by
    have hQ := HQ1.out.below HB4.out
    have hb14 : Below w1.heap.size w1 w4 := HB13.out.1.trans (HB4.out.mono HB13.out.1.size)
    have hbw : Below w.heap.size w w4 := HB1.out.trans (hb14.mono HB1.out.size)
    have hlt : w1.heap.size < W2.heap.size := by
      have h := HB13.out.2
      exact (Array.getElem?_eq_some_iff.1 h).1
    have ha := HAp.out
    have hN := HNl.out
    refine HI.out.ready hbw HB1.out.size (Nat.lt_of_lt_of_le hlt HB4.out.size) (by rw [HB4.out.block w1.heap.size hlt]; exact HB13.out.2) ?_ ?_
    · refine List.Pairwise.cons ?_ (List.Pairwise.cons ?_ (List.Pairwise.cons ?_ (List.Pairwise.cons ?_ List.Pairwise.nil)))
      · intro u hu b e
        simp only [List.mem_cons, List.not_mem_nil, or_false] at hu
        rcases hu with rfl | rfl | rfl
        · exact ((ha.1 b).1 e).1
        · exact ((ha.1 b).1 e).2
        · exact fun e2 => (ha.2 b e2).1 e
      · intro u hu b e
        simp only [List.mem_cons, List.not_mem_nil, or_false] at hu
        rcases hu with rfl | rfl
        · exact (ha.1 b).2 e
        · exact fun e2 => (ha.2 b e2).2.1 e
      · intro u hu b e
        simp only [List.mem_cons, List.not_mem_nil, or_false] at hu
        subst hu
        exact fun e2 => (ha.2 b e2).2.2 e
      · intro u hu
        cases hu
    · intro u hu
      simp only [List.mem_cons, List.not_mem_nil, or_false] at hu
      rcases hu with rfl | rfl | rfl | rfl
      · exact ⟨⟨_, hQ.re⟩, by show (manMx s).R.length ≤ 2900; omega, fun b e => by have := own_ne HO1.out.re b e; omega⟩
      · exact ⟨⟨_, hQ.xe⟩, by show (manMx s).X.length ≤ 2900; omega, fun b e => by have := own_ne HO1.out.xe b e; omega⟩
      · exact ⟨⟨_, hQ.se⟩, by show (manMx s).S.length ≤ 2900; omega, fun b e => by have := own_ne HO1.out.se b e; omega⟩
      · exact ⟨⟨_, hQ.le⟩, by show (manSlips s).length ≤ 2900; omega, fun b e => by have := own_ne HO1.out.le b e; omega⟩
  have CB : Hid (∀ (W : World) nn kk us, Ready w0 W bp nn kk w1.heap.size (.cells #[.string p', .slice ra rn rc, .slice xa xn xc, .slice sa sn sc] 26) us → W.cell? ⟨w1.heap.size, 1, none⟩ = some (.slice ra rn rc) ∧ W.cell? ⟨w1.heap.size, 2, none⟩ = some (.slice xa xn xc) ∧ W.cell? ⟨w1.heap.size, 3, none⟩ = some (.slice sa sn sc)) := fun W nn kk us h => by
    obtain ⟨_, _, _, _, _, _, _, _, _, hblk⟩ := h
    have := (Dr.cells4 hblk).1
    exact ⟨this.2.1, this.2.2.1, this.2.2.2⟩
  clear HO1 HB1 HAp HBx HO2 HB2 HB12 HBy HQ1 HQ2 HB13 HI HNl HB4
  obtain ⟨y1, y2, y3⟩ := CB.out _ _ _ _ HR0.out
  have k1 := readyMod HR0.out (by omega) (by omega)
  go_wp2_with (go_at_call 75; fail)
  go_at_call 75
  refine k1.mono ?_
  rintro e w5 ⟨rfl, hR1⟩
  have HR1 : Hid _ := hR1
  obtain ⟨z1, z2, z3⟩ := CB.out _ _ _ _ hR1
  have k2 := readyMod hR1 (by omega) (by omega)
  clear k1 HR0 hR1 y1 y2 y3
  go_wp2_with (go_at_call 75; fail)
  go_at_call 75
  refine k2.mono ?_
  rintro e w6 ⟨rfl, hR2⟩
  obtain ⟨y1, y2, y3⟩ := CB.out _ _ _ _ hR2
  have k3 := readySwap hR2 (by omega) (by omega)
  clear k2 HR1 hR2 z1 z2 z3
  go_wp2_with (go_at_call 76; fail)
  go_at_call 76
  refine k3.mono ?_
  rintro e w7 ⟨rfl, hR3⟩
  have k4 := readySlip hR3 (by omega) (by omega)
  clear k3 hR3 y1 y2 y3
  go_wp2_with (go_at_call 77; fail)
  go_at_call 77
  refine k4.mono ?_
  rintro e w8 ⟨rfl, hR4⟩
  have HK : Hid (Book w0 w8 bp (n + 4) (kb + 16)) := hR4.book
  clear k4 hR4 CB
  go_wp2
  go_ret
  exact ⟨rfl, HK.out⟩

set_option maxRecDepth 100000 in
set_option maxHeartbeats 2000000 in
theorem manifest_any (s : ByteArray) (w : World) (hm : Ml w) : Calls Tryz.prog 11 #[.string s] w fun e w' => e = .returned (.bool true) ∧ Below w.heap.size w w' := by
  have HI0 : Hid (Book w (w.alloc (.cells #[.int .i64 0, .slice none 0 0, .slice none 0 0, .slice none 0 0, .slice none 0 0] 100)) w.heap.size 0 0) := book_start w hm
  clear hm
  go_enter Tryz.func11, Tryz.ntmps11
  go_wp2_with (go_at_call 44; fail)
  go_at_call 44
  refine (read_any s _ HI0.out (by omega) (by omega)).mono ?_
  rintro e w1 ⟨rfl, hI1⟩
  have HI1 : Hid (Book w w1 w.heap.size 4 16) := hI1
  clear hI1 HI0
  go_wp2_with (go_at_call 44; fail)
  go_at_call 44
  refine (read_any _ _ HI1.out (by omega) (by omega)).mono ?_
  rintro e w2 ⟨rfl, hI2⟩
  have HI2 : Hid (Book w w2 w.heap.size 8 32) := hI2
  clear hI2 HI1
  go_wp2_with (go_at_call 44; fail)
  go_at_call 44
  refine (read_any _ _ HI2.out (by omega) (by omega)).mono ?_
  rintro e w3 ⟨rfl, hI3⟩
  have HI3 : Hid (Book w w3 w.heap.size 12 48) := hI3
  clear hI3 HI2
  go_wp2_with (go_at_call 44; fail)
  go_at_call 44
  refine (read_any _ _ HI3.out (by omega) (by omega)).mono ?_
  rintro e w4 ⟨rfl, hI4⟩
  have HI4 : Hid (Book w w4 w.heap.size 16 64) := hI4
  have kl : Calls Tryz.prog 45 #[.pointer (some ⟨w.heap.size, 0, none⟩)] w4 fun e w' => e = .returned (.bool true) ∧ Below w4.heap.size w4 w' := by
    obtain ⟨T, V, K, X, hI⟩ := hI4
    exact looks_any T w.heap.size 16 V K X w4 hI.book (fun f => by have := hI.kb f; omega)
  clear hI4 HI3
  go_wp2_with (go_at_call 45; fail)
  go_at_call 45
  refine kl.mono ?_
  rintro e w5 ⟨rfl, hb5⟩
  have HB : Hid (Below w.heap.size w w5) := HI4.out.old.1.trans (hb5.mono HI4.out.old.1.size)
  clear hb5 HI4 kl
  go_wp2
  go_ret
  exact ⟨rfl, HB.out⟩

set_option maxRecDepth 100000 in
set_option maxHeartbeats 2000000 in
theorem manifests_any (s : ByteArray) (w : World) (hm : Ml w) : Calls Tryz.prog 3 #[.string s] w fun e w' => e = .returned (.bool true) ∧ Below w.heap.size w w' := by
  have k1 : ∀ x W, Below w.heap.size w W → Calls Tryz.prog 11 #[.string x] W fun e w' => e = .returned (.bool true) ∧ Below W.heap.size W w' := fun x W hb => manifest_any x W (hm.below hb)
  clear hm
  go_enter Tryz.func3, Tryz.ntmps3
  go_wp2_with (go_at_call 11; fail)
  go_at_call 11
  refine (k1 _ w (Below.refl _ _)).mono ?_
  rintro e w1 ⟨rfl, hb1⟩
  go_wp2_with (go_at_call 11; fail)
  go_at_call 11
  refine (k1 _ w1 hb1).mono ?_
  rintro e w2 ⟨rfl, hb2⟩
  have hb : Below w.heap.size w w2 := hb1.trans (hb2.mono hb1.size)
  clear hb1 hb2
  go_wp2_with (go_at_call 11; fail)
  go_at_call 11
  refine (k1 _ w2 hb).mono ?_
  rintro e w3 ⟨rfl, hb3⟩
  have hb4 : Below w.heap.size w w3 := hb.trans (hb3.mono hb.size)
  clear k1 hb hb3
  go_wp2
  go_ret
  exact ⟨rfl, hb4⟩

end Bm
end Go.Proofs.YtelmkfkgpnadnaaGreatDoor
