/-
  The library's stable sort, at swaps: rows by insertion, and the whole sort.
  The library's stable sort, at swaps: the whole sort.
-/
import Derived.Test.YtelmkfkgpnadnaaGreatDoorKST8
import Derived.Test.YtelmkfkgpnadnaaGreatDoorKSSA
namespace Go.Proofs.YtelmkfkgpnadnaaGreatDoor
open Go.RowKit Go.Sort Go.Shelf Go.Lib
namespace Sw

def ren276 : Go.Shelf.Ren := ⟨fun | 20 => 276 | n => n, fun | 24 => 137 | 22 => 24 | 3 => 3 | 25 => 223 | 4 => 4 | 0 => 0 | n => n, fun | n => n⟩
theorem lays276 : Go.Proofs.SlLaysF0.n20 Tryz.prog ren276 := {
  mixed := by kernel_rfl
  f20 := ⟨Tryz.f276.name, by decide, Tryz.func276.trans (congrArg some (by kernel_rfl))⟩
  t0 := Tryz.underlying0
  a0 := Tryz.isAgg0
  z0 := Tryz.sizeOf0
  v0 := Tryz.zeroValue0
  t3 := Tryz.underlying3
  a3 := Tryz.isAgg3
  z3 := Tryz.sizeOf3
  v3 := Tryz.zeroValue3
  t4 := Tryz.underlying4
  a4 := Tryz.isAgg4
  z4 := Tryz.sizeOf4
  v4 := Tryz.zeroValue4
  t22 := Tryz.underlying24
  a22 := Tryz.isAgg24
  z22 := Tryz.sizeOf24
  v22 := Tryz.zeroValue24
  t25 := Tryz.underlying223
  a25 := Tryz.isAgg223
  z25 := Tryz.sizeOf223
  v25 := Tryz.zeroValue223 }

variable {g : Nat} {cb : Array Value} {cf : Sp → Sp → Int} {blk off : Nat} {d0 : Array Sp} {w0 : World}

theorem insert_any (T : Told g cb cf blk off d0 w0) (cap a b : Nat) (d : Array Sp) (w : World) (hs : d.size = d0.size) (S : SWK enc 3 w0 blk off d w) (hab : a ≤ b) (hb : b ≤ d.size) :
    Calls Tryz.prog 276 #[.slice (some ⟨blk, off, none⟩) d0.size cap, .int .i64 a, .int .i64 b, .func (.func g) #[] cb] w fun e w' => e = .returned (.tuple #[]) ∧ SWK enc 3 w0 blk off (Sort.insertionSort (ltOf cf) d a b) w' := by
  have hs' : (Sort.insertionSort (ltOf cf) d a b).size = d.size := (insertionSort_holds T.swo d a b hab hb).1.1
  have hsz := T.sz
  have hC : CmpLays Tryz.prog g cb enc 3 cf blk off d.size w := fun m os dk hdk x y => by
    obtain ⟨n0, os0, rfl⟩ := S
    rw [sortWorldK_on enc 3 w0 blk off n0 m d dk os0 os T.R.hblk hdk]
    exact T.cmp _ _ dk (by omega) x y
  rw [← hs]
  refine (AnyQ.insertionSortCmpFunc lays276 3 Tryz.isAgg137 Tryz.sizeOf137 enc T.R.hk T.R.h1 cf g cb blk off cap a b d w T.eg hC (S.holds T.R.hblk T.R.hH hs) (S.lt T.R.hblk) hab hb (by omega)).mono ?_
  rintro e w' ⟨rfl, n, os, rfl⟩
  exact ⟨rfl, S.on T.R.hblk n _ os hs'⟩

end Sw
end Go.Proofs.YtelmkfkgpnadnaaGreatDoor

namespace Go.Proofs.YtelmkfkgpnadnaaGreatDoor
open Go.RowKit Go.Sort Go.Shelf Go.Lib
namespace Sw

variable {g : Nat} {cb : Array Value} {cf : Sp → Sp → Int} {blk off : Nat} {d0 : Array Sp} {w0 : World}

theorem perm_in {a b n : Nat} {d e : Array Sp} (h : PermIn 0 n d0 d) (hn : n = d0.size) (hp : PermIn a b d e) (hb : b ≤ n) : PermIn 0 n d0 e :=
  permIn_trans d0 d e 0 n h (permIn_mono d e a b 0 n (Nat.zero_le _) hb (by rw [h.1]; omega) hp)

set_option maxRecDepth 1000000 in
set_option maxHeartbeats 8000000 in
theorem stable_any (T : Told g cb cf blk off d0 w0) (hbig : d0.size < 1152921504606846976) (ht : Ss.TagInc Sp.tag 0 d0.size d0) (cap : Nat) (w : World) (S : SWK enc 3 w0 blk off d0 w) :
    Calls Tryz.prog 219 #[.slice (some ⟨blk, off, none⟩) d0.size cap, .int .i64 d0.size, .func (.func g) #[] cb] w fun e w' => e = .returned (.tuple #[]) ∧ ∃ d', Ss.MPost (ltOf cf) Sp.tag 0 d0.size d0 d' ∧ SWK enc 3 w0 blk off d' w' := by
  have hins := fun a b d w hs S hab hb => insert_any T cap a b d w hs S hab hb
  have hsym := fun a m b d w hs S h1 h2 hb hP => symMerge_any T cap (b - a) a m b d w (Nat.le_refl _) hs S h1 h2 hb hP
  obtain ⟨n, hn⟩ : ∃ n, n = d0.size := ⟨_, rfl⟩
  have HI : Aside (∀ (a b : Nat) (d : Array Sp) (w : World), d.size = n → SWK enc 3 w0 blk off d w → a ≤ b → b ≤ d.size → Calls Tryz.prog 276 #[.slice (some ⟨blk, off, none⟩) n cap, .int .i64 a, .int .i64 b, .func (.func g) #[] cb] w fun e w' => e = .returned (.tuple #[]) ∧ SWK enc 3 w0 blk off (Sort.insertionSort (ltOf cf) d a b) w') := by rw [hn]; exact hins
  have HM : Aside (∀ (a m b : Nat) (d : Array Sp) (w : World), d.size = n → SWK enc 3 w0 blk off d w → a < m → m < b → b ≤ d.size → Ss.MPre (ltOf cf) Sp.tag a m b d → Merges g cb cf blk off cap w0 n a m b d w) := by rw [hn]; exact hsym
  have HT : Aside (Told g cb cf blk off d0 w0) := T
  have HN : Hid (n = d0.size) := hn
  have S0 : Aside (SWK enc 3 w0 blk off d0 w) := S
  have HB : Hid (Ss.TagInc Sp.tag 0 n d0) := by rw [hn]; exact ht
  rw [← hn] at hbig ⊢
  clear hins hsym T S ht hn
  go_enter Tryz.func219, Tryz.ntmps219
  go_wp2
  go_loopg [7, 8] n (fun kx s7 s8 wr => ∃ (a b k : Nat) (d : Array Sp), s7 = .int .i64 a ∧ s8 = .int .i64 b ∧ a < b ∧ a ≤ n ∧ b ≤ n + 20 ∧ n - a ≤ kx ∧ Aside (b = a + 20 ∧ a = k * 20 ∧ PermIn 0 n d0 d ∧ Ss.Bl (ltOf cf) Sp.tag 20 a n d ∧ Ss.TagInc Sp.tag a n d) ∧ Aside (SWK enc 3 w0 blk off d wr))
  case atStart => exact ⟨0, 20, 0, d0, rfl, rfl, by omega, by omega, by omega, by omega, (⟨rfl, rfl, permIn_refl d0 0 n, Ss.Bl.none 20 n (by omega) d0, HB.out⟩ : (20 = 0 + 20 ∧ 0 = 0 * 20 ∧ PermIn 0 n d0 d0 ∧ Ss.Bl (ltOf cf) Sp.tag 20 0 n d0 ∧ Ss.TagInc Sp.tag 0 n d0)), S0⟩
  case round =>
    clear S0 HB
    obtain ⟨a, b, k, d, rfl, rfl, hab, han, hbn, hkx, I, S1⟩ := hrel
    by_cases hle : b ≤ n
    · have hleI : (b : Int) ≤ (n : Int) := by omega
      have k1 := HI.out a b d wr (I.out.2.2.1.1.trans HN.out.symm) S1.out (by omega) (by rw [I.out.2.2.1.1, ← HN.out]; exact hle)
      obtain ⟨c, hc⟩ : ∃ c, c = b + 20 := ⟨_, rfl⟩
      have wc : IntKind.i64.wrap ((b : Int) + 20) = (c : Int) := by rw [IntKind.wrap_i64]; omega
      have I2 : Aside (c = b + 20 ∧ b = (k + 1) * 20 ∧ PermIn 0 n d0 (Sort.insertionSort (ltOf cf) d a b) ∧ Ss.Bl (ltOf cf) Sp.tag 20 b n (Sort.insertionSort (ltOf cf) d a b) ∧ Ss.TagInc Sp.tag b n (Sort.insertionSort (ltOf cf) d a b)) := by
        obtain ⟨e1, e2, e3, e4, e5⟩ := I.out
        have f := Ss.first_step HT.out.swo e2 e4 e5 (by omega) (by rw [e3.1, ← HN.out]; omega)
        rw [← e1] at f
        exact ⟨hc, by omega, perm_in e3 HN.out f.1 hle, f.2.1, f.2.2⟩
      have HC : Hid (b < c ∧ c ≤ n + 20) := ⟨by omega, by omega⟩
      have HA : Hid (a < b) := hab
      clear S1 I hc
      go_wp2_with (go_at_call 276; fail)
      go_at_call 276
      refine k1.mono ?_
      rintro ex w2 ⟨rfl, T1⟩
      have S2 : Aside (SWK enc 3 w0 blk off (Sort.insertionSort (ltOf cf) d a b) w2) := T1
      clear k1 T1
      go_wp2
      go_roundg (n - b)
      case measure => have := HA.out; omega
      case rel => exact ⟨b, c, k + 1, Sort.insertionSort (ltOf cf) d a b, rfl, rfl, HC.out.1, hle, HC.out.2, Nat.le_refl _, I2, S2⟩
    · have hleI : ¬ ((b : Int) ≤ (n : Int)) := by omega
      have k1 := HI.out a n d wr (I.out.2.2.1.1.trans HN.out.symm) S1.out han (by rw [I.out.2.2.1.1, ← HN.out]; exact Nat.le_refl _)
      have I2 : Aside (PermIn 0 n d0 (Sort.insertionSort (ltOf cf) d a n) ∧ Ss.Bs (ltOf cf) Sp.tag 20 0 n (Sort.insertionSort (ltOf cf) d a n)) := by
        obtain ⟨e1, e2, e3, e4, e5⟩ := I.out
        have f := Ss.first_last HT.out.swo e2 e4 e5 han (by omega) (by rw [e3.1, ← HN.out]; omega)
        exact ⟨perm_in e3 HN.out f.1 (Nat.le_refl _), f.2⟩
      clear S1 I
      go_wp2_with (go_at_call 276; fail)
      go_at_call 276
      refine k1.mono ?_
      rintro ex w2 ⟨rfl, T1⟩
      have S2 : Aside (SWK enc 3 w0 blk off (Sort.insertionSort (ltOf cf) d a n) w2) := T1
      clear k1 T1
      generalize Sort.insertionSort (ltOf cf) d a n = d1 at I2 S2
      clear HI hkx hleI hle hab hbn han
      go_wp2
      go_loopg [6, 7, 8] n (fun ky s6 s7 s8 wr => ∃ (s : Nat) (d : Array Sp), s6 = .int .i64 s ∧ 0 < s ∧ s ≤ n + n + 20 ∧ n - s ≤ ky ∧ Aside (PermIn 0 n d0 d ∧ Ss.Bs (ltOf cf) Sp.tag s 0 n d) ∧ Aside (SWK enc 3 w0 blk off d wr))
      case atStart => exact ⟨20, d1, rfl, by omega, by omega, by omega, I2, S2⟩
      case round =>
        clear I2 S2
        obtain ⟨s, d, rfl, hs0, hsn, hky, I, S1⟩ := hrel
        by_cases hlt : s < n
        · have hltI : (s : Int) < (n : Int) := by omega
          obtain ⟨u, hu⟩ : ∃ u, u = s + s := ⟨_, rfl⟩
          have wu : IntKind.i64.wrap (2 * (s : Int)) = (u : Int) := by rw [IntKind.wrap_i64]; omega
          have wu2 : IntKind.i64.wrap ((s : Int) * 2) = (u : Int) := by rw [IntKind.wrap_i64]; omega
          have HU : Hid (u = s + s) := hu
          have I2 : Aside (u = 0 + u ∧ 0 = 0 * u ∧ PermIn 0 n d0 d ∧ Ss.Bs (ltOf cf) Sp.tag s 0 n d ∧ Ss.Bl (ltOf cf) Sp.tag u 0 n d) := ⟨by omega, by omega, I.out.1, I.out.2, Ss.Bl.none u n (by omega) d⟩
          have B1 : Hid (0 < u ∧ u ≤ n + u ∧ 0 ≤ n) := ⟨by omega, by omega, by omega⟩
          have ub : u ≤ n + n := by omega
          clear I hu
          go_wp2
          go_loopg [7, 8] n (fun kz s7 s8 wr => ∃ (a b k : Nat) (d : Array Sp), s7 = .int .i64 a ∧ s8 = .int .i64 b ∧ a < b ∧ a ≤ n ∧ b ≤ n + u ∧ n - a ≤ kz ∧ Aside (b = a + u ∧ a = k * u ∧ PermIn 0 n d0 d ∧ Ss.Bs (ltOf cf) Sp.tag s a n d ∧ Ss.Bl (ltOf cf) Sp.tag u a n d) ∧ Aside (SWK enc 3 w0 blk off d wr))
          case atStart => exact ⟨0, u, 0, d, rfl, rfl, B1.out.1, B1.out.2.2, B1.out.2.1, by omega, I2, S1⟩
          case round =>
            clear I2 S1 B1
            obtain ⟨a, b, k, d, rfl, rfl, hab, han, hbn, hkz, I, S1⟩ := hrel
            obtain ⟨m, hm⟩ : ∃ m, m = a + s := ⟨_, rfl⟩
            have wm : IntKind.i64.wrap ((a : Int) + (s : Int)) = (m : Int) := by rw [IntKind.wrap_i64]; omega
            have HMM : Hid (m = a + s) := hm
            clear hm
            by_cases hle : b ≤ n
            · have hleI : (b : Int) ≤ (n : Int) := by omega
              have k1 : Merges g cb cf blk off cap w0 n a m b d wr := by
                obtain ⟨e1, e2, e3, e4, e5⟩ := I.out
                have e6 := HU.out
                have e7 := HMM.out
                have e8 := HN.out
                have e9 := e3.1
                have P := e4.pre (k := k) (by rw [Ss.two_mul_row, ← e6]; exact e2) b (by omega) hle (by omega)
                rw [← e7] at P
                exact HM.out a m b d wr (by omega) S1.out (by omega) (by omega) (by omega) P
              obtain ⟨c, hc⟩ : ∃ c, c = b + u := ⟨_, rfl⟩
              have wc : IntKind.i64.wrap ((b : Int) + (u : Int)) = (c : Int) := by rw [IntKind.wrap_i64]; omega
              have I2 : Aside (∀ e, Ss.MPost (ltOf cf) Sp.tag a b d e → c = b + u ∧ b = (k + 1) * u ∧ PermIn 0 n d0 e ∧ Ss.Bs (ltOf cf) Sp.tag s b n e ∧ Ss.Bl (ltOf cf) Sp.tag u b n e) := by
                intro e he
                obtain ⟨e1, e2, e3, e4, e5⟩ := I.out
                have e6 := HU.out
                have e8 := HN.out
                have e9 := e3.1
                have g1 := e1
                have g2 := e2
                rw [e6] at e1 e2 e5
                have f := Ss.twice_step (e := e) e2 e4 e5 (by omega) (by omega) (by rw [← e1]; exact he)
                rw [← e1, ← e6] at f
                exact ⟨hc, by rw [Nat.add_mul, Nat.one_mul, ← g2]; exact g1, perm_in e3 e8 he.1 hle, f.1, f.2⟩
              have HC : Hid (b < c ∧ c ≤ n + u) := by have := HU.out; exact ⟨by omega, by omega⟩
              have HA : Hid (a < b) := hab
              clear S1 I hc
              go_wp2_with (go_at_call 277; fail)
              go_at_call 277
              refine k1.mono ?_
              rintro ex w2 ⟨rfl, e, he, T1⟩
              have S2 : Aside (SWK enc 3 w0 blk off e w2) := T1
              have I3 : Aside (c = b + u ∧ b = (k + 1) * u ∧ PermIn 0 n d0 e ∧ Ss.Bs (ltOf cf) Sp.tag s b n e ∧ Ss.Bl (ltOf cf) Sp.tag u b n e) := I2.out e he
              clear k1 T1 I2 he
              go_wp2
              go_roundg (n - b)
              case measure => have := HA.out; omega
              case rel => exact ⟨b, c, k + 1, e, rfl, rfl, HC.out.1, hle, HC.out.2, Nat.le_refl _, I3, S2⟩
            · have hleI : ¬ ((b : Int) ≤ (n : Int)) := by omega
              have HS : Hid (s < n ∧ s < u) := ⟨hlt, by have := HU.out; omega⟩
              by_cases hmn : m < n
              · have hmI : (m : Int) < (n : Int) := by omega
                have k1 : Merges g cb cf blk off cap w0 n a m n d wr := by
                  obtain ⟨e1, e2, e3, e4, e5⟩ := I.out
                  have e6 := HU.out
                  have e7 := HMM.out
                  have e8 := HN.out
                  have e9 := e3.1
                  have P := e4.pre (k := k) (by rw [Ss.two_mul_row, ← e6]; exact e2) n (by omega) (Nat.le_refl _) (by omega)
                  rw [← e7] at P
                  exact HM.out a m n d wr (by omega) S1.out (by omega) (by omega) (by omega) P
                have I2 : Aside (∀ e, Ss.MPost (ltOf cf) Sp.tag a n d e → PermIn 0 n d0 e ∧ Ss.Bs (ltOf cf) Sp.tag u 0 n e) := by
                  intro e he
                  obtain ⟨e1, e2, e3, e4, e5⟩ := I.out
                  have e6 := HU.out
                  have e8 := HN.out
                  have e9 := e3.1
                  rw [e6] at e1 e2 e5
                  have f := Ss.twice_last (e := e) e2 e5 (by omega) (by omega) he
                  rw [← e6] at f
                  exact ⟨perm_in e3 e8 he.1 (Nat.le_refl _), f⟩
                clear S1 I
                go_wp2_with (go_at_call 277; fail)
                go_at_call 277
                refine k1.mono ?_
                rintro ex w2 ⟨rfl, e, he, T1⟩
                have S2 : Aside (SWK enc 3 w0 blk off e w2) := T1
                have I3 : Aside (PermIn 0 n d0 e ∧ Ss.Bs (ltOf cf) Sp.tag u 0 n e) := I2.out e he
                clear k1 T1 I2 he
                go_wp2
                go_roundg (n - u)
                case measure => have := HS.out; omega
                case rel => exact ⟨u, e, rfl, by have := HS.out; omega, by have := HS.out; omega, Nat.le_refl _, I3, S2⟩
              · have hmI : ¬ ((m : Int) < (n : Int)) := by omega
                have I3 : Aside (PermIn 0 n d0 d ∧ Ss.Bs (ltOf cf) Sp.tag u 0 n d) := by
                  obtain ⟨e1, e2, e3, e4, e5⟩ := I.out
                  have e6 := HU.out
                  have e7 := HMM.out
                  have e8 := HN.out
                  have e9 := e3.1
                  rw [e6] at e1 e2 e5
                  have f := Ss.twice_none e2 e4 e5 (by omega) hs0 (by omega)
                  rw [← e6] at f
                  exact ⟨e3, f⟩
                clear I
                go_wp2
                go_roundg (n - u)
                case measure => have := HS.out; omega
                case rel => exact ⟨u, d, rfl, by have := HS.out; omega, by have := HS.out; omega, Nat.le_refl _, I3, S1⟩
        · have hltI : ¬ ((s : Int) < (n : Int)) := by omega
          have HF : Hid (Ss.MPost (ltOf cf) Sp.tag 0 n d0 d ∧ SWK enc 3 w0 blk off d wr) := ⟨⟨I.out.1, I.out.2.whole (by omega)⟩, S1.out⟩
          clear I S1
          go_wp2
          go_end0
          exact ⟨rfl, d, HF.out⟩

/-- slices.SortStableFunc at a list of swaps. -/
theorem sortStable_any (T : Told g cb cf blk off d0 w0) (hbig : d0.size < 1152921504606846976) (ht : Ss.TagInc Sp.tag 0 d0.size d0) (cap : Nat) :
    Calls Tryz.prog 178 #[.slice (some ⟨blk, off, none⟩) d0.size cap, .func (.func g) #[] cb] w0 fun e w' => e = .returned (.tuple #[]) ∧ ∃ d', Ss.MPost (ltOf cf) Sp.tag 0 d0.size d0 d' ∧ SWK enc 3 w0 blk off d' w' := by
  have k1 := stable_any T hbig ht cap w0 (SWK.start T.R.hH)
  clear T ht
  go_enter Tryz.func178, Tryz.ntmps178
  go_wp2_with (go_at_call 219; fail)
  go_at_call 219
  refine k1.mono ?_
  rintro ex w2 ⟨rfl, e, he, T1⟩
  have HF : Hid (Ss.MPost (ltOf cf) Sp.tag 0 d0.size d0 e ∧ SWK enc 3 w0 blk off e w2) := ⟨he, T1⟩
  clear k1 he T1
  go_wp2
  go_end0
  exact ⟨rfl, e, HF.out⟩

end Sw
end Go.Proofs.YtelmkfkgpnadnaaGreatDoor
