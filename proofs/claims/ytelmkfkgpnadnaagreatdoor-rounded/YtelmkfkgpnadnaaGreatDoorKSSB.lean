/-
  The library's stable sort, at modules: two rows are exchanged.
  The library's stable sort, at modules: a row is rotated.
  The library's stable sort, at modules: one element is merged into a row behind it.
  The library's stable sort, at modules: one element is merged into a row ahead of it.
-/
import Derived.Test.YtelmkfkgpnadnaaGreatDoorKSSA
import Derived.Test.YtelmkfkgpnadnaaGreatDoorKShelf
import Derived.Shelf.SlSortCmp.KitK
import Derived.BigRegion
import Derived.Deep.LoopGhost
namespace Go.Proofs.YtelmkfkgpnadnaaGreatDoor
open Go.RowKit Go.Sort Go.Shelf Go.Lib
namespace Sm

/-- A module, and its place ahead of the sort. -/
structure Md where
  path : ByteArray
  ver : ByteArray
  tag : Nat

instance : Inhabited Md := ⟨⟨⟨#[]⟩, ⟨#[]⟩, 0⟩⟩

def enc (x : Md) : List Value := [.string x.path, .string x.ver]

theorem enc_len (x : Md) : (enc x).length = 2 := rfl
theorem enc_one (x : Md) : ∀ v ∈ enc x, v.oneCell' = true := by
  intro v hv
  simp [enc] at hv
  rcases hv with rfl | rfl <;> rfl

/-- A module of the row in memory. -/
theorem cells_at {w0 W : World} {blk off : Nat} {d0 dk : Array Md} (S : SWK enc 2 w0 blk off dk W) (R : RowK enc 2 w0 blk off d0) (hs : dk.size = d0.size) (i : Nat) (hi : i < dk.size) :
    (W.cell? ⟨blk, off + i * 2, none⟩ = some (.string dk[i]!.path) ∧ W.cell? ⟨blk, off + i * 2 + 1, none⟩ = some (.string dk[i]!.ver)) ∧ W.frozen? ⟨blk, off + i * 2, none⟩ = false ∧ W.frozen? ⟨blk, off + i * 2 + 1, none⟩ = false := by
  have hH := S.holds R.hblk R.hH hs
  have c0 := hH.cell hi (c := 0) (by decide)
  have c1 := hH.cell hi (c := 1) (by decide)
  exact ⟨⟨c0.1, c1.1⟩, c0.2, c1.2⟩

theorem swap_facts {W : World} {blk off p q : Nat} (hpq : p ≠ q) (X Y : Md) (y0 : W.cell? ⟨blk, off + q * 2, none⟩ = some (.string Y.path)) (y1 : W.cell? ⟨blk, off + q * 2 + 1, none⟩ = some (.string Y.ver)) :
    ((W.setCell ⟨blk, off + p * 2, none⟩ (.string Y.path)).setCell ⟨blk, off + p * 2 + 1, none⟩ (.string Y.ver)).cell? ⟨blk, off + q * 2, none⟩ = some (.string Y.path) ∧
    (((W.setCell ⟨blk, off + p * 2, none⟩ (.string Y.path)).setCell ⟨blk, off + p * 2 + 1, none⟩ (.string Y.ver)).setCell ⟨blk, off + q * 2, none⟩ (.string X.path)).cell? ⟨blk, off + q * 2 + 1, none⟩ = some (.string Y.ver) := by
  refine ⟨?_, ?_⟩
  · rw [World.cell?_setCell_other _ _ _ _ (fun e => by injection e with _ e; omega), World.cell?_setCell_other _ _ _ _ (fun e => by injection e with _ e; omega)]; exact y0
  · rw [World.cell?_setCell_other _ _ _ _ (fun e => by injection e with _ e; omega), World.cell?_setCell_other _ _ _ _ (fun e => by injection e with _ e; omega), World.cell?_setCell_other _ _ _ _ (fun e => by injection e with _ e; omega)]; exact y1

set_option maxRecDepth 1000000 in
set_option maxHeartbeats 4000000 in
theorem swapRange_any (g : Nat) (cb : Array Value) (blk off cap a b n : Nat) (d0 d : Array Md) (w0 w : World) (R : RowK enc 2 w0 blk off d0) (hs : d0.size = d.size) (S : SWK enc 2 w0 blk off d w)
    (hab : a + n ≤ b ∨ b + n ≤ a) (ha : a + n ≤ d.size) (hb : b + n ≤ d.size) (hsz : d.size < 4611686018427387904) :
    Calls Tryz.prog 320 #[.slice (some ⟨blk, off, none⟩) d.size cap, .int .i64 a, .int .i64 b, .int .i64 n, .func (.func g) #[] cb] w fun e w' => e = .returned (.tuple #[]) ∧ ∃ d', Ss.SwpR a b n d d' ∧ SWK enc 2 w0 blk off d' w' := by
  have S0 : Aside (SWK enc 2 w0 blk off d w) := S
  clear S
  go_enter Tryz.func320, Tryz.ntmps320
  go_wp2
  go_loopg [10] n (fun kx s10 wr => ∃ (i : Nat) (dk : Array Md), s10 = .int .i64 i ∧ i ≤ n ∧ n - i ≤ kx ∧ Hid (Ss.SwpR a b i d dk) ∧ dk.size = d.size ∧ Aside (SWK enc 2 w0 blk off dk wr))
  case atStart => exact ⟨0, d, rfl, by omega, by omega, Ss.SwpR.zero a b d, rfl, S0⟩
  case round =>
    clear S0
    obtain ⟨i, dk, rfl, hi, hkx, HQ, hds, S1⟩ := hrel
    by_cases hlt : i < n
    · have hltI : (i : Int) < (n : Int) := by omega
      go_wp2_with fail
      have wa : IntKind.i64.wrap ((a : Int) + (i : Int)) = (a : Int) + (i : Int) := by rw [IntKind.wrap_i64]; omega
      have wb : IntKind.i64.wrap ((b : Int) + (i : Int)) = (b : Int) + (i : Int) := by rw [IntKind.wrap_i64]; omega
      have ea : ((a : Int) + (i : Int)).toNat = a + i := by omega
      have eb : ((b : Int) + (i : Int)).toNat = b + i := by omega
      have pa : (0 : Int) ≤ (a : Int) + (i : Int) := by omega
      have pb : (0 : Int) ≤ (b : Int) + (i : Int) := by omega
      have ba : (a : Int) + (i : Int) < (d.size : Int) := by omega
      have bb : (b : Int) + (i : Int) < (d.size : Int) := by omega
      obtain ⟨⟨x0, x1⟩, f0, f1⟩ := cells_at S1.out R (by omega) (a + i) (by omega)
      obtain ⟨⟨y0, y1⟩, g0, g1⟩ := cells_at S1.out R (by omega) (b + i) (by omega)
      have S2 : Aside (SWK enc 2 w0 blk off (swp dk (a + i) (b + i)) ((wr.drew.setCells blk (off + (a + i) * 2) (enc dk[b + i]!)).setCells blk (off + (b + i) * 2) (enc dk[a + i]!))) := S1.out.swapped R (a + i) (b + i) (by omega) (by omega)
      have HSW : Hid (Ss.SwpR a b (i + 1) d (swp dk (a + i) (b + i))) := HQ.out.step (by omega) (by omega) (by omega)
      generalize dk[a + i]! = X at *
      generalize dk[b + i]! = Y at *
      obtain ⟨z0, z1⟩ := swap_facts (W := wr) (blk := blk) (off := off) (p := a + i) (q := b + i) (by omega) X Y y0 y1
      clear S1 HQ
      go_region
      have S3 : Aside (SWK enc 2 w0 blk off (swp dk (a + i) (b + i)) ((((wr.setCell ⟨blk, off + (a + i) * 2, none⟩ (.string Y.path)).setCell ⟨blk, off + (a + i) * 2 + 1, none⟩ (.string Y.ver)).setCell ⟨blk, off + (b + i) * 2, none⟩ (.string X.path)).setCell ⟨blk, off + (b + i) * 2 + 1, none⟩ (.string X.ver)).drew) := S2
      clear S2 x0 x1 f0 f1 y0 y1 g0 g1 z0 z1
      generalize ((((wr.setCell ⟨blk, off + (a + i) * 2, none⟩ (.string Y.path)).setCell ⟨blk, off + (a + i) * 2 + 1, none⟩ (.string Y.ver)).setCell ⟨blk, off + (b + i) * 2, none⟩ (.string X.path)).setCell ⟨blk, off + (b + i) * 2 + 1, none⟩ (.string X.ver)).drew = w2 at S3 ⊢
      go_wp2
      go_roundg (n - (i + 1))
      case measure => omega
      case rel => exact ⟨i + 1, _, by go_num, by omega, Nat.le_refl _, HSW, by rw [swp_size]; exact hds, S3⟩
    · have hltI : ¬ ((i : Int) < (n : Int)) := by omega
      obtain rfl : i = n := by omega
      go_wp2
      go_end0
      exact ⟨rfl, dk, HQ.out, S1.out⟩

end Sm
end Go.Proofs.YtelmkfkgpnadnaaGreatDoor

namespace Go.Proofs.YtelmkfkgpnadnaaGreatDoor
open Go.RowKit Go.Sort Go.Shelf Go.Lib
namespace Sm

set_option maxRecDepth 1000000 in
set_option maxHeartbeats 4000000 in
theorem rotate_any (g : Nat) (cb : Array Value) (blk off cap a m b : Nat) (d0 d : Array Md) (w0 w : World) (R : RowK enc 2 w0 blk off d0) (hs : d0.size = d.size) (S : SWK enc 2 w0 blk off d w)
    (ham : a < m) (hmb : m < b) (hb : b ≤ d.size) (hsz : d.size < 4611686018427387904) :
    Calls Tryz.prog 305 #[.slice (some ⟨blk, off, none⟩) d.size cap, .int .i64 a, .int .i64 m, .int .i64 b, .func (.func g) #[] cb] w fun e w' => e = .returned (.tuple #[]) ∧ ∃ d', Ss.Rot a m b d d' ∧ SWK enc 2 w0 blk off d' w' := by
  have S0 : Aside (SWK enc 2 w0 blk off d w) := S
  clear S
  have hwi : IntKind.i64.wrap ((m : Int) - (a : Int)) = ((m - a : Nat) : Int) := by rw [IntKind.wrap_i64]; omega
  have hwj : IntKind.i64.wrap ((b : Int) - (m : Int)) = ((b - m : Nat) : Int) := by rw [IntKind.wrap_i64]; omega
  obtain ⟨i0, hi0⟩ : ∃ i0, i0 = m - a := ⟨_, rfl⟩
  obtain ⟨j0, hj0⟩ : ∃ j0, j0 = b - m := ⟨_, rfl⟩
  rw [← hi0] at hwi
  rw [← hj0] at hwj
  have HST : Hid (∀ f, Ss.Rot (m - i0) m (m + j0) d f → Ss.Rot a m b d f) := fun f h => by
    have e1 : m - i0 = a := by omega
    have e2 : m + j0 = b := by omega
    rw [e1, e2] at h
    exact h
  have hII : Hid (i0 = m - a ∧ j0 = b - m) := ⟨hi0, hj0⟩
  clear hi0 hj0
  go_enter Tryz.func305, Tryz.ntmps305
  go_wp2
  go_loopg [10, 11] (b + b) (fun kx s10 s11 wr => ∃ (i j : Nat) (e : Array Md), s10 = .int .i64 i ∧ s11 = .int .i64 j ∧ 0 < i ∧ 0 < j ∧ i ≤ m ∧ m + j ≤ b ∧ i + j ≤ kx ∧ Hid (∀ f, Ss.Rot (m - i) m (m + j) e f → Ss.Rot a m b d f) ∧ e.size = d.size ∧ Aside (SWK enc 2 w0 blk off e wr))
  case atStart => exact ⟨i0, j0, d, rfl, rfl, by have := hII.out; omega, by have := hII.out; omega, by have := hII.out; omega, by have := hII.out; omega, by have := hII.out; omega, HST, rfl, S0⟩
  case round =>
    clear S0 HST hII hwi hwj
    obtain ⟨i, j, e, rfl, rfl, hi, hj, him, hmj, hkx, HQ, hds, S1⟩ := hrel
    obtain ⟨u, hu⟩ : ∃ u, u = m - i := ⟨_, rfl⟩
    have wu : IntKind.i64.wrap ((m : Int) - (i : Int)) = (u : Int) := by rw [IntKind.wrap_i64]; omega
    have HU : Hid (u = m - i) := hu
    by_cases hne : i = j
    · have hq : ((i : Int) != (j : Int)) = false := by rw [hne]; simp
      have hq2 : ((i : Int) == (j : Int)) = true := by rw [hne]; simp
      have k1 := swapRange_any g cb blk off cap u m i d0 e w0 wr R (by omega) S1.out (by omega) (by omega) (by omega) (by omega)
      rw [hds] at k1
      have HF : Hid (∀ f, Ss.SwpR u m i e f → Ss.Rot a m b d f) := fun f h => HQ.out f (by
        rw [hu] at h
        have h1 := Ss.rot_even him h
        rw [← hne]
        exact h1)
      clear S1 HQ hne hu
      go_wp2_with (go_at_call 320; fail)
      go_at_call 320
      refine k1.mono ?_
      rintro en w2 ⟨rfl, d2, h2, S2⟩
      have HX : Hid (Ss.Rot a m b d d2 ∧ SWK enc 2 w0 blk off d2 w2) := ⟨HF.out d2 h2, S2⟩
      clear k1 h2 S2 HF
      go_wp2
      go_end0
      exact ⟨rfl, d2, HX.out⟩
    · have hq : ((i : Int) != (j : Int)) = true := by simp; omega
      have hq2 : ((i : Int) == (j : Int)) = false := by rw [beq_eq_false_iff_ne]; omega
      by_cases hgt : j < i
      · have hgtI : (i : Int) > (j : Int) := by omega
        obtain ⟨i2, hi2⟩ : ∃ i2, i2 = i - j := ⟨_, rfl⟩
        have w2 : IntKind.i64.wrap ((i : Int) - (j : Int)) = (i2 : Int) := by rw [IntKind.wrap_i64]; omega
        have k1 := swapRange_any g cb blk off cap u m j d0 e w0 wr R (by omega) S1.out (by omega) (by omega) (by omega) (by omega)
        rw [hds] at k1
        have HF : Hid (∀ e2, Ss.SwpR u m j e e2 → e2.size = d.size ∧ ∀ f, Ss.Rot (m - i2) m (m + j) e2 f → Ss.Rot a m b d f) := fun e2 h => ⟨h.1.trans hds, fun f hr => HQ.out f (by
          rw [hu] at h
          rw [hi2] at hr
          exact Ss.rot_left him hgt h hr)⟩
        have H2 : Hid (i2 = i - j) := hi2
        clear S1 HQ hne hu hi2
        go_wp2_with (go_at_call 320; fail)
        go_at_call 320
        refine k1.mono ?_
        rintro en w3 ⟨rfl, e2, h2, S2⟩
        have HX : Hid (e2.size = d.size ∧ ∀ f, Ss.Rot (m - i2) m (m + j) e2 f → Ss.Rot a m b d f) := HF.out e2 h2
        have S3 : Aside (SWK enc 2 w0 blk off e2 w3) := S2
        clear k1 h2 S2 HF
        go_wp2
        go_roundg (i2 + j)
        case measure => have := H2.out; omega
        case rel => exact ⟨i2, j, e2, rfl, rfl, by have := H2.out; omega, hj, by have := H2.out; omega, hmj, Nat.le_refl _, HX.out.2, HX.out.1, S3⟩
      · have hgtI : ¬ ((i : Int) > (j : Int)) := by omega
        have hgt2 : i < j := by omega
        obtain ⟨j2, hj2⟩ : ∃ j2, j2 = j - i := ⟨_, rfl⟩
        obtain ⟨v, hv⟩ : ∃ v, v = m + j - i := ⟨_, rfl⟩
        have w2 : IntKind.i64.wrap ((j : Int) - (i : Int)) = (j2 : Int) := by rw [IntKind.wrap_i64]; omega
        have w3 : IntKind.i64.wrap ((m : Int) + (j : Int)) = (m : Int) + (j : Int) := by rw [IntKind.wrap_i64]; omega
        have w4 : IntKind.i64.wrap ((m : Int) + (j : Int) - (i : Int)) = (v : Int) := by rw [IntKind.wrap_i64]; omega
        have k1 := swapRange_any g cb blk off cap u v i d0 e w0 wr R (by omega) S1.out (by omega) (by omega) (by omega) (by omega)
        rw [hds] at k1
        have HF : Hid (∀ e2, Ss.SwpR u v i e e2 → e2.size = d.size ∧ ∀ f, Ss.Rot (m - i) m (m + j2) e2 f → Ss.Rot a m b d f) := fun e2 h => ⟨h.1.trans hds, fun f hr => HQ.out f (by
          rw [hu, hv] at h
          rw [hj2] at hr
          exact Ss.rot_right him hgt2 h hr)⟩
        have H2 : Hid (j2 = j - i) := hj2
        clear S1 HQ hne hu hj2 hv
        go_wp2_with (go_at_call 320; fail)
        go_at_call 320
        refine k1.mono ?_
        rintro en wx ⟨rfl, e2, h2, S2⟩
        have HX : Hid (e2.size = d.size ∧ ∀ f, Ss.Rot (m - i) m (m + j2) e2 f → Ss.Rot a m b d f) := HF.out e2 h2
        have S3 : Aside (SWK enc 2 w0 blk off e2 wx) := S2
        clear k1 h2 S2 HF
        go_wp2
        go_roundg (i + j2)
        case measure => have := H2.out; omega
        case rel => exact ⟨i, j2, e2, rfl, rfl, hi, by have := H2.out; omega, him, by have := H2.out; omega, Nat.le_refl _, HX.out.2, HX.out.1, S3⟩

end Sm
end Go.Proofs.YtelmkfkgpnadnaaGreatDoor

namespace Go.Proofs.YtelmkfkgpnadnaaGreatDoor
open Go.RowKit Go.Sort Go.Shelf Go.Lib
namespace Sm

/-- What the sort is told once. -/
structure Told (g : Nat) (cb : Array Value) (cf : Md → Md → Int) (blk off : Nat) (d0 : Array Md) (w0 : World) : Prop where
  R : RowK enc 2 w0 blk off d0
  eg : ∀ args w, (callFunc g args).run Tryz.prog w = .ok (.enter g args) w
  cmp : CmpLays Tryz.prog g cb enc 2 cf blk off d0.size w0
  swo : SWO (ltOf cf)
  sz : d0.size < 4611686018427387904

variable {g : Nat} {cb : Array Value} {cf : Md → Md → Int} {blk off : Nat} {d0 : Array Md} {w0 : World}

/-- A comparison of two elements of the row, in whatever world of the sort. -/
theorem cmp_at (T : Told g cb cf blk off d0 w0) {dk : Array Md} {W : World} (S : SWK enc 2 w0 blk off dk W) (hs : dk.size = d0.size) (x y : Md) (n : Nat) (os : Array Obj) :
    Calls Tryz.prog g (#[.agg #[.string x.path, .string x.ver], .agg #[.string y.path, .string y.ver]] ++ cb) (grow (W.drewN n) os) fun e w' => e = .returned (.int .i64 (cf x y)) ∧ ∃ q os', w' = grow ((grow (W.drewN n) os).drewN q) os' :=
  S.cmp T.cmp hs x y n os

theorem cell_in (T : Told g cb cf blk off d0 w0) {dk : Array Md} {W : World} (S : SWK enc 2 w0 blk off dk W) (hs : dk.size = d0.size) (i : Nat) (hi : i < dk.size) :
    (∀ n os, (grow (W.drewN n) os).cell? ⟨blk, off + i * 2, none⟩ = some (.string dk[i]!.path)) ∧ ∀ n os, (grow (W.drewN n) os).cell? ⟨blk, off + i * 2 + 1, none⟩ = some (.string dk[i]!.ver) :=
  ⟨fun n os => (cells_at (S.grown n os) T.R hs i hi).1.1, fun n os => (cells_at (S.grown n os) T.R hs i hi).1.2⟩

theorem mixedZ : Tryz.prog.follows Departure.mixedOrders = true := by kernel_rfl

set_option maxRecDepth 1000000 in
set_option maxHeartbeats 4000000 in
theorem sym_one (T : Told g cb cf blk off d0 w0) (cap a m b : Nat) (d : Array Md) (w : World) (hs : d.size = d0.size) (S : SWK enc 2 w0 blk off d w) (hm : m = a + 1) (hmb : m < b) (hb : b ≤ d.size) (hP : Ss.MPre (ltOf cf) Md.tag a m b d) :
    Calls Tryz.prog 274 #[.slice (some ⟨blk, off, none⟩) d.size cap, .int .i64 a, .int .i64 m, .int .i64 b, .func (.func g) #[] cb] w fun e w' => e = .returned (.tuple #[]) ∧ ∃ d', Ss.MPost (ltOf cf) Md.tag a b d d' ∧ SWK enc 2 w0 blk off d' w' := by
  have hsz : d.size < 4611686018427387904 := by have := T.sz; omega
  have eg := T.eg
  have mixed := mixedZ
  have HS : Hid (d.size = d0.size) := hs
  have S0 : Aside (SWK enc 2 w0 blk off d w) := S
  have HT : Aside (Told g cb cf blk off d0 w0) := T
  have HP : Aside (Ss.MPre (ltOf cf) Md.tag a m b d) := hP
  have HM : Hid (m = a + 1) := hm
  have wm : IntKind.i64.wrap ((m : Int) - (a : Int)) = 1 := by rw [IntKind.wrap_i64]; omega
  have hma : a < m := by omega
  have baI : (a : Int) < (d.size : Int) := by omega
  clear S T hP hm hs
  go_enter Tryz.func274, Tryz.ntmps274
  go_wp2
  go_loopg [10, 11] b (fun kx s10 s11 wr => ∃ (i j : Nat), s10 = .int .i64 i ∧ s11 = .int .i64 j ∧ m ≤ i ∧ i ≤ j ∧ j ≤ b ∧ j - i ≤ kx ∧ Aside (SWK enc 2 w0 blk off d wr) ∧ Aside ((∀ x, m ≤ x → x < i → ltOf cf d[x]! d[a]! = true) ∧ ∀ x, j ≤ x → x < b → ltOf cf d[x]! d[a]! = false))
  case atStart => exact ⟨m, b, rfl, rfl, Nat.le_refl _, by omega, Nat.le_refl _, by omega, S0, (⟨fun x h1 h2 => by omega, fun x h1 h2 => by omega⟩ : (∀ x, m ≤ x → x < m → ltOf cf d[x]! d[a]! = true) ∧ ∀ x, b ≤ x → x < b → ltOf cf d[x]! d[a]! = false)⟩
  case round =>
    clear S0
    obtain ⟨i, j, rfl, rfl, hmi, hij, hjb, hkx, S1, I⟩ := hrel
    by_cases hlt : i < j
    · have hltI : (i : Int) < (j : Int) := by omega
      obtain ⟨h, hh⟩ : ∃ h, h = (i + j) / 2 := ⟨_, rfl⟩
      have eh : ((i : Int) + (j : Int)) / 2 = (h : Int) := by omega
      have bh : (h : Int) < (d.size : Int) := by omega
      have r1 : i ≤ h ∧ h < j := by omega
      have HH : Hid (i ≤ h ∧ h < j) := r1
      obtain ⟨x0, x1⟩ := cell_in HT.out S1.out HS.out h (by omega)
      obtain ⟨y0, y1⟩ := cell_in HT.out S1.out HS.out a (by omega)
      have hcg := cmp_at HT.out S1.out HS.out d[h]! d[a]!
      have HI : Aside (∀ v : Int, v = cf d[h]! d[a]! → (v < 0 → (∀ x, m ≤ x → x < h + 1 → ltOf cf d[x]! d[a]! = true)) ∧ (¬ v < 0 → ∀ x, h ≤ x → x < b → ltOf cf d[x]! d[a]! = false)) := fun v hv => ⟨fun hl x h1 h2 => by
          have k1 : ltOf cf d[h]! d[a]! = true := decide_eq_true (by rw [← hv]; exact hl)
          have k2 := Ss.le2 HP.out (i := x) (j := h) h1 (by omega) (by omega) HT.out.swo
          exact Ss.lt_of_not_of_lt HT.out.swo k2 k1, fun hl x h1 h2 => by
          have k1 : ltOf cf d[h]! d[a]! = false := decide_eq_false (by rw [← hv]; exact hl)
          have k2 := Ss.le2 HP.out (i := h) (j := x) (by omega) h1 h2 HT.out.swo
          exact HT.out.swo.ntrans _ _ _ k2 k1⟩
      generalize d[h]! = X at *
      generalize d[a]! = Y at *
      generalize hcv : cf X Y = cv at *
      clear hh r1 hcv
      by_cases hlv : cv < 0
      · have I2 : Aside ((∀ x, m ≤ x → x < h + 1 → ltOf cf d[x]! Y = true) ∧ ∀ x, j ≤ x → x < b → ltOf cf d[x]! Y = false) := ⟨(HI.out cv rfl).1 hlv, I.out.2⟩
        clear HI I
        go_wp2_with fail
        go_quiet_grown (first | (go_at_fn g; refine Calls.grown_of (hcg _ _)))
        have S2 : Aside (SWK enc 2 w0 blk off d (grow (wr.drewN nq) osq)) := S1.out.grown nq osq
        clear S1 x0 x1 y0 y1 hcg
        generalize grow (wr.drewN nq) osq = w2 at S2 ⊢
        go_wp2
        go_roundg (j - (h + 1))
        case measure => have := HH.out; omega
        case rel => exact ⟨h + 1, j, by go_num, rfl, by have := HH.out; omega, by have := HH.out; omega, hjb, Nat.le_refl _, S2, I2⟩
      · have I2 : Aside ((∀ x, m ≤ x → x < i → ltOf cf d[x]! Y = true) ∧ ∀ x, h ≤ x → x < b → ltOf cf d[x]! Y = false) := ⟨I.out.1, (HI.out cv rfl).2 hlv⟩
        clear HI I
        go_wp2_with fail
        go_quiet_grown (first | (go_at_fn g; refine Calls.grown_of (hcg _ _)))
        have S2 : Aside (SWK enc 2 w0 blk off d (grow (wr.drewN nq) osq)) := S1.out.grown nq osq
        clear S1 x0 x1 y0 y1 hcg
        generalize grow (wr.drewN nq) osq = w2 at S2 ⊢
        go_wp2
        go_roundg (h - i)
        case measure => have := HH.out; omega
        case rel => exact ⟨i, h, rfl, rfl, hmi, by have := HH.out; omega, by have := HH.out; omega, Nat.le_refl _, S2, I2⟩
    · have hltI : ¬ ((i : Int) < (j : Int)) := by omega
      obtain rfl : i = j := by omega
      have wi : IntKind.i64.wrap ((i : Int) - 1) = (i : Int) - 1 := by rw [IntKind.wrap_i64]; omega
      have HST : Hid (Ss.Rot a (a + 1) (a + 1) d d) := Ss.rot_same_right a (a + 1) d
      have HI1 : Hid (a + 1 ≤ i) := by have := HM.out; show a + 1 ≤ i; omega
      go_wp2
      go_loopg [13] i (fun kx s13 wr2 => ∃ (k : Nat) (e : Array Md), s13 = .int .i64 k ∧ a ≤ k ∧ k + 1 ≤ i ∧ i - k ≤ kx ∧ e.size = d.size ∧ Aside (SWK enc 2 w0 blk off e wr2) ∧ Hid (Ss.Rot a (a + 1) (k + 1) d e))
      case atStart => exact ⟨a, d, rfl, Nat.le_refl _, HI1.out, by omega, rfl, S1, HST⟩
      case round =>
        clear S1 HST
        obtain ⟨k, e, rfl, hak, hki, hkx2, hes, S2, HR⟩ := hrel
        by_cases hk : k + 1 < i
        · have hkI : (k : Int) < (i : Int) - 1 := by omega
          have bk : (k : Int) < (d.size : Int) := by omega
          have bk1 : (k : Int) + 1 < (d.size : Int) := by omega
          obtain ⟨⟨x0, x1⟩, f0, f1⟩ := cells_at S2.out HT.out.R (by have := HS.out; omega) k (by omega)
          obtain ⟨⟨y0, y1⟩, g0, g1⟩ := cells_at S2.out HT.out.R (by have := HS.out; omega) (k + 1) (by omega)
          have S3 : Aside (SWK enc 2 w0 blk off (swp e k (k + 1)) ((wr.drew.setCells blk (off + k * 2) (enc e[k + 1]!)).setCells blk (off + (k + 1) * 2) (enc e[k]!))) := S2.out.swapped HT.out.R k (k + 1) (by omega) (by omega)
          have HR2 : Hid (Ss.Rot a (a + 1) (k + 2) d (swp e k (k + 1))) := Ss.rot_up HR.out hak (by omega)
          generalize e[k]! = X at *
          generalize e[k + 1]! = Y at *
          obtain ⟨z0, z1⟩ := swap_facts (W := wr) (blk := blk) (off := off) (p := k) (q := k + 1) (by omega) X Y y0 y1
          clear S2 HR
          go_wp2_with fail
          go_region
          have S4 : Aside (SWK enc 2 w0 blk off (swp e k (k + 1)) ((((wr.setCell ⟨blk, off + k * 2, none⟩ (.string Y.path)).setCell ⟨blk, off + k * 2 + 1, none⟩ (.string Y.ver)).setCell ⟨blk, off + (k + 1) * 2, none⟩ (.string X.path)).setCell ⟨blk, off + (k + 1) * 2 + 1, none⟩ (.string X.ver)).drew) := S3
          clear S3 x0 x1 f0 f1 y0 y1 g0 g1 z0 z1
          generalize ((((wr.setCell ⟨blk, off + k * 2, none⟩ (.string Y.path)).setCell ⟨blk, off + k * 2 + 1, none⟩ (.string Y.ver)).setCell ⟨blk, off + (k + 1) * 2, none⟩ (.string X.path)).setCell ⟨blk, off + (k + 1) * 2 + 1, none⟩ (.string X.ver)).drew = w2 at S4 ⊢
          go_wp2
          go_roundg (i - (k + 1))
          case measure => omega
          case rel => exact ⟨k + 1, swp e k (k + 1), by go_num, by omega, by omega, Nat.le_refl _, by rw [swp_size]; exact hes, S4, HR2⟩
        · have hkI : ¬ ((k : Int) < (i : Int) - 1) := by omega
          have HF : Hid (Ss.MPost (ltOf cf) Md.tag a b d e) := by
            have e1 : k + 1 = i := by omega
            have h1 := HR.out
            rw [e1] at h1
            have h2 := HP.out
            have h3 := I.out
            rw [HM.out] at h2 h3
            exact Ss.up_done HT.out.swo h2 h1 HI1.out hjb hb h3.1 h3.2
          clear HR
          go_wp2
          refine bodyPost_ret (results_none Tryz.results274 _ _ _) rfl ?_
          exact ⟨rfl, e, HF.out, S2.out⟩

end Sm
end Go.Proofs.YtelmkfkgpnadnaaGreatDoor

namespace Go.Proofs.YtelmkfkgpnadnaaGreatDoor
open Go.RowKit Go.Sort Go.Shelf Go.Lib
namespace Sm

variable {g : Nat} {cb : Array Value} {cf : Md → Md → Int} {blk off : Nat} {d0 : Array Md} {w0 : World}

set_option maxRecDepth 1000000 in
set_option maxHeartbeats 4000000 in
theorem sym_last (T : Told g cb cf blk off d0 w0) (cap a m b : Nat) (d : Array Md) (w : World) (hs : d.size = d0.size) (S : SWK enc 2 w0 blk off d w) (hm : a + 1 < m) (hmb : b = m + 1) (hb : b ≤ d.size) (hP : Ss.MPre (ltOf cf) Md.tag a m b d) :
    Calls Tryz.prog 274 #[.slice (some ⟨blk, off, none⟩) d.size cap, .int .i64 a, .int .i64 m, .int .i64 b, .func (.func g) #[] cb] w fun e w' => e = .returned (.tuple #[]) ∧ ∃ d', Ss.MPost (ltOf cf) Md.tag a b d d' ∧ SWK enc 2 w0 blk off d' w' := by
  have hsz : d.size < 4611686018427387904 := by have := T.sz; omega
  have eg := T.eg
  have mixed := mixedZ
  have HS : Hid (d.size = d0.size) := hs
  have S0 : Aside (SWK enc 2 w0 blk off d w) := S
  have HT : Aside (Told g cb cf blk off d0 w0) := T
  have HP : Aside (Ss.MPre (ltOf cf) Md.tag a m b d) := hP
  have HM : Hid (b = m + 1) := hmb
  obtain ⟨u, hu⟩ : ∃ u, u = m - a := ⟨_, rfl⟩
  have wm : IntKind.i64.wrap ((m : Int) - (a : Int)) = (u : Int) := by rw [IntKind.wrap_i64]; omega
  have wq : ((u : Int) == 1) = false := by rw [beq_eq_false_iff_ne]; omega
  have wn : IntKind.i64.wrap ((b : Int) - (m : Int)) = 1 := by rw [IntKind.wrap_i64]; omega
  have bmI : (m : Int) < (d.size : Int) := by omega
  have hmd : m < d.size := by omega
  clear S T hP hmb hs hu
  go_enter Tryz.func274, Tryz.ntmps274
  go_wp2
  go_loopg [14, 15] m (fun kx s10 s11 wr => ∃ (i j : Nat), s10 = .int .i64 i ∧ s11 = .int .i64 j ∧ a ≤ i ∧ i ≤ j ∧ j ≤ m ∧ j - i ≤ kx ∧ Aside (SWK enc 2 w0 blk off d wr) ∧ Aside ((∀ x, a ≤ x → x < i → ltOf cf d[m]! d[x]! = false) ∧ ∀ x, j ≤ x → x < m → ltOf cf d[m]! d[x]! = true))
  case atStart => exact ⟨a, m, rfl, rfl, Nat.le_refl _, by omega, Nat.le_refl _, by omega, S0, (⟨fun x h1 h2 => by omega, fun x h1 h2 => by omega⟩ : (∀ x, a ≤ x → x < a → ltOf cf d[m]! d[x]! = false) ∧ ∀ x, m ≤ x → x < m → ltOf cf d[m]! d[x]! = true)⟩
  case round =>
    clear S0
    obtain ⟨i, j, rfl, rfl, hmi, hij, hjb, hkx, S1, I⟩ := hrel
    by_cases hlt : i < j
    · have hltI : (i : Int) < (j : Int) := by omega
      obtain ⟨h, hh⟩ : ∃ h, h = (i + j) / 2 := ⟨_, rfl⟩
      have eh : ((i : Int) + (j : Int)) / 2 = (h : Int) := by omega
      have bh : (h : Int) < (d.size : Int) := by omega
      have r1 : i ≤ h ∧ h < j := by omega
      have HH : Hid (i ≤ h ∧ h < j) := r1
      obtain ⟨x0, x1⟩ := cell_in HT.out S1.out HS.out m (by omega)
      obtain ⟨y0, y1⟩ := cell_in HT.out S1.out HS.out h (by omega)
      have hcg := cmp_at HT.out S1.out HS.out d[m]! d[h]!
      have HI : Aside (∀ v : Int, v = cf d[m]! d[h]! → (¬ v < 0 → (∀ x, a ≤ x → x < h + 1 → ltOf cf d[m]! d[x]! = false)) ∧ (v < 0 → ∀ x, h ≤ x → x < m → ltOf cf d[m]! d[x]! = true)) := fun v hv => ⟨fun hl x h1 h2 => by
          have k1 : ltOf cf d[m]! d[h]! = false := decide_eq_false (by rw [← hv]; exact hl)
          have k2 := Ss.le1 HP.out (i := x) (j := h) h1 (by omega) (by omega) HT.out.swo
          exact HT.out.swo.ntrans _ _ _ k1 k2, fun hl x h1 h2 => by
          have k1 : ltOf cf d[m]! d[h]! = true := decide_eq_true (by rw [← hv]; exact hl)
          have k2 := Ss.le1 HP.out (i := h) (j := x) (by omega) h1 h2 HT.out.swo
          exact Ss.lt_of_lt_of_not HT.out.swo k1 k2⟩
      generalize d[h]! = Y at *
      generalize d[m]! = X at *
      generalize hcv : cf X Y = cv at *
      clear hh r1 hcv
      by_cases hlv : cv < 0
      · have I2 : Aside ((∀ x, a ≤ x → x < i → ltOf cf X d[x]! = false) ∧ ∀ x, h ≤ x → x < m → ltOf cf X d[x]! = true) := ⟨I.out.1, (HI.out cv rfl).2 hlv⟩
        clear HI I
        go_wp2_with fail
        go_quiet_grown (first | (go_at_fn g; refine Calls.grown_of (hcg _ _)))
        have S2 : Aside (SWK enc 2 w0 blk off d (grow (wr.drewN nq) osq)) := S1.out.grown nq osq
        clear S1 x0 x1 y0 y1 hcg
        generalize grow (wr.drewN nq) osq = w2 at S2 ⊢
        go_wp2
        go_roundg (h - i)
        case measure => have := HH.out; omega
        case rel => exact ⟨i, h, rfl, rfl, hmi, by have := HH.out; omega, by have := HH.out; omega, Nat.le_refl _, S2, I2⟩
      · have hd1 : decide (cv < 0) = false := decide_eq_false hlv
        have hd2 : (cv < 0) = False := eq_false hlv
        have I2 : Aside ((∀ x, a ≤ x → x < h + 1 → ltOf cf X d[x]! = false) ∧ ∀ x, j ≤ x → x < m → ltOf cf X d[x]! = true) := ⟨(HI.out cv rfl).1 hlv, I.out.2⟩
        clear HI I
        go_wp2_with fail
        go_quiet_grown (first | (go_at_fn g; refine Calls.grown_of (hcg _ _)))
        have S2 : Aside (SWK enc 2 w0 blk off d (grow (wr.drewN nq) osq)) := S1.out.grown nq osq
        clear S1 x0 x1 y0 y1 hcg
        generalize grow (wr.drewN nq) osq = w2 at S2 ⊢
        go_wp2
        go_roundg (j - (h + 1))
        case measure => have := HH.out; omega
        case rel => exact ⟨h + 1, j, by go_num, rfl, by have := HH.out; omega, by have := HH.out; omega, hjb, Nat.le_refl _, S2, I2⟩
    · have hltI : ¬ ((i : Int) < (j : Int)) := by omega
      obtain rfl : i = j := by omega
      have HST : Hid (Ss.Rot m m (m + 1) d d) := Ss.rot_same_left m (m + 1) d
      go_wp2
      go_loopg [17] m (fun kx s13 wr2 => ∃ (k : Nat) (e : Array Md), s13 = .int .i64 k ∧ i ≤ k ∧ k ≤ m ∧ k ≤ kx ∧ e.size = d.size ∧ Aside (SWK enc 2 w0 blk off e wr2) ∧ Hid (Ss.Rot k m (m + 1) d e))
      case atStart => exact ⟨m, d, rfl, hjb, Nat.le_refl _, Nat.le_refl _, rfl, S1, HST⟩
      case round =>
        clear S1 HST
        obtain ⟨k, e, rfl, hik, hkm, hkx2, hes, S2, HR⟩ := hrel
        by_cases hk : i < k
        · obtain ⟨kp, rfl⟩ : ∃ kp, k = kp + 1 := ⟨k - 1, by omega⟩
          have hkI : (kp : Int) + 1 > (i : Int) := by omega
          have hkI2 : (i : Int) < (kp : Int) + 1 := by omega
          have hwp : IntKind.i64.wrap (kp : Int) = (kp : Int) := by rw [IntKind.wrap_i64]; omega
          have bk : (kp : Int) < (d.size : Int) := by omega
          have bk1 : (kp : Int) + 1 < (d.size : Int) := by omega
          have p0 : (0 : Int) ≤ (kp : Int) + 1 := by omega
          have e0 : ((kp : Int) + 1).toNat = kp + 1 := by omega
          obtain ⟨⟨x0, x1⟩, f0, f1⟩ := cells_at S2.out HT.out.R (by have := HS.out; omega) (kp + 1) (by omega)
          obtain ⟨⟨y0, y1⟩, g0, g1⟩ := cells_at S2.out HT.out.R (by have := HS.out; omega) kp (by omega)
          have S3 : Aside (SWK enc 2 w0 blk off (swp e (kp + 1) kp) ((wr.drew.setCells blk (off + (kp + 1) * 2) (enc e[kp]!)).setCells blk (off + kp * 2) (enc e[kp + 1]!))) := S2.out.swapped HT.out.R (kp + 1) kp (by omega) (by omega)
          have HR2 : Hid (Ss.Rot kp m (m + 1) d (swp e (kp + 1) kp)) := Ss.rot_down HR.out hkm (by omega) hmd
          generalize e[kp + 1]! = X at *
          generalize e[kp]! = Y at *
          obtain ⟨z0, z1⟩ := swap_facts (W := wr) (blk := blk) (off := off) (p := kp + 1) (q := kp) (by omega) X Y y0 y1
          clear S2 HR
          go_wp2_with fail
          go_region
          have S4 : Aside (SWK enc 2 w0 blk off (swp e (kp + 1) kp) ((((wr.setCell ⟨blk, off + (kp + 1) * 2, none⟩ (.string Y.path)).setCell ⟨blk, off + (kp + 1) * 2 + 1, none⟩ (.string Y.ver)).setCell ⟨blk, off + kp * 2, none⟩ (.string X.path)).setCell ⟨blk, off + kp * 2 + 1, none⟩ (.string X.ver)).drew) := S3
          clear S3 x0 x1 f0 f1 y0 y1 g0 g1 z0 z1
          generalize ((((wr.setCell ⟨blk, off + (kp + 1) * 2, none⟩ (.string Y.path)).setCell ⟨blk, off + (kp + 1) * 2 + 1, none⟩ (.string Y.ver)).setCell ⟨blk, off + kp * 2, none⟩ (.string X.path)).setCell ⟨blk, off + kp * 2 + 1, none⟩ (.string X.ver)).drew = w2 at S4 ⊢
          go_wp2
          go_roundg kp
          case measure => omega
          case rel => exact ⟨kp, swp e (kp + 1) kp, by first | rfl | go_num | (congr 1; omega), by omega, by omega, Nat.le_refl _, by rw [swp_size]; exact hes, S4, HR2⟩
        · have hkI : ¬ ((k : Int) > (i : Int)) := by omega
          have HF : Hid (Ss.MPost (ltOf cf) Md.tag a b d e) := by
            obtain rfl : k = i := by omega
            have h2 := HP.out
            have h3 := I.out
            have h4 := HM.out
            subst h4
            exact Ss.down_done HT.out.swo h2 HR.out hmi hjb hb h3.1 h3.2
          clear HR
          go_wp2
          refine bodyPost_ret (results_none Tryz.results274 _ _ _) rfl ?_
          exact ⟨rfl, e, HF.out, S2.out⟩

end Sm
end Go.Proofs.YtelmkfkgpnadnaaGreatDoor
