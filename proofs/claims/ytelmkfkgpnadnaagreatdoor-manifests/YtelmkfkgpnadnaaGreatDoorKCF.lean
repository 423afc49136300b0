/-
  The document's Format: plain facts.
  The law's sameness of lists of modules, of replacements, of manifests.
-/
import Derived.Test.YtelmkfkgpnadnaaGreatDoorKCE
import Derived.Test.YtelmkfkgpnadnaaGreatDoorKCC
namespace Go.Proofs.YtelmkfkgpnadnaaGreatDoor
open Go.RowKit

theorem rd_mod {w W : World} {v : Value} {L : List Mo} (h : Sm.Rd w v L) (hb : Below w.heap.size w W) (i : Nat) (hi : i < L.length) : ∃ b off c, v = .slice (some ⟨b, off, none⟩) L.length c ∧ W.cell? ⟨b, off + i * 2, none⟩ = some (.string L[i]!.1) ∧ W.cell? ⟨b, off + i * 2 + 1, none⟩ = some (.string L[i]!.2) := by
  rcases h.below hb with ⟨_, h⟩ | ⟨b, off, c, h, hc⟩
  · rw [h] at hi; simp at hi
  · obtain ⟨h1, h2⟩ := mc_at L i hi
    exact ⟨b, off, c, h, hc _ _ h1, by rw [Nat.add_assoc]; exact hc _ _ h2⟩

theorem rd_swp {w W : World} {v : Value} {L : List So} (h : Sw.Rd w v L) (hb : Below w.heap.size w W) (i : Nat) (hi : i < L.length) : ∃ b off c, v = .slice (some ⟨b, off, none⟩) L.length c ∧ W.cell? ⟨b, off + i * 3, none⟩ = some (.string L[i]!.1) ∧ W.cell? ⟨b, off + i * 3 + 1, none⟩ = some (.string L[i]!.2.1) ∧ W.cell? ⟨b, off + i * 3 + 2, none⟩ = some (.string L[i]!.2.2) := by
  rcases h.below hb with ⟨_, h⟩ | ⟨b, off, c, h, hc⟩
  · rw [h] at hi; simp at hi
  · obtain ⟨h1, h2, h3⟩ := sc_at L i hi
    exact ⟨b, off, c, h, hc _ _ h1, by rw [Nat.add_assoc]; exact hc _ _ h2, by rw [Nat.add_assoc]; exact hc _ _ h3⟩

theorem rd_len {w : World} {v : Value} {L : List Mo} (h : Sm.Rd w v L) : ∃ a c, v = .slice a L.length c := by
  rcases h with ⟨h, h0⟩ | ⟨b, off, c, h, _⟩
  · exact ⟨none, 0, by rw [h, h0]; rfl⟩
  · exact ⟨_, _, h⟩
theorem rd_len_s {w : World} {v : Value} {L : List So} (h : Sw.Rd w v L) : ∃ a c, v = .slice a L.length c := by
  rcases h with ⟨h, h0⟩ | ⟨b, off, c, h, _⟩
  · exact ⟨none, 0, by rw [h, h0]; rfl⟩
  · exact ⟨_, _, h⟩

end Go.Proofs.YtelmkfkgpnadnaaGreatDoor

namespace Go.Proofs.YtelmkfkgpnadnaaGreatDoor
open Go.RowKit

set_option maxRecDepth 100000 in
set_option maxHeartbeats 1000000 in
theorem sameModules_any (u v : Value) (L : List Mo) (w : World) (hL : L.length ≤ 16777216) (h1 : Sm.Rd w u L) (h2 : Sm.Rd w v L) :
    Calls Tryz.prog 118 #[u, v] w fun e w' => e = .returned (.bool true) ∧ Below w.heap.size w w' := by
  obtain ⟨a1, c1, e1⟩ := rd_len h1
  obtain ⟨a2, c2, e2⟩ := rd_len h2
  subst e1; subst e2
  obtain ⟨m, hm⟩ : ∃ m, m = L.length := ⟨_, rfl⟩
  rw [← hm] at hL h1 h2 ⊢
  have D1 : Aside _ := h1
  have D2 : Aside _ := h2
  have LM : Hid (m = L.length) := hm
  clear hm h1 h2
  have qm : (((m : Nat) : Int) == (m : Int)) = true := by simp
  go_enter Tryz.func118, Tryz.ntmps118
  go_wp2
  go_loopg [5] m (fun gg s wr => ∃ i : Nat, i ≤ m ∧ m - i ≤ gg ∧ s = .int .i64 i ∧ Below w.heap.size w wr)
  case atStart => exact ⟨0, by omega, by omega, rfl, Below.refl _ _⟩
  case round =>
    obtain ⟨i, hi, hg, rfl, hbw⟩ := hrel
    by_cases hin : i < m
    · obtain ⟨b, o, c, eg, x0, x1⟩ := rd_mod D1.out hbw i (by have := LM.out; omega)
      injection eg with eg1 _ eg3
      subst eg1; subst eg3
      obtain ⟨b', o', c', eg, y0, y1⟩ := rd_mod D2.out hbw i (by have := LM.out; omega)
      injection eg with eg1 _ eg3
      subst eg1; subst eg3
      have hil : ((i : Nat) : Int) < (m : Int) := by omega
      generalize L[i]!.1 = x at x0 y0
      generalize L[i]!.2 = y at x1 y1
      have q1 : (x.toList == x.toList) = true := by simp
      have q2 : (y.toList == y.toList) = true := by simp
      go_upto_region 6 with fail
      go_region
      go_wp2
      go_roundg (m - (i + 1))
      case measure => omega
      case rel => exact ⟨i + 1, by omega, by omega, by go_num, hbw.drew⟩
    · have hil : (((i : Nat) : Int) < (m : Int)) = False := by simp; omega
      go_wp2
      go_ret
      exact ⟨rfl, hbw⟩

set_option maxRecDepth 100000 in
set_option maxHeartbeats 1000000 in
theorem sameSwaps_any (u v : Value) (L : List So) (w : World) (hL : L.length ≤ 16777216) (h1 : Sw.Rd w u L) (h2 : Sw.Rd w v L) :
    Calls Tryz.prog 119 #[u, v] w fun e w' => e = .returned (.bool true) ∧ Below w.heap.size w w' := by
  obtain ⟨a1, c1, e1⟩ := rd_len_s h1
  obtain ⟨a2, c2, e2⟩ := rd_len_s h2
  subst e1; subst e2
  obtain ⟨m, hm⟩ : ∃ m, m = L.length := ⟨_, rfl⟩
  rw [← hm] at hL h1 h2 ⊢
  have D1 : Aside _ := h1
  have D2 : Aside _ := h2
  have LM : Hid (m = L.length) := hm
  clear hm h1 h2
  have qm : (((m : Nat) : Int) == (m : Int)) = true := by simp
  go_enter Tryz.func119, Tryz.ntmps119
  go_wp2
  go_loopg [5] m (fun gg s wr => ∃ i : Nat, i ≤ m ∧ m - i ≤ gg ∧ s = .int .i64 i ∧ Below w.heap.size w wr)
  case atStart => exact ⟨0, by omega, by omega, rfl, Below.refl _ _⟩
  case round =>
    obtain ⟨i, hi, hg, rfl, hbw⟩ := hrel
    by_cases hin : i < m
    · obtain ⟨b, o, c, eg, x0, x1, x2⟩ := rd_swp D1.out hbw i (by have := LM.out; omega)
      injection eg with eg1 _ eg3
      subst eg1; subst eg3
      obtain ⟨b', o', c', eg, y0, y1, y2⟩ := rd_swp D2.out hbw i (by have := LM.out; omega)
      injection eg with eg1 _ eg3
      subst eg1; subst eg3
      have hil : ((i : Nat) : Int) < (m : Int) := by omega
      generalize L[i]!.1 = x at x0 y0
      generalize L[i]!.2.1 = y at x1 y1
      generalize L[i]!.2.2 = z at x2 y2
      have q1 : (x.toList == x.toList) = true := by simp
      have q2 : (y.toList == y.toList) = true := by simp
      have q3 : (z.toList == z.toList) = true := by simp
      go_upto_region 6 with fail
      go_region
      go_wp2
      go_roundg (m - (i + 1))
      case measure => omega
      case rel => exact ⟨i + 1, by omega, by omega, by go_num, hbw.drew⟩
    · have hil : (((i : Nat) : Int) < (m : Int)) = False := by simp; omega
      go_wp2
      go_ret
      exact ⟨rfl, hbw⟩

/-- sameManifest, of two that read the same. -/
theorem sameManifest_any (p : ByteArray) (rv xv sv rv' xv' sv' : Value) (R X : List Mo) (S : List So) (w : World) (hR : R.length ≤ 16777216) (hX : X.length ≤ 16777216) (hS : S.length ≤ 16777216) (hr : Sm.Rd w rv R) (hx : Sm.Rd w xv X) (hs : Sw.Rd w sv S) (hr' : Sm.Rd w rv' R) (hx' : Sm.Rd w xv' X) (hs' : Sw.Rd w sv' S) :
    Calls Tryz.prog 73 #[.agg #[.string p, rv, xv, sv], .agg #[.string p, rv', xv', sv']] w fun e w' => e = .returned (.bool true) ∧ Below w.heap.size w w' := by
  have KR : Aside (∀ W, Below w.heap.size w W → Calls Tryz.prog 118 #[rv, rv'] W fun e w' => e = .returned (.bool true) ∧ Below W.heap.size W w') := fun W hb => sameModules_any rv rv' R W hR (hr.below hb) (hr'.below hb)
  have KX : Aside (∀ W, Below w.heap.size w W → Calls Tryz.prog 118 #[xv, xv'] W fun e w' => e = .returned (.bool true) ∧ Below W.heap.size W w') := fun W hb => sameModules_any xv xv' X W hX (hx.below hb) (hx'.below hb)
  have KS : Aside (∀ W, Below w.heap.size w W → Calls Tryz.prog 119 #[sv, sv'] W fun e w' => e = .returned (.bool true) ∧ Below W.heap.size W w') := fun W hb => sameSwaps_any sv sv' S W hS (hs.below hb) (hs'.below hb)
  obtain ⟨ra, rn, rc, e1⟩ := hr.shape
  obtain ⟨xa, xn, xc, e2⟩ := hx.shape
  obtain ⟨sa, sn, sc, e3⟩ := hs.shape
  obtain ⟨ra', rn', rc', e4⟩ := hr'.shape
  obtain ⟨xa', xn', xc', e5⟩ := hx'.shape
  obtain ⟨sa', sn', sc', e6⟩ := hs'.shape
  clear hr hx hs hr' hx' hs'
  subst e1; subst e2; subst e3; subst e4; subst e5; subst e6
  have B0 : Hid (Below w.heap.size w ((w.alloc (.cells #[.string p, .slice ra rn rc, .slice xa xn xc, .slice sa sn sc] 26)).alloc (.cells #[.string p, .slice ra' rn' rc', .slice xa' xn' xc', .slice sa' sn' sc'] 26))) := ((Below.refl _ _).alloc (Nat.le_refl _) _).alloc (by simp) _
  have V1 : Hid (ValsAt ((w.alloc (.cells #[.string p, .slice ra rn rc, .slice xa xn xc, .slice sa sn sc] 26)).alloc (.cells #[.string p, .slice ra' rn' rc', .slice xa' xn' xc', .slice sa' sn' sc'] 26)) w.heap.size 4 (fun f => if f = 0 then .string p else if f = 1 then .slice ra rn rc else if f = 2 then .slice xa xn xc else .slice sa sn sc)) := (vals4 w _ _ _ _ 26).of_block (heap_alloc_old _ _ (by simp))
  have V2 : Hid (ValsAt ((w.alloc (.cells #[.string p, .slice ra rn rc, .slice xa xn xc, .slice sa sn sc] 26)).alloc (.cells #[.string p, .slice ra' rn' rc', .slice xa' xn' xc', .slice sa' sn' sc'] 26)) (w.heap.size + 1) 4 (fun f => if f = 0 then .string p else if f = 1 then .slice ra' rn' rc' else if f = 2 then .slice xa' xn' xc' else .slice sa' sn' sc')) := by
    show ValsAt _ _ _ _
    have := vals4 (w.alloc (.cells #[.string p, .slice ra rn rc, .slice xa xn xc, .slice sa sn sc] 26)) (.string p) (.slice ra' rn' rc') (.slice xa' xn' xc') (.slice sa' sn' sc') 26
    simpa using this
  have HZ : Hid (w.heap.size + 2 ≤ ((w.alloc (.cells #[.string p, .slice ra rn rc, .slice xa xn xc, .slice sa sn sc] 26)).alloc (.cells #[.string p, .slice ra' rn' rc', .slice xa' xn' xc', .slice sa' sn' sc'] 26)).heap.size) := by show _ ≤ _; simp
  go_enter Tryz.func73, Tryz.ntmps73
  go_wp2_with (go_at_call 118; fail)
  generalize (w.alloc (.cells #[.string p, .slice ra rn rc, .slice xa xn xc, .slice sa sn sc] 26)).alloc (.cells #[.string p, .slice ra' rn' rc', .slice xa' xn' xc', .slice sa' sn' sc'] 26) = W0 at *
  have BX : Hid (∀ W, Below W0.heap.size W0 W → (W.cell? ⟨w.heap.size, 0, none⟩ = some (.string p) ∧ W.cell? ⟨w.heap.size, 1, none⟩ = some (.slice ra rn rc) ∧ W.cell? ⟨w.heap.size, 2, none⟩ = some (.slice xa xn xc) ∧ W.cell? ⟨w.heap.size, 3, none⟩ = some (.slice sa sn sc)) ∧ (W.cell? ⟨w.heap.size + 1, 0, none⟩ = some (.string p) ∧ W.cell? ⟨w.heap.size + 1, 1, none⟩ = some (.slice ra' rn' rc') ∧ W.cell? ⟨w.heap.size + 1, 2, none⟩ = some (.slice xa' xn' xc') ∧ W.cell? ⟨w.heap.size + 1, 3, none⟩ = some (.slice sa' sn' sc'))) := fun W hb => by
    have v := V1.out.of_block (hb.block _ (by have := HZ.out; omega))
    have v' := V2.out.of_block (hb.block _ (by have := HZ.out; omega))
    exact ⟨⟨v.at' 0 (by omega), v.at' 1 (by omega), v.at' 2 (by omega), v.at' 3 (by omega)⟩, v'.at' 0 (by omega), v'.at' 1 (by omega), v'.at' 2 (by omega), v'.at' 3 (by omega)⟩
  clear V1 V2 HZ
  go_at_call 118
  refine (KR.out _ B0.out).mono ?_
  rintro e w1 ⟨rfl, hb1⟩
  have B1 : Hid (Below W0.heap.size W0 w1) := hb1
  clear hb1 KR
  obtain ⟨⟨z0, z1, z2, z3⟩, y0, y1, y2, y3⟩ := BX.out w1 B1.out
  go_wp2_with (go_at_call 118; fail)
  go_at_call 118
  refine (KX.out _ (B0.out.trans (B1.out.mono B0.out.size))).mono ?_
  rintro e w2 ⟨rfl, hb2⟩
  have B2 : Hid (Below W0.heap.size W0 w2) := B1.out.trans (hb2.mono B1.out.size)
  clear hb2 KX z0 z1 z2 z3 y0 y1 y2 y3 B1
  obtain ⟨⟨z0, z1, z2, z3⟩, y0, y1, y2, y3⟩ := BX.out w2 B2.out
  go_wp2_with (go_at_call 119; fail)
  go_at_call 119
  refine (KS.out _ (B0.out.trans (B2.out.mono B0.out.size))).mono ?_
  rintro e w3 ⟨rfl, hb3⟩
  have B3 : Hid (Below W0.heap.size W0 w3) := B2.out.trans (hb3.mono B2.out.size)
  clear hb3 KS z0 z1 z2 z3 y0 y1 y2 y3 B2
  obtain ⟨⟨z0, z1, z2, z3⟩, y0, y1, y2, y3⟩ := BX.out w3 B3.out
  have HF : Hid (Below w.heap.size w w3) := B0.out.trans (B3.out.mono B0.out.size)
  have q0 : (p.toList == p.toList) = true := by simp
  clear BX B0 B3
  go_wp2
  go_ret
  exact ⟨rfl, HF.out⟩

end Go.Proofs.YtelmkfkgpnadnaaGreatDoor
