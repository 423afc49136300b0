/-
  The law's book, of manifests: does every list read as its owner wrote it?
-/
import Derived.Test.YtelmkfkgpnadnaaGreatDoorKBC
namespace Go.Proofs.YtelmkfkgpnadnaaGreatDoor
open Go.RowKit
namespace Bm

variable {w w' : World}

/-- An entry, as it is read. -/
def Ent (w : World) (a : Option Addr) (E : Int → List Value) (j : Nat) : Prop :=
  ∃ (lb : Nat) (ga : Option Addr) (m c2 : Nat) (c : Nat), a = some ⟨lb, 0, none⟩ ∧ lb < w.heap.size ∧ w.cell? ⟨lb, j * 2, none⟩ = some (.slice ga m c2) ∧ w.cell? ⟨lb, j * 2 + 1, none⟩ = some (.int .i64 c) ∧ (1 ≤ c ∧ c ≤ 1000000) ∧ m ≤ 3000 ∧ (0 < m → ∃ g, ga = some ⟨g, 0, none⟩ ∧ g < w.heap.size ∧ Reads w g m (E c))

theorem ent_of {eT : TypeId} {a : Option Addr} {k cap j : Nat} {xs : List Value} {B : Nat → Nat → Prop} {E : Int → List Value} (hown : w.ownsRow 0 eT 2 (.slice a k cap) k xs) (hl : AllLie w B E k xs) (hj : j < k) : Ent w a E j := by
  obtain ⟨lb, c0, e⟩ := own_some hown (by omega)
  have ea : a = some ⟨lb, 0, none⟩ := by injection e
  subst ea
  obtain ⟨s, c, x1, x2, hc, hs⟩ := hl j hj
  obtain ⟨cn, rfl⟩ : ∃ cn : Nat, c = (cn : Int) := ⟨c.toNat, by omega⟩
  have y1 : w.cell? ⟨lb, j * 2, none⟩ = some s := by rw [hown.cellAt (j * 2) (by omega)]; exact x1
  have y2 : w.cell? ⟨lb, j * 2 + 1, none⟩ = some (.int .i64 cn) := by rw [hown.cellAt (j * 2 + 1) (by omega)]; exact x2
  rcases hs with rfl | ⟨g, m, c2, rfl, hm, hg, hr, _⟩
  · exact ⟨lb, none, 0, 0, cn, rfl, (hown.lt lb rfl).2, y1, y2, by omega, by omega, fun h => by omega⟩
  · exact ⟨lb, _, m, c2, cn, rfl, (hown.lt lb rfl).2, y1, y2, by omega, hm, fun _ => ⟨g, rfl, hg, hr⟩⟩

theorem reads_at {g m z k : Nat} {el : List Value} (h : Reads w g m el) (hl : el.length = k) (hz : z < m) (j : Nat) (hj : j < k) : w.cell? ⟨g, z * k + j, none⟩ = el[j]? := by
  have h2 := rep_get el z j m hz (by rw [hl]; exact hj)
  have hlt : z * k + j < m * k := by
    have : (z + 1) * k ≤ m * k := Nat.mul_le_mul_right _ hz
    rw [Nat.add_mul] at this
    omega
  have h1 := h (z * k + j) (by rw [hl]; exact hlt)
  rw [hl] at h2
  rw [h1, h2]

theorem reads_mod {g m z c : Nat} (h : Reads w g m (modEl c)) (hz : z < m) : w.cell? ⟨g, z * 2, none⟩ = some (.string (wordM c)) ∧ w.cell? ⟨g, z * 2 + 1, none⟩ = some (.string ⟨#[]⟩) :=
  ⟨reads_at (k := 2) h rfl hz 0 (by omega), reads_at (k := 2) h rfl hz 1 (by omega)⟩
theorem reads_swap {g m z c : Nat} (h : Reads w g m (swapEl c)) (hz : z < m) : w.cell? ⟨g, z * 3, none⟩ = some (.string (wordM c)) ∧ w.cell? ⟨g, z * 3 + 1, none⟩ = some (.string ⟨#[]⟩) ∧ w.cell? ⟨g, z * 3 + 2, none⟩ = some (.string ⟨#[]⟩) :=
  ⟨reads_at (k := 3) h rfl hz 0 (by omega), reads_at (k := 3) h rfl hz 1 (by omega), reads_at (k := 3) h rfl hz 2 (by omega)⟩
theorem reads_slip {g m z c : Nat} (h : Reads w g m (slipEl c)) (hz : z < m) : w.cell? ⟨g, z * 3, none⟩ = some (.int .i64 0) ∧ w.cell? ⟨g, z * 3 + 1, none⟩ = some (.int .i64 0) ∧ w.cell? ⟨g, z * 3 + 2, none⟩ = some (.int .i64 (-(c : Int))) :=
  ⟨reads_at (k := 3) h rfl hz 0 (by omega), reads_at (k := 3) h rfl hz 1 (by omega), reads_at (k := 3) h rfl hz 2 (by omega)⟩

set_option maxRecDepth 100000 in
set_option maxHeartbeats 8000000 in
theorem looks_any (T : Nat → Nat) (bp n : Nat) (V : Nat → Value) (K : Nat → Nat) (X : Nat → List Value) (w : World) (h : BookAt w T bp n V K X) (hK : ∀ f, K f ≤ 1000) :
    Calls Tryz.prog 45 #[.pointer (some ⟨bp, 0, none⟩)] w fun e w' => e = .returned (.bool true) ∧ Below w.heap.size w w' := by
  obtain ⟨a1, cc1, v1⟩ := Bk.own_sl' (h.rows 1 (by omega) (by omega))
  obtain ⟨a2, cc2, v2⟩ := Bk.own_sl' (h.rows 2 (by omega) (by omega))
  obtain ⟨a3, cc3, v3⟩ := Bk.own_sl' (h.rows 3 (by omega) (by omega))
  have HE1 : Hid (∀ j, j < K 1 → Ent w a1 modEl j) := fun j hj => ent_of (by rw [← v1]; exact h.rows 1 (by omega) (by omega)) (h.lie 1 (by omega) (by omega)) hj
  have HE2 : Hid (∀ j, j < K 2 → Ent w a2 swapEl j) := fun j hj => ent_of (by rw [← v2]; exact h.rows 2 (by omega) (by omega)) (h.lie 2 (by omega) (by omega)) hj
  have HE3 : Hid (∀ j, j < K 3 → Ent w a3 slipEl j) := fun j hj => ent_of (by rw [← v3]; exact h.rows 3 (by omega) (by omega)) (h.lie 3 (by omega) (by omega)) hj
  have HC : Hid (∀ W, Below w.heap.size w W → W.cell? ⟨bp, 1, none⟩ = some (.slice a1 (K 1) cc1) ∧ W.cell? ⟨bp, 2, none⟩ = some (.slice a2 (K 2) cc2) ∧ W.cell? ⟨bp, 3, none⟩ = some (.slice a3 (K 3) cc3) ∧ W.cell? ⟨bp, 4, none⟩ = some (.slice none 0 0)) := fun W hb => by
    have hv := h.obj.of_block (hb.block bp h.obl)
    exact ⟨by rw [← v1]; exact hv.at' 1 (by omega), by rw [← v2]; exact hv.at' 2 (by omega), by rw [← v3]; exact hv.at' 3 (by omega), hv.at' 4 (by omega)⟩
  have hk1 := hK 1
  have hk2 := hK 2
  have hk3 := hK 3
  clear h v1 v2 v3 hK
  generalize K 1 = k1 at *
  generalize K 2 = k2 at *
  generalize K 3 = k3 at *
  obtain ⟨c1, c2, c3, c4⟩ := HC.out w (Below.refl _ _)
  go_enter Tryz.func45, Tryz.ntmps45
  go_wp2
  go_loopg [3] k1 (fun gg s wx => ∃ j : Nat, j ≤ k1 ∧ k1 - j ≤ gg ∧ s = .int .i64 j ∧ Below w.heap.size w wx)
  case atStart => exact ⟨0, by omega, by omega, rfl, Below.refl _ _⟩
  case round =>
    clear c1 c2 c3 c4
    obtain ⟨j, hj, hgj, rfl, hbw⟩ := hrel
    obtain ⟨c1, c2, c3, c4⟩ := HC.out _ hbw
    by_cases hlt : j < k1
    · obtain ⟨lb, ga, m, cx, c, rfl, hlb, e1, e2, hc, hm, hrd⟩ := HE1.out j hlt
      have hltI : (j : Int) < (k1 : Int) := by omega
      have HX : Hid (∀ W, Below w.heap.size w W → (W.cell? ⟨bp, 1, none⟩ = some (.slice (some ⟨lb, 0, none⟩) k1 cc1) ∧ W.cell? ⟨lb, j * 2, none⟩ = some (.slice ga m cx) ∧ W.cell? ⟨lb, j * 2 + 1, none⟩ = some (.int .i64 c)) ∧ ∀ z, z < m → ∃ g, ga = some ⟨g, 0, none⟩ ∧ W.cell? ⟨g, z * 2, none⟩ = some (.string (wordM c)) ∧ W.cell? ⟨g, z * 2 + 1, none⟩ = some (.string ⟨#[]⟩)) := fun W hb => by
        refine ⟨⟨(HC.out W hb).1, (hb.cell (p := ⟨lb, j * 2, none⟩) hlb).trans e1, (hb.cell (p := ⟨lb, j * 2 + 1, none⟩) hlb).trans e2⟩, fun z hz => ?_⟩
        obtain ⟨g, hg1, hg2, hr⟩ := hrd (by omega)
        obtain ⟨r0, r1⟩ := reads_mod hr hz
        exact ⟨g, hg1, (hb.cell (p := ⟨g, z * 2, none⟩) hg2).trans r0, (hb.cell (p := ⟨g, z * 2 + 1, none⟩) hg2).trans r1⟩
      have kw := fun W => word_all c (by omega) W
      clear e1 e2 hrd c1 c2 c3 c4
      obtain ⟨⟨d1, d2, d3⟩, _⟩ := HX.out _ hbw
      generalize wordM c = x at *
      go_wp2_with (go_at_call 78; fail)
      go_at_call 78
      refine (kw _).mono ?_
      rintro e w3 ⟨rfl, hb3⟩
      have hbw3 : Below w.heap.size w w3 := hbw.trans (hb3.mono hbw.size)
      clear kw hb3 d1 d2 d3 hbw
      obtain ⟨⟨d1, d2, d3⟩, _⟩ := HX.out _ hbw3
      have HW3 : Hid (Below w.heap.size w (w3.alloc (.cells #[.string x, .string ⟨#[]⟩] 29))) := hbw3.alloc hbw3.size _
      have HXk : Hid (∀ W, Below (w3.alloc (.cells #[.string x, .string ⟨#[]⟩] 29)).heap.size (w3.alloc (.cells #[.string x, .string ⟨#[]⟩] 29)) W → W.cell? ⟨w3.heap.size, 0, none⟩ = some (.string x) ∧ W.cell? ⟨w3.heap.size, 1, none⟩ = some (.string ⟨#[]⟩)) := fun W hb => by
        have h : W.heap[w3.heap.size]? = some (.cells #[.string x, .string ⟨#[]⟩] 29) := by rw [hb.block w3.heap.size (by simp)]; exact Bk.new_block w3 _
        simp [World.cell?, h]
      go_wp2
      generalize w3.heap.size = xb at *
      generalize w3.alloc (.cells #[.string x, .string ⟨#[]⟩] 29) = W3 at *
      clear d1 d2 d3 hbw3
      go_loopg [5] m (fun gg s wx => ∃ z : Nat, z ≤ m ∧ m - z ≤ gg ∧ s = .int .i64 z ∧ Below W3.heap.size W3 wx)
      case atStart => exact ⟨0, by omega, by omega, rfl, Below.refl _ _⟩
      case round =>
        obtain ⟨z, hz, hgz, rfl, hbx⟩ := hrel
        have hbx0 : Below w.heap.size w wr := HW3.out.trans (hbx.mono HW3.out.size)
        obtain ⟨⟨d1, d2, d3⟩, hx⟩ := HX.out _ hbx0
        obtain ⟨y0, y1⟩ := HXk.out _ hbx
        by_cases hlz : z < m
        · obtain ⟨g, rfl, r0, r1⟩ := hx z hlz
          have hlzI : (z : Int) < (m : Int) := by omega
          have hq1 : (x.toList == x.toList) = true := by simp
          clear hx
          go_upto_region 8 with fail
          go_quiet (fail)
          generalize hW : World.drewN _ _ = W4
          have hbx4 : Below W3.heap.size W3 W4 := by rw [← hW]; exact ⟨hbx.os, hbx.tape, hbx.output, hbx.size, hbx.block⟩
          clear hW
          go_wp2
          go_roundg (m - (z + 1))
          case measure => omega
          case rel => exact ⟨z + 1, by omega, by omega, by go_num, hbx4⟩
        · have hlzI : ((z : Int) < (m : Int)) = False := by simp; omega
          clear hx
          go_wp2
          go_roundg (k1 - (j + 1))
          case measure => omega
          case rel => exact ⟨j + 1, by omega, by omega, by go_num, hbx0⟩
    · have hltI : ¬ ((j : Int) < (k1 : Int)) := by omega
      go_wp2
      go_loopg [6] k2 (fun gg s wx => ∃ j : Nat, j ≤ k2 ∧ k2 - j ≤ gg ∧ s = .int .i64 j ∧ Below w.heap.size w wx)
      case atStart => exact ⟨0, by omega, by omega, rfl, hbw⟩
      case round =>
        clear c1 c2 c3 c4 hbw hltI hlt hj hgj
        obtain ⟨j, hj, hgj, rfl, hbw⟩ := hrel
        obtain ⟨c1, c2, c3, c4⟩ := HC.out _ hbw
        by_cases hlt : j < k2
        · obtain ⟨lb, ga, m, cx, c, rfl, hlb, e1, e2, hc, hm, hrd⟩ := HE2.out j hlt
          have hltI : (j : Int) < (k2 : Int) := by omega
          have HX : Hid (∀ W, Below w.heap.size w W → (W.cell? ⟨bp, 2, none⟩ = some (.slice (some ⟨lb, 0, none⟩) k2 cc2) ∧ W.cell? ⟨lb, j * 2, none⟩ = some (.slice ga m cx) ∧ W.cell? ⟨lb, j * 2 + 1, none⟩ = some (.int .i64 c)) ∧ ∀ z, z < m → ∃ g, ga = some ⟨g, 0, none⟩ ∧ W.cell? ⟨g, z * 3, none⟩ = some (.string (wordM c)) ∧ W.cell? ⟨g, z * 3 + 1, none⟩ = some (.string ⟨#[]⟩) ∧ W.cell? ⟨g, z * 3 + 2, none⟩ = some (.string ⟨#[]⟩)) := fun W hb => by
            refine ⟨⟨(HC.out W hb).2.1, (hb.cell (p := ⟨lb, j * 2, none⟩) hlb).trans e1, (hb.cell (p := ⟨lb, j * 2 + 1, none⟩) hlb).trans e2⟩, fun z hz => ?_⟩
            obtain ⟨g, hg1, hg2, hr⟩ := hrd (by omega)
            obtain ⟨r0, r1, r2⟩ := reads_swap hr hz
            exact ⟨g, hg1, (hb.cell (p := ⟨g, z * 3, none⟩) hg2).trans r0, (hb.cell (p := ⟨g, z * 3 + 1, none⟩) hg2).trans r1, (hb.cell (p := ⟨g, z * 3 + 2, none⟩) hg2).trans r2⟩
          have kw := fun W => word_all c (by omega) W
          clear e1 e2 hrd c1 c2 c3 c4
          obtain ⟨⟨d1, d2, d3⟩, _⟩ := HX.out _ hbw
          generalize wordM c = x at *
          go_wp2_with (go_at_call 78; fail)
          go_at_call 78
          refine (kw _).mono ?_
          rintro e w3 ⟨rfl, hb3⟩
          have hbw3 : Below w.heap.size w w3 := hbw.trans (hb3.mono hbw.size)
          clear kw hb3 d1 d2 d3 hbw
          obtain ⟨⟨d1, d2, d3⟩, _⟩ := HX.out _ hbw3
          have HW3 : Hid (Below w.heap.size w (w3.alloc (.cells #[.string x, .string ⟨#[]⟩, .string ⟨#[]⟩] 137))) := hbw3.alloc hbw3.size _
          have HXk : Hid (∀ W, Below (w3.alloc (.cells #[.string x, .string ⟨#[]⟩, .string ⟨#[]⟩] 137)).heap.size (w3.alloc (.cells #[.string x, .string ⟨#[]⟩, .string ⟨#[]⟩] 137)) W → W.cell? ⟨w3.heap.size, 0, none⟩ = some (.string x) ∧ W.cell? ⟨w3.heap.size, 1, none⟩ = some (.string ⟨#[]⟩) ∧ W.cell? ⟨w3.heap.size, 2, none⟩ = some (.string ⟨#[]⟩)) := fun W hb => by
            have h : W.heap[w3.heap.size]? = some (.cells #[.string x, .string ⟨#[]⟩, .string ⟨#[]⟩] 137) := by rw [hb.block w3.heap.size (by simp)]; exact Bk.new_block w3 _
            simp [World.cell?, h]
          go_wp2
          generalize w3.heap.size = xb at *
          generalize w3.alloc (.cells #[.string x, .string ⟨#[]⟩, .string ⟨#[]⟩] 137) = W3 at *
          clear d1 d2 d3 hbw3
          go_loopg [8] m (fun gg s wx => ∃ z : Nat, z ≤ m ∧ m - z ≤ gg ∧ s = .int .i64 z ∧ Below W3.heap.size W3 wx)
          case atStart => exact ⟨0, by omega, by omega, rfl, Below.refl _ _⟩
          case round =>
            obtain ⟨z, hz, hgz, rfl, hbx⟩ := hrel
            have hbx0 : Below w.heap.size w wr := HW3.out.trans (hbx.mono HW3.out.size)
            obtain ⟨⟨d1, d2, d3⟩, hx⟩ := HX.out _ hbx0
            obtain ⟨y0, y1, y2⟩ := HXk.out _ hbx
            by_cases hlz : z < m
            · obtain ⟨g, rfl, r0, r1, r2⟩ := hx z hlz
              have hlzI : (z : Int) < (m : Int) := by omega
              have hq1 : (x.toList == x.toList) = true := by simp
              clear hx
              go_upto_region 17 with fail
              go_quiet (fail)
              generalize hW : World.drewN _ _ = W4
              have hbx4 : Below W3.heap.size W3 W4 := by rw [← hW]; exact ⟨hbx.os, hbx.tape, hbx.output, hbx.size, hbx.block⟩
              clear hW
              go_wp2
              go_roundg (m - (z + 1))
              case measure => omega
              case rel => exact ⟨z + 1, by omega, by omega, by go_num, hbx4⟩
            · have hlzI : ((z : Int) < (m : Int)) = False := by simp; omega
              clear hx
              go_wp2
              go_roundg (k2 - (j + 1))
              case measure => omega
              case rel => exact ⟨j + 1, by omega, by omega, by go_num, hbx0⟩
        · have hltI : ¬ ((j : Int) < (k2 : Int)) := by omega
          go_wp2
          go_loopg [9] k3 (fun gg s wx => ∃ j : Nat, j ≤ k3 ∧ k3 - j ≤ gg ∧ s = .int .i64 j ∧ Below w.heap.size w wx)
          case atStart => exact ⟨0, by omega, by omega, rfl, hbw⟩
          case round =>
            clear c1 c2 c3 c4 hbw hltI hlt hj hgj
            obtain ⟨j, hj, hgj, rfl, hbw⟩ := hrel
            obtain ⟨c1, c2, c3, c4⟩ := HC.out _ hbw
            by_cases hlt : j < k3
            · obtain ⟨lb, ga, m, cx, c, rfl, hlb, e1, e2, hc, hm, hrd⟩ := HE3.out j hlt
              have hltI : (j : Int) < (k3 : Int) := by omega
              have HX : Hid (∀ W, Below w.heap.size w W → (W.cell? ⟨bp, 3, none⟩ = some (.slice (some ⟨lb, 0, none⟩) k3 cc3) ∧ W.cell? ⟨lb, j * 2, none⟩ = some (.slice ga m cx) ∧ W.cell? ⟨lb, j * 2 + 1, none⟩ = some (.int .i64 c)) ∧ ∀ z, z < m → ∃ g, ga = some ⟨g, 0, none⟩ ∧ W.cell? ⟨g, z * 3, none⟩ = some (.int .i64 0) ∧ W.cell? ⟨g, z * 3 + 1, none⟩ = some (.int .i64 0) ∧ W.cell? ⟨g, z * 3 + 2, none⟩ = some (.int .i64 (-(c : Int)))) := fun W hb => by
                refine ⟨⟨(HC.out W hb).2.2.1, (hb.cell (p := ⟨lb, j * 2, none⟩) hlb).trans e1, (hb.cell (p := ⟨lb, j * 2 + 1, none⟩) hlb).trans e2⟩, fun z hz => ?_⟩
                obtain ⟨g, hg1, hg2, hr⟩ := hrd (by omega)
                obtain ⟨r0, r1, r2⟩ := reads_slip hr hz
                exact ⟨g, hg1, (hb.cell (p := ⟨g, z * 3, none⟩) hg2).trans r0, (hb.cell (p := ⟨g, z * 3 + 1, none⟩) hg2).trans r1, (hb.cell (p := ⟨g, z * 3 + 2, none⟩) hg2).trans r2⟩
              clear e1 e2 hrd c1 c2 c3 c4
              obtain ⟨⟨d1, d2, d3⟩, _⟩ := HX.out _ hbw
              go_wp2
              go_loopg [10] m (fun gg s wx => ∃ z : Nat, z ≤ m ∧ m - z ≤ gg ∧ s = .int .i64 z ∧ Below w.heap.size w wx)
              case atStart => exact ⟨0, by omega, by omega, rfl, hbw⟩
              case round =>
                clear d1 d2 d3 hbw
                obtain ⟨z, hz, hgz, rfl, hbx⟩ := hrel
                obtain ⟨⟨d1, d2, d3⟩, hx⟩ := HX.out _ hbx
                by_cases hlz : z < m
                · obtain ⟨g, rfl, r0, r1, r2⟩ := hx z hlz
                  have hlzI : (z : Int) < (m : Int) := by omega
                  have hng : IntKind.i64.wrap (-(c : Int)) = -(c : Int) := Bk.wrap_id _ (by omega) (by omega)
                  have hq1 : ((-(c : Int)) == -(c : Int)) = true := by simp
                  have hq2 : (((0 : Int)) == 0) = true := by simp
                  clear hx
                  go_upto_region 25 with fail
                  go_region
                  go_wp2
                  go_roundg (m - (z + 1))
                  case measure => omega
                  case rel => exact ⟨z + 1, by omega, by omega, by go_num, hbx.drew⟩
                · have hlzI : ((z : Int) < (m : Int)) = False := by simp; omega
                  clear hx
                  go_wp2
                  go_roundg (k3 - (j + 1))
                  case measure => omega
                  case rel => exact ⟨j + 1, by omega, by omega, by go_num, hbx⟩
            · have hltI : ¬ ((j : Int) < (k3 : Int)) := by omega
              go_wp2
              go_loopg [11] 1 (fun _ s wx => s = .int .i64 0 ∧ Below w.heap.size w wx)
              case atStart => exact ⟨rfl, hbw⟩
              case round =>
                clear hltI hlt hj hgj c1 c2 c3 c4 hbw
                obtain ⟨rfl, hbw⟩ := hrel
                obtain ⟨c1, c2, c3, c4⟩ := HC.out _ hbw
                go_wp2
                go_ret
                exact ⟨rfl, hbw⟩

end Bm
end Go.Proofs.YtelmkfkgpnadnaaGreatDoor
