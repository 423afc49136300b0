/-
  The law's book: does every list read as its owner wrote it?
-/
import Derived.Test.YtelmkfkgpnadnaaGreatDoorBK6
namespace Go.Proofs.YtelmkfkgpnadnaaGreatDoor
open Go.RowKit
namespace Bk

variable {w w' : World}

/-- An entry, as it is read. -/
def Ent (w : World) (a : Option Addr) (E : Int → List Value) (j : Nat) : Prop :=
  ∃ (lb : Nat) (ga : Option Addr) (m c2 : Nat) (c : Nat), a = some ⟨lb, 0, none⟩ ∧ lb < w.heap.size ∧ w.cell? ⟨lb, j * 2, none⟩ = some (.slice ga m c2) ∧ w.cell? ⟨lb, j * 2 + 1, none⟩ = some (.int .i64 c) ∧ (1 ≤ c ∧ c ≤ 9) ∧ m ≤ 3000 ∧ (0 < m → ∃ g, ga = some ⟨g, 0, none⟩ ∧ g < w.heap.size ∧ Reads w g m (E c))

theorem ent_of {eT : TypeId} {a : Option Addr} {k cap j : Nat} {xs : List Value} {B : Nat → Nat → Prop} {E : Int → List Value} (hown : w.ownsRow 0 eT 2 (.slice a k cap) k xs) (hl : AllLie w B E k xs) (hj : j < k) : Ent w a E j := by
  obtain ⟨lb, c0, e⟩ := own_some hown (by omega)
  have ea : a = some ⟨lb, 0, none⟩ := by injection e
  subst ea
  obtain ⟨s, c, x1, x2, hc, hs⟩ := hl j hj
  obtain ⟨cn, rfl⟩ : ∃ cn : Nat, c = (cn : Int) := ⟨c.toNat, by omega⟩
  have y1 : w.cell? ⟨lb, j * 2, none⟩ = some s := by rw [hown.cellAt (j * 2) (by omega)]; exact x1
  have y2 : w.cell? ⟨lb, j * 2 + 1, none⟩ = some (.int .i64 cn) := by rw [hown.cellAt (j * 2 + 1) (by omega)]; exact x2
  rcases hs with rfl | ⟨g, m, c2, rfl, hm, hg, hr, _⟩
  · exact ⟨lb, none, 0, 0, cn, rfl, (hown.lt lb rfl).2, y1, y2, by omega, by omega, fun h => by omega⟩
  · exact ⟨lb, _, m, c2, cn, rfl, (hown.lt lb rfl).2, y1, y2, by omega, hm, fun _ => ⟨g, rfl, hg, hr⟩⟩

theorem reads_name {g m z c : Nat} (h : Reads w g m (nameEl c)) (hz : z < m) : w.cell? ⟨g, z, none⟩ = some (.string (wordB c)) := by
  have h1 := h z (by simp [nameEl]; omega)
  have h2 := rep_get (nameEl (c : Int)) z 0 m hz (by simp [nameEl])
  have e : z * (nameEl (c : Int)).length + 0 = z := by simp [nameEl]
  rw [e] at h2
  rw [h1, h2]
  simp [nameEl]

theorem reads_slip {g m z c : Nat} (h : Reads w g m (slipEl c)) (hz : z < m) : w.cell? ⟨g, z * 3, none⟩ = some (.int .i64 0) ∧ w.cell? ⟨g, z * 3 + 1, none⟩ = some (.int .i64 0) ∧ w.cell? ⟨g, z * 3 + 2, none⟩ = some (.int .i64 (-(c : Int))) := by
  have hl : (slipEl (c : Int)).length = 3 := rfl
  have r : ∀ j, j < 3 → w.cell? ⟨g, z * 3 + j, none⟩ = (slipEl (c : Int))[j]? := fun j hj => by
    have h2 := rep_get (slipEl (c : Int)) z j m hz (by rw [hl]; exact hj)
    have h1 := h (z * 3 + j) (by rw [hl]; omega)
    rw [hl] at h2
    rw [h1, h2]
  exact ⟨r 0 (by omega), r 1 (by omega), r 2 (by omega)⟩

set_option maxRecDepth 100000 in
set_option maxHeartbeats 4000000 in
theorem looks_any (T : Nat → Nat) (bp n ks kn : Nat) (ls ln : Value) (xs xn : List Value) (w : World) (h : BookAt w T bp n ls ln ks kn xs xn) (hks : ks ≤ 1000) (hkn : kn ≤ 1000) :
    Calls Tryz.prog 45 #[.pointer (some ⟨bp, 0, none⟩)] w fun e w' => e = .returned (.bool true) ∧ Below w.heap.size w w' := by
  obtain ⟨sa, sc, rfl⟩ := own_sl' h.rs
  obtain ⟨na, nc, rfl⟩ := own_sl' h.rn
  have HES : Hid (∀ j, j < ks → Ent w sa slipEl j) := fun j hj => ent_of h.rs h.lies hj
  have HEN : Hid (∀ j, j < kn → Ent w na nameEl j) := fun j hj => ent_of h.rn h.lien hj
  have HC : Hid (∀ W, Below w.heap.size w W → W.cell? ⟨bp, 1, none⟩ = some (.slice none 0 0) ∧ W.cell? ⟨bp, 2, none⟩ = some (.slice none 0 0) ∧ W.cell? ⟨bp, 3, none⟩ = some (.slice sa ks sc) ∧ W.cell? ⟨bp, 4, none⟩ = some (.slice na kn nc)) := fun W hb => by
    have hv := h.obj.of_block (hb.block bp h.obl)
    exact ⟨hv.at' 1 (by omega), hv.at' 2 (by omega), hv.at' 3 (by omega), hv.at' 4 (by omega)⟩
  obtain ⟨c1, c2, c3, c4⟩ := HC.out w (Below.refl _ _)
  clear h
  go_enter Tryz.func45, Tryz.ntmps45
  go_wp2
  go_loopg [3] 1 (fun _ s wx => s = .int .i64 0 ∧ w = wx)
  case atStart => exact ⟨rfl, rfl⟩
  case round =>
    obtain ⟨rfl, rfl⟩ := hrel
    go_wp2
    go_loopg [6] 1 (fun _ s wx => s = .int .i64 0 ∧ w = wx)
    case atStart => exact ⟨rfl, rfl⟩
    case round =>
      obtain ⟨rfl, rfl⟩ := hrel
      go_wp2
      go_loopg [9] ks (fun gg s wx => ∃ j : Nat, j ≤ ks ∧ ks - j ≤ gg ∧ s = .int .i64 j ∧ Below w.heap.size w wx)
      case atStart => exact ⟨0, by omega, by omega, rfl, Below.refl _ _⟩
      case round =>
        clear c1 c2 c3 c4
        obtain ⟨j, hj, hgj, rfl, hbw⟩ := hrel
        obtain ⟨c1, c2, c3, c4⟩ := HC.out _ hbw
        by_cases hlt : j < ks
        · obtain ⟨lb, ga, m, cc, c, rfl, hlb, e1, e2, hc, hm, hrd⟩ := HES.out j hlt
          have hltI : (j : Int) < (ks : Int) := by omega
          have HX : Hid (∀ W, Below w.heap.size w W → (W.cell? ⟨bp, 3, none⟩ = some (.slice (some ⟨lb, 0, none⟩) ks sc) ∧ W.cell? ⟨lb, j * 2, none⟩ = some (.slice ga m cc) ∧ W.cell? ⟨lb, j * 2 + 1, none⟩ = some (.int .i64 c)) ∧ ∀ z, z < m → ∃ g, ga = some ⟨g, 0, none⟩ ∧ W.cell? ⟨g, z * 3, none⟩ = some (.int .i64 0) ∧ W.cell? ⟨g, z * 3 + 1, none⟩ = some (.int .i64 0) ∧ W.cell? ⟨g, z * 3 + 2, none⟩ = some (.int .i64 (-(c : Int)))) := fun W hb => by
            refine ⟨⟨(HC.out W hb).2.2.1, (hb.cell (p := ⟨lb, j * 2, none⟩) hlb).trans e1, (hb.cell (p := ⟨lb, j * 2 + 1, none⟩) hlb).trans e2⟩, fun z hz => ?_⟩
            obtain ⟨g, hg1, hg2, hr⟩ := hrd (by omega)
            obtain ⟨r1, r2, r3⟩ := reads_slip hr hz
            exact ⟨g, hg1, (hb.cell (p := ⟨g, z * 3, none⟩) hg2).trans r1, (hb.cell (p := ⟨g, z * 3 + 1, none⟩) hg2).trans r2, (hb.cell (p := ⟨g, z * 3 + 2, none⟩) hg2).trans r3⟩
          clear e1 e2 hrd c1 c2 c3 c4
          obtain ⟨⟨d1, d2, d3⟩, _⟩ := HX.out _ hbw
          go_wp2
          go_loopg [10] m (fun gg s wx => ∃ z : Nat, z ≤ m ∧ m - z ≤ gg ∧ s = .int .i64 z ∧ Below w.heap.size w wx)
          case atStart => exact ⟨0, by omega, by omega, rfl, hbw⟩
          case round =>
            clear d1 d2 d3 hbw
            obtain ⟨z, hz, hgz, rfl, hbx⟩ := hrel
            obtain ⟨⟨d1, d2, d3⟩, hx⟩ := HX.out _ hbx
            by_cases hlz : z < m
            · obtain ⟨g, rfl, r1, r2, r3⟩ := hx z hlz
              have hlzI : (z : Int) < (m : Int) := by omega
              have hng : IntKind.i64.wrap (-(c : Int)) = -(c : Int) := wrap_id _ (by omega) (by omega)
              have hq1 : ((-(c : Int)) == -(c : Int)) = true := by simp
              have hq2 : (((0 : Int)) == 0) = true := by simp
              clear hx
              go_upto_region 25 with fail
              go_region
              go_wp2
              go_roundg (m - (z + 1))
              case measure => omega
              case rel => exact ⟨z + 1, by omega, by omega, by go_num, hbx.drew⟩
            · have hlzI : ((z : Int) < (m : Int)) = False := by simp; omega
              clear hx
              go_wp2
              go_roundg (ks - (j + 1))
              case measure => omega
              case rel => exact ⟨j + 1, by omega, by omega, by go_num, hbx⟩
        · have hltI : ¬ ((j : Int) < (ks : Int)) := by omega
          go_wp2
          go_loopg [11] kn (fun gg s wx => ∃ j : Nat, j ≤ kn ∧ kn - j ≤ gg ∧ s = .int .i64 j ∧ Below w.heap.size w wx)
          case atStart => exact ⟨0, by omega, by omega, rfl, hbw⟩
          case round =>
            clear c1 c2 c3 c4 hbw hltI hlt hj hgj
            obtain ⟨j, hj, hgj, rfl, hbw⟩ := hrel
            obtain ⟨c1, c2, c3, c4⟩ := HC.out _ hbw
            by_cases hlt : j < kn
            · obtain ⟨lb, ga, m, cc, c, rfl, hlb, e1, e2, hc, hm, hrd⟩ := HEN.out j hlt
              have hltI : (j : Int) < (kn : Int) := by omega
              have HX : Hid (∀ W, Below w.heap.size w W → (W.cell? ⟨bp, 4, none⟩ = some (.slice (some ⟨lb, 0, none⟩) kn nc) ∧ W.cell? ⟨lb, j * 2, none⟩ = some (.slice ga m cc) ∧ W.cell? ⟨lb, j * 2 + 1, none⟩ = some (.int .i64 c)) ∧ ∀ z, z < m → ∃ g, ga = some ⟨g, 0, none⟩ ∧ W.cell? ⟨g, z, none⟩ = some (.string (wordB c))) := fun W hb => by
                refine ⟨⟨(HC.out W hb).2.2.2, (hb.cell (p := ⟨lb, j * 2, none⟩) hlb).trans e1, (hb.cell (p := ⟨lb, j * 2 + 1, none⟩) hlb).trans e2⟩, fun z hz => ?_⟩
                obtain ⟨g, hg1, hg2, hr⟩ := hrd (by omega)
                exact ⟨g, hg1, (hb.cell (p := ⟨g, z, none⟩) hg2).trans (reads_name hr hz)⟩
              have kw := fun W => word_any c hc.1 hc.2 W
              clear e1 e2 hrd c1 c2 c3 c4
              obtain ⟨⟨d1, d2, d3⟩, _⟩ := HX.out _ hbw
              generalize wordB c = x at *
              go_wp2_with (go_at_call 78; fail)
              go_at_call 78
              refine (kw _).mono ?_
              rintro e w3 ⟨rfl, hb3⟩
              have hbw3 : Below w.heap.size w w3 := hbw.trans (hb3.mono hbw.size)
              clear kw hb3 d1 d2 d3 hbw
              obtain ⟨⟨d1, d2, d3⟩, _⟩ := HX.out _ hbw3
              go_wp2
              go_loopg [13] m (fun gg s wx => ∃ z : Nat, z ≤ m ∧ m - z ≤ gg ∧ s = .int .i64 z ∧ Below w.heap.size w wx)
              case atStart => exact ⟨0, by omega, by omega, rfl, hbw3⟩
              case round =>
                clear d1 d2 d3 hbw3
                obtain ⟨z, hz, hgz, rfl, hbx⟩ := hrel
                obtain ⟨⟨d1, d2, d3⟩, hx⟩ := HX.out _ hbx
                by_cases hlz : z < m
                · obtain ⟨g, rfl, r1⟩ := hx z hlz
                  have hlzI : (z : Int) < (m : Int) := by omega
                  have hq1 : (x.toList == x.toList) = true := by simp
                  clear hx
                  go_wp2
                  go_roundg (m - (z + 1))
                  case measure => omega
                  case rel => exact ⟨z + 1, by omega, by omega, by go_num, hbx⟩
                · have hlzI : ((z : Int) < (m : Int)) = False := by simp; omega
                  clear hx
                  go_wp2
                  go_roundg (kn - (j + 1))
                  case measure => omega
                  case rel => exact ⟨j + 1, by omega, by omega, by go_num, hbx⟩
            · have hltI : ¬ ((j : Int) < (kn : Int)) := by omega
              go_wp2
              go_ret
              exact ⟨rfl, hbw⟩

end Bk
end Go.Proofs.YtelmkfkgpnadnaaGreatDoor
