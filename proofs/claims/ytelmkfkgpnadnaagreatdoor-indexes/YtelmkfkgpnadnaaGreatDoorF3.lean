/-
  The document's answer, of an index: does a line say what an earlier one says?
-/
import Derived.Test.YtelmkfkgpnadnaaGreatDoorF2
namespace Go.Proofs.YtelmkfkgpnadnaaGreatDoor
open Go.RowKit

variable {w w' : World}

theorem lineCells {B : Nat → Prop} {out : List OLn} {xs : List Value} {ob cap : Nat} (h : AllLines w B out xs) (ho : w.ownsRow 0 210 4 (.slice (some ⟨ob, 0, none⟩) out.length cap) out.length xs) (j : Nat) (hj : j < out.length) :
    ∃ gw cw ga ca, w.cell? ⟨ob, j * 4, none⟩ = some (.int .i64 out[j].1) ∧ w.cell? ⟨ob, j * 4 + 1, none⟩ = some (.slice (some ⟨gw, 0, none⟩) out[j].2.length cw) ∧ w.cell? ⟨ob, j * 4 + 2, none⟩ = some (.slice (some ⟨ga, 0, none⟩) out[j].2.length ca) ∧ w.cell? ⟨ob, j * 4 + 3, none⟩ = some (.int .i64 (Tx.fin (wtoks out[j].2))) ∧
      LineLies w B out[j] [.int .i64 out[j].1, .slice (some ⟨gw, 0, none⟩) out[j].2.length cw, .slice (some ⟨ga, 0, none⟩) out[j].2.length ca, .int .i64 (Tx.fin (wtoks out[j].2))] ∧ ValsAt w gw out[j].2.length (fun i => .string (out[j].2.getD i pad).2) ∧ gw < w.heap.size := by
  obtain ⟨gw, cw, ga, ca, e, hne, h1, h2, h3, h4, h5, h6⟩ := h.2 j hj
  have hx : ∀ i, i < 4 → w.cell? ⟨ob, j * 4 + i, none⟩ = [Value.int .i64 out[j].1, .slice (some ⟨gw, 0, none⟩) out[j].2.length cw, .slice (some ⟨ga, 0, none⟩) out[j].2.length ca, .int .i64 (Tx.fin (wtoks out[j].2))][i]? := fun i hi => by
    rw [ho.cellAt (j * 4 + i) (by omega), ← e, List.getElem?_take, if_pos hi, List.getElem?_drop]
  exact ⟨gw, cw, ga, ca, hx 0 (by omega), hx 1 (by omega), hx 2 (by omega), hx 3 (by omega), ⟨gw, cw, ga, ca, rfl, hne, h1, h2, h3, h4, h5, h6⟩, h1, h3⟩

set_option maxRecDepth 100000 in
set_option maxHeartbeats 4000000 in
theorem again_any (ob cap n gw ga cw ca : Nat) (en : Int) (v : ByteArray) (good : List OLn) (xs : List Value) (B : Nat → Prop) (w : World) (hg : good.length ≤ 2001)
    (ho : w.ownsRow 0 210 4 (.slice (some ⟨ob, 0, none⟩) good.length cap) good.length xs) (hl : AllLines w B good xs) (h2 : ∀ g ∈ good, g.2.length = 2 ∧ (g.2.getD 0 pad).2 = ⟨#[118, 101, 114, 115, 105, 111, 110]⟩)
    (w0 : w.cell? ⟨gw, 0, none⟩ = some (.string ⟨#[118, 101, 114, 115, 105, 111, 110]⟩)) (w1 : w.cell? ⟨gw, 1, none⟩ = some (.string v)) :
    Calls Tryz.prog 163 #[.agg #[.int .i64 n, .slice (some ⟨gw, 0, none⟩) 2 cw, .slice (some ⟨ga, 0, none⟩) 2 ca, .int .i64 en], .slice (some ⟨ob, 0, none⟩) good.length cap] w fun e w' => e = .returned (.bool (good.any fun g => (g.2.getD 1 pad).2.toList == v.toList)) ∧ Below w.heap.size w w' := by
  have HL : Hid (∀ j, ∀ hj : j < good.length, ∃ gj cj ga' ca', w.cell? ⟨ob, j * 4, none⟩ = some (.int .i64 good[j].1) ∧ w.cell? ⟨ob, j * 4 + 1, none⟩ = some (.slice (some ⟨gj, 0, none⟩) 2 cj) ∧ w.cell? ⟨ob, j * 4 + 2, none⟩ = some (.slice (some ⟨ga', 0, none⟩) 2 ca') ∧ w.cell? ⟨ob, j * 4 + 3, none⟩ = some (.int .i64 (Tx.fin (wtoks good[j].2))) ∧ w.cell? ⟨gj, 0, none⟩ = some (.string ⟨#[118, 101, 114, 115, 105, 111, 110]⟩) ∧ w.cell? ⟨gj, 1, none⟩ = some (.string (good[j].2.getD 1 pad).2)) := fun j hj => by
    obtain ⟨gj, cj, ga', ca', a0, a1, a2, a3, _, hv, _⟩ := lineCells hl ho j hj
    obtain ⟨e1, e2⟩ := h2 good[j] (List.getElem_mem hj)
    rw [e1] at a1 a2 hv
    have b0 := hv.at' 0 (by omega)
    rw [e2] at b0
    exact ⟨gj, cj, ga', ca', a0, a1, a2, a3, b0, hv.at' 1 (by omega)⟩
  have hobl := (ho.lt ob rfl).2
  have HW : Hid (w.cell? ⟨gw, 0, none⟩ = some (.string ⟨#[118, 101, 114, 115, 105, 111, 110]⟩) ∧ w.cell? ⟨gw, 1, none⟩ = some (.string v)) := ⟨w0, w1⟩
  obtain ⟨R, hR⟩ : ∃ R, (good.any fun g => (g.2.getD 1 pad).2.toList == v.toList) = R := ⟨_, rfl⟩
  have HR : Hid ((good.any fun g => (g.2.getD 1 pad).2.toList == v.toList) = R) := hR
  rw [hR]
  clear ho hl h2 w0 w1 hR
  go_enter Tryz.func163, Tryz.ntmps163
  go_wp2
  have hl1 : (w.alloc (.cells #[.int .i64 n, .slice (some ⟨gw, 0, none⟩) 2 cw, .slice (some ⟨ga, 0, none⟩) 2 ca, .int .i64 en] 210)).cell? ⟨w.heap.size, 1, none⟩ = some (.slice (some ⟨gw, 0, none⟩) 2 cw) := by
    have b0 := block_new w (.cells #[.int .i64 n, .slice (some ⟨gw, 0, none⟩) 2 cw, .slice (some ⟨ga, 0, none⟩) 2 ca, .int .i64 en] 210)
    simp only [World.cell?, b0]; rfl
  have hb0 : Below w.heap.size w (w.alloc (.cells #[.int .i64 n, .slice (some ⟨gw, 0, none⟩) 2 cw, .slice (some ⟨ga, 0, none⟩) 2 ca, .int .i64 en] 210)) := (Below.refl _ _).alloc (Nat.le_refl _) _
  generalize w.alloc (.cells #[.int .i64 n, .slice (some ⟨gw, 0, none⟩) 2 cw, .slice (some ⟨ga, 0, none⟩) 2 ca, .int .i64 en] 210) = W0 at *
  have HS : Hid (W0.cell? ⟨w.heap.size, 1, none⟩ = some (.slice (some ⟨gw, 0, none⟩) 2 cw) ∧ Below w.heap.size w W0) := ⟨hl1, hb0⟩
  clear hl1 hb0
  go_loopg [5] good.length (fun gg s wr => ∃ j : Nat, j ≤ good.length ∧ good.length - j ≤ gg ∧ s = .int .i64 j ∧ Hid (wr.cell? ⟨w.heap.size, 1, none⟩ = some (.slice (some ⟨gw, 0, none⟩) 2 cw) ∧ Below w.heap.size w wr) ∧ Hid (((good.drop j).any fun g => (g.2.getD 1 pad).2.toList == v.toList) = R))
  case atStart => exact ⟨0, by omega, by omega, rfl, HS, HR⟩
  case round =>
    clear HS HR
    obtain ⟨j, hj, hgj, rfl, HS, HR⟩ := hrel
    by_cases hlt : j < good.length
    · obtain ⟨gj, cj, ga', ca', a0, a1, a2, a3, a4, a5⟩ := HL.out j hlt
      have hbw := HS.out.2
      have hgjl := World.block_lt_of_cell? w _ a4
      have hgwl := World.block_lt_of_cell? w _ HW.out.1
      have d0 : wr.cell? ⟨ob, j * 4, none⟩ = _ := (hbw.cell (p := ⟨ob, j * 4, none⟩) hobl).trans a0
      have d1 : wr.cell? ⟨ob, j * 4 + 1, none⟩ = _ := (hbw.cell (p := ⟨ob, j * 4 + 1, none⟩) hobl).trans a1
      have d2 : wr.cell? ⟨ob, j * 4 + 2, none⟩ = _ := (hbw.cell (p := ⟨ob, j * 4 + 2, none⟩) hobl).trans a2
      have d3 : wr.cell? ⟨ob, j * 4 + 3, none⟩ = _ := (hbw.cell (p := ⟨ob, j * 4 + 3, none⟩) hobl).trans a3
      have hltI : (j : Int) < (good.length : Int) := by omega
      generalize (Tx.fin (wtoks good[j].2) : Nat) = fi at *
      generalize (good[j].1 : Nat) = nj at *
      go_upto_region 5 with fail
      have hws := HS.out.2.size
      have q1 : (wr.alloc (.cells #[.int .i64 nj, .slice (some ⟨gj, 0, none⟩) 2 cj, .slice (some ⟨ga', 0, none⟩) 2 ca', .int .i64 fi] 210)).cell? ⟨wr.heap.size, 1, none⟩ = some (.slice (some ⟨gj, 0, none⟩) 2 cj) := by
        have b0 := block_new wr (.cells #[.int .i64 nj, .slice (some ⟨gj, 0, none⟩) 2 cj, .slice (some ⟨ga', 0, none⟩) 2 ca', .int .i64 fi] 210)
        simp only [World.cell?, b0]; rfl
      have hbn : Below wr.heap.size wr (wr.alloc (.cells #[.int .i64 nj, .slice (some ⟨gj, 0, none⟩) 2 cj, .slice (some ⟨ga', 0, none⟩) 2 ca', .int .i64 fi] 210)) := (Below.refl _ _).alloc (Nat.le_refl _) _
      have hll := World.block_lt_of_cell? wr _ HS.out.1
      generalize wr.alloc (.cells #[.int .i64 nj, .slice (some ⟨gj, 0, none⟩) 2 cj, .slice (some ⟨ga', 0, none⟩) 2 ca', .int .i64 fi] 210) = W1 at *
      have HS1 : Hid (W1.cell? ⟨w.heap.size, 1, none⟩ = some (.slice (some ⟨gw, 0, none⟩) 2 cw) ∧ Below w.heap.size w W1) := ⟨(hbn.cell (p := ⟨w.heap.size, 1, none⟩) hll).trans HS.out.1, hbw.trans (hbn.mono hws)⟩
      have p1 := HS1.out.1
      have p2 : W1.cell? ⟨gw, 0, none⟩ = _ := (HS1.out.2.cell (p := ⟨gw, 0, none⟩) hgwl).trans HW.out.1
      have p3 : W1.cell? ⟨gw, 1, none⟩ = _ := (HS1.out.2.cell (p := ⟨gw, 1, none⟩) hgwl).trans HW.out.2
      have p4 : W1.cell? ⟨gj, 0, none⟩ = _ := (HS1.out.2.cell (p := ⟨gj, 0, none⟩) hgjl).trans a4
      have p5 : W1.cell? ⟨gj, 1, none⟩ = _ := (HS1.out.2.cell (p := ⟨gj, 1, none⟩) hgjl).trans a5
      clear a0 a1 a2 a3 a4 a5 d0 d1 d2 d3 hbw hbn HS hws hll hgjl hgwl
      have hRj : ((((good[j].2.getD 1 pad).2.toList == v.toList) || ((good.drop (j + 1)).any fun g => (g.2.getD 1 pad).2.toList == v.toList)) = R) := by
        have := HR.out
        rw [List.drop_eq_getElem_cons hlt, List.any_cons] at this
        exact this
      generalize (good[j].2.getD 1 pad).2 = gv at *
      clear HR
      cases hq : (gv.toList == v.toList)
      · rw [hq, Bool.false_or] at hRj
        have HR : Hid (((good.drop (j + 1)).any fun g => (g.2.getD 1 pad).2.toList == v.toList) = R) := hRj
        clear hRj
        go_quiet (fail)
        generalize hW : W1.drewN _ = W2
        have HS2 : Hid (W2.cell? ⟨w.heap.size, 1, none⟩ = some (.slice (some ⟨gw, 0, none⟩) 2 cw) ∧ Below w.heap.size w W2) := by rw [← hW]; exact ⟨HS1.out.1, HS1.out.2.os, HS1.out.2.tape, HS1.out.2.output, HS1.out.2.size, HS1.out.2.block⟩
        clear hW
        go_wp2
        go_roundg (good.length - (j + 1))
        case measure => omega
        case rel => exact ⟨j + 1, by omega, by omega, by go_num, HS2, HR⟩
      · rw [hq, Bool.true_or] at hRj
        subst hRj
        go_quiet (fail)
        generalize hW : W1.drewN _ = W2
        have hb2 : Below w.heap.size w W2 := by rw [← hW]; exact ⟨HS1.out.2.os, HS1.out.2.tape, HS1.out.2.output, HS1.out.2.size, HS1.out.2.block⟩
        have r1 : W2.cell? ⟨w.heap.size, 1, none⟩ = some (.slice (some ⟨gw, 0, none⟩) 2 cw) := by rw [← hW]; exact p1
        have r2 : W2.cell? ⟨gw, 0, none⟩ = some (.string ⟨#[118, 101, 114, 115, 105, 111, 110]⟩) := by rw [← hW]; exact p2
        clear hW p1 p2 p3 p4 p5 q1 hq
        go_upto_region 6 with fail
        go_quiet (fail)
        generalize hW : W2.drewN _ = W3
        have hb3 : Below w.heap.size w W3 := by rw [← hW]; exact ⟨hb2.os, hb2.tape, hb2.output, hb2.size, hb2.block⟩
        clear hW
        go_wp2
        go_ret
        exact ⟨rfl, hb3⟩
    · have hltI : ((j : Int) < (good.length : Int)) = False := by simp; omega
      have hR : R = false := by
        have := HR.out
        rw [List.drop_of_length_le (by omega)] at this
        exact this.symm
      subst hR
      go_wp2
      go_ret
      exact ⟨rfl, HS.out.2⟩

set_option maxRecDepth 100000 in
set_option maxHeartbeats 1000000 in
theorem again_none (n gw ga cw ca cap : Nat) (en : Int) (a : Option Addr) (w : World) :
    Calls Tryz.prog 163 #[.agg #[.int .i64 n, .slice (some ⟨gw, 0, none⟩) 2 cw, .slice (some ⟨ga, 0, none⟩) 2 ca, .int .i64 en], .slice a 0 cap] w fun e w' => e = .returned (.bool false) ∧ Below w.heap.size w w' := by
  have HB : Hid (∀ o, Below w.heap.size w (w.alloc o)) := fun o => (Below.refl _ _).alloc (Nat.le_refl _) _
  go_enter Tryz.func163, Tryz.ntmps163
  go_wp2
  refine wp_loop_rounds 1 ?_
  rw [rounds_succ]
  go_wp2
  go_ret
  exact ⟨rfl, HB.out _⟩

end Go.Proofs.YtelmkfkgpnadnaaGreatDoor
