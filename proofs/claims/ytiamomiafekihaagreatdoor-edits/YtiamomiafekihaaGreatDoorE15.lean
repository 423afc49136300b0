/-
  Edits: a whole script on two engines.
-/
import Derived.Test.YtiamomiafekihaaGreatDoorE14
namespace Go.Proofs.YtiamomiafekihaaGreatDoor
open Go.RowKit
namespace Ed

variable {w w0 w' : World}

set_option maxRecDepth 100000 in
set_option maxHeartbeats 2000000 in
theorem looks_none (wb : Nat) (w : World) (h3 : w.cell? ⟨wb, 3, none⟩ = some (.slice none 0 0)) (h4 : w.cell? ⟨wb, 4, none⟩ = some (.slice none 0 0)) (h5 : w.cell? ⟨wb, 5, none⟩ = some (.slice none 0 0)) :
    Calls Tryz.prog 8 #[.pointer (some ⟨wb, 0, none⟩)] w fun e w' => e = .returned (.bool true) ∧ w' = w := by
  go_enter Tryz.func8, Tryz.ntmps8
  go_wp2
  refine wp_loop_rounds 1 ?_
  rw [rounds_succ]
  go_wp2
  refine wp_loop_rounds 1 ?_
  rw [rounds_succ]
  go_wp2
  refine wp_loop_rounds 1 ?_
  rw [rounds_succ]
  go_wp2
  go_ret
  exact ⟨rfl, rfl⟩

/-- Two pairs of engines while a script is played: the world of the law lies in block wb. -/
def Both (w0 : World) (wb q : Nat) (w : World) : Prop :=
  ∃ (X Y : Nat → Prop) (g p s m r : Nat) (mv iv : Value) (ms ix : List Tt) (ro : ByteArray) (rv : Nat) (g' p' s' m' r' : Nat) (mv' iv' : Value) (ms' ix' : List Tt) (ro' : ByteArray) (rv' : Nat),
    (w.cell? ⟨wb, 0, none⟩ = some (.pointer (some ⟨g, 0, none⟩)) ∧ w.cell? ⟨wb, 1, none⟩ = some (.pointer (some ⟨g', 0, none⟩)) ∧ w.cell? ⟨wb, 3, none⟩ = some (.slice none 0 0) ∧ w.cell? ⟨wb, 4, none⟩ = some (.slice none 0 0) ∧ w.cell? ⟨wb, 5, none⟩ = some (.slice none 0 0)) ∧
    PairAt w X g p s m r mv iv ms ix ro rv ∧ PairAt w Y g' p' s' m' r' mv' iv' ms' ix' ro' rv' ∧ (∀ b, X b → ¬ Y b) ∧ ¬ X wb ∧ ¬ Y wb ∧ (∀ b, X b ∨ Y b → w0.heap.size ≤ b) ∧ wb < w.heap.size ∧ rv ≤ q ∧ rv' ≤ q ∧ Below w0.heap.size w0 w

/-- What is behind a step on the one of them. -/
theorem below_turn {X : Nat → Prop} (hb : Below w0.heap.size w0 w) (ht : Turn X w w') (hX : ∀ b, X b → w0.heap.size ≤ b) : Below w0.heap.size w0 w' := by
  refine ⟨ht.os.trans hb.os, ht.tape.trans hb.tape, ht.output.trans hb.output, Nat.le_trans hb.size ht.size, fun b hlt => ?_⟩
  have h1 : b < w.heap.size := Nat.lt_of_lt_of_le hlt hb.size
  rw [ht.block b h1 (fun e => by have := hX b e; omega)]
  exact hb.block b hlt

/-- The next step of a script, on whichever of them. -/
theorem both_step {wb q : Nat} (h : Both w0 wb q w) (hm : Ml w) (hq : q < 4611686018427387000) (kd hh nn : Int) (hkd : kd ≤ 6) (p v s : ByteArray) (hp : p.size < 281474976710656) (hv : v.size < 281474976710656) (hs : s.size < 281474976710656) :
    Calls Tryz.prog 7 #[.pointer (some ⟨wb, 0, none⟩), .agg #[.int .i64 kd, .int .i64 hh, .string p, .string v, .string s, .int .i64 nn]] w fun e w' => e = .returned (.bool true) ∧ Both w0 wb (q + 1) w' := by
  obtain ⟨X, Y, g, p1, s1, m1, r1, mv, iv, ms, ix, ro, rv, g', p', s', m', r', mv', iv', ms', ix', ro', rv', ⟨c0, c1, c3, c4, c5⟩, hP, hP', hXY, nX, nY, hB, hwb, l1, l2, hb⟩ := h
  rcases bit_one hh with e | e
  · refine (step_any (j := 0) kd hh nn hkd p v s w hP hm e (by decide) c0 hp hv hs (by omega)).mono ?_
    rintro en w2 ⟨rfl, ht, mv2, iv2, ms2, ix2, ro2, rv2, hP2, l3⟩
    have kc : ∀ o, w2.cell? ⟨wb, o, none⟩ = w.cell? ⟨wb, o, none⟩ := fun o => ht.cell (a := ⟨wb, o, none⟩) hwb nX
    have hs2 := ht.size
    refine ⟨rfl, _, Y, g, p1, s1, m1, r1, mv2, iv2, ms2, ix2, ro2, rv2, g', p', s', m', r', mv', iv', ms', ix', ro', rv', ⟨(kc 0).trans c0, (kc 1).trans c1, (kc 3).trans c3, (kc 4).trans c4, (kc 5).trans c5⟩, hP2, hP'.of_turn ht (fun b hy hx => hXY b hx hy), fun b hx hy => ?_, fun hx => ?_, nY, fun b hx => ?_, by omega, by omega, by omega, below_turn hb ht (fun b hx => hB b (Or.inl hx))⟩
    · rcases hx with k | k
      · exact hXY b k hy
      · have := hP'.lt b hy; omega
    · rcases hx with k | k
      · exact nX k
      · omega
    · rcases hx with (k | k) | k
      · exact hB b (Or.inl k)
      · have := hb.size; omega
      · exact hB b (Or.inr k)
  · refine (step_any (j := 1) kd hh nn hkd p v s w hP' hm e (by decide) c1 hp hv hs (by omega)).mono ?_
    rintro en w2 ⟨rfl, ht, mv2, iv2, ms2, ix2, ro2, rv2, hP2, l3⟩
    have kc : ∀ o, w2.cell? ⟨wb, o, none⟩ = w.cell? ⟨wb, o, none⟩ := fun o => ht.cell (a := ⟨wb, o, none⟩) hwb nY
    have hs2 := ht.size
    refine ⟨rfl, X, _, g, p1, s1, m1, r1, mv, iv, ms, ix, ro, rv, g', p', s', m', r', mv2, iv2, ms2, ix2, ro2, rv2, ⟨(kc 0).trans c0, (kc 1).trans c1, (kc 3).trans c3, (kc 4).trans c4, (kc 5).trans c5⟩, hP.of_turn ht (fun b hx hy => hXY b hx hy), hP2, fun b hx hy => ?_, nX, fun hx => ?_, fun b hx => ?_, by omega, by omega, by omega, below_turn hb ht (fun b hx => hB b (Or.inr hx))⟩
    · rcases hy with k | k
      · exact hXY b hx k
      · have := hP.lt b hx; omega
    · rcases hx with k | k
      · exact nY k
      · omega
    · rcases hx with k | (k | k)
      · exact hB b (Or.inl k)
      · exact hB b (Or.inr k)
      · have := hb.size; omega

theorem Both.looks {wb q : Nat} (h : Both w0 wb q w) : w.cell? ⟨wb, 3, none⟩ = some (.slice none 0 0) ∧ w.cell? ⟨wb, 4, none⟩ = some (.slice none 0 0) ∧ w.cell? ⟨wb, 5, none⟩ = some (.slice none 0 0) ∧ Below w0.heap.size w0 w := by
  obtain ⟨X, Y, g, p1, s1, m1, r1, mv, iv, ms, ix, ro, rv, g', p', s', m', r', mv', iv', ms', ix', ro', rv', ⟨c0, c1, c3, c4, c5⟩, hP, hP', hXY, nX, nY, hB, hwb, l1, l2, hb⟩ := h
  exact ⟨c3, c4, c5, hb⟩

theorem Both.more {wb q q' : Nat} (h : Both w0 wb q w) (hq : q ≤ q') : Both w0 wb q' w := by
  obtain ⟨X, Y, g, p1, s1, m1, r1, mv, iv, ms, ix, ro, rv, g', p', s', m', r', mv', iv', ms', ix', ro', rv', ⟨c0, c1, c3, c4, c5⟩, hP, hP', hXY, nX, nY, hB, hwb, l1, l2, hb⟩ := h
  exact ⟨X, Y, g, p1, s1, m1, r1, mv, iv, ms, ix, ro, rv, g', p', s', m', r', mv', iv', ms', ix', ro', rv', ⟨c0, c1, c3, c4, c5⟩, hP, hP', hXY, nX, nY, hB, hwb, by omega, by omega, hb⟩

/-- A script in memory. -/
def Script (w : World) (la : Option Addr) (ln : Nat) : Prop :=
  ∀ i, i < ln → ∃ (b o : Nat) (kd hh nn : Int) (p v s : ByteArray), la = some ⟨b, o, none⟩ ∧ b < w.heap.size ∧ w.cell? ⟨b, o + i * 6, none⟩ = some (.int .i64 kd) ∧ w.cell? ⟨b, o + i * 6 + 1, none⟩ = some (.int .i64 hh) ∧ w.cell? ⟨b, o + i * 6 + 2, none⟩ = some (.string p) ∧ w.cell? ⟨b, o + i * 6 + 3, none⟩ = some (.string v) ∧ w.cell? ⟨b, o + i * 6 + 4, none⟩ = some (.string s) ∧ w.cell? ⟨b, o + i * 6 + 5, none⟩ = some (.int .i64 nn) ∧ p.size < 281474976710656 ∧ v.size < 281474976710656 ∧ s.size < 281474976710656

set_option maxRecDepth 100000 in
set_option maxHeartbeats 4000000 in
theorem engines_any (c d : Int) (la : Option Addr) (ln cap : Nat) (w : World) (hm : Ml w) (hln : ln ≤ 2251799813685248) (hl : Script w la ln) :
    Calls Tryz.prog 4 #[.int .i64 c, .int .i64 d, .slice la ln cap, .int .i64 6] w fun e w' => e = .returned (.bool true) ∧ Below w.heap.size w w' := by
  have HL : Hid (Script w la ln) := hl
  have HM : Hid (Ml w) := hm
  clear hl hm
  go_enter Tryz.func4, Tryz.ntmps4
  by_cases hc : c < 1
  · have k1 := begin_no c w hc
    clear hc
    go_wp2_with (go_at_call 6; fail)
    go_at_call 6
    refine k1.mono ?_
    intro e w1 hq
    rw [hq.1, hq.2]
    clear k1 hq
    by_cases hd : d < 1
    · have k2 := begin_no d w hd
      clear hd
      go_wp2_with (go_at_call 6; fail)
      go_at_call 6
      refine k2.mono ?_
      intro e w1 hq
      rw [hq.1, hq.2]
      clear k2 hq
      go_wp2
      go_ret
      exact ⟨rfl, Below.refl _ _⟩
    · have k2 := begin_yes d w hd
      clear hd
      go_wp2_with (go_at_call 6; fail)
      go_at_call 6
      refine k2.mono ?_
      rintro e w1 ⟨g, p, s, m, r, rfl, _, hb⟩
      clear k2
      go_wp2
      go_ret
      exact ⟨rfl, hb⟩
  · have k1 := begin_yes c w hc
    clear hc
    go_wp2_with (go_at_call 6; fail)
    go_at_call 6
    refine k1.mono ?_
    rintro e w1 ⟨g, p, s, m, r, rfl, hP1, hb1⟩
    have HP1 : Hid (PairAt w1 (fun b => w.heap.size ≤ b ∧ b < w1.heap.size) g p s m r (.slice none 0 0) (.slice none 0 0) [] [] ⟨#[]⟩ 0) := hP1
    have HB1 : Hid (Below w.heap.size w w1) := hb1
    clear k1 hP1 hb1
    by_cases hd : d < 1
    · have k2 := begin_no d w1 hd
      clear hd
      go_wp2_with (go_at_call 6; fail)
      go_at_call 6
      refine k2.mono ?_
      intro e w2 hq
      rw [hq.1, hq.2]
      clear k2 hq
      go_wp2
      go_ret
      exact ⟨rfl, HB1.out⟩
    · have k2 := begin_yes d w1 hd
      clear hd
      go_wp2_with (go_at_call 6; fail)
      go_at_call 6
      refine k2.mono ?_
      rintro e w2 ⟨g', p', s', m', r', rfl, hP2, hb2⟩
      have HP2 : Hid (PairAt w2 (fun b => w1.heap.size ≤ b ∧ b < w2.heap.size) g' p' s' m' r' (.slice none 0 0) (.slice none 0 0) [] [] ⟨#[]⟩ 0) := hP2
      have HB2 : Hid (Below w1.heap.size w1 w2) := hb2
      clear k2 hP2 hb2
      go_wp2
      have HBo0 : Hid (Both w w2.heap.size 0 (w2.alloc (.cells #[.pointer (some ⟨g, 0, none⟩), .pointer (some ⟨g', 0, none⟩), .int .i64 0, .slice none 0 0, .slice none 0 0, .slice none 0 0] 35))) := by
        have hba : Below w2.heap.size w2 (w2.alloc (.cells #[.pointer (some ⟨g, 0, none⟩), .pointer (some ⟨g', 0, none⟩), .int .i64 0, .slice none 0 0, .slice none 0 0, .slice none 0 0] 35)) := (Below.refl _ _).alloc (Nat.le_refl _) _
        have nc := fun j u => (new_cell w2 #[.pointer (some ⟨g, 0, none⟩), .pointer (some ⟨g', 0, none⟩), .int .i64 0, .slice none 0 0, .slice none 0 0, .slice none 0 0] 35 (j := j) (u := u))
        have z1 := HB1.out.size
        have z2 := HB2.out.size
        refine ⟨_, _, g, p, s, m, r, _, _, [], [], ⟨#[]⟩, 0, g', p', s', m', r', _, _, [], [], ⟨#[]⟩, 0, ⟨(nc 0 _ rfl).1, (nc 1 _ rfl).1, (nc 3 _ rfl).1, (nc 4 _ rfl).1, (nc 5 _ rfl).1⟩, (HP1.out.below HB2.out).below hba, HP2.out.below hba, fun b hx hy => ?_, fun hx => ?_, fun hx => ?_, fun b hx => ?_, by simp, by omega, by omega, (HB1.out.trans (HB2.out.mono z1)).trans (hba.mono (by omega))⟩
        · have h1 : w.heap.size ≤ b ∧ b < w1.heap.size := hx
          have h2 : w1.heap.size ≤ b ∧ b < w2.heap.size := hy
          omega
        · have h1 : w.heap.size ≤ w2.heap.size ∧ w2.heap.size < w1.heap.size := hx
          omega
        · have h1 : w1.heap.size ≤ w2.heap.size ∧ w2.heap.size < w2.heap.size := hx
          omega
        · rcases hx with hx | hx
          · exact hx.1
          · exact Nat.le_trans z1 hx.1
      clear HP1 HP2 HB1 HB2
      generalize w2.alloc (.cells #[.pointer (some ⟨g, 0, none⟩), .pointer (some ⟨g', 0, none⟩), .int .i64 0, .slice none 0 0, .slice none 0 0, .slice none 0 0] 35) = W at *
      generalize w2.heap.size = wb at *
      go_loopg [13] ln (fun gg iv wr => ∃ i : Nat, iv = .int .i64 i ∧ i ≤ ln ∧ ln - i ≤ gg ∧ Hid (Both w wb i wr))
      case atStart => exact ⟨0, rfl, by omega, by omega, HBo0⟩
      case round =>
        obtain ⟨i, rfl, hi, hg, HBo⟩ := hrel
        have hbw := HBo.out.looks.2.2.2
        have HBW : Hid (Below w.heap.size w wr) := hbw
        clear hbw
        by_cases hlt : i < ln
        · have hltI : (i : Int) < (ln : Int) := by omega
          obtain ⟨b, o, kd, hh, nn, sp, sv, ss, hla, hbl, d0, d1, d2, d3, d4, d5, z1, z2, z3⟩ := HL.out i hlt
          subst hla
          have e0 : wr.cell? ⟨b, o + i * 6, none⟩ = some (.int .i64 kd) := by rw [HBW.out.cell (p := ⟨b, o + i * 6, none⟩) hbl]; exact d0
          have e1 : wr.cell? ⟨b, o + i * 6 + 1, none⟩ = some (.int .i64 hh) := by rw [HBW.out.cell (p := ⟨b, o + i * 6 + 1, none⟩) hbl]; exact d1
          have e2 : wr.cell? ⟨b, o + i * 6 + 2, none⟩ = some (.string sp) := by rw [HBW.out.cell (p := ⟨b, o + i * 6 + 2, none⟩) hbl]; exact d2
          have e3 : wr.cell? ⟨b, o + i * 6 + 3, none⟩ = some (.string sv) := by rw [HBW.out.cell (p := ⟨b, o + i * 6 + 3, none⟩) hbl]; exact d3
          have e4 : wr.cell? ⟨b, o + i * 6 + 4, none⟩ = some (.string ss) := by rw [HBW.out.cell (p := ⟨b, o + i * 6 + 4, none⟩) hbl]; exact d4
          have e5 : wr.cell? ⟨b, o + i * 6 + 5, none⟩ = some (.int .i64 nn) := by rw [HBW.out.cell (p := ⟨b, o + i * 6 + 5, none⟩) hbl]; exact d5
          clear d0 d1 d2 d3 d4 d5
          by_cases hk : kd ≤ 6
          · have hkI : ¬ (kd > 6) := by omega
            have k3 := both_step HBo.out (HM.out.below HBW.out) (by omega) kd hh nn hk sp sv ss z1 z2 z3
            clear hk
            go_wp2_with (go_at_call 7; fail)
            go_at_call 7
            refine k3.mono ?_
            rintro e w3 ⟨rfl, hB3⟩
            have HB3 : Hid (Both w wb (i + 1) w3) := hB3
            obtain ⟨l3, l4, l5, _⟩ := hB3.looks
            have k4 := looks_none wb w3 l3 l4 l5
            clear k3 hB3 l3 l4 l5 e0 e1 e2 e3 e4 e5
            go_wp2_with (go_at_call 8; fail)
            go_at_call 8
            refine k4.mono ?_
            intro e w4 hq
            rw [hq.1, hq.2]
            clear k4 hq
            go_wp2
            go_roundg (ln - (i + 1))
            case measure => omega
            case rel => exact ⟨i + 1, by go_num, by omega, by omega, HB3⟩
          · have hkI : kd > 6 := by omega
            have HB3 : Hid (Both w wb (i + 1) wr) := HBo.out.more (by omega)
            clear hk
            go_wp2
            go_roundg (ln - (i + 1))
            case measure => omega
            case rel => exact ⟨i + 1, by go_num, by omega, by omega, HB3⟩
        · have hltI : ¬ ((i : Int) < (ln : Int)) := by omega
          go_wp2
          go_ret
          exact ⟨rfl, HBW.out⟩

end Ed
end Go.Proofs.YtiamomiafekihaaGreatDoor
