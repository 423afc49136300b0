/-
  The law's plays: a script on two orders.
-/
import Derived.Test.YtelmkfkgpnadnaaK38
namespace Go.Proofs.Ytelmkfkgpnadnaa
open Go.RowKit

variable {w w' : World}

theorem ordered_any (c : Int) (w : World) :
    Calls Try.prog 13 #[.int .i64 c] w fun e w' => ∃ pv, e = .returned (.tuple #[.pointer pv, .bool true]) ∧ Below w.heap.size w w' := by
  by_cases h : 0 ≤ c ∧ c ≤ 40
  · obtain ⟨n, rfl⟩ := Int.eq_ofNat_of_zero_le h.1
    refine (ordered_good n w (by omega) (fun _ => (0, 0)) 0).mono ?_
    rintro e w' ⟨ob, rfl, hb, _⟩
    exact ⟨_, rfl, hb⟩
  · refine (ordered_bad c w h).mono ?_
    rintro e w' ⟨rfl, rfl⟩
    exact ⟨_, rfl, Below.refl _ _⟩

set_option maxRecDepth 100000 in
set_option maxHeartbeats 1000000 in
theorem plays_none (c d : Int) (sv : Value) (w : World) (hc : ¬ (0 ≤ c ∧ c ≤ 40)) :
    Calls Try.prog 5 #[.int .i64 c, .int .i64 d, sv] w fun e w' => e = .returned (.bool true) ∧ Below w.heap.size w w' := by
  have k1 := ordered_bad c w hc
  have k2 := ordered_any d w
  clear hc
  go_enter Try.func5, Try.ntmps5
  go_wp2_with (go_at_call 13; fail)
  go_at_call 13
  refine k1.mono ?_
  intro e w1 hq
  rw [hq.1, hq.2]
  clear k1 hq
  go_wp2_with (go_at_call 13; fail)
  go_at_call 13
  refine k2.mono ?_
  rintro e w1 ⟨pv, rfl, hb⟩
  clear k2
  cases pv with
  | none =>
    go_wp2
    go_ret
    exact ⟨rfl, hb⟩
  | some a =>
    go_wp2
    go_ret
    exact ⟨rfl, hb⟩

set_option maxRecDepth 100000 in
set_option maxHeartbeats 1000000 in
theorem plays_one (n : Nat) (d : Int) (sv : Value) (w : World) (hn : n ≤ 40) (hd : ¬ (0 ≤ d ∧ d ≤ 40)) :
    Calls Try.prog 5 #[.int .i64 n, .int .i64 d, sv] w fun e w' => e = .returned (.bool true) ∧ Below w.heap.size w w' := by
  have k1 := ordered_good n w hn (fun _ => (0, 0)) 0
  go_enter Try.func5, Try.ntmps5
  go_wp2_with (go_at_call 13; fail)
  go_at_call 13
  refine k1.mono ?_
  rintro e w1 ⟨ob, rfl, hb, _⟩
  clear k1
  have k2 := ordered_bad d w1 hd
  clear hd
  go_wp2_with (go_at_call 13; fail)
  go_at_call 13
  refine k2.mono ?_
  intro e w2 hq
  rw [hq.1, hq.2]
  clear k2 hq
  go_wp2
  go_ret
  exact ⟨rfl, hb⟩

/-- Both orders, while the script is played. -/
def Pair (w0 : World) (o p n m q : Nat) (wr : World) : Prop :=
  ∃ T t1 r1 A1 Pl1 E1 k1 c1 l1 x1 t2 r2 A2 Pl2 E2 k2 c2 l2 x2,
    OrdAt wr T 0 o t1 r1 n A1 Pl1 E1 A1 E1 k1 c1 l1 x1 ∧ OrdAt wr T 1 p t2 r2 m A2 Pl2 E2 A2 E2 k2 c2 l2 x2 ∧ k1 ≤ 8 * q ∧ k2 ≤ 8 * q ∧ 0 ≤ c1 ∧ c1 ≤ 2 * (q : Int) ∧ 0 ≤ c2 ∧ c2 ≤ 1048576 + 2 * (q : Int) ∧ Below w0.heap.size w0 wr ∧ ∀ b, b < w0.heap.size → T b = (2, 0)

variable {w0 wr : World} {o p n m q : Nat}

theorem Pair.below (h : Pair w0 o p n m q wr) (hb : Below wr.heap.size wr w') : Pair w0 o p n m q w' := by
  obtain ⟨T, t1, r1, A1, Pl1, E1, k1, c1, l1, x1, t2, r2, A2, Pl2, E2, k2, c2, l2, x2, h1, h2, a1, a2, a3, a4, a5, a6, ho, hT⟩ := h
  exact ⟨T, t1, r1, A1, Pl1, E1, k1, c1, l1, x1, t2, r2, A2, Pl2, E2, k2, c2, l2, x2, h1.below hb (fun _ _ => rfl), h2.below hb (fun _ _ => rfl), a1, a2, a3, a4, a5, a6, ho.trans (hb.mono ho.size), hT⟩

theorem Pair.more (h : Pair w0 o p n m q wr) : Pair w0 o p n m (q + 1) wr := by
  obtain ⟨T, t1, r1, A1, Pl1, E1, k1, c1, l1, x1, t2, r2, A2, Pl2, E2, k2, c2, l2, x2, h1, h2, a1, a2, a3, a4, a5, a6, ho, hT⟩ := h
  exact ⟨T, t1, r1, A1, Pl1, E1, k1, c1, l1, x1, t2, r2, A2, Pl2, E2, k2, c2, l2, x2, h1, h2, by omega, by omega, by omega, by omega, by omega, by omega, ho, hT⟩

theorem Below.of_turn {j : Nat} {T : Nat → Nat × Nat} (ho : Below w0.heap.size w0 wr) (hT : ∀ b, b < w0.heap.size → T b = (2, 0)) (ht : Turn (fun b => (T b).1 = j) wr w') (hj : j ≠ 2) : Below w0.heap.size w0 w' :=
  ⟨ht.os.trans ho.os, ht.tape.trans ho.tape, ht.output.trans ho.output, Nat.le_trans ho.size ht.size, fun b hb => (ht.block b (Nat.lt_of_lt_of_le hb ho.size) (fun e => hj (by
    have e' : (T b).1 = j := e
    rw [hT b hb] at e'
    exact e'.symm))).trans (ho.block b hb)⟩

theorem Pair.step1 (h : Pair w0 o p n m q wr) (hn : n ≤ 40) (hq : q ≤ 34359738368) (kd x y z : Int) :
    Calls Try.prog 14 #[.pointer (some ⟨o, 0, none⟩), .agg #[.int .i64 kd, .int .i64 x, .int .i64 y, .int .i64 z]] wr fun e w' => e = .returned (.bool true) ∧ Pair w0 o p n m (q + 1) w' := by
  obtain ⟨T, t1, r1, A1, Pl1, E1, k1, c1, l1, x1, t2, r2, A2, Pl2, E2, k2, c2, l2, x2, h1, h2, a1, a2, a3, a4, a5, a6, ho, hT⟩ := h
  refine (step_any h1 hn (by omega) a3 (by omega) kd x y z).mono ?_
  rintro e w' ⟨rfl, T', A', Pl', E', k', c', lv', xs', hO, b1, b2, b3, htu, hT'⟩
  refine ⟨rfl, T', t1, r1, A', Pl', E', k', c', lv', xs', t2, r2, A2, Pl2, E2, k2, c2, l2, x2, hO, h2.turn htu (fun b _ e1 e2 => ?_) hT', by omega, by omega, b2, by omega, a5, by omega, Below.of_turn ho hT htu (by decide), fun b hb => by rw [hT' b (Nat.lt_of_lt_of_le hb ho.size)]; exact hT b hb⟩
  have e2' : (T b).1 = 0 := e2
  rw [e1] at e2'
  cases e2'

theorem Pair.step2 (h : Pair w0 o p n m q wr) (hm : m ≤ 40) (hq : q ≤ 34359738368) (kd x y z : Int) :
    Calls Try.prog 14 #[.pointer (some ⟨p, 0, none⟩), .agg #[.int .i64 kd, .int .i64 x, .int .i64 y, .int .i64 z]] wr fun e w' => e = .returned (.bool true) ∧ Pair w0 o p n m (q + 1) w' := by
  obtain ⟨T, t1, r1, A1, Pl1, E1, k1, c1, l1, x1, t2, r2, A2, Pl2, E2, k2, c2, l2, x2, h1, h2, a1, a2, a3, a4, a5, a6, ho, hT⟩ := h
  refine (step_any h2 hm (by omega) a5 (by omega) kd x y z).mono ?_
  rintro e w' ⟨rfl, T', A', Pl', E', k', c', lv', xs', hO, b1, b2, b3, htu, hT'⟩
  refine ⟨rfl, T', t1, r1, A1, Pl1, E1, k1, c1, l1, x1, t2, r2, A', Pl', E', k', c', lv', xs', h1.turn htu (fun b _ e1 e2 => ?_) hT', hO, by omega, by omega, a3, by omega, b2, by omega, Below.of_turn ho hT htu (by decide), fun b hb => by rw [hT' b (Nat.lt_of_lt_of_le hb ho.size)]; exact hT b hb⟩
  have e2' : (T b).1 = 1 := e2
  rw [e1] at e2'
  cases e2'

theorem Pair.looks1 (h : Pair w0 o p n m q wr) (hq : q ≤ 34359738368) : Calls Try.prog 15 #[.pointer (some ⟨o, 0, none⟩)] wr fun e w' => e = .returned (.bool true) ∧ Pair w0 o p n m q w' := by
  have h' := h
  obtain ⟨T, t1, r1, A1, Pl1, E1, k1, c1, l1, x1, t2, r2, A2, Pl2, E2, k2, c2, l2, x2, h1, h2, a1, a2, a3, a4, a5, a6, ho, hT⟩ := h
  exact (looks_any h1 (by omega)).mono fun e w' hq => ⟨hq.1, h'.below hq.2⟩

theorem Pair.looks2 (h : Pair w0 o p n m q wr) (hq : q ≤ 34359738368) : Calls Try.prog 15 #[.pointer (some ⟨p, 0, none⟩)] wr fun e w' => e = .returned (.bool true) ∧ Pair w0 o p n m q w' := by
  have h' := h
  obtain ⟨T, t1, r1, A1, Pl1, E1, k1, c1, l1, x1, t2, r2, A2, Pl2, E2, k2, c2, l2, x2, h1, h2, a1, a2, a3, a4, a5, a6, ho, hT⟩ := h
  exact (looks_any h2 (by omega)).mono fun e w' hq => ⟨hq.1, h'.below hq.2⟩

theorem Pair.old (h : Pair w0 o p n m q wr) : Below w0.heap.size w0 wr := by
  obtain ⟨T, t1, r1, A1, Pl1, E1, k1, c1, l1, x1, t2, r2, A2, Pl2, E2, k2, c2, l2, x2, h1, h2, a1, a2, a3, a4, a5, a6, ho, hT⟩ := h
  exact ho

theorem OrdAt.count {T : Nat → Nat × Nat} {i ob tb rt k : Nat} {c : Int} {lv : Value} {xs : List Value} {A Pl A2 : Nat → Nat} {E E2 : Nat → Nat → Bool} (h : OrdAt w T i ob tb rt n A Pl E A2 E2 k c lv xs) (c' : Int) : OrdAt (w.setCell ⟨ob, 3, none⟩ (.int .i64 c')) T i ob tb rt n A Pl E A2 E2 k c' lv xs := by
  have hs : (w.setCell ⟨ob, 3, none⟩ (.int .i64 c')).heap.size = w.heap.size := by simp [World.setCell]
  have ho : ∀ b j, T b = (i, j) → j ≠ 1 → (w.setCell ⟨ob, 3, none⟩ (.int .i64 c')).heap[b]? = w.heap[b]? := fun b j hb hj => Below.heap_setCell _ _ _ _ (tags_ne hb h.t1 hj)
  refine ⟨(h.obj.set (p := 3) (by omega) _).ext fun f _ => ?_, h.t1, h.row.of_block (ho tb 2 h.t2 (by decide)), h.t2, h.ok, h.ref.turn (by omega) (fun b _ hb => ⟨ho b 3 hb (by decide), hb⟩), own_of_block h.rows (fun b hb => ho b 4 (h.t4 b hb) (by decide)), h.t4, h.lie.imp (by omega) (fun c g m _ hr hb => ⟨reads_of_block hr (ho g 5 hb (by decide)), hb⟩), by rw [hs]; exact h.obl⟩
  by_cases e : f = 3
  · simp [e]
  · simp [e]

theorem pair_new {T : Nat → Nat × Nat} {t1 r1 t2 r2 : Nat} {A1 Pl1 A2 Pl2 : Nat → Nat} (h1 : OrdAt w T 0 o t1 r1 n A1 Pl1 noE A1 noE 0 0 (.slice none 0 0) []) (h2 : OrdAt w T 1 p t2 r2 m A2 Pl2 noE A2 noE 0 0 (.slice none 0 0) []) (hb : Below w0.heap.size w0 w) (hT : ∀ b, b < w0.heap.size → T b = (2, 0)) :
    Pair w0 o p n m 0 (w.setCell ⟨p, 3, none⟩ (.int .i64 1048576)) := by
  refine ⟨T, t1, r1, A1, Pl1, noE, 0, 0, _, _, t2, r2, A2, Pl2, noE, 0, 1048576, _, _, h1.turn (p := fun b => b = p) ((Turn.refl (fun b => b = p) w).set (a := ⟨p, 3, none⟩) (fun _ => rfl) _) (fun b _ e1 e2 => ?_) (fun _ _ => rfl), h2.count 1048576, by omega, by omega, by omega, by omega, by omega, by omega, hb.setCell ?_ _, hT⟩
  · have e2' : b = p := e2
    rw [e2', h2.t1] at e1
    cases e1
  · show w0.heap.size ≤ p
    rcases Nat.lt_or_ge p w0.heap.size with h | h
    · have := hT p h
      rw [h2.t1] at this
      cases this
    · exact h

set_option maxRecDepth 100000 in
set_option maxHeartbeats 4000000 in
theorem plays_good (n m : Nat) (la : Option Addr) (ln cap : Nat) (w : World) (hn : n ≤ 40) (hm : m ≤ 40) (hln : ln ≤ 17179869184)
    (hl : ∀ i, i < ln → ∃ b o x y z u, la = some ⟨b, o, none⟩ ∧ b < w.heap.size ∧ w.cell? ⟨b, o + i * 4, none⟩ = some (.int .i64 x) ∧ w.cell? ⟨b, o + i * 4 + 1, none⟩ = some (.int .i64 y) ∧ w.cell? ⟨b, o + i * 4 + 2, none⟩ = some (.int .i64 z) ∧ w.cell? ⟨b, o + i * 4 + 3, none⟩ = some (.int .i64 u)) :
    Calls Try.prog 5 #[.int .i64 n, .int .i64 m, .slice la ln cap] w fun e w' => e = .returned (.bool true) ∧ Below w.heap.size w w' := by
  have k1 := ordered_good n w hn (fun _ => (2, 0)) 0
  have HL : Hid (∀ i, i < ln → ∃ b o x y z u, la = some ⟨b, o, none⟩ ∧ b < w.heap.size ∧ w.cell? ⟨b, o + i * 4, none⟩ = some (.int .i64 x) ∧ w.cell? ⟨b, o + i * 4 + 1, none⟩ = some (.int .i64 y) ∧ w.cell? ⟨b, o + i * 4 + 2, none⟩ = some (.int .i64 z) ∧ w.cell? ⟨b, o + i * 4 + 3, none⟩ = some (.int .i64 u)) := hl
  clear hl
  go_enter Try.func5, Try.ntmps5
  go_wp2_with (go_at_call 13; fail)
  go_at_call 13
  refine k1.mono ?_
  rintro e w1 ⟨o, rfl, hb1, t1, r1, A1, Pl1, T1, hO1, hT1⟩
  clear k1
  have k2 := ordered_good m w1 hm T1 1
  go_wp2_with (go_at_call 13; fail)
  go_at_call 13
  refine k2.mono ?_
  rintro e w2 ⟨p, rfl, hb2, t2, r2, A2, Pl2, T2, hO2, hT2⟩
  clear k2
  have hO1' : OrdAt w2 T2 0 o t1 r1 n A1 Pl1 noE A1 noE 0 0 (.slice none 0 0) [] := hO1.below hb2 hT2
  have c3 : w2.cell? ⟨p, 3, none⟩ = some (.int .i64 0) := hO2.obj.at' 3 (by omega)
  have f3 := hO2.obj.fr 3 (by omega)
  have HP : Hid (Pair w o p n m 0 (w2.setCell ⟨p, 3, none⟩ (.int .i64 1048576))) := pair_new hO1' hO2 (hb1.trans (hb2.mono hb1.size)) (fun b hb => by rw [hT2 b (Nat.lt_of_lt_of_le hb hb1.size)]; exact hT1 b hb)
  clear hO1 hO1' hO2 hT1 hT2 hb1 hb2
  go_wp2
  clear c3 f3
  go_loopg [10] ln (fun gg s wr => ∃ i : Nat, i ≤ ln ∧ ln - i ≤ gg ∧ s = .int .i64 i ∧ Hid (Pair w o p n m i wr))
  case atStart => exact ⟨0, by omega, by omega, rfl, HP⟩
  case round =>
    clear HP
    obtain ⟨i, hi, hgi, rfl, HPi⟩ := hrel
    by_cases hlt : i < ln
    · obtain ⟨b, of, x, y, z, u, hla, hbl, d0, d1, d2, d3⟩ := HL.out i hlt
      have hold := HPi.out.old
      have e0 : wr.cell? ⟨b, of + i * 4, none⟩ = some (.int .i64 x) := by rw [hold.cell (p := ⟨b, of + i * 4, none⟩) hbl]; exact d0
      have e1 : wr.cell? ⟨b, of + i * 4 + 1, none⟩ = some (.int .i64 y) := by rw [hold.cell (p := ⟨b, of + i * 4 + 1, none⟩) hbl]; exact d1
      have e2 : wr.cell? ⟨b, of + i * 4 + 2, none⟩ = some (.int .i64 z) := by rw [hold.cell (p := ⟨b, of + i * 4 + 2, none⟩) hbl]; exact d2
      have e3 : wr.cell? ⟨b, of + i * 4 + 3, none⟩ = some (.int .i64 u) := by rw [hold.cell (p := ⟨b, of + i * 4 + 3, none⟩) hbl]; exact d3
      have hltI : (i : Int) < (ln : Int) := by omega
      clear d0 d1 d2 d3 hold
      subst hla
      go_wp2_with (go_at_call 14; fail)
      · clear e0 e1 e2 e3
        go_at_call 14
        refine (HPi.out.step1 (by omega) (by omega) x y z u).mono ?_
        intro e w3 hq
        rw [hq.1]
        have H3 : Hid (Pair w o p n m (i + 1) w3) := hq.2
        clear hq HPi
        go_wp2_with (go_at_call 15; fail)
        go_at_call 15
        refine (H3.out.looks1 (by omega)).mono ?_
        intro e w4 hq
        rw [hq.1]
        have H4 : Hid (Pair w o p n m (i + 1) w4) := hq.2
        clear hq H3
        go_wp2_with (go_at_call 15; fail)
        go_at_call 15
        refine (H4.out.looks2 (by omega)).mono ?_
        intro e w5 hq
        rw [hq.1]
        have H5 : Hid (Pair w o p n m (i + 1) w5) := hq.2
        clear hq H4
        go_wp2
        go_roundg (ln - (i + 1))
        case measure => omega
        case rel => exact ⟨i + 1, by omega, by omega, by go_num, H5⟩
      · clear e0 e1 e2 e3
        go_at_call 14
        refine (HPi.out.step2 (by omega) (by omega) x y z u).mono ?_
        intro e w3 hq
        rw [hq.1]
        have H3 : Hid (Pair w o p n m (i + 1) w3) := hq.2
        clear hq HPi
        go_wp2_with (go_at_call 15; fail)
        go_at_call 15
        refine (H3.out.looks1 (by omega)).mono ?_
        intro e w4 hq
        rw [hq.1]
        have H4 : Hid (Pair w o p n m (i + 1) w4) := hq.2
        clear hq H3
        go_wp2_with (go_at_call 15; fail)
        go_at_call 15
        refine (H4.out.looks2 (by omega)).mono ?_
        intro e w5 hq
        rw [hq.1]
        have H5 : Hid (Pair w o p n m (i + 1) w5) := hq.2
        clear hq H4
        go_wp2
        go_roundg (ln - (i + 1))
        case measure => omega
        case rel => exact ⟨i + 1, by omega, by omega, by go_num, H5⟩
    · have hltI : ((i : Int) < (ln : Int)) = False := by simp; omega
      go_wp2_with (go_at_call 14; fail)
      go_at_call 14
      refine (HPi.out.step1 (by omega) (by omega) 0 0 0 0).mono ?_
      intro e w3 hq
      rw [hq.1]
      have H3 : Hid (Pair w o p n m (i + 1) w3) := hq.2
      clear hq HPi
      go_wp2_with (go_at_call 14; fail)
      go_at_call 14
      refine (H3.out.step2 (by omega) (by omega) 0 0 0 0).mono ?_
      intro e w4 hq
      rw [hq.1]
      have H4 : Hid (Pair w o p n m (i + 1 + 1) w4) := hq.2
      clear hq H3
      go_wp2_with (go_at_call 15; fail)
      go_at_call 15
      refine (H4.out.looks1 (by omega)).mono ?_
      intro e w5 hq
      rw [hq.1]
      have H5 : Hid (Pair w o p n m (i + 1 + 1) w5) := hq.2
      clear hq H4
      go_wp2_with (go_at_call 15; fail)
      go_at_call 15
      refine (H5.out.looks2 (by omega)).mono ?_
      intro e w6 hq
      rw [hq.1]
      have H6 : Hid (Pair w o p n m (i + 1 + 1) w6) := hq.2
      clear hq H5
      go_wp2
      go_ret
      exact ⟨rfl, H6.out.old⟩

theorem plays_any (c d : Int) (la : Option Addr) (ln cap : Nat) (w : World) (hln : ln ≤ 17179869184)
    (hl : ∀ i, i < ln → ∃ b o x y z u, la = some ⟨b, o, none⟩ ∧ b < w.heap.size ∧ w.cell? ⟨b, o + i * 4, none⟩ = some (.int .i64 x) ∧ w.cell? ⟨b, o + i * 4 + 1, none⟩ = some (.int .i64 y) ∧ w.cell? ⟨b, o + i * 4 + 2, none⟩ = some (.int .i64 z) ∧ w.cell? ⟨b, o + i * 4 + 3, none⟩ = some (.int .i64 u)) :
    Calls Try.prog 5 #[.int .i64 c, .int .i64 d, .slice la ln cap] w fun e w' => e = .returned (.bool true) ∧ Below w.heap.size w w' := by
  by_cases hc : 0 ≤ c ∧ c ≤ 40
  · obtain ⟨n, rfl⟩ := Int.eq_ofNat_of_zero_le hc.1
    by_cases hd : 0 ≤ d ∧ d ≤ 40
    · obtain ⟨m, rfl⟩ := Int.eq_ofNat_of_zero_le hd.1
      exact plays_good n m la ln cap w (by omega) (by omega) hln hl
    · exact plays_one n d _ w (by omega) hd
  · exact plays_none c d _ w hc

end Go.Proofs.Ytelmkfkgpnadnaa
