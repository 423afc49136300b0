/-
  A new order; small things of the law's.
-/
import Derived.Test.YtelmkfkgpnadnaaK8
namespace Go.Proofs.Ytelmkfkgpnadnaa
open Go.RowKit

variable {w w' : World} {b n : Nat} {A Pl : Nat → Nat} {E : Nat → Nat → Bool}

theorem ok_new (h : ∀ p, p < n → A p = p ∧ Pl p = p) : Kp.Ok n A Pl noE :=
  ⟨fun p hp => by rw [(h p hp).1]; exact hp, fun p hp => by rw [(h p hp).2]; exact hp, fun p hp => by rw [(h p hp).1, (h p hp).2], fun p hp => by rw [(h p hp).2, (h p hp).1], fun a b h => (by cases h), fun a b h => (by cases h)⟩

set_option maxRecDepth 100000 in
set_option maxHeartbeats 400000 in
theorem newTopo_any (w : World) (n : Nat) (hn : n ≤ 40) :
    Calls Try.prog 7 #[.int .i64 n] w fun e w' => ∃ b A Pl, e = .returned (.tuple #[.pointer (some ⟨b, 0, none⟩), .int .i64 0]) ∧ RowAt w' b n A Pl noE ∧ (∀ p, p < n → A p = p ∧ Pl p = p) ∧ w.heap.size ≤ b ∧ Below w.heap.size w w' := by
  have k := newRow_any w n hn
  go_enter Try.func7, Try.ntmps7
  go_wp2_with (go_at_call 16; fail)
  go_at_call 16
  refine k.mono ?_
  rintro e w1 ⟨A, Pl, rfl, hA, hb⟩
  clear k
  have hl := rcells_length n A Pl noE
  have HA : Hid (∀ p, p < n → A p = p ∧ Pl p = p) := hA
  clear hA
  have hnr := new_row w1 (rcells n A Pl noE) 62 hl
  have HR : Hid (RowAt (w1.alloc (.cells (rcells n A Pl noE).toArray 62)) w1.heap.size n A Pl noE) := rowAt_of hnr.1 fun o ho => (hnr.2 o ho).2
  clear hnr
  go_wp2_with ((with_reducible show wpList _ _ _ (Oper.mk _ (Op.build _ _) _ _ _ _ :: _) _ _); refine wpList_build_any rfl 62 (.tmp 11) rfl (.agg (rcells n A Pl noE).toArray) rfl (rcells n A Pl noE).toArray (built62 _ hl) ?_)
  go_ret2
  exact ⟨w1.heap.size, A, Pl, rfl, HR.out, HA.out, hb.size, hb.alloc hb.size _⟩

theorem wrap_id (x : Int) (h : -9223372036854775808 ≤ x) (h' : x ≤ 9223372036854775807) : IntKind.i64.wrap x = x := by
  simp [IntKind.wrap, IntKind.bits, IntKind.signed]; omega

/-- A number picked. -/
def pk (c : Int) (n : Nat) : Nat := (if c < 0 then -(c + 1) else c).toNat % n

theorem pk_neg (c : Int) (n : Nat) (hc : c < 0) : -((c + 1).tmod (n : Int)) = (pk c n : Int) := by
  obtain ⟨m, hm⟩ : ∃ m : Nat, c + 1 = -(m : Int) := ⟨(-(c + 1)).toNat, by omega⟩
  unfold pk
  rw [if_pos hc, hm, Int.neg_tmod, Int.neg_neg, Int.neg_neg, Int.toNat_natCast]
  rfl

theorem pk_pos (c : Int) (n : Nat) (hc : 0 ≤ c) : c % (n : Int) = (pk c n : Int) := by
  obtain ⟨m, rfl⟩ : ∃ m : Nat, c = m := ⟨c.toNat, by omega⟩
  unfold pk
  rw [if_neg (by omega), Int.toNat_natCast]
  rfl

theorem pk_lt (c : Int) (n : Nat) (hn : 0 < n) : pk c n < n := Nat.mod_lt _ hn

set_option maxHeartbeats 400000 in
theorem pick_any (c : Int) (n : Nat) (w : World) (hn : 0 < n) (h1 : -9223372036854775808 ≤ c) (h2 : c ≤ 9223372036854775807) :
    Calls Try.prog 6 #[.int .i64 c, .int .i64 n] w fun e w' => e = .returned (.int .i64 (pk c n)) ∧ w' = w := by
  have hn0 : ((n : Int) == 0) = false := by simp; omega
  have hnz : ¬ (n : Int) = 0 := by omega
  by_cases hc : c < 0
  · have e1 : IntKind.i64.wrap (c + 1) = c + 1 := wrap_id _ (by omega) (by omega)
    have e2 : IntKind.i64.wrap (-(c + 1)) = -(c + 1) := wrap_id _ (by omega) (by omega)
    have HP : Hid (-((c + 1).tmod (n : Int)) = (pk c n : Int)) := pk_neg c n hc
    go_enter Try.func6, Try.ntmps6
    go_wp2
    go_ret
    exact ⟨by rw [← HP.out]; rfl, rfl⟩
  · have HP : Hid (c % (n : Int) = (pk c n : Int)) := pk_pos c n (by omega)
    go_enter Try.func6, Try.ntmps6
    go_wp2
    go_ret
    exact ⟨by rw [← HP.out]; rfl, rfl⟩

/-- A block of one-cell values. -/
structure ValsAt (w : World) (b n : Nat) (f : Nat → Value) : Prop where
  at' : ∀ j, j < n → w.cell? ⟨b, j, none⟩ = some (f j)
  fr : ∀ j, j < n → w.frozen? ⟨b, j, none⟩ = false

theorem ValsAt.of_block {f : Nat → Value} (h : ValsAt w b n f) (hb : w'.heap[b]? = w.heap[b]?) : ValsAt w' b n f :=
  ⟨fun v hv => by rw [World.cell?_of_block (w := w) (a := ⟨b, v, none⟩) hb]; exact h.at' v hv, fun v hv => by rw [World.frozen?_of_block (w := w) (a := ⟨b, v, none⟩) hb]; exact h.fr v hv⟩

theorem ValsAt.set {f : Nat → Value} (h : ValsAt w b n f) {p : Nat} (hp : p < n) (v : Value) : ValsAt (w.setCell ⟨b, p, none⟩ v) b n (fun j => if j = p then v else f j) := by
  refine ⟨fun q hq => ?_, fun o ho => ?_⟩
  · by_cases e : q = p
    · subst e; rw [World.cell?_setCell_same _ _ _ (h.at' q hq)]; simp
    · rw [cell_other _ _ _ _ _ (by omega)]; simp only [if_neg e]; exact h.at' q hq
  · rw [World.frozen?_setCell]; exact h.fr o ho

theorem ValsAt.ext {f g : Nat → Value} (h : ValsAt w b n f) (e : ∀ j, j < n → f j = g j) : ValsAt w b n g := ⟨fun j hj => by rw [← e j hj]; exact h.at' j hj, h.fr⟩

theorem vals_new (w : World) (z : Value) (n : Nat) (e : TypeId) : ValsAt (w.alloc (.cells (madeCells #[z] n) e)) w.heap.size n (fun _ => z) := by
  have h1 : (w.alloc (.cells (madeCells #[z] n) e)).heap[w.heap.size]? = some (.cells (madeCells #[z] n) e) := by
    show (w.heap.push _)[w.heap.size]? = _
    simp
  refine ⟨fun v hv => ?_, fun v hv => ?_⟩
  · simp only [World.cell?, h1]; simp [madeCells, hv, Nat.mod_one]
  · simp only [World.frozen?, h1]; simp

theorem wpList_make_n {ops : Array Oper} {rest : List Oper} {o : Oper} {a : Act} {w : World} {Q : Exit → Act → World → Prop} (hgd : o.guard = none) (l : Operand) (t : TypeId) (ho : o.op = .makeSlice t l l) (e : TypeId) (z : Value) (bytes n : Nat)
    (ht : Try.prog.underlying t = some (.slice e)) (hi : (Try.prog.info? e).map (fun i => (i.zero, i.size, i.bytes)) = some (some z, 1, bytes)) (hz : z.cells = #[z]) (hb : bytes ≤ 100) (hn : n ≤ 40) (hl : a.eval l = .int .i64 n) (N : Nat) (hN : w.heap.size = N)
    (h : wpList Try.prog ops Q rest (a.put o.dst (.slice (some ⟨N, 0, none⟩) n n)) (w.alloc (.cells (madeCells #[z] n) e))) : wpList Try.prog ops Q (o :: rest) a w :=
  wpList_plain hgd fun K hK => by
    subst hN
    rw [Option.map_eq_some_iff] at hi
    obtain ⟨i, hi1, hi2⟩ := hi
    simp only [Prod.mk.injEq] at hi2
    have h3 : (bytes : Int) * (n : Int) ≤ 281474976710656 := by
      have h4 : bytes * n ≤ 100 * 40 := Nat.mul_le_mul hb hn
      have h5 : ((bytes * n : Nat) : Int) ≤ 4000 := by omega
      rw [Int.natCast_mul] at h5; omega
    have hr := run_make (P := Try.prog) w t e i z ht hi1 hi2.1 .i64 .i64 n n (by omega) (Int.le_refl _) (by rw [hi2.2.2]; exact h3) (by omega)
    rw [hi2.2.1, hz, Int.toNat_natCast, Nat.mul_one] at hr
    unfold Oper.wp execOp
    simp only [ho, hl, hr, Sem.run_bind, Sem.run_pure, Result.andThen_ok]
    exact hK _ _ h

end Go.Proofs.Ytelmkfkgpnadnaa
