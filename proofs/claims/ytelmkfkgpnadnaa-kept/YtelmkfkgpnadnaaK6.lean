/-
  An edge is put in, or taken out.
-/
import Derived.Test.YtelmkfkgpnadnaaK5
namespace Go.Proofs.Ytelmkfkgpnadnaa
open Go.RowKit

variable {w w' : World} {b n : Nat} {A Pl : Nat → Nat} {E : Nat → Nat → Bool}

theorem edge_same {x y : Nat} {c : Bool} (h : E x y = c) : Kp.edge E x y c = E := by
  funext a b
  unfold Kp.edge
  split
  · rename_i e; rw [e.1, e.2, h]
  · rfl

theorem grown_refl (w : World) (r : Option Nat) : w.grownBy w r := ⟨rfl, rfl, rfl, Nat.le_refl _, fun _ _ _ => rfl⟩

theorem grown_of_below (h : Below w.heap.size w w') (r : Option Nat) : w.grownBy w' r := ⟨h.os, h.tape, h.output, h.size, fun k hk _ => h.block k hk⟩

set_option maxHeartbeats 1000000 in
theorem rowRemove_any (x y : Nat) (h : RowAt w b n A Pl E) (hn : n ≤ 40) (hx : x < n) (hy : y < n) :
    Calls Try.prog 18 #[.pointer (some ⟨b, 0, none⟩), .int .i64 x, .int .i64 y] w fun e w' => e = .returned (.bool (E x y)) ∧ RowAt w' b n A Pl (Kp.edge E x y false) ∧ w.grownBy w' (some b) := by
  have kx := has_yes x h hx
  have ky := has_yes y h hy
  have hx40 : x < 40 := by omega
  have hy40 : y < 40 := by omega
  have hed := h.ed x hx40 y hy40
  have hfr := h.fr (81 + x * 40 + y) (by omega)
  have HR : Hid (RowAt w b n A Pl E) := h
  clear h
  cases he : E x y
  · rw [he] at hed
    have HE : Hid (Kp.edge E x y false = E) := edge_same he
    clear he
    go_enter Try.func18, Try.ntmps18
    go_wp2_with (go_at_call 28; fail)
    go_at_call 28
    refine kx.mono ?_
    rintro e w1 ⟨rfl, rfl⟩
    go_wp2_with (go_at_call 28; fail)
    go_at_call 28
    refine ky.mono ?_
    rintro e w2 ⟨rfl, rfl⟩
    clear kx ky
    go_wp2
    go_ret
    exact ⟨rfl, by rw [HE.out]; exact HR.out, grown_refl _ _⟩
  · rw [he] at hed
    clear he
    go_enter Try.func18, Try.ntmps18
    go_wp2_with (go_at_call 28; fail)
    go_at_call 28
    refine kx.mono ?_
    rintro e w1 ⟨rfl, rfl⟩
    go_wp2_with (go_at_call 28; fail)
    go_at_call 28
    refine ky.mono ?_
    rintro e w2 ⟨rfl, rfl⟩
    clear kx ky
    go_wp2
    go_ret
    exact ⟨rfl, HR.out.setEd hx40 hy40, grown_one _ _ _ _⟩

set_option maxHeartbeats 1000000 in
theorem remove_any (x y : Nat) (h : RowAt w b n A Pl E) (hn : n ≤ 40) (hx : x < n) (hy : y < n) :
    Calls Try.prog 11 #[.pointer (some ⟨b, 0, none⟩), .int .i64 x, .int .i64 y] w fun e w' => e = .returned (.bool (E x y)) ∧ RowAt w' b n A Pl (Kp.edge E x y false) ∧ w.grownBy w' (some b) := by
  have k := rowRemove_any x y h hn hx hy
  have hc := h.cnt
  clear h
  go_enter Try.func11, Try.ntmps11
  go_wp2_with (go_at_call 18; fail)
  go_at_call 18
  refine k.mono ?_
  rintro e w' ⟨rfl, h1, h2⟩
  have H1 : Hid (RowAt w' b n A Pl (Kp.edge E x y false)) := h1
  clear k h1
  go_wp2
  go_ret
  exact ⟨rfl, H1.out, h2⟩

set_option maxHeartbeats 1000000 in
theorem rowAdd_right (x y : Nat) (h : RowAt w b n A Pl E) (hn : n ≤ 40) (hx : x < n) (hy : y < n) (hlt : Pl x < Pl y) :
    Calls Try.prog 19 #[.pointer (some ⟨b, 0, none⟩), .int .i64 x, .int .i64 y] w fun e w' => e = .returned (.tuple #[.int .i64 0, .slice none 0 0]) ∧ RowAt w' b n A Pl (Kp.edge E x y true) ∧ w.grownBy w' (some b) := by
  have kx := has_yes x h hx
  have ky := has_yes y h hy
  have hx40 : x < 40 := by omega
  have hy40 : y < 40 := by omega
  have hpx := h.pl x hx40
  have hpy := h.pl y hy40
  have hed := h.ed x hx40 y hy40
  have hfr := h.fr (81 + x * 40 + y) (by omega)
  have HR : Hid (RowAt w b n A Pl E) := h
  clear h
  go_enter Try.func19, Try.ntmps19
  go_wp2_with (go_at_call 28; fail)
  go_at_call 28
  refine kx.mono ?_
  rintro e w1 ⟨rfl, rfl⟩
  go_wp2_with (go_at_call 28; fail)
  go_at_call 28
  refine ky.mono ?_
  rintro e w2 ⟨rfl, rfl⟩
  clear kx ky
  go_upto_region 3 with fail
  go_region
  go_wp2
  go_ret2
  refine ⟨rfl, (HR.out.setEd (c := true) hx40 hy40).of_block rfl, ?_⟩
  have := grown_one w2 b (81 + x * 40 + y) (.bool true)
  exact ⟨this.os, this.tape, this.output, this.size, this.block⟩

theorem wpList_alloc_any {ops : Array Oper} {rest : List Oper} {o : Oper} {a : Act} {w : World} {Q : Exit → Act → World → Prop} (hgd : o.guard = none) (t : TypeId) (ho : o.op = .alloc t) (Z : Array Value)
    (hz : (Instr.alloc t true (.tuple #[])).run Try.prog w = .ok (.pointer (some ⟨w.heap.size, 0, none⟩)) (w.alloc (.cells Z t)))
    (h : wpList Try.prog ops Q rest (a.put o.dst (.pointer (some ⟨w.heap.size, 0, none⟩))) (w.alloc (.cells Z t))) : wpList Try.prog ops Q (o :: rest) a w :=
  wpList_plain hgd fun K hK => by
    unfold Oper.wp execOp
    simp only [ho, hz, Sem.run_bind, Sem.run_pure, Result.andThen_ok]
    exact hK _ _ h

def zs40 : Array Value := Array.replicate 40 (.bool false)

theorem run_alloc56 (w : World) : (Instr.alloc 56 true (.tuple #[])).run Try.prog w = .ok (.pointer (some ⟨w.heap.size, 0, none⟩)) (w.alloc (.cells zs40 56)) := by
  simp [Instr.alloc, go_sem]
  rfl

theorem new56 (w : World) : BoolsAt (w.alloc (.cells zs40 56)) w.heap.size fun _ => false := by
  have h1 : (w.alloc (.cells zs40 56)).heap[w.heap.size]? = some (.cells zs40 56) := by
    show (w.heap.push _)[w.heap.size]? = _
    simp
  refine ⟨fun v hv => ?_, fun v hv => ?_⟩
  · simp only [World.cell?, h1]; simp [hv, zs40]
  · simp only [World.frozen?, h1]; simp

theorem heap_size_setCells (b : Nat) : ∀ (vs : List Value) (o : Nat) (w : World), (w.setCells b o vs).heap.size = w.heap.size
  | [], _, _ => rfl
  | v :: r, o, w => by rw [World.setCells, heap_size_setCells b r]; simp [World.setCell]

/-- What was found lies in a block of its own. -/
theorem boxed (w : World) (S : Nat → Bool) : BoolsAt ((w.alloc (.cells zs40 56)).setCells w.heap.size 0 (blist S).toArray.toList) w.heap.size S ∧ Below w.heap.size w ((w.alloc (.cells zs40 56)).setCells w.heap.size 0 (blist S).toArray.toList) ∧ ((w.alloc (.cells zs40 56)).setCells w.heap.size 0 (blist S).toArray.toList).heap.size = w.heap.size + 1 := by
  have hth : (w.alloc (.cells zs40 56)).there w.heap.size 0 (blist S).toArray.toList.length := by simpa using (new56 w).there S
  have hr := World.rangeAt_setCells_same _ _ _ _ hth
  refine ⟨⟨fun v hv => ?_, fun v hv => ?_⟩, below_setCells _ (Nat.le_refl _) _ _ _ ((Below.refl _ _).alloc (Nat.le_refl _) _), by rw [heap_size_setCells]; simp⟩
  · have := hr v (.bool (S v)) (by simp [blist, hv])
    rwa [Nat.zero_add] at this
  · rw [World.frozen?_setCells]; exact (new56 w).fr v hv

theorem base_le {w : World} {B B' e size m : Nat} {v : Value} {xs : List Value} (h : w.ownsRow B e size v m xs) (hb : B' ≤ B) : w.ownsRow B' e size v m xs := by
  refine ⟨h.1, ?_⟩
  rcases h.2 with hn | ⟨g, cap, cur, hv, hg, rest⟩
  · exact .inl hn
  · exact .inr ⟨g, cap, cur, hv, Nat.le_trans hb hg, rest⟩

set_option maxRecDepth 100000 in
set_option maxHeartbeats 400000 in
theorem rowAdd_cycle (x y : Nat) (h : RowAt w b n A Pl E) (O : Kp.Ok n A Pl E) (hn : n ≤ 40) (hx : x < n) (hy : y < n) (hle : Pl y ≤ Pl x) (hc : Kp.Way E y x ∨ x = y) :
    Calls Try.prog 19 #[.pointer (some ⟨b, 0, none⟩), .int .i64 x, .int .i64 y] w fun e w' => ∃ v S, e = .returned (.tuple #[.int .i64 5, v]) ∧ (∀ v, v < 40 → (S v = true ↔ Kp.SrcI E Pl x (Pl y) v)) ∧
      w'.ownsRow (w.heap.size + 1) 3 1 v (Kp.tell E A Pl S x 40 y).length (ints (Kp.tell E A Pl S x 40 y)) ∧ Below w.heap.size w w' := by
  have kx := has_yes x h hx
  have ky := has_yes y h hy
  have hx40 : x < 40 := by omega
  have hy40 : y < 40 := by omega
  have hpx := h.pl x hx40
  have hpy := h.pl y hy40
  have ks := sources_any x (Pl y) (h.of_block (w' := w.drew) rfl) O hn hx hle
  have HR : Hid (RowAt w b n A Pl E) := h
  have HO : Hid (Kp.Ok n A Pl E) := O
  have HC : Hid (Kp.Way E y x ∨ x = y) := hc
  clear h O hc
  go_enter Try.func19, Try.ntmps19
  go_wp2_with (go_at_call 28; fail)
  go_at_call 28
  refine kx.mono ?_
  rintro e w1 ⟨rfl, rfl⟩
  go_wp2_with (go_at_call 28; fail)
  go_at_call 28
  refine ky.mono ?_
  rintro e w2 ⟨rfl, rfl⟩
  clear kx ky
  go_upto_region 3 with fail
  go_region
  go_wp2_with (go_at_call 29; fail)
  go_at_call 29
  refine ks.mono ?_
  rintro e w3 ⟨S, rfl, hS, hb3⟩
  clear ks
  have hSy : S y = true := (Kp.closes_iff HO.out hn hy S hS).2 HC.out
  have hbx := boxed w3 S
  have hth : (w3.alloc (.cells zs40 56)).there w3.heap.size 0 (blist S).toArray.size := (new56 w3).there S
  go_upto_region 6 with ((with_reducible show wpList _ _ _ (Oper.mk _ (Op.alloc _) _ _ _ _ :: _) _ _); refine wpList_alloc_any rfl 56 rfl zs40 (run_alloc56 w3) ?_; refine wpList_store_mid rfl 56 (.tmp 10) (.tmp 39) rfl w3.heap.size 0 (blist S).toArray rfl rfl hth (blist_info S) (blist_one S) ?_; generalize World.setCells (World.alloc w3 _) _ _ _ = W at hbx ⊢; clear hth)
  obtain ⟨hbx1, hbx2, hbx3⟩ := hbx
  have hcy := hbx1.at' y hy40
  rw [hSy] at hcy
  have HB : Hid (BoolsAt W w3.heap.size S) := hbx1
  have hi56 : (Try.prog.info? 56).map (·.size) = some (blist S).length := by rw [blist_length]; exact info56
  have hb3' : Below w2.heap.size w2 w3 := (Below.refl w2.heap.size w2).drew.trans (show Below w2.heap.size w2.drew w3 from hb3)
  have hb4 : Below w2.heap.size w2 W := hb3'.trans (hbx2.mono hb3'.size)
  have HSS : Hid (∀ v, v < 40 → (S v = true ↔ Kp.SrcI E Pl x (Pl y) v)) := hS
  have kw := way_any S x y (Pl y) (HR.out.below hb4) HO.out hn hx hy hle hS hSy
  clear hbx1 hS hSy hb3 hb3' hbx2 hpx hpy
  go_upto_region 7 with fail
  go_wp2_with (first | (go_at_call 30; fail) | ((with_reducible show wpList _ _ _ (Oper.mk _ (Op.load _ _) _ _ _ _ :: _) _ _); refine wpList_load_mid rfl 56 (.tmp 10) rfl w3.heap.size 0 rfl (blist S) _ HB.out.range Try.underlying56 rfl hi56 ?_))
  go_at_call 30
  refine kw.mono ?_
  rintro e w5 ⟨v, rfl, hown, hb5⟩
  clear kw
  go_wp2
  go_ret2
  exact ⟨v, S, rfl, HSS.out, base_le hown (by have := hb4.size; omega), hb4.trans (hb5.mono hb4.size)⟩

theorem PB_ne (O : Kp.Ok n A Pl E) {S T : Nat → Bool} {y l : Nat} (hy : y < n) (hS : S y = false) (hT : T y = true) (hl : Pl y ≤ l) : Kp.PB S T A (Kp.reg (Pl y) l) ≠ [] := by
  refine List.ne_nil_of_mem (a := Pl y) ?_
  unfold Kp.PB
  rw [List.mem_filter, Kp.reg_mem, O.atPl y hy, hS, hT]
  exact ⟨⟨Nat.le_refl _, hl⟩, rfl⟩

/-- What a move leaves. -/
def Moved (A Pl : Nat → Nat) (E : Nat → Nat → Bool) (x y : Nat) (A' Pl' : Nat → Nat) : Prop :=
  ∃ S T : Nat → Bool, (∀ v, v < 40 → (S v = true ↔ Kp.SrcI E Pl x (Pl y) v)) ∧ (∀ v, v < 40 → (T v = true ↔ (v = y ∨ (Pl v < Pl x ∧ Kp.Way E y v)))) ∧ S y = false ∧
    Kp.Put (Kp.PR S T A (Kp.reg (Pl y) (Pl x))) (Kp.sq S T A (Kp.reg (Pl y) (Pl x))) (Kp.PR S T A (Kp.reg (Pl y) (Pl x))).length A Pl A' Pl'

set_option maxRecDepth 100000 in
set_option maxHeartbeats 1000000 in
theorem rowAdd_move (x y : Nat) (h : RowAt w b n A Pl E) (O : Kp.Ok n A Pl E) (hn : n ≤ 40) (hx : x < n) (hy : y < n) (hle : Pl y ≤ Pl x) (hc : ¬ (Kp.Way E y x ∨ x = y)) :
    Calls Try.prog 19 #[.pointer (some ⟨b, 0, none⟩), .int .i64 x, .int .i64 y] w fun e w' => e = .returned (.tuple #[.int .i64 0, .slice none 0 0]) ∧
      ∃ A' Pl', RowAt w' b n A' Pl' (Kp.edge E x y true) ∧ Moved A Pl E x y A' Pl' ∧ w.grownBy w' (some b) := by
  have kx := has_yes x h hx
  have ky := has_yes y h hy
  have hx40 : x < 40 := by omega
  have hy40 : y < 40 := by omega
  have hpx := h.pl x hx40
  have hpy := h.pl y hy40
  have ks := sources_any x (Pl y) (h.of_block (w' := w.drew) rfl) O hn hx hle
  have HR : Hid (RowAt w b n A Pl E) := h
  have HO : Hid (Kp.Ok n A Pl E) := O
  have HC : Hid (¬ (Kp.Way E y x ∨ x = y)) := hc
  clear h O hc
  go_enter Try.func19, Try.ntmps19
  go_wp2_with (go_at_call 28; fail)
  go_at_call 28
  refine kx.mono ?_
  rintro e w1 ⟨rfl, rfl⟩
  go_wp2_with (go_at_call 28; fail)
  go_at_call 28
  refine ky.mono ?_
  rintro e w2 ⟨rfl, rfl⟩
  clear kx ky
  go_upto_region 3 with fail
  go_region
  go_wp2_with (go_at_call 29; fail)
  go_at_call 29
  refine ks.mono ?_
  rintro e w3 ⟨S, rfl, hS, hb3⟩
  clear ks
  have hSy : S y = false := by
    cases hq : S y with
    | false => rfl
    | true => exact absurd ((Kp.closes_iff HO.out hn hy S hS).1 hq) HC.out
  have hbx := boxed w3 S
  have hth : (w3.alloc (.cells zs40 56)).there w3.heap.size 0 (blist S).toArray.size := (new56 w3).there S
  go_upto_region 6 with ((with_reducible show wpList _ _ _ (Oper.mk _ (Op.alloc _) _ _ _ _ :: _) _ _); refine wpList_alloc_any rfl 56 rfl zs40 (run_alloc56 w3) ?_; refine wpList_store_mid rfl 56 (.tmp 10) (.tmp 39) rfl w3.heap.size 0 (blist S).toArray rfl rfl hth (blist_info S) (blist_one S) ?_; generalize World.setCells (World.alloc w3 _) _ _ _ = W at hbx ⊢; clear hth)
  obtain ⟨hbx1, hbx2, hbx3⟩ := hbx
  have hcy := hbx1.at' y hy40
  rw [hSy] at hcy
  have HB : Hid (BoolsAt W w3.heap.size S) := hbx1
  have hb3' : Below w2.heap.size w2 w3 := (Below.refl w2.heap.size w2).drew.trans (show Below w2.heap.size w2.drew w3 from hb3)
  have hb4 : Below w2.heap.size w2 W := hb3'.trans (hbx2.mono hb3'.size)
  have hbw3 : b < w3.heap.size := Nat.lt_of_lt_of_le HR.out.lt hb3'.size
  have HSS : Hid (∀ v, v < 40 → (S v = true ↔ Kp.SrcI E Pl x (Pl y) v)) := hS
  have HSY : Hid (S y = false) := hSy
  have kt := targets_any y (Pl x) ((HR.out.below hb4).of_block (w' := W.drew) rfl) HO.out hn hy hle (HO.out.plLt x hx)
  have hran := HB.out.range
  have hu56 := Try.underlying56
  have hi56 : (Try.prog.info? 56).map (·.size) = some (blist S).length := by rw [blist_length]; exact info56
  have hl56 := blist_length S
  clear hbx1 hS hSy hb3 hb3' hbx2 hpx hpy
  go_upto_region 8 with fail
  go_cut [8, 9] (fun s t wx => ∃ A' Pl', RowAt wx b n A' Pl' E ∧ Moved A Pl E x y A' Pl' ∧ w2.grownBy wx (some b))
  case first =>
    go_region_held (fun w' => w'.rangeAt w3.heap.size 0 (blist S)) (first | assumption | (show World.rangeAt _ _ _ _; assumption) | simpa using hran)
      (first
        | (go_at_call 32; refine kt.mono ?_; rintro e w6 ⟨T, rfl, hT, hbt⟩; have hb6 : Below w2.heap.size w2 w6 := hb4.trans ((Below.refl w2.heap.size W).drew.trans (hbt.mono (Nat.le_trans hb4.size (Nat.le_refl _)))); have hB6 : Hid (BoolsAt w6 w3.heap.size S) := HB.out.of_block (hbt.block w3.heap.size (by show w3.heap.size < W.heap.size; omega)); have hr6 : w6.rangeAt w3.heap.size 0 (blist S) := hB6.out.range; have hs6 : w3.heap.size < w6.heap.size := Nat.lt_of_lt_of_le (by show w3.heap.size < W.heap.size; omega) hbt.size; have HT : Hid (∀ v, v < 40 → (T v = true ↔ v = y ∨ Pl v < Pl x ∧ Kp.Way E y v)) := hT; clear hT)
        | (go_at_call 31; refine (move_any S T (Pl y) (Pl x) (HR.out.below hb6) HO.out hn hle (HO.out.plLt x hx) (PB_ne HO.out hy HSY.out ((HT.out y hy40).2 (Or.inl rfl)) hle)).mono ?_; rintro e w7 ⟨rfl, A', Pl', hR7, hP7, hg7⟩; have hr7 : w7.rangeAt w3.heap.size 0 (blist S) := (hB6.out.of_block (hg7.block w3.heap.size hs6 (by simp; omega))).range; have HR7 : Hid (RowAt w7 b n A' Pl' E) := hR7; have HP7 : Hid (Moved A Pl E x y A' Pl') := ⟨S, T, HSS.out, HT.out, HSY.out, hP7⟩; have HG7 : Hid (w2.grownBy w7 (some b)) := (grown_of_below hb6 (some b)).trans hg7; clear hR7 hP7 hg7))
    go_wp2_with fail
    go_meet
    exact ⟨A', Pl', HR7.out, HP7.out, HG7.out⟩
  case rest =>
    obtain ⟨A', Pl', hR, hM, hG⟩ := hcut
    have hed := hR.ed x hx40 y hy40
    have hfr := hR.fr (81 + x * 40 + y) (by omega)
    have HR2 : Hid (RowAt wc b n A' Pl' (Kp.edge E x y true) → True) := fun _ => trivial
    have HS2 : Hid (RowAt (wc.setCell ⟨b, 81 + x * 40 + y, none⟩ (.bool true)) b n A' Pl' (Kp.edge E x y true)) := hR.setEd hx40 hy40
    have HM : Hid (Moved A Pl E x y A' Pl') := hM
    have HG : Hid (w2.grownBy (wc.setCell ⟨b, 81 + x * 40 + y, none⟩ (.bool true)) (some b)) := hG.trans (grown_one _ _ _ _)
    clear hR hM hG HR2 kt hran
    go_wp2
    go_ret2
    exact ⟨rfl, A', Pl', HS2.out, HM.out, HG.out⟩

end Go.Proofs.Ytelmkfkgpnadnaa
