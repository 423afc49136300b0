/-
  The document's answer, an order: is a number a node's; where it stands; an edge taken out.
-/
import Derived.Test.YtelmkfkgpnadnaaK12
namespace Go.Proofs.Ytelmkfkgpnadnaa
open Go.RowKit

variable {w w' : World} {n : Nat} {A Pl : Nat → Nat} {E : Nat → Nat → Bool}

/-- The document's order in memory (it has nodes). -/
structure RefAt (w : World) (tb nb eb cn ce n : Nat) (rb : Nat → Nat) (A : Nat → Nat) (E : Nat → Nat → Bool) : Prop where
  nodes : w.cell? ⟨tb, 0, none⟩ = some (.slice (some ⟨nb, 0, none⟩) n cn)
  edges : w.cell? ⟨tb, 1, none⟩ = some (.slice (some ⟨eb, 0, none⟩) n ce)
  nv : ValsAt w nb n (fun p => .int .i64 (A p))
  ed : EdgesAt w eb n rb E
  nlt : nb < w.heap.size
  d1 : tb ≠ nb ∧ tb ≠ eb ∧ nb ≠ eb
  d2 : ∀ u, u < n → rb u ≠ tb ∧ rb u ≠ nb

set_option maxHeartbeats 400000 in
theorem is_any (c : Int) (tb cn : Nat) (a : Option Addr) (w : World) (h : w.cell? ⟨tb, 0, none⟩ = some (.slice a n cn)) :
    Calls Try.prog 33 #[.pointer (some ⟨tb, 0, none⟩), .int .i64 c] w fun e w' => e = .returned (.bool (decide (0 ≤ c ∧ c < (n : Int)))) ∧ w' = w := by
  by_cases h0 : 0 ≤ c
  · by_cases h1 : c < (n : Int)
    · go_enter Try.func33, Try.ntmps33
      go_wp2
      go_ret
      exact ⟨by simp [h0, h1], rfl⟩
    · have h1' : decide (c < (n : Int)) = false := by simp; omega
      go_enter Try.func33, Try.ntmps33
      go_wp2
      go_ret
      exact ⟨by simp, rfl⟩
  · go_enter Try.func33, Try.ntmps33
    go_wp2
    go_ret
    exact ⟨by simp; omega, rfl⟩

set_option maxHeartbeats 400000 in
theorem place_any (x : Nat) (tb nb cn : Nat) (w : World) (hc : w.cell? ⟨tb, 0, none⟩ = some (.slice (some ⟨nb, 0, none⟩) n cn)) (hv : ValsAt w nb n (fun p => .int .i64 (A p))) (O : Kp.Ok n A Pl E) (hn : n ≤ 40) (hx : x < n) :
    Calls Try.prog 35 #[.pointer (some ⟨tb, 0, none⟩), .int .i64 x] w fun e w' => e = .returned (.int .i64 (Pl x)) ∧ w' = w := by
  have HV : Hid (ValsAt w nb n (fun p => .int .i64 (A p))) := hv
  have HO : Hid (Kp.Ok n A Pl E) := O
  have hpx := O.plLt x hx
  clear hv O
  go_enter Try.func35, Try.ntmps35
  go_wp2
  go_loopg [5] n (fun gg s wr => ∃ i : Nat, i ≤ Pl x ∧ n - i ≤ gg ∧ s = .int .i64 i ∧ wr = w)
  case atStart => exact ⟨0, by omega, by omega, rfl, rfl⟩
  case round =>
    obtain ⟨i, hi, hg, rfl, rfl⟩ := hrel
    have hin : i < n := by omega
    have hat := HV.out.at' i hin
    by_cases he : i = Pl x
    · have hax : A i = x := by rw [he]; exact HO.out.atPl x hx
      rw [hax] at hat
      have hq : (((x : Nat) : Int) == (x : Int)) = true := by simp
      have HE : Hid (i = Pl x) := he
      clear he hax
      go_wp2
      go_ret
      exact ⟨by rw [← HE.out]; rfl, rfl⟩
    · have hax : A i ≠ x := fun e => he (by rw [← e, HO.out.plAt i hin])
      have hq : (((A i : Nat) : Int) == (x : Int)) = false := by simp; omega
      have hi1 : i + 1 ≤ Pl x := by omega
      clear he hax
      go_wp2
      go_roundg (n - (i + 1))
      case measure => omega
      case rel => exact ⟨i + 1, hi1, by omega, by go_num, rfl⟩

theorem is_yes (x : Nat) (tb cn : Nat) (a : Option Addr) (w : World) (h : w.cell? ⟨tb, 0, none⟩ = some (.slice a n cn)) (hx : x < n) :
    Calls Try.prog 33 #[.pointer (some ⟨tb, 0, none⟩), .int .i64 x] w fun e w' => e = .returned (.bool true) ∧ w' = w := by
  have k := is_any (x : Int) tb cn a w h
  rw [decide_eq_true (by omega)] at k
  exact k

theorem is_not (c : Int) (tb cn : Nat) (a : Option Addr) (w : World) (h : w.cell? ⟨tb, 0, none⟩ = some (.slice a n cn)) (hc : ¬ (0 ≤ c ∧ c < (n : Int))) :
    Calls Try.prog 33 #[.pointer (some ⟨tb, 0, none⟩), .int .i64 c] w fun e w' => e = .returned (.bool false) ∧ w' = w := by
  have k := is_any c tb cn a w h
  rw [decide_eq_false hc] at k
  exact k

theorem RefAt.below {tb nb eb cn ce : Nat} {rb : Nat → Nat} (h : RefAt w tb nb eb cn ce n rb A E) (hb : Below w.heap.size w w') : RefAt w' tb nb eb cn ce n rb A E := by
  have ht : tb < w.heap.size := World.block_lt_of_cell? w _ h.nodes
  exact ⟨by rw [hb.cell (p := ⟨tb, 0, none⟩) ht]; exact h.nodes, by rw [hb.cell (p := ⟨tb, 1, none⟩) ht]; exact h.edges, h.nv.of_block (hb.block nb h.nlt), h.ed.below hb, Nat.lt_of_lt_of_le h.nlt hb.size, h.d1, h.d2⟩

theorem RefAt.edge {tb nb eb cn ce x y : Nat} {rb : Nat → Nat} {c : Bool} (h : RefAt w tb nb eb cn ce n rb A E) (hx : x < n) (hy : y < n) : RefAt (w.setCell ⟨rb x, y, none⟩ (.bool c)) tb nb eb cn ce n rb A (Kp.edge E x y c) := by
  have hs : (w.setCell ⟨rb x, y, none⟩ (.bool c)).heap.size = w.heap.size := by simp [World.setCell]
  have ho : ∀ k, k ≠ rb x → (w.setCell ⟨rb x, y, none⟩ (.bool c)).heap[k]? = w.heap[k]? := fun k hk => Below.heap_setCell _ _ _ _ hk
  have hot : ∀ o, (w.setCell ⟨rb x, y, none⟩ (.bool c)).cell? ⟨tb, o, none⟩ = w.cell? ⟨tb, o, none⟩ := fun o => World.cell?_of_block (w := w) (a := ⟨tb, o, none⟩) (ho tb (fun e => (h.d2 x hx).1 e.symm))
  refine ⟨by rw [hot]; exact h.nodes, by rw [hot]; exact h.edges, h.nv.of_block (ho nb (fun e => (h.d2 x hx).2 e.symm)), ⟨fun u hu => ?_, fun u hu => ?_, h.ed.inj, h.ed.ne, ⟨by rw [hs]; exact h.ed.lt.1, fun u hu => by rw [hs]; exact h.ed.lt.2 u hu⟩⟩, by rw [hs]; exact h.nlt, h.d1, h.d2⟩
  · rw [World.cell?_of_block (w := w) (a := ⟨eb, u, none⟩) (ho eb (fun e => h.ed.ne x hx e.symm))]; exact h.ed.row u hu
  · by_cases e : u = x
    · subst e
      exact ((h.ed.cell u hu).set hy (.bool c)).ext fun j _ => by
        unfold Kp.edge; by_cases e : j = y <;> simp [e]
    · refine ((h.ed.cell u hu).of_block (ho (rb u) (fun e' => e (h.ed.inj u x hu hx e')))).ext fun j _ => ?_
      unfold Kp.edge; rw [if_neg (fun e' => e e'.1)]

set_option maxHeartbeats 1000000 in
theorem refRemove_any (x y tb nb eb cn ce : Nat) (rb : Nat → Nat) (w : World) (h : RefAt w tb nb eb cn ce n rb A E) (hx : x < n) (hy : y < n) :
    Calls Try.prog 26 #[.pointer (some ⟨tb, 0, none⟩), .int .i64 x, .int .i64 y] w fun e w' => e = .returned (.bool (E x y)) ∧ RefAt w' tb nb eb cn ce n rb A (Kp.edge E x y false) ∧ (w' = w ∨ w' = w.setCell ⟨rb x, y, none⟩ (.bool false)) := by
  have kx := is_yes x tb cn _ w h.nodes hx
  have ky := is_yes y tb cn _ w h.nodes hy
  have he := h.edges
  have hr := h.ed.row x hx
  have hc := (h.ed.cell x hx).at' y hy
  have hf := (h.ed.cell x hx).fr y hy
  have HR : Hid (RefAt w tb nb eb cn ce n rb A E) := h
  clear h
  cases hexy : E x y
  · rw [hexy] at hc
    have HE : Hid (Kp.edge E x y false = E) := edge_same hexy
    clear hexy
    go_enter Try.func26, Try.ntmps26
    go_wp2_with (go_at_call 33; fail)
    go_at_call 33
    refine kx.mono ?_
    rintro e w1 ⟨rfl, rfl⟩
    go_wp2_with (go_at_call 33; fail)
    go_at_call 33
    refine ky.mono ?_
    rintro e w2 ⟨rfl, rfl⟩
    clear kx ky
    go_wp2
    go_ret
    exact ⟨rfl, by rw [HE.out]; exact HR.out, Or.inl rfl⟩
  · rw [hexy] at hc
    clear hexy
    go_enter Try.func26, Try.ntmps26
    go_wp2_with (go_at_call 33; fail)
    go_at_call 33
    refine kx.mono ?_
    rintro e w1 ⟨rfl, rfl⟩
    go_wp2_with (go_at_call 33; fail)
    go_at_call 33
    refine ky.mono ?_
    rintro e w2 ⟨rfl, rfl⟩
    clear kx ky
    go_wp2
    go_ret
    exact ⟨rfl, HR.out.edge hx hy, Or.inr rfl⟩

end Go.Proofs.Ytelmkfkgpnadnaa
