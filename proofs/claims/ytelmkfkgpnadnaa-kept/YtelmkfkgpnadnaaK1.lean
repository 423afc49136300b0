/-
  A row of nodes in memory; its small methods.
-/
import Derived.Test.YtelmkfkgpnadnaaRows
import Derived.Test.YtelmkfkgpnadnaaK0
import Derived.WalkKit
import Derived.WalkSpells
import Derived.WalkLawsBesides
import Derived.Deep.MidRow
import Derived.Deep.LoopGhost
import Derived.Maps.AppendAt
import Derived.Deep.Cut
import Derived.Deep.CutRange
import Derived.Deep.DeepCutAuto
import Derived.BigQuiet
import Derived.Deep.RegionHeld
namespace Go.Proofs.Ytelmkfkgpnadnaa
open Go.RowKit

/-- A row of nodes lies in block b, from its head on. -/
structure RowAt (w : World) (b n : Nat) (A Pl : Nat → Nat) (E : Nat → Nat → Bool) : Prop where
  cnt : w.cell? ⟨b, 0, none⟩ = some (.int .i64 n)
  at' : ∀ p, p < 40 → w.cell? ⟨b, 1 + p, none⟩ = some (.int .i64 (A p))
  pl : ∀ v, v < 40 → w.cell? ⟨b, 41 + v, none⟩ = some (.int .i64 (Pl v))
  ed : ∀ u, u < 40 → ∀ v, v < 40 → w.cell? ⟨b, 81 + u * 40 + v, none⟩ = some (.bool (E u v))
  fr : ∀ o, o < 1681 → w.frozen? ⟨b, o, none⟩ = false

variable {w w' : World} {b n : Nat} {A Pl : Nat → Nat} {E : Nat → Nat → Bool}

theorem RowAt.lt (h : RowAt w b n A Pl E) : b < w.heap.size := World.block_lt_of_cell? w _ h.cnt

theorem RowAt.of_block (h : RowAt w b n A Pl E) (hb : w'.heap[b]? = w.heap[b]?) : RowAt w' b n A Pl E :=
  have c : ∀ o, w'.cell? ⟨b, o, none⟩ = w.cell? ⟨b, o, none⟩ := fun o => World.cell?_of_block (w := w) hb
  ⟨by rw [c]; exact h.cnt, fun p hp => by rw [c]; exact h.at' p hp, fun v hv => by rw [c]; exact h.pl v hv, fun u hu v hv => by rw [c]; exact h.ed u hu v hv,
    fun o ho => by rw [World.frozen?_of_block (w := w) (a := ⟨b, o, none⟩) hb]; exact h.fr o ho⟩

theorem RowAt.below (h : RowAt w b n A Pl E) (hb : Below w.heap.size w w') : RowAt w' b n A Pl E := h.of_block (hb.block b h.lt)

theorem cell_other (w : World) (b o o' : Nat) (v : Value) (h : o ≠ o') : (w.setCell ⟨b, o, none⟩ v).cell? ⟨b, o', none⟩ = w.cell? ⟨b, o', none⟩ :=
  World.cell?_setCell_other _ _ _ _ (by intro e; apply h; injection e)

theorem RowAt.setAt (h : RowAt w b n A Pl E) {p v : Nat} (hp : p < 40) : RowAt (w.setCell ⟨b, 1 + p, none⟩ (.int .i64 v)) b n (Kp.upd A p v) Pl E := by
  refine ⟨?_, fun q hq => ?_, fun u hu => ?_, fun u hu z hz => ?_, fun o ho => ?_⟩
  · rw [cell_other _ _ _ _ _ (by omega)]; exact h.cnt
  · unfold Kp.upd
    by_cases e : q = p
    · subst e; rw [World.cell?_setCell_same _ _ _ (h.at' q hq)]; simp
    · rw [cell_other _ _ _ _ _ (by omega), if_neg e]; exact h.at' q hq
  · rw [cell_other _ _ _ _ _ (by omega)]; exact h.pl u hu
  · rw [cell_other _ _ _ _ _ (by omega)]; exact h.ed u hu z hz
  · rw [World.frozen?_setCell]; exact h.fr o ho

theorem RowAt.setPl (h : RowAt w b n A Pl E) {p v : Nat} (hp : p < 40) : RowAt (w.setCell ⟨b, 41 + p, none⟩ (.int .i64 v)) b n A (Kp.upd Pl p v) E := by
  refine ⟨?_, fun q hq => ?_, fun u hu => ?_, fun u hu z hz => ?_, fun o ho => ?_⟩
  · rw [cell_other _ _ _ _ _ (by omega)]; exact h.cnt
  · rw [cell_other _ _ _ _ _ (by omega)]; exact h.at' q hq
  · unfold Kp.upd
    by_cases e : u = p
    · subst e; rw [World.cell?_setCell_same _ _ _ (h.pl u hu)]; simp
    · rw [cell_other _ _ _ _ _ (by omega), if_neg e]; exact h.pl u hu
  · rw [cell_other _ _ _ _ _ (by omega)]; exact h.ed u hu z hz
  · rw [World.frozen?_setCell]; exact h.fr o ho

theorem RowAt.setEd (h : RowAt w b n A Pl E) {x y : Nat} {c : Bool} (hx : x < 40) (hy : y < 40) : RowAt (w.setCell ⟨b, 81 + x * 40 + y, none⟩ (.bool c)) b n A Pl (Kp.edge E x y c) := by
  refine ⟨?_, fun q hq => ?_, fun u hu => ?_, fun u hu z hz => ?_, fun o ho => ?_⟩
  · rw [cell_other _ _ _ _ _ (by omega)]; exact h.cnt
  · rw [cell_other _ _ _ _ _ (by omega)]; exact h.at' q hq
  · rw [cell_other _ _ _ _ _ (by omega)]; exact h.pl u hu
  · unfold Kp.edge
    by_cases e : u = x ∧ z = y
    · obtain ⟨rfl, rfl⟩ := e; rw [World.cell?_setCell_same _ _ _ (h.ed u hu z hz)]; simp
    · rw [cell_other _ _ _ _ _ (by omega), if_neg e]; exact h.ed u hu z hz
  · rw [World.frozen?_setCell]; exact h.fr o ho

theorem grown_one (w : World) (b o : Nat) (x : Value) : w.grownBy (w.setCell ⟨b, o, none⟩ x) (some b) :=
  ⟨rfl, rfl, rfl, by simp [World.setCell], fun k _ hne => Below.heap_setCell _ _ _ _ (fun e => hne (by rw [e]))⟩

theorem grown_two (w : World) (b o o' : Nat) (x x' : Value) : w.grownBy ((w.setCell ⟨b, o, none⟩ x).setCell ⟨b, o', none⟩ x').drew (some b) :=
  have h := (grown_one w b o x).trans (grown_one _ b o' x')
  ⟨h.os, h.tape, h.output, h.size, h.block⟩

theorem info56 : (Try.prog.info? 56).map (·.size) = some 40 := by kernel_rfl
theorem info59 : (Try.prog.info? 59).map (·.size) = some 1681 := by kernel_rfl

set_option maxHeartbeats 400000 in
theorem has_yes (v : Nat) (h : RowAt w b n A Pl E) (hv : v < n) :
    Calls Try.prog 28 #[.pointer (some ⟨b, 0, none⟩), .int .i64 v] w fun e w' => e = .returned (.bool true) ∧ w' = w := by
  have hc := h.cnt
  clear h
  go_enter Try.func28, Try.ntmps28
  go_wp2
  go_ret
  exact ⟨rfl, rfl⟩

set_option maxHeartbeats 400000 in
theorem put_any (v p : Nat) (h : RowAt w b n A Pl E) (hv : v < 40) (hp : p < 40) :
    Calls Try.prog 27 #[.pointer (some ⟨b, 0, none⟩), .int .i64 v, .int .i64 p] w fun e w' => e = .returned (.tuple #[]) ∧ RowAt w' b n (Kp.upd A p v) (Kp.upd Pl v p) E ∧ w.grownBy w' (some b) := by
  have h1 := h.at' p hp
  have h2 := h.pl v hv
  have f1 := h.fr (1 + p) (by omega)
  have f2 := h.fr (41 + v) (by omega)
  have HH : Hid (RowAt w b n A Pl E) := h
  clear h
  go_enter Try.func27, Try.ntmps27
  go_region
  go_end0
  exact ⟨rfl, ((HH.out.setAt hp).setPl hv).of_block rfl, grown_two w b _ _ _ _⟩

end Go.Proofs.Ytelmkfkgpnadnaa
