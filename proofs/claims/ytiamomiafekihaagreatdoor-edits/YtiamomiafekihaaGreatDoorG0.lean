/-
  What a step turns; an append that says where it writes; rows of one-cell values. (In any seat by changing the Name alone.)
-/
import Derived.Test.YtiamomiafekihaaGreatDoorW1
import Derived.OneCell
import Derived.Laws.OwnMore
import Derived.Maps.AppendAt
import Derived.Tactics
namespace Go.Proofs.YtiamomiafekihaaGreatDoor
open Go.RowKit

theorem cell_other (w : World) (b o o' : Nat) (v : Value) (h : o ≠ o') : (w.setCell ⟨b, o, none⟩ v).cell? ⟨b, o', none⟩ = w.cell? ⟨b, o', none⟩ :=
  World.cell?_setCell_other _ _ _ _ (by intro e; apply h; injection e)

section
variable {w w' : World} {b n : Nat}

/-- A block of one-cell values. -/
structure ValsAt (w : World) (b n : Nat) (f : Nat → Value) : Prop where
  at' : ∀ j, j < n → w.cell? ⟨b, j, none⟩ = some (f j)
  fr : ∀ j, j < n → w.frozen? ⟨b, j, none⟩ = false

theorem ValsAt.of_block {f : Nat → Value} (h : ValsAt w b n f) (hb : w'.heap[b]? = w.heap[b]?) : ValsAt w' b n f :=
  ⟨fun v hv => by rw [World.cell?_of_block (w := w) (a := ⟨b, v, none⟩) hb]; exact h.at' v hv, fun v hv => by rw [World.frozen?_of_block (w := w) (a := ⟨b, v, none⟩) hb]; exact h.fr v hv⟩

theorem ValsAt.set {f : Nat → Value} (h : ValsAt w b n f) {p : Nat} (hp : p < n) (v : Value) : ValsAt (w.setCell ⟨b, p, none⟩ v) b n (fun j => if j = p then v else f j) := by
  refine ⟨fun q hq => ?_, fun o ho => ?_⟩
  · by_cases e : q = p
    · subst e; rw [World.cell?_setCell_same _ _ _ (h.at' q hq)]; simp
    · rw [cell_other _ _ _ _ _ (by omega)]; simp only [if_neg e]; exact h.at' q hq
  · rw [World.frozen?_setCell]; exact h.fr o ho

theorem ValsAt.ext {f g : Nat → Value} (h : ValsAt w b n f) (e : ∀ j, j < n → f j = g j) : ValsAt w b n g := ⟨fun j hj => by rw [← e j hj]; exact h.at' j hj, h.fr⟩

end

variable {w w1 w2 w' : World} {p q r : Nat → Prop}

/-- Of the blocks before, those alone may have turned of which p holds. -/
structure Turn (p : Nat → Prop) (w w' : World) : Prop where
  os : w'.os = w.os
  tape : w'.tape = w.tape
  output : w'.output = w.output
  size : w.heap.size ≤ w'.heap.size
  block : ∀ k, k < w.heap.size → ¬ p k → w'.heap[k]? = w.heap[k]?

theorem Turn.refl (p : Nat → Prop) (w : World) : Turn p w w := ⟨rfl, rfl, rfl, Nat.le_refl _, fun _ _ _ => rfl⟩

theorem Turn.trans (h : Turn p w w1) (k : Turn q w1 w2) (hp : ∀ k, k < w.heap.size → p k → r k) (hq : ∀ k, k < w.heap.size → q k → r k) : Turn r w w2 :=
  ⟨k.os.trans h.os, k.tape.trans h.tape, k.output.trans h.output, Nat.le_trans h.size k.size, fun i hi hne =>
    (k.block i (Nat.lt_of_lt_of_le hi h.size) (fun e => hne (hq i hi e))).trans (h.block i hi (fun e => hne (hp i hi e)))⟩

theorem Turn.more (h : Turn p w w1) (hb : Below w1.heap.size w1 w2) : Turn p w w2 :=
  ⟨hb.os.trans h.os, hb.tape.trans h.tape, hb.output.trans h.output, Nat.le_trans h.size hb.size, fun i hi hne => (hb.block i (Nat.lt_of_lt_of_le hi h.size)).trans (h.block i hi hne)⟩

theorem Turn.of_below (hb : Below w.heap.size w w') : Turn p w w' := (Turn.refl p w).more hb

theorem Turn.mono (h : Turn p w w1) (hp : ∀ k, k < w.heap.size → p k → r k) : Turn r w w1 := ⟨h.os, h.tape, h.output, h.size, fun i hi hne => h.block i hi (fun e => hne (hp i hi e))⟩

theorem Turn.grown {row : Option Nat} (h : Turn p w w1) (hg : w1.grownBy w2 row) (hr : ∀ k, k < w.heap.size → row = some k → p k) : Turn p w w2 :=
  ⟨hg.os.trans h.os, hg.tape.trans h.tape, hg.output.trans h.output, Nat.le_trans h.size hg.size, fun i hi hne =>
    (hg.block i (Nat.lt_of_lt_of_le hi h.size) (fun e => hne (hr i hi e.symm))).trans (h.block i hi hne)⟩

theorem Turn.set {a : Addr} (h : Turn p w w1) (ha : a.block < w.heap.size → p a.block) (u : Value) : Turn p w (w1.setCell a u) :=
  ⟨h.os, h.tape, h.output, by have := h.size; simpa [World.setCell] using this, fun i hi hne => by
    rw [Below.heap_setCell _ _ _ _ (fun e => hne (by rw [e]; exact ha (e ▸ hi)))]; exact h.block i hi hne⟩

theorem Turn.alloc (h : Turn p w w1) (o : Obj) : Turn p w (w1.alloc o) := h.more ((Below.refl _ _).alloc (Nat.le_refl _) o)

theorem Turn.cell {a : Addr} (h : Turn p w w') (ha : a.block < w.heap.size) (hn : ¬ p a.block) : w'.cell? a = w.cell? a := World.cell?_of_block (w := w) (h.block a.block ha hn)

theorem own_of_block {base size n : Nat} {e : TypeId} {v : Value} {xs : List Value} (h : w.ownsRow base e size v n xs) (hb : ∀ k, v.ownBlock = some k → w'.heap[k]? = w.heap[k]?) : w'.ownsRow base e size v n xs := by
  refine ⟨h.1, ?_⟩
  rcases h.2 with hn | ⟨g, cap, cur, rfl, hbg, hg, rest⟩
  · exact .inl hn
  · exact .inr ⟨g, cap, cur, rfl, hbg, by rw [hb g rfl]; exact hg, rest⟩

theorem own_some {B e s m : Nat} {u : Value} {xs : List Value} (h : w.ownsRow B e s u m xs) (hm : 0 < m) : ∃ g cap, u = .slice (some ⟨g, 0, none⟩) m cap := by
  rcases h.2 with ⟨_, h0⟩ | ⟨g, cap, cur, hu, _⟩
  · omega
  · exact ⟨g, cap, hu⟩

end Go.Proofs.YtiamomiafekihaaGreatDoor
