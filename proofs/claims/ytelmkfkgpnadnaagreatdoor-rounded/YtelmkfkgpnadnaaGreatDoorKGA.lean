/-
  What a step turns; an append that says where it writes; rows of one-cell values. (In any seat by changing the Name alone.)
  The program's reading of a line: a blank, a copy of a word.
-/
import Derived.Test.YtelmkfkgpnadnaaGreatDoorKWA
import Derived.OneCell
import Derived.Laws.OwnMore
import Derived.Maps.AppendAt
import Derived.Tactics
import Derived.Test.YtelmkfkgpnadnaaGreatDoorKTA
import Derived.Shelf.Strconv.Clone
namespace Go.Proofs.YtelmkfkgpnadnaaGreatDoor
open Go.RowKit

theorem cell_other (w : World) (b o o' : Nat) (v : Value) (h : o ≠ o') : (w.setCell ⟨b, o, none⟩ v).cell? ⟨b, o', none⟩ = w.cell? ⟨b, o', none⟩ :=
  World.cell?_setCell_other _ _ _ _ (by intro e; apply h; injection e)

section
variable {w w' : World} {b n : Nat}

/-- A block of one-cell values. -/
structure ValsAt (w : World) (b n : Nat) (f : Nat → Value) : Prop where
  at' : ∀ j, j < n → w.cell? ⟨b, j, none⟩ = some (f j)
  fr : ∀ j, j < n → w.frozen? ⟨b, j, none⟩ = false

theorem ValsAt.of_block {f : Nat → Value} (h : ValsAt w b n f) (hb : w'.heap[b]? = w.heap[b]?) : ValsAt w' b n f :=
  ⟨fun v hv => by rw [World.cell?_of_block (w := w) (a := ⟨b, v, none⟩) hb]; exact h.at' v hv, fun v hv => by rw [World.frozen?_of_block (w := w) (a := ⟨b, v, none⟩) hb]; exact h.fr v hv⟩

theorem ValsAt.set {f : Nat → Value} (h : ValsAt w b n f) {p : Nat} (hp : p < n) (v : Value) : ValsAt (w.setCell ⟨b, p, none⟩ v) b n (fun j => if j = p then v else f j) := by
  refine ⟨fun q hq => ?_, fun o ho => ?_⟩
  · by_cases e : q = p
    · subst e; rw [World.cell?_setCell_same _ _ _ (h.at' q hq)]; simp
    · rw [cell_other _ _ _ _ _ (by omega)]; simp only [if_neg e]; exact h.at' q hq
  · rw [World.frozen?_setCell]; exact h.fr o ho

theorem ValsAt.ext {f g : Nat → Value} (h : ValsAt w b n f) (e : ∀ j, j < n → f j = g j) : ValsAt w b n g := ⟨fun j hj => by rw [← e j hj]; exact h.at' j hj, h.fr⟩

end

variable {w w1 w2 w' : World} {p q r : Nat → Prop}

/-- Of the blocks before, those alone may have turned of which p holds. -/
structure Turn (p : Nat → Prop) (w w' : World) : Prop where
  os : w'.os = w.os
  tape : w'.tape = w.tape
  output : w'.output = w.output
  size : w.heap.size ≤ w'.heap.size
  block : ∀ k, k < w.heap.size → ¬ p k → w'.heap[k]? = w.heap[k]?

theorem Turn.refl (p : Nat → Prop) (w : World) : Turn p w w := ⟨rfl, rfl, rfl, Nat.le_refl _, fun _ _ _ => rfl⟩

theorem Turn.more (h : Turn p w w1) (hb : Below w1.heap.size w1 w2) : Turn p w w2 :=
  ⟨hb.os.trans h.os, hb.tape.trans h.tape, hb.output.trans h.output, Nat.le_trans h.size hb.size, fun i hi hne => (hb.block i (Nat.lt_of_lt_of_le hi h.size)).trans (h.block i hi hne)⟩

theorem Turn.of_below (hb : Below w.heap.size w w') : Turn p w w' := (Turn.refl p w).more hb

theorem Turn.grown {row : Option Nat} (h : Turn p w w1) (hg : w1.grownBy w2 row) (hr : ∀ k, k < w.heap.size → row = some k → p k) : Turn p w w2 :=
  ⟨hg.os.trans h.os, hg.tape.trans h.tape, hg.output.trans h.output, Nat.le_trans h.size hg.size, fun i hi hne =>
    (hg.block i (Nat.lt_of_lt_of_le hi h.size) (fun e => hne (hr i hi e.symm))).trans (h.block i hi hne)⟩

theorem Turn.alloc (h : Turn p w w1) (o : Obj) : Turn p w (w1.alloc o) := h.more ((Below.refl _ _).alloc (Nat.le_refl _) o)

theorem Turn.cell {a : Addr} (h : Turn p w w') (ha : a.block < w.heap.size) (hn : ¬ p a.block) : w'.cell? a = w.cell? a := World.cell?_of_block (w := w) (h.block a.block ha hn)

theorem own_of_block {base size n : Nat} {e : TypeId} {v : Value} {xs : List Value} (h : w.ownsRow base e size v n xs) (hb : ∀ k, v.ownBlock = some k → w'.heap[k]? = w.heap[k]?) : w'.ownsRow base e size v n xs := by
  refine ⟨h.1, ?_⟩
  rcases h.2 with hn | ⟨g, cap, cur, rfl, hbg, hg, rest⟩
  · exact .inl hn
  · exact .inr ⟨g, cap, cur, rfl, hbg, by rw [hb g rfl]; exact hg, rest⟩

theorem own_some {B e s m : Nat} {u : Value} {xs : List Value} (h : w.ownsRow B e s u m xs) (hm : 0 < m) : ∃ g cap, u = .slice (some ⟨g, 0, none⟩) m cap := by
  rcases h.2 with ⟨_, h0⟩ | ⟨g, cap, cur, hu, _⟩
  · omega
  · exact ⟨g, cap, hu⟩

end Go.Proofs.YtelmkfkgpnadnaaGreatDoor

namespace Go.Proofs.YtelmkfkgpnadnaaGreatDoor
open Go.RowKit Go.Shelf

theorem cloneIn_any (s : ByteArray) (w : World) (hlim : s.size ≤ 281474976710656) :
    Calls Tryz.prog 200 #[.string s] w fun e w' => e = .returned (.string s) ∧ Below w.heap.size w w' := Tryz.stringslite_Clone s w hlim

set_option maxHeartbeats 400000 in
theorem clone_any (s : ByteArray) (w : World) (hlim : s.size ≤ 281474976710656) :
    Calls Tryz.prog 155 #[.string s] w fun e w' => e = .returned (.string s) ∧ Below w.heap.size w w' := by
  have k := cloneIn_any s w hlim
  go_enter Tryz.func155, Tryz.ntmps155
  go_wp2_with (go_at_call 200; refine k.mono ?_; rintro e w' ⟨rfl, hb⟩)
  go_ret
  exact ⟨rfl, hb⟩

theorem nb_int (c : UInt8) : (!Tx.nb c) = decide ((c.toNat : Int) = 32 ∨ (c.toNat : Int) = 9) := by
  rw [Bool.eq_iff_iff]; simp [Tx.nb, ← UInt8.toNat_inj]; omega

set_option maxHeartbeats 400000 in
theorem isBlank_any (c : UInt8) (w : World) :
    Calls Tryz.prog 170 #[.int .u8 c.toNat] w fun e w' => e = .returned (.bool (!Tx.nb c)) ∧ w' = w := by
  rw [nb_int]
  generalize (c.toNat : Int) = n
  by_cases h1 : n = 32 <;> by_cases h2 : n = 9
  all_goals
    go_enter Tryz.func170, Tryz.ntmps170
    go_wp2
    go_ret
    exact ⟨ret_bool (by simp [h1, h2]), rfl⟩

end Go.Proofs.YtelmkfkgpnadnaaGreatDoor
