/-
  What lies in memory while the law runs.
-/
import Derived.Test.YtelmkfkgpnadnaaK11
namespace Go.Proofs.Ytelmkfkgpnadnaa
open Go.RowKit

variable {w w' : World} {b n : Nat} {A Pl : Nat → Nat} {E F : Nat → Nat → Bool}

structure Mem (w0 : World) (tb eb pb n : Nat) (rb : Nat → Nat) (A Pl : Nat → Nat) (E F : Nat → Nat → Bool) (Q : Nat → Nat) (wr : World) : Prop where
  row : RowAt wr tb n A Pl E
  ed : EdgesAt wr eb n rb F
  pv : ValsAt wr pb n (fun v => .int .i64 (Q v))
  plt : pb < wr.heap.size
  old : Below w0.heap.size w0 wr
  d1 : tb ≠ eb ∧ tb ≠ pb ∧ eb ≠ pb
  d2 : ∀ u, u < n → tb ≠ rb u ∧ pb ≠ rb u
  b1 : w0.heap.size ≤ tb ∧ w0.heap.size ≤ eb
  b2 : ∀ u, u < n → w0.heap.size ≤ rb u

variable {w0 wr wx : World} {tb eb pb : Nat} {rb : Nat → Nat} {Q : Nat → Nat}

theorem Mem.below (h : Mem w0 tb eb pb n rb A Pl E F Q wr) (hb : Below wr.heap.size wr wx) : Mem w0 tb eb pb n rb A Pl E F Q wx :=
  ⟨h.row.below hb, h.ed.below hb, h.pv.of_block (hb.block pb h.plt), Nat.lt_of_lt_of_le h.plt hb.size, h.old.trans (hb.mono h.old.size), h.d1, h.d2, h.b1, h.b2⟩

theorem Mem.drew (h : Mem w0 tb eb pb n rb A Pl E F Q wr) : Mem w0 tb eb pb n rb A Pl E F Q wr.drew := h.below (Below.refl _ _).drew

theorem Mem.quiet (h : Mem w0 tb eb pb n rb A Pl E F Q wr) (k : Nat) : Mem w0 tb eb pb n rb A Pl E F Q (wr.drewN k) := h.below ⟨rfl, rfl, rfl, Nat.le_refl _, fun _ _ => rfl⟩

theorem ValsAt.quiet {f : Nat → Value} (h : ValsAt wr b n f) (k : Nat) : ValsAt (wr.drewN k) b n f := h.of_block rfl

theorem Mem.topo {A' Pl' : Nat → Nat} {E' : Nat → Nat → Bool} (h : Mem w0 tb eb pb n rb A Pl E F Q wr) (hg : wr.grownBy wx (some tb)) (hr : RowAt wx tb n A' Pl' E') : Mem w0 tb eb pb n rb A' Pl' E' F Q wx :=
  ⟨hr, h.ed.of_blocks hg.size (hg.block eb h.ed.lt.1 (by simp; exact fun e => h.d1.1 e.symm)) (fun u hu => hg.block _ (h.ed.lt.2 u hu) (by simp; exact fun e => (h.d2 u hu).1 e.symm)),
    h.pv.of_block (hg.block pb h.plt (by simp; exact fun e => h.d1.2.1 e.symm)), Nat.lt_of_lt_of_le h.plt hg.size,
    h.old.grown hg h.old.size (fun k hk => by cases hk; exact h.b1.1), h.d1, h.d2, h.b1, h.b2⟩

theorem Mem.edge {x y : Nat} {c : Bool} (h : Mem w0 tb eb pb n rb A Pl E F Q wr) (hx : x < n) (hy : y < n) : Mem w0 tb eb pb n rb A Pl E (Kp.edge F x y c) Q (wr.setCell ⟨rb x, y, none⟩ (.bool c)) := by
  have hs : (wr.setCell ⟨rb x, y, none⟩ (.bool c)).heap.size = wr.heap.size := by simp [World.setCell]
  have ho : ∀ k, k ≠ rb x → (wr.setCell ⟨rb x, y, none⟩ (.bool c)).heap[k]? = wr.heap[k]? := fun k hk => Below.heap_setCell _ _ _ _ hk
  refine ⟨h.row.of_block (ho tb (h.d2 x hx).1), ⟨fun u hu => ?_, fun u hu => ?_, h.ed.inj, h.ed.ne, ⟨by rw [hs]; exact h.ed.lt.1, fun u hu => by rw [hs]; exact h.ed.lt.2 u hu⟩⟩, h.pv.of_block (ho pb (h.d2 x hx).2), by rw [hs]; exact h.plt, h.old.setCell (h.b2 x hx) _, h.d1, h.d2, h.b1, h.b2⟩
  · rw [World.cell?_of_block (w := wr) (a := ⟨eb, u, none⟩) (ho eb (fun e => h.ed.ne x hx e.symm))]; exact h.ed.row u hu
  · by_cases e : u = x
    · subst e
      exact ((h.ed.cell u hu).set hy (.bool c)).ext fun j _ => by
        unfold Kp.edge; by_cases e : j = y <;> simp [e]
    · refine ((h.ed.cell u hu).of_block (ho (rb u) (fun e' => e (h.ed.inj u x hu hx e')))).ext fun j _ => ?_
      unfold Kp.edge; rw [if_neg (fun e' => e e'.1)]

theorem Mem.places {qb : Nat} {Q' : Nat → Nat} (h : Mem w0 tb eb pb n rb A Pl E F Q wr) (hv : ValsAt wr qb n (fun v => .int .i64 (Q' v))) (hl : qb < wr.heap.size) (h1 : qb ≠ tb) (h2 : qb ≠ eb) (h3 : ∀ u, u < n → qb ≠ rb u) : Mem w0 tb eb qb n rb A Pl E F Q' wr :=
  ⟨h.row, h.ed, hv, hl, h.old, ⟨h.d1.1, h1.symm, h2.symm⟩, fun u hu => ⟨(h.d2 u hu).1, h3 u hu⟩, h.b1, h.b2⟩

theorem edge_dom {x y : Nat} {c : Bool} (hd : ∀ a b, E a b = true → a < n ∧ b < n) (hx : x < n) (hy : y < n) : ∀ a b, Kp.edge E x y c a b = true → a < n ∧ b < n := fun a b h => by
  unfold Kp.edge at h
  split at h
  · rename_i e; rw [e.1, e.2]; exact ⟨hx, hy⟩
  · exact hd a b h

theorem edge_mono {x y : Nat} : ∀ a b, E a b = true → Kp.edge E x y true a b = true := fun a b h => by
  unfold Kp.edge; split <;> simp [h]

/-- What the law asks of where nodes stand behind a move. -/
theorem kept_moved {x y : Nat} {A' Pl' : Nat → Nat} (O : Kp.Ok n A Pl E) (hn : n ≤ 40) (hx : x < n) (hy : y < n) (hle : Pl y ≤ Pl x) (M : Moved A Pl E x y A' Pl') :
    Kp.Ok n A' Pl' (Kp.edge E x y true) ∧ ∀ v, v < n → ¬ (v = x ∨ v = y ∨ (Pl y < Pl v ∧ Pl v < Pl x ∧ (Kp.Way (Kp.edge E x y true) y v ∨ Kp.Way (Kp.edge E x y true) v x))) → Pl' v = Pl v := by
  obtain ⟨S, T, hS, hT, hSy, hP⟩ := M
  obtain ⟨h1, h2⟩ := Kp.moved O hn hx hy hle hS hT hSy hP
  refine ⟨h1, fun v hv hno => h2 v hv ?_ ?_⟩
  · cases hs : S v with
    | false => rfl
    | true =>
      exfalso
      apply hno
      rcases (hS v (by omega)).1 hs with h | ⟨h3, h4, h5⟩
      · exact Or.inl h
      · by_cases e : v = y
        · exact Or.inr (Or.inl e)
        · have : Pl v ≠ Pl y := fun e' => e (O.inj hv hy e')
          exact Or.inr (Or.inr ⟨by omega, h4, Or.inr (h5.mono edge_mono)⟩)
  · cases ht : T v with
    | false => rfl
    | true =>
      exfalso
      apply hno
      rcases (hT v (by omega)).1 ht with h | ⟨h3, h4⟩
      · exact Or.inr (Or.inl h)
      · have := (O.way h4).2.2
        exact Or.inr (Or.inr ⟨this, h3, Or.inl (h4.mono edge_mono)⟩)

/-- A slot holds a truth. -/
def BoolIs (s : Value) (p : Prop) : Prop := ∃ c : Bool, s = .bool c ∧ (c = true ↔ p)

/-- Behind one edit: what the law asks of where nodes stand. -/
def After (w0 : World) (tb eb pb n : Nat) (rb : Nat → Nat) (Pl : Nat → Nat) (x y : Nat) (q : Value) (wx : World) : Prop :=
  ∃ (A' Pl' : Nat → Nat) (E' : Nat → Nat → Bool) (qb : Bool), q = .bool qb ∧ Mem w0 tb eb pb n rb A' Pl' E' E' Pl wx ∧ Kp.Ok n A' Pl' E' ∧ (qb = true → ∀ v, v < n → Pl' v = Pl v) ∧
    ∀ v, v < n → ¬ (v = x ∨ v = y ∨ (Pl y < Pl v ∧ Pl v < Pl x ∧ (Kp.Way E' y v ∨ Kp.Way E' v x))) → Pl' v = Pl v

def NotIn (s : Value) (p : Prop) : Prop := ∃ c : Bool, s = .bool c ∧ (c = false → ¬ p)

theorem leads_yes {x y : Nat} (h : EdgesAt wr eb n rb E) (hd : ∀ a b, E a b = true → a < n ∧ b < n) (hn : n ≤ 40) (hx : x < n) (hy : y < n) (hw : Kp.Way E x y) :
    Calls Try.prog 10 #[.slice (some ⟨eb, 0, none⟩) n n, .int .i64 x, .int .i64 y] wr fun e w' => e = .returned (.bool true) ∧ Below wr.heap.size wr w' := by
  refine (leads_any eb x y rb wr h hd hn hx hy).mono ?_
  rintro e w' ⟨⟨r, he, hr⟩, hb⟩
  exact ⟨by rw [he, hr.2 hw], hb⟩

theorem leads_no {x y : Nat} (h : EdgesAt wr eb n rb E) (hd : ∀ a b, E a b = true → a < n ∧ b < n) (hn : n ≤ 40) (hx : x < n) (hy : y < n) (hw : ¬ Kp.Way E x y) :
    Calls Try.prog 10 #[.slice (some ⟨eb, 0, none⟩) n n, .int .i64 x, .int .i64 y] wr fun e w' => e = .returned (.bool false) ∧ Below wr.heap.size wr w' := by
  refine (leads_any eb x y rb wr h hd hn hx hy).mono ?_
  rintro e w' ⟨⟨r, he, hr⟩, hb⟩
  cases r with
  | false => exact ⟨he, hb⟩
  | true => exact absurd (hr.1 rfl) hw

theorem closes_le {x y : Nat} (O : Kp.Ok n A Pl E) (h : Kp.Way E y x ∨ x = y) : Pl y ≤ Pl x := by
  rcases h with h | rfl
  · exact Nat.le_of_lt (O.way h).2.2
  · exact Nat.le_refl _

theorem tell_pos (E : Nat → Nat → Bool) (A Pl : Nat → Nat) (S : Nat → Bool) (x y : Nat) : 0 < (Kp.tell E A Pl S x 40 y).length := by
  rw [show (40 : Nat) = 39 + 1 from rfl, Kp.tell]
  split <;> simp

/-- Add, as the law meets it: a cycle. -/
theorem add_cycle {x y : Nat} (h : RowAt wr tb n A Pl E) (O : Kp.Ok n A Pl E) (hn : n ≤ 40) (hx : x < n) (hy : y < n) (hc : Kp.Way E y x ∨ x = y) :
    Calls Try.prog 12 #[.pointer (some ⟨tb, 0, none⟩), .int .i64 x, .int .i64 y] wr fun e w' => ∃ a v, e = .returned (.tuple #[a, v]) ∧ (a = .int .i64 5 ∧ (∃ g k cap, v = .slice (some ⟨g, 0, none⟩) (k + 1) cap ∧ k < 100) ∧ Below wr.heap.size wr w') := by
  refine topoAdd_of x y _ h ((rowAdd_cycle x y h O hn hx hy (closes_le O hc) hc).mono ?_)
  rintro e w' ⟨v, S, rfl, hS, hown, hb⟩
  obtain ⟨g, cap, rfl, _, _⟩ := own_shape hown (tell_pos E A Pl S x y)
  refine ⟨_, _, rfl, rfl, ?_, hb⟩
  obtain ⟨k, hk⟩ : ∃ k, (Kp.tell E A Pl S x 40 y).length = k + 1 := ⟨_, (Nat.succ_pred_eq_of_pos (tell_pos E A Pl S x y)).symm⟩
  have hlen : ∀ (j u : Nat), (Kp.tell E A Pl S x j u).length ≤ j := fun j => by
    induction j with
    | zero => intro u; simp [Kp.tell]
    | succ j ih => intro u; rw [Kp.tell]; split <;> simp [ih]
  have := hlen 40 y
  exact ⟨g, k, cap, by rw [hk], by omega⟩

/-- Add, as the law meets it: an edge. -/
theorem add_edge {x y : Nat} (h : RowAt wr tb n A Pl E) (O : Kp.Ok n A Pl E) (hn : n ≤ 40) (hx : x < n) (hy : y < n) (hc : ¬ (Kp.Way E y x ∨ x = y)) :
    Calls Try.prog 12 #[.pointer (some ⟨tb, 0, none⟩), .int .i64 x, .int .i64 y] wr fun e w' => ∃ a v, e = .returned (.tuple #[a, v]) ∧ (a = .int .i64 0 ∧ v = .slice none 0 0 ∧ wr.grownBy w' (some tb) ∧ ∃ A' Pl', RowAt w' tb n A' Pl' (Kp.edge E x y true) ∧ Kp.Ok n A' Pl' (Kp.edge E x y true) ∧ (Pl x < Pl y → ∀ v, v < n → Pl' v = Pl v) ∧
      ∀ v, v < n → ¬ (v = x ∨ v = y ∨ (Pl y < Pl v ∧ Pl v < Pl x ∧ (Kp.Way (Kp.edge E x y true) y v ∨ Kp.Way (Kp.edge E x y true) v x))) → Pl' v = Pl v) := by
  refine topoAdd_of x y _ h ?_
  by_cases hlt : Pl x < Pl y
  · refine (rowAdd_right x y h hn hx hy hlt).mono ?_
    rintro e w' ⟨rfl, hR, hg⟩
    exact ⟨_, _, rfl, rfl, rfl, hg, A, Pl, hR, O.edge hx hy hlt, fun _ v _ => rfl, fun v _ _ => rfl⟩
  · refine (rowAdd_move x y h O hn hx hy (by omega) hc).mono ?_
    rintro e w' ⟨rfl, A', Pl', hR, hM, hg⟩
    have hk := kept_moved O hn hx hy (by omega) hM
    exact ⟨_, _, rfl, rfl, rfl, hg, A', Pl', hR, hk.1, fun h => absurd h hlt, hk.2⟩

end Go.Proofs.Ytelmkfkgpnadnaa
