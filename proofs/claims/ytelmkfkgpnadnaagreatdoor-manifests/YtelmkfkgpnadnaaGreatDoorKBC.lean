/-
  The law's book, of manifests: what lies in memory between two calls.
  The law's book, of manifests: lists that wait for their takes.
-/
import Derived.Test.YtelmkfkgpnadnaaGreatDoorKBD
import Derived.Test.YtelmkfkgpnadnaaGreatDoorKCB
namespace Go.Proofs.YtelmkfkgpnadnaaGreatDoor
open Go.RowKit
namespace Bm

variable {w w' : World}

abbrev eTy (f : Nat) : TypeId := if f = 1 then 133 else if f = 2 then 135 else 139
abbrev rTy (f : Nat) : TypeId := if f = 1 then 29 else if f = 2 then 137 else 45
def elE (f : Nat) : Int → List Value := if f = 1 then modEl else if f = 2 then swapEl else slipEl

/-- The book's fields. -/
def bkF (n : Nat) (V : Nat → Value) (g : Nat) : Value := if g = 0 then .int .i64 n else if g = 4 then .slice none 0 0 else V g

/-- A book in memory; one tag a block: 1 the book, 11 to 13 its rows, 4 a list that was laid down. -/
structure BookAt (w : World) (T : Nat → Nat) (bp n : Nat) (V : Nat → Value) (K : Nat → Nat) (X : Nat → List Value) : Prop where
  obj : ValsAt w bp 5 (bkF n V)
  t1 : T bp = 1
  rows : ∀ f, 1 ≤ f → f ≤ 3 → w.ownsRow 0 (eTy f) 2 (V f) (K f) (X f)
  tr : ∀ f, 1 ≤ f → f ≤ 3 → ∀ b, (V f).ownBlock = some b → T b = 10 + f
  lie : ∀ f, 1 ≤ f → f ≤ 3 → AllLie w (fun g _ => T g = 4) (elE f) (K f) (X f)
  obl : bp < w.heap.size

variable {T T' : Nat → Nat} {bp n : Nat} {V : Nat → Value} {K : Nat → Nat} {X : Nat → List Value}

theorem BookAt.below (h : BookAt w T bp n V K X) (hb : Below w.heap.size w w') (hT : ∀ b, b < w.heap.size → T' b = T b) : BookAt w' T' bp n V K X :=
  ⟨h.obj.of_block (hb.block bp h.obl), by rw [hT bp h.obl]; exact h.t1, fun f h1 h3 => own_of_block (h.rows f h1 h3) (fun b e => hb.block b ((h.rows f h1 h3).lt b e).2), fun f h1 h3 b e => by rw [hT b ((h.rows f h1 h3).lt b e).2]; exact h.tr f h1 h3 b e,
    fun f h1 h3 => (h.lie f h1 h3).imp hb.size (fun c g m hg hr ht => ⟨reads_of_block hr (hb.block g hg), by rw [hT g hg]; exact ht⟩), Nat.lt_of_lt_of_le h.obl hb.size⟩

def upd {α : Type} (V : Nat → α) (i : Nat) (v : α) (j : Nat) : α := if j = i then v else V j

/-- Tags behind a take. -/
def tagOf (w : World) (T : Nat → Nat) (v lv' : Value) (t : Nat) (b : Nat) : Nat := if b < w.heap.size then (if v.ownBlock = some b then 4 else T b) else if lv'.ownBlock = some b then t else 4

theorem tagOf_old {v lv' : Value} {t b : Nat} (hb : b < w.heap.size) (hv : v.ownBlock ≠ some b) : tagOf w T v lv' t b = T b := by
  unfold tagOf
  rw [if_pos hb, if_neg hv]

/-- Behind a take. -/
theorem BookAt.take {v lv' gv : Value} {ys : List Value} {mj : Nat} (h : BookAt w T bp n V K X) (f : Nat) (f1 : 1 ≤ f) (f3 : f ≤ 3) (hv : ∀ b, v.ownBlock = some b → T b = 5)
    (tk : Tk (eTy f) (rTy f) f (elE f) ((n + 1 : Nat) : Int) w bp (K f) (fun g => if g = 0 then .int .i64 ((n + 1 : Nat) : Int) else bkF n V g) (V f) v (X f) 4 ys lv' gv mj w') :
    BookAt w' (tagOf w T v lv' (10 + f)) bp (n + 1) (upd V f lv') (upd K f (K f + 4)) (upd X f (X f ++ ys)) := by
  have hv6 : ∀ b j, T b = j → j ≠ 5 → v.ownBlock ≠ some b := fun b j hj h5 e => h5 (by rw [← hj]; exact hv b e)
  have hk : ∀ b j, b < w.heap.size → T b = j → j ≠ 5 → j ≠ 1 → j ≠ 10 + f → w'.heap[b]? = w.heap[b]? ∧ tagOf w T v lv' (10 + f) b = j := fun b j hb hj h5 h1 h3 => ⟨tk.turn.block b hb (fun e => by
    rcases e with e | e | e
    · rw [e, h.t1] at hj; exact h1 hj.symm
    · rw [h.tr f f1 f3 b e] at hj; exact h3 hj.symm
    · exact hv6 b j hj h5 e), by rw [tagOf_old hb (hv6 b j hj h5)]; exact hj⟩
  refine ⟨tk.obj.ext fun g _ => ?_, ?_, fun g g1 g3 => ?_, fun g g1 g3 b e => ?_, fun g g1 g3 => ?_, Nat.lt_of_lt_of_le h.obl tk.turn.size⟩
  · unfold bkF upd
    by_cases e : g = f
    · subst e
      rw [if_pos rfl, if_neg (by omega), if_neg (by omega), if_pos rfl]
    · by_cases e0 : g = 0
      · subst e0; rw [if_neg e]; rfl
      · simp [e, e0]
  · rw [tagOf_old h.obl (hv6 bp 1 h.t1 (by decide))]; exact h.t1
  · unfold upd
    by_cases e : g = f
    · subst e
      simp only [if_pos]
      exact tk.rows
    · simp only [if_neg e]
      exact own_of_block (h.rows g g1 g3) (fun b e2 => (hk b (10 + g) ((h.rows g g1 g3).lt b e2).2 (h.tr g g1 g3 b e2) (by omega) (by omega) (by omega)).1)
  · unfold upd at e
    by_cases eg : g = f
    · subst eg
      simp only [if_pos] at e
      rcases tk.lb b e with e2 | e2
      · have hbl := ((h.rows g g1 g3).lt b e2).2
        rw [tagOf_old hbl (hv6 b (10 + g) (h.tr g g1 g3 b e2) (by omega))]; exact h.tr g g1 g3 b e2
      · unfold tagOf
        rw [if_neg (by omega), if_pos e]
    · rw [if_neg eg] at e
      exact (hk b (10 + g) ((h.rows g g1 g3).lt b e).2 (h.tr g g1 g3 b e) (by omega) (by omega) (by omega)).2
  · have hold : AllLie w' (fun b _ => tagOf w T v lv' (10 + f) b = 4) (elE g) (K g) (X g) := (h.lie g g1 g3).imp tk.turn.size (fun c b m hb hr ht => ⟨reads_of_block hr (hk b 4 hb ht (by decide) (by decide) (by omega)).1, (hk b 4 hb ht (by decide) (by decide) (by omega)).2⟩)
    unfold upd
    by_cases e : g = f
    · subst e
      simp only [if_pos]
      refine AllLie.append hold (h.rows g g1 g3).1 (tk.lie.imp (Nat.le_refl _) (fun c b m hb hr ht => ⟨hr, ?_⟩))
      unfold tagOf
      rcases ht.2.2.2 with e | e
      · by_cases hgl : b < w.heap.size
        · rw [if_pos hgl, if_pos e]
        · rw [if_neg hgl, if_neg ht.2.1]
      · rw [if_neg (by omega), if_neg ht.2.1]
    · simp only [if_neg e]
      exact hold

/-- A book that was laid since w0, and all that is older as it was. -/
structure Inv (w0 w : World) (T : Nat → Nat) (bp n : Nat) (V : Nat → Value) (K : Nat → Nat) (X : Nat → List Value) (kb : Nat) : Prop where
  book : BookAt w T bp n V K X
  old : Below w0.heap.size w0 w
  zero : ∀ b, b < w0.heap.size → T b = 0
  ml : Ml w0
  kb : ∀ f, K f ≤ kb

variable {w0 : World} {kb : Nat}

theorem Inv.below (h : Inv w0 w T bp n V K X kb) (hb : Below w.heap.size w w') (hT : ∀ b, b < w.heap.size → T' b = T b) : Inv w0 w' T' bp n V K X kb :=
  ⟨h.book.below hb hT, h.old.trans (hb.mono h.old.size), fun b hb' => by rw [hT b (Nat.lt_of_lt_of_le hb' h.old.size)]; exact h.zero b hb', h.ml, h.kb⟩

/-- New blocks bear the tag 5. -/
def fresh (w : World) (T : Nat → Nat) (b : Nat) : Nat := if b < w.heap.size then T b else 5

theorem fresh_old {b : Nat} (h : b < w.heap.size) : fresh w T b = T b := if_pos h
theorem fresh_new {b : Nat} (h : w.heap.size ≤ b) : fresh w T b = 5 := if_neg (by omega)

theorem Inv.take {v lv' gv : Value} {ys : List Value} {mj : Nat} (h : Inv w0 w T bp n V K X kb) (f : Nat) (f1 : 1 ≤ f) (f3 : f ≤ 3) (hv : ∀ b, v.ownBlock = some b → T b = 5)
    (tk : Tk (eTy f) (rTy f) f (elE f) ((n + 1 : Nat) : Int) w bp (K f) (fun g => if g = 0 then .int .i64 ((n + 1 : Nat) : Int) else bkF n V g) (V f) v (X f) 4 ys lv' gv mj w') :
    Inv w0 w' (tagOf w T v lv' (10 + f)) bp (n + 1) (upd V f lv') (upd K f (K f + 4)) (upd X f (X f ++ ys)) (kb + 4) := by
  have hz := h.zero
  refine ⟨h.book.take f f1 f3 hv tk, ?_, fun b hb => ?_, h.ml, fun g => ?_⟩
  · refine ⟨tk.turn.os.trans h.old.os, tk.turn.tape.trans h.old.tape, tk.turn.output.trans h.old.output, Nat.le_trans h.old.size tk.turn.size, fun b hb => ?_⟩
    rw [tk.turn.block b (Nat.lt_of_lt_of_le hb h.old.size) ?_]
    · exact h.old.block b hb
    · have h0 := hz b hb
      rintro (e | e | e)
      · rw [e, h.book.t1] at h0; cases h0
      · rw [h.book.tr f f1 f3 b e] at h0; omega
      · rw [hv b e] at h0; cases h0
  · rw [tagOf_old (Nat.lt_of_lt_of_le hb h.old.size) (fun e => by have h0 := hz b hb; rw [hv b e] at h0; cases h0)]
    exact hz b hb
  · unfold upd
    have h1 := h.kb f
    have h2 := h.kb g
    split <;> omega

/-- What a take leaves. -/
def Took (w0 w : World) (T : Nat → Nat) (bp n kb f : Nat) (v : Value) (w' : World) : Prop :=
  ∃ lv' V' K' X', Inv w0 w' (tagOf w T v lv' (10 + f)) bp (n + 1) V' K' X' (kb + 4) ∧ Turn (fun b => T b = 1 ∨ T b = 10 + f ∨ v.ownBlock = some b) w w'

theorem took {v lv' gv : Value} {ys : List Value} {mj : Nat} (h : Inv w0 w T bp n V K X kb) (f : Nat) (f1 : 1 ≤ f) (f3 : f ≤ 3) (hv : ∀ b, v.ownBlock = some b → T b = 5)
    (tk : Tk (eTy f) (rTy f) f (elE f) ((n + 1 : Nat) : Int) w bp (K f) (fun g => if g = 0 then .int .i64 ((n + 1 : Nat) : Int) else bkF n V g) (V f) v (X f) 4 ys lv' gv mj w') : Took w0 w T bp n kb f v w' := by
  refine ⟨lv', _, _, _, h.take f f1 f3 hv tk, tk.turn.mono fun b _ e => ?_⟩
  rcases e with e | e | e
  · exact Or.inl (by rw [e]; exact h.book.t1)
  · exact Or.inr (Or.inl (h.book.tr f f1 f3 b e))
  · exact Or.inr (Or.inr e)

theorem obj_take (h : Inv w0 w T bp n V K X kb) (f : Nat) (f1 : 1 ≤ f) (f3 : f ≤ 3) : ValsAt w bp 5 (fun g => if g = f then V f else if g = 0 then .int .i64 n else bkF n V g) := h.book.obj.ext fun g _ => by
  unfold bkF
  by_cases e : g = f
  · subst e
    rw [if_neg (by omega), if_neg (by omega), if_pos rfl]
  · by_cases e0 : g = 0
    · subst e0; rw [if_neg e]; rfl
    · simp [e, e0]

theorem apart_take {v : Value} (h : Inv w0 w T bp n V K X kb) (f : Nat) (f1 : 1 ≤ f) (f3 : f ≤ 3) (hv : ∀ b, v.ownBlock = some b → T b = 5) : (V f).ownBlock ≠ some bp ∧ v.ownBlock ≠ some bp ∧ ∀ b, (V f).ownBlock = some b → v.ownBlock ≠ some b := by
  have ht := h.book.tr f f1 f3
  have ht1 := h.book.t1
  exact ⟨fun e => by have := ht bp e; omega, fun e => by have := hv bp e; omega, fun b e e2 => by have h1 := ht b e; have h2 := hv b e2; omega⟩

theorem modsAt {v : Value} {m : Nat} {ys : List Value} (h : Inv w0 w T bp n V K X kb) (hv : ∀ b, v.ownBlock = some b → T b = 5) (hown : w.ownsRow 0 29 2 v m ys) (hm : m ≤ 2900) (hk : kb ≤ 1000) (hn : n ≤ 900000) :
    Calls Tryz.prog 75 #[.pointer (some ⟨bp, 0, none⟩), v] w fun e w' => e = .returned (.tuple #[]) ∧ Took w0 w T bp n kb 1 v w' := by
  refine (takeModules_any bp (K 1) m n (bkF n V) (V 1) v (X 1) ys w (obj_take h 1 (by omega) (by omega)) (h.book.rows 1 (by omega) (by omega)) hown hm (Nat.le_trans (h.kb 1) hk) hn (apart_take h 1 (by omega) (by omega) hv)).mono ?_
  rintro e w' ⟨rfl, ys', lv', gv, tk⟩
  exact ⟨rfl, took h 1 (by omega) (by omega) hv tk⟩

theorem swapsAt {v : Value} {m : Nat} {ys : List Value} (h : Inv w0 w T bp n V K X kb) (hv : ∀ b, v.ownBlock = some b → T b = 5) (hown : w.ownsRow 0 137 3 v m ys) (hm : m ≤ 2900) (hk : kb ≤ 1000) (hn : n ≤ 900000) :
    Calls Tryz.prog 76 #[.pointer (some ⟨bp, 0, none⟩), v] w fun e w' => e = .returned (.tuple #[]) ∧ Took w0 w T bp n kb 2 v w' := by
  refine (takeSwaps_any bp (K 2) m n (bkF n V) (V 2) v (X 2) ys w (obj_take h 2 (by omega) (by omega)) (h.book.rows 2 (by omega) (by omega)) hown hm (Nat.le_trans (h.kb 2) hk) hn (apart_take h 2 (by omega) (by omega) hv)).mono ?_
  rintro e w' ⟨rfl, ys', lv', gv, tk⟩
  exact ⟨rfl, took h 2 (by omega) (by omega) hv tk⟩

theorem slipsAt {v : Value} {m : Nat} {ys : List Value} (h : Inv w0 w T bp n V K X kb) (hv : ∀ b, v.ownBlock = some b → T b = 5) (hown : w.ownsRow 0 45 3 v m ys) (hm : m ≤ 2900) (hk : kb ≤ 1000) (hn : n ≤ 900000) :
    Calls Tryz.prog 77 #[.pointer (some ⟨bp, 0, none⟩), v] w fun e w' => e = .returned (.tuple #[]) ∧ Took w0 w T bp n kb 3 v w' := by
  refine (takeSlips_any bp (K 3) m n (bkF n V) (V 3) v (X 3) ys w (obj_take h 3 (by omega) (by omega)) (h.book.rows 3 (by omega) (by omega)) hown hm (Nat.le_trans (h.kb 3) hk) hn (apart_take h 3 (by omega) (by omega) hv)).mono ?_
  rintro e w' ⟨rfl, ys', lv', gv, tk⟩
  exact ⟨rfl, took h 3 (by omega) (by omega) hv tk⟩

/-- A list that waits for its take: still whole, still with the tag of a new one. -/
theorem wait {v u lv' : Value} {t e s m : Nat} {ys : List Value} (ht : Turn (fun b => T b = 1 ∨ T b = t ∨ v.ownBlock = some b) w w') (h1 : t ≠ 5) (hu : ∀ b, u.ownBlock = some b → T b = 5) (hd : ∀ b, u.ownBlock = some b → v.ownBlock ≠ some b) (hown : w.ownsRow 0 e s u m ys) :
    w'.ownsRow 0 e s u m ys ∧ ∀ b, u.ownBlock = some b → tagOf w T v lv' t b = 5 := by
  refine ⟨own_of_block hown (fun b e => ht.block b (hown.lt b e).2 (fun hh => ?_)), fun b e => ?_⟩
  · have h5 := hu b e
    rcases hh with hh | hh | hh
    · omega
    · omega
    · exact hd b e hh
  · rw [tagOf_old (hown.lt b e).2 (hd b e)]; exact hu b e

end Bm
end Go.Proofs.YtelmkfkgpnadnaaGreatDoor

namespace Go.Proofs.YtelmkfkgpnadnaaGreatDoor
open Go.RowKit
namespace Bm

variable {w w' w0 : World} {bp n kb b5 : Nat} {blk : Obj}

/-- A list that waits. -/
structure Pd where
  v : Value
  e : TypeId
  s : Nat
  m : Nat

/-- A book, lists that wait for their takes, and a block that stays. -/
def Ready (w0 w : World) (bp n kb b5 : Nat) (blk : Obj) (us : List Pd) : Prop :=
  ∃ T V K X, Inv w0 w T bp n V K X kb ∧ (∀ u ∈ us, (∃ ys, w.ownsRow 0 u.e u.s u.v u.m ys) ∧ u.m ≤ 2900 ∧ ∀ b, u.v.ownBlock = some b → T b = 5 ∧ b ≠ b5) ∧ us.Pairwise (fun u u' => ∀ b, u.v.ownBlock = some b → u'.v.ownBlock ≠ some b) ∧ T b5 = 5 ∧ b5 < w.heap.size ∧ w.heap[b5]? = some blk

theorem ready_took {T : Nat → Nat} {u : Pd} {us : List Pd} {f : Nat} (hf : f ≤ 3) (hp : ∀ x ∈ u :: us, (∃ ys, w.ownsRow 0 x.e x.s x.v x.m ys) ∧ x.m ≤ 2900 ∧ ∀ b, x.v.ownBlock = some b → T b = 5 ∧ b ≠ b5) (hd : (u :: us).Pairwise (fun u u' => ∀ b, u.v.ownBlock = some b → u'.v.ownBlock ≠ some b))
    (h5 : T b5 = 5) (hl : b5 < w.heap.size) (hb : w.heap[b5]? = some blk) (ht : Took w0 w T bp n kb f u.v w') : Ready w0 w' bp (n + 1) (kb + 4) b5 blk us := by
  obtain ⟨lv', V', K', X', hI', ht⟩ := ht
  have hu := hp u (List.mem_cons_self ..)
  have hu5 : u.v.ownBlock ≠ some b5 := fun e => (hu.2.2 b5 e).2 rfl
  refine ⟨_, V', K', X', hI', fun x hx => ?_, (List.pairwise_cons.1 hd).2, by rw [tagOf_old hl hu5]; exact h5, Nat.lt_of_lt_of_le hl ht.size, ?_⟩
  · obtain ⟨⟨ys, ho⟩, hm, ht5⟩ := hp x (List.mem_cons_of_mem _ hx)
    have hux : ∀ b, x.v.ownBlock = some b → u.v.ownBlock ≠ some b := fun b e e2 => (List.pairwise_cons.1 hd).1 x hx b e2 e
    have hw := wait (lv' := lv') ht (by omega) (fun b e => (ht5 b e).1) hux ho
    exact ⟨⟨ys, hw.1⟩, hm, fun b e => ⟨hw.2 b e, (ht5 b e).2⟩⟩
  · rw [ht.block b5 hl (fun e => by
      rcases e with e | e | e
      · omega
      · omega
      · exact hu5 e)]
    exact hb

theorem readyMod {v : Value} {m : Nat} {us : List Pd} (h : Ready w0 w bp n kb b5 blk (⟨v, 29, 2, m⟩ :: us)) (hk : kb ≤ 1000) (hn : n ≤ 900000) :
    Calls Tryz.prog 75 #[.pointer (some ⟨bp, 0, none⟩), v] w fun e w' => e = .returned (.tuple #[]) ∧ Ready w0 w' bp (n + 1) (kb + 4) b5 blk us := by
  obtain ⟨T, V, K, X, hI, hp, hd, h5, hl, hb⟩ := h
  obtain ⟨⟨ys, ho⟩, hm, ht⟩ := hp _ (List.mem_cons_self ..)
  refine (modsAt hI (fun b e => (ht b e).1) ho hm hk hn).mono ?_
  rintro e w' ⟨rfl, tk⟩
  exact ⟨rfl, ready_took (by omega) hp hd h5 hl hb tk⟩

theorem readySwap {v : Value} {m : Nat} {us : List Pd} (h : Ready w0 w bp n kb b5 blk (⟨v, 137, 3, m⟩ :: us)) (hk : kb ≤ 1000) (hn : n ≤ 900000) :
    Calls Tryz.prog 76 #[.pointer (some ⟨bp, 0, none⟩), v] w fun e w' => e = .returned (.tuple #[]) ∧ Ready w0 w' bp (n + 1) (kb + 4) b5 blk us := by
  obtain ⟨T, V, K, X, hI, hp, hd, h5, hl, hb⟩ := h
  obtain ⟨⟨ys, ho⟩, hm, ht⟩ := hp _ (List.mem_cons_self ..)
  refine (swapsAt hI (fun b e => (ht b e).1) ho hm hk hn).mono ?_
  rintro e w' ⟨rfl, tk⟩
  exact ⟨rfl, ready_took (by omega) hp hd h5 hl hb tk⟩

theorem readySlip {v : Value} {m : Nat} {us : List Pd} (h : Ready w0 w bp n kb b5 blk (⟨v, 45, 3, m⟩ :: us)) (hk : kb ≤ 1000) (hn : n ≤ 900000) :
    Calls Tryz.prog 77 #[.pointer (some ⟨bp, 0, none⟩), v] w fun e w' => e = .returned (.tuple #[]) ∧ Ready w0 w' bp (n + 1) (kb + 4) b5 blk us := by
  obtain ⟨T, V, K, X, hI, hp, hd, h5, hl, hb⟩ := h
  obtain ⟨⟨ys, ho⟩, hm, ht⟩ := hp _ (List.mem_cons_self ..)
  refine (slipsAt hI (fun b e => (ht b e).1) ho hm hk hn).mono ?_
  rintro e w' ⟨rfl, tk⟩
  exact ⟨rfl, ready_took (by omega) hp hd h5 hl hb tk⟩

/-- A book between two reads. -/
def Book (w0 w : World) (bp n kb : Nat) : Prop := ∃ T V K X, Inv w0 w T bp n V K X kb

theorem Book.ready {us : List Pd} {W : World} (h : Book w0 w bp n kb) (hb : Below w.heap.size w W) (h5 : w.heap.size ≤ b5) (hl : b5 < W.heap.size) (hblk : W.heap[b5]? = some blk) (hd : us.Pairwise (fun u u' => ∀ b, u.v.ownBlock = some b → u'.v.ownBlock ≠ some b))
    (hp : ∀ u ∈ us, (∃ ys, W.ownsRow w.heap.size u.e u.s u.v u.m ys) ∧ u.m ≤ 2900 ∧ ∀ b, u.v.ownBlock = some b → b ≠ b5) : Ready w0 W bp n kb b5 blk us := by
  obtain ⟨T, V, K, X, hI⟩ := h
  refine ⟨fresh w T, V, K, X, hI.below hb (fun b hb => fresh_old hb), fun u hu => ?_, hd, fresh_new h5, hl, hblk⟩
  obtain ⟨⟨ys, ho⟩, hm, h⟩ := hp u hu
  exact ⟨⟨ys, own_base0 ho⟩, hm, fun b e => ⟨fresh_new (ho.lt b e).1, h b e⟩⟩

theorem Ready.book (h : Ready w0 w bp n kb b5 blk []) : Book w0 w bp n kb := by
  obtain ⟨T, V, K, X, hI, _⟩ := h
  exact ⟨T, V, K, X, hI⟩

theorem Book.old (h : Book w0 w bp n kb) : Below w0.heap.size w0 w ∧ Ml w0 := by
  obtain ⟨T, V, K, X, hI⟩ := h
  exact ⟨hI.old, hI.ml⟩

theorem book_start (w : World) (hm : Ml w) : Book w (w.alloc (.cells #[.int .i64 0, .slice none 0 0, .slice none 0 0, .slice none 0 0, .slice none 0 0] 100)) w.heap.size 0 0 := by
  have b0 := Bk.new_block w (.cells #[.int .i64 0, .slice none 0 0, .slice none 0 0, .slice none 0 0, .slice none 0 0] 100)
  refine ⟨fun b => if b = w.heap.size then 1 else 0, fun _ => .slice none 0 0, fun _ => 0, fun _ => [], ⟨⟨fun j hj => ?_, fun j hj => ?_⟩, if_pos rfl, fun f _ _ => World.ownsRow_nil _ _ _ _, fun f _ _ b e => (by cases e), fun f _ _ j hj => by omega, by simp⟩, (Below.refl _ _).alloc (Nat.le_refl _) _, fun b hb => if_neg (by omega), hm, fun f => Nat.le_refl _⟩
  · simp only [World.cell?, b0]
    rcases (by omega : j = 0 ∨ j = 1 ∨ j = 2 ∨ j = 3 ∨ j = 4) with e | e | e | e | e <;> rw [e] <;> rfl
  · simp only [World.frozen?, b0]; simp

end Bm
end Go.Proofs.YtelmkfkgpnadnaaGreatDoor
