/-
  The law's book: what lies in memory between two calls.
-/
import Derived.Test.YtelmkfkgpnadnaaGreatDoorBK5
namespace Go.Proofs.YtelmkfkgpnadnaaGreatDoor
open Go.RowKit
namespace Bk

variable {w w' : World}

/-- The book's fields. -/
def bkF (n : Nat) (ls ln : Value) (f : Nat) : Value := if f = 0 then .int .i64 n else if f = 3 then ls else if f = 4 then ln else .slice none 0 0

/-- A book in memory; one tag a block: 1 the book, 2 and 3 its rows, 4 a list that was laid down. -/
structure BookAt (w : World) (T : Nat → Nat) (bp n : Nat) (ls ln : Value) (ks kn : Nat) (xs xn : List Value) : Prop where
  obj : ValsAt w bp 5 (bkF n ls ln)
  t1 : T bp = 1
  rs : w.ownsRow 0 139 2 ls ks xs
  t2 : ∀ b, ls.ownBlock = some b → T b = 2
  rn : w.ownsRow 0 141 2 ln kn xn
  t3 : ∀ b, ln.ownBlock = some b → T b = 3
  lies : AllLie w (fun g _ => T g = 4) slipEl ks xs
  lien : AllLie w (fun g _ => T g = 4) nameEl kn xn
  obl : bp < w.heap.size

variable {T T' : Nat → Nat} {bp n ks kn : Nat} {ls ln : Value} {xs xn : List Value}

theorem BookAt.below (h : BookAt w T bp n ls ln ks kn xs xn) (hb : Below w.heap.size w w') (hT : ∀ b, b < w.heap.size → T' b = T b) : BookAt w' T' bp n ls ln ks kn xs xn :=
  ⟨h.obj.of_block (hb.block bp h.obl), by rw [hT bp h.obl]; exact h.t1, own_of_block h.rs (fun b e => hb.block b (h.rs.lt b e).2), fun b e => by rw [hT b (h.rs.lt b e).2]; exact h.t2 b e, own_of_block h.rn (fun b e => hb.block b (h.rn.lt b e).2), fun b e => by rw [hT b (h.rn.lt b e).2]; exact h.t3 b e,
    h.lies.imp hb.size (fun c g m hg hr ht => ⟨reads_of_block hr (hb.block g hg), by rw [hT g hg]; exact ht⟩), h.lien.imp hb.size (fun c g m hg hr ht => ⟨reads_of_block hr (hb.block g hg), by rw [hT g hg]; exact ht⟩), Nat.lt_of_lt_of_le h.obl hb.size⟩

/-- Tags behind a take. -/
def tagOf (w : World) (T : Nat → Nat) (v lv' : Value) (t : Nat) (b : Nat) : Nat := if b < w.heap.size then (if v.ownBlock = some b then 4 else T b) else if lv'.ownBlock = some b then t else 4

theorem tagOf_old {v lv' : Value} {t b : Nat} (hb : b < w.heap.size) (hv : v.ownBlock ≠ some b) : tagOf w T v lv' t b = T b := by
  unfold tagOf
  rw [if_pos hb, if_neg hv]

/-- Behind takeNames. -/
theorem BookAt.names {v ln' gv : Value} {ys : List Value} {mj : Nat} (h : BookAt w T bp n ls ln ks kn xs xn) (hv : ∀ b, v.ownBlock = some b → T b = 5)
    (tk : Tk 141 9 4 nameEl ((n + 1 : Nat) : Int) w bp kn (fun f => if f = 0 then .int .i64 ((n + 1 : Nat) : Int) else bkF n ls ln f) ln v xn 4 ys ln' gv mj w') :
    BookAt w' (tagOf w T v ln' 3) bp (n + 1) ls ln' ks (kn + 4) xs (xn ++ ys) := by
  have hv6 : ∀ b j, T b = j → j ≠ 5 → v.ownBlock ≠ some b := fun b j hj h5 e => h5 (by rw [← hj]; exact hv b e)
  have hk : ∀ b j, b < w.heap.size → T b = j → j ≠ 5 → j ≠ 1 → j ≠ 3 → w'.heap[b]? = w.heap[b]? ∧ tagOf w T v ln' 3 b = j := fun b j hb hj h5 h1 h3 => ⟨tk.turn.block b hb (fun e => by
    rcases e with e | e | e
    · rw [e, h.t1] at hj; exact h1 hj.symm
    · rw [h.t3 b e] at hj; exact h3 hj.symm
    · exact hv6 b j hj h5 e), by rw [tagOf_old hb (hv6 b j hj h5)]; exact hj⟩
  refine ⟨tk.obj.ext fun f _ => ?_, ?_, own_of_block h.rs (fun b e => (hk b 2 (h.rs.lt b e).2 (h.t2 b e) (by decide) (by decide) (by decide)).1), fun b e => (hk b 2 (h.rs.lt b e).2 (h.t2 b e) (by decide) (by decide) (by decide)).2, tk.rows, ?_, ?_, ?_, Nat.lt_of_lt_of_le h.obl tk.turn.size⟩
  · unfold bkF
    by_cases e4 : f = 4
    · subst e4; rfl
    · by_cases e0 : f = 0
      · subst e0; rfl
      · simp [e4, e0]
  · rw [tagOf_old h.obl (hv6 bp 1 h.t1 (by decide))]; exact h.t1
  · intro b e
    rcases tk.lb b e with e2 | e2
    · have hbl := (h.rn.lt b e2).2
      rw [tagOf_old hbl (hv6 b 3 (h.t3 b e2) (by decide))]; exact h.t3 b e2
    · unfold tagOf
      rw [if_neg (by omega), if_pos e]
  · exact h.lies.imp tk.turn.size (fun c g m hg hr ht => ⟨reads_of_block hr (hk g 4 hg ht (by decide) (by decide) (by decide)).1, (hk g 4 hg ht (by decide) (by decide) (by decide)).2⟩)
  · refine AllLie.append (h.lien.imp tk.turn.size (fun c g m hg hr ht => ⟨reads_of_block hr (hk g 4 hg ht (by decide) (by decide) (by decide)).1, (hk g 4 hg ht (by decide) (by decide) (by decide)).2⟩)) h.rn.1 (tk.lie.imp (Nat.le_refl _) (fun c g m hg hr hb => ⟨hr, ?_⟩))
    unfold tagOf
    rcases hb.2.2.2 with e | e
    · by_cases hgl : g < w.heap.size
      · rw [if_pos hgl, if_pos e]
      · rw [if_neg hgl, if_neg hb.2.1]
    · rw [if_neg (by omega), if_neg hb.2.1]

/-- Behind takeSlips. -/
theorem BookAt.slips {v ls' gv : Value} {ys : List Value} {mj : Nat} (h : BookAt w T bp n ls ln ks kn xs xn) (hv : ∀ b, v.ownBlock = some b → T b = 5)
    (tk : Tk 139 45 3 slipEl ((n + 1 : Nat) : Int) w bp ks (fun f => if f = 0 then .int .i64 ((n + 1 : Nat) : Int) else bkF n ls ln f) ls v xs 4 ys ls' gv mj w') :
    BookAt w' (tagOf w T v ls' 2) bp (n + 1) ls' ln (ks + 4) kn (xs ++ ys) xn := by
  have hv6 : ∀ b j, T b = j → j ≠ 5 → v.ownBlock ≠ some b := fun b j hj h5 e => h5 (by rw [← hj]; exact hv b e)
  have hk : ∀ b j, b < w.heap.size → T b = j → j ≠ 5 → j ≠ 1 → j ≠ 2 → w'.heap[b]? = w.heap[b]? ∧ tagOf w T v ls' 2 b = j := fun b j hb hj h5 h1 h3 => ⟨tk.turn.block b hb (fun e => by
    rcases e with e | e | e
    · rw [e, h.t1] at hj; exact h1 hj.symm
    · rw [h.t2 b e] at hj; exact h3 hj.symm
    · exact hv6 b j hj h5 e), by rw [tagOf_old hb (hv6 b j hj h5)]; exact hj⟩
  refine ⟨tk.obj.ext fun f _ => ?_, ?_, tk.rows, ?_, own_of_block h.rn (fun b e => (hk b 3 (h.rn.lt b e).2 (h.t3 b e) (by decide) (by decide) (by decide)).1), fun b e => (hk b 3 (h.rn.lt b e).2 (h.t3 b e) (by decide) (by decide) (by decide)).2, ?_, ?_, Nat.lt_of_lt_of_le h.obl tk.turn.size⟩
  · unfold bkF
    by_cases e3 : f = 3
    · subst e3; rfl
    · by_cases e0 : f = 0
      · subst e0; rfl
      · simp [e3, e0]
  · rw [tagOf_old h.obl (hv6 bp 1 h.t1 (by decide))]; exact h.t1
  · intro b e
    rcases tk.lb b e with e2 | e2
    · have hbl := (h.rs.lt b e2).2
      rw [tagOf_old hbl (hv6 b 2 (h.t2 b e2) (by decide))]; exact h.t2 b e2
    · unfold tagOf
      rw [if_neg (by omega), if_pos e]
  · refine AllLie.append (h.lies.imp tk.turn.size (fun c g m hg hr ht => ⟨reads_of_block hr (hk g 4 hg ht (by decide) (by decide) (by decide)).1, (hk g 4 hg ht (by decide) (by decide) (by decide)).2⟩)) h.rs.1 (tk.lie.imp (Nat.le_refl _) (fun c g m hg hr hb => ⟨hr, ?_⟩))
    unfold tagOf
    rcases hb.2.2.2 with e | e
    · by_cases hgl : g < w.heap.size
      · rw [if_pos hgl, if_pos e]
      · rw [if_neg hgl, if_neg hb.2.1]
    · rw [if_neg (by omega), if_neg hb.2.1]
  · exact h.lien.imp tk.turn.size (fun c g m hg hr ht => ⟨reads_of_block hr (hk g 4 hg ht (by decide) (by decide) (by decide)).1, (hk g 4 hg ht (by decide) (by decide) (by decide)).2⟩)

end Bk
end Go.Proofs.YtelmkfkgpnadnaaGreatDoor
