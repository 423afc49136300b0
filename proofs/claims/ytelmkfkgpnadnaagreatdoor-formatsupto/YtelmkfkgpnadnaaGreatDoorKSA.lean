/-
  The document's answer, of an index: the lines without a slip, and the slips: what lies in memory.
  The document's answer, of an index: the lines without a slip, and the slips: the walk.
  The document's answer, of an index: slipped.
-/
import Derived.Test.YtelmkfkgpnadnaaGreatDoorKFA
import Derived.Deep.RegionHeld
import Derived.Deep.DeepCutAuto
import Derived.Deep.RegionHeld3
namespace Go.Proofs.YtelmkfkgpnadnaaGreatDoor
open Go.RowKit

variable {w w' : World}

def scells (l : List (Nat × Nat × Nat)) : List Value := l.flatMap fun x => [.int .i64 x.1, .int .i64 x.2.1, .int .i64 x.2.2]
theorem scells_snoc (l : List (Nat × Nat × Nat)) (x : Nat × Nat × Nat) : scells (l ++ [x]) = scells l ++ [.int .i64 x.1, .int .i64 x.2.1, .int .i64 x.2.2] := by simp [scells]

structure Sl (Wl : World) (gv sv : Value) (good : List OLn) (gxs : List Value) (slips : List (Nat × Nat × Nat)) (wr : World) : Prop where
  og : wr.ownsRow Wl.heap.size 210 4 gv good.length gxs
  os : wr.ownsRow Wl.heap.size 45 3 sv slips.length (scells slips)
  ne : ∀ b, gv.ownBlock = some b → sv.ownBlock ≠ some b
  lie : AllLines wr (fun b => b < Wl.heap.size) good gxs
  old : Below Wl.heap.size Wl wr

variable {Wl wr : World} {gv sv gv' sv' : Value} {good : List OLn} {gxs : List Value} {slips : List (Nat × Nat × Nat)}

theorem Sl.below (h : Sl Wl gv sv good gxs slips wr) (hb : Below wr.heap.size wr w') : Sl Wl gv sv good gxs slips w' :=
  ⟨own_of_block h.og (fun b e => hb.block b (h.og.lt b e).2), own_of_block h.os (fun b e => hb.block b (h.os.lt b e).2), h.ne, h.lie.turn hb.size (fun b hk ht => ⟨hb.block b hk, ht⟩), h.old.trans (hb.mono h.old.size)⟩

theorem Sl.slip (h : Sl Wl gv sv good gxs slips wr) (o : Obj) (x : Nat × Nat × Nat) (hown : w'.ownsRow Wl.heap.size 45 3 sv' (slips.length + 1) (scells slips ++ [.int .i64 x.1, .int .i64 x.2.1, .int .i64 x.2.2])) (hg : (wr.alloc o).grownBy w' sv.ownBlock) (hat : sv'.ownBlock = sv.ownBlock ∨ sv'.ownBlock = some (wr.alloc o).heap.size) :
    Sl Wl gv sv' good gxs (slips ++ [x]) w' := by
  have hal : (wr.alloc o).heap.size = wr.heap.size + 1 := by simp
  have hs' : wr.heap.size + 1 ≤ w'.heap.size := by rw [← hal]; exact hg.size
  have hk : ∀ k, k < wr.heap.size → sv.ownBlock ≠ some k → w'.heap[k]? = wr.heap[k]? := fun k hk h1 => by
    rw [hg.block k (by omega) (fun e => h1 e.symm), Below.heap_alloc _ _ _ hk]
  have hsv : ∀ k, sv.ownBlock = some k → Wl.heap.size ≤ k := fun k e => (h.os.lt k e).1
  refine ⟨own_of_block h.og (fun b e => hk b (h.og.lt b e).2 (h.ne b e)), ?_, ?_, h.lie.turn (by omega) (fun b hb ht => ⟨hk b hb (fun e => by have := hsv b e; omega), ht⟩), ?_⟩
  · rw [scells_snoc, List.length_append]; exact hown
  · intro b e e2
    rcases hat with e3 | e3
    · rw [e3] at e2; exact h.ne b e e2
    · rw [e3] at e2
      injection e2 with e2
      have := (h.og.lt b e).2
      omega
  · exact (h.old.alloc h.old.size o).grown hg (by have := h.old.size; omega) hsv

theorem Sl.line (h : Sl Wl gv sv good gxs slips wr) (o : Obj) {l : OLn} {cs : List Value} (hl : LineLies wr (fun b => b < Wl.heap.size) l cs) (hown : w'.ownsRow Wl.heap.size 210 4 gv' (good.length + 1) (gxs ++ cs)) (hg : (wr.alloc o).grownBy w' gv.ownBlock) (hat : gv'.ownBlock = gv.ownBlock ∨ gv'.ownBlock = some (wr.alloc o).heap.size) :
    Sl Wl gv' sv (good ++ [l]) (gxs ++ cs) slips w' := by
  have hal : (wr.alloc o).heap.size = wr.heap.size + 1 := by simp
  have hs' : wr.heap.size + 1 ≤ w'.heap.size := by rw [← hal]; exact hg.size
  have hk : ∀ k, k < wr.heap.size → gv.ownBlock ≠ some k → w'.heap[k]? = wr.heap[k]? := fun k hk h1 => by
    rw [hg.block k (by omega) (fun e => h1 e.symm), Below.heap_alloc _ _ _ hk]
  have hgv : ∀ k, gv.ownBlock = some k → Wl.heap.size ≤ k := fun k e => (h.og.lt k e).1
  have hkk : ∀ b, b < wr.heap.size → b < Wl.heap.size → w'.heap[b]? = wr.heap[b]? ∧ b < Wl.heap.size := fun b hb ht => ⟨hk b hb (fun e => by have := hgv b e; omega), ht⟩
  refine ⟨?_, own_of_block h.os (fun b e => hk b (h.os.lt b e).2 (fun e2 => h.ne b e2 e)), ?_, (h.lie.turn (by omega) hkk).snoc (hl.turn (by omega) hkk), ?_⟩
  · rw [List.length_append]; exact hown
  · intro b e e2
    rcases hat with e3 | e3
    · rw [e3] at e; exact h.ne b e e2
    · rw [e3] at e
      injection e with e
      have := (h.os.lt b e2).2
      omega
  · exact (h.old.alloc h.old.size o).grown hg (by have := h.old.size; omega) hgv

end Go.Proofs.YtelmkfkgpnadnaaGreatDoor

namespace Go.Proofs.YtelmkfkgpnadnaaGreatDoor
open Go.RowKit

variable {w w' : World}

def bV : ByteArray := ⟨#[118, 101, 114, 115, 105, 111, 110]⟩

theorem info45 : ∃ i, Tryz.prog.info? 45 = some i ∧ i.zero = some (.agg #[.int .i64 0, .int .i64 0, .int .i64 0]) ∧ i.size = 3 ∧ i.bytes = 24 := by
  have h : (Tryz.prog.info? 45).map (fun i => (i.zero, i.size, i.bytes)) = some (some (.agg #[.int .i64 0, .int .i64 0, .int .i64 0]), 3, 24) := by kernel_rfl
  rw [Option.map_eq_some_iff] at h
  obtain ⟨i, h1, h2⟩ := h
  simp only [Prod.mk.injEq] at h2
  exact ⟨i, h1, h2.1, h2.2.1, h2.2.2⟩

theorem cell_three_new (w : World) (a b c : Value) (t : TypeId) : ∀ j u, [a, b, c][j]? = some u → (w.alloc (.cells #[a, b, c] t)).cell? ((⟨w.heap.size, 0, none⟩ : Addr).add j) = some u := by
  intro j u h
  match j, h with
  | 0, h => simp at h; subst h; simp [Addr.add]
  | 1, h => simp at h; subst h; simp [Addr.add]
  | 2, h => simp at h; subst h; simp [Addr.add]

/-- A line of an index without a slip of its own. -/
def TwoV (l : OLn) : Prop := l.2.length = 2 ∧ (l.2.getD 0 pad).2 = bV ∧ (Pv.parse (l.2.getD 1 pad).2.data.toList).isSome = true

theorem own_none {ip : List UInt8 → Bool} {l : OLn} (hne : l.2 ≠ []) (h : Tx.own true ip (wtoks l.2) = none) : TwoV l := by
  obtain ⟨n, ws⟩ := l
  match ws, hne with
  | x0 :: rest, _ =>
    rcases own_cases ip (x0 :: rest) x0 rest rfl with ⟨_, h2⟩ | ⟨h1, h2⟩
    · rw [h] at h2; cases h2
    · rcases h2 with ⟨_, h4⟩ | ⟨_, h4⟩ | ⟨h3, h5⟩
      · rw [h] at h4; cases h4
      · rw [h] at h4; cases h4
      · refine ⟨h3, ?_, ?_⟩
        · show x0.2 = bV
          have : x0.2.data.toList = bV.data.toList := h1
          exact ByteArray.ext (Array.toList_inj.1 this)
        · rw [h] at h5
          cases hp : (Pv.parse ((x0 :: rest).getD 1 pad).2.data.toList).isSome with
          | true => rfl
          | false => rw [hp] at h5; simp at h5

/-- The slip of a line behind others. -/
theorem slip_index (ip : List UInt8 → Bool) (lead many : Bool) (good : List OLn) (l : OLn) (hne : l.2 ≠ []) (hg : ∀ g ∈ good, TwoV g) :
    Tx.slip true ip lead ((olns good).any fun x => Tx.again (wtoks l.2) x.2) many (wtoks l.2) =
      match Tx.own true ip (wtoks l.2) with
      | some x => some x
      | none => if (good.any fun g => (g.2.getD 1 pad).2.toList == (l.2.getD 1 pad).2.toList) then some ((l.2.getD 0 pad).1, 8) else none := by
  unfold Tx.slip
  rw [if_neg (by simp)]
  cases ho : Tx.own true ip (wtoks l.2) with
  | some x => rfl
  | none =>
    have hl := own_none hne ho
    have hhd : Tx.hd (wtoks l.2) = ((l.2.getD 0 pad).1, bV.data.toList) := by
      obtain ⟨n, ws⟩ := l
      match ws, hl.1 with
      | [a, b], _ =>
        have h2 : a.2 = bV := hl.2.1
        show (a.1, a.2.data.toList) = (a.1, bV.data.toList)
        rw [h2]
    have hany : ((olns good).any fun x => Tx.again (wtoks l.2) x.2) = (good.any fun g => (g.2.getD 1 pad).2.toList == (l.2.getD 1 pad).2.toList) := by
      unfold olns
      rw [List.any_map, Bool.eq_iff_iff, List.any_eq_true, List.any_eq_true]
      have key : ∀ g ∈ good, Tx.again (wtoks l.2) (wtoks g.2) = ((g.2.getD 1 pad).2.toList == (l.2.getD 1 pad).2.toList) := fun g hgm => by
        have hgt := hg g hgm
        have hgh : (Tx.hd (wtoks g.2)).2 = bV.data.toList := by
          obtain ⟨n, ws⟩ := g
          match ws, hgt.1 with
          | [a, b], _ =>
            have h2 : a.2 = bV := hgt.2.1
            show a.2.data.toList = bV.data.toList
            rw [h2]
        have hn : ∀ o : OLn, o.2.length = 2 → Tx.nth (wtoks o.2) 1 = (o.2.getD 1 pad).2.data.toList := fun o ho => by
          obtain ⟨n, ws⟩ := o
          match ws, ho with
          | [a, b], _ => rfl
        unfold Tx.again
        rw [hgh, hhd, hn g hgt.1, hn l hl.1, Lib.toList_data, Lib.toList_data]
        simp [bV, Tx.wR, Tx.wV, Tx.wM]
      constructor
      · rintro ⟨g, h1, h2⟩
        exact ⟨g, h1, by rw [← key g h1]; exact h2⟩
      · rintro ⟨g, h1, h2⟩
        exact ⟨g, h1, by show Tx.again _ _ = true; rw [key g h1]; exact h2⟩
    rw [hany, hhd]
    cases (good.any fun g => (g.2.getD 1 pad).2.toList == (l.2.getD 1 pad).2.toList) <;> simp [bV, Tx.wR]

end Go.Proofs.YtelmkfkgpnadnaaGreatDoor

namespace Go.Proofs.YtelmkfkgpnadnaaGreatDoor
open Go.RowKit

variable {w w' : World}

theorem slipV_shape (ip : List UInt8 → Bool) (l : OLn) (hne : l.2 ≠ []) : ∃ xa xk : Nat, slipV l.1 (Tx.own true ip (wtoks l.2)) = .agg #[.int .i64 l.1, .int .i64 xa, .int .i64 xk] ∧ ((Tx.own true ip (wtoks l.2) = some (xa, xk) ∧ 0 < xk) ∨ (Tx.own true ip (wtoks l.2) = none ∧ xk = 0)) := by
  obtain ⟨n, ws⟩ := l
  match ws, hne with
  | x0 :: rest, _ =>
    rcases own_cases ip (x0 :: rest) x0 rest rfl with ⟨_, h2⟩ | ⟨_, h2 | h2 | ⟨_, h2⟩⟩
    · rw [h2]; exact ⟨_, _, rfl, Or.inl ⟨rfl, by decide⟩⟩
    · rw [h2.2]; exact ⟨_, _, rfl, Or.inl ⟨rfl, by decide⟩⟩
    · rw [h2.2]; exact ⟨_, _, rfl, Or.inl ⟨rfl, by decide⟩⟩
    · rw [h2]
      split
      · exact ⟨0, 0, rfl, Or.inr ⟨rfl, rfl⟩⟩
      · exact ⟨_, _, rfl, Or.inl ⟨rfl, by decide⟩⟩

theorem below_alloc {a : World} (h : Below a.heap.size a w) (o : Obj) : Below a.heap.size a (w.alloc o) := h.alloc h.size o

/-- A line's box, and its first word. -/
def P5 (W : World) (L gw ga m cw ca n : Nat) (fi : Int) (x : ByteArray) : Prop :=
  W.cell? ⟨L, 0, none⟩ = some (.int .i64 n) ∧ W.cell? ⟨L, 1, none⟩ = some (.slice (some ⟨gw, 0, none⟩) m cw) ∧ W.cell? ⟨L, 2, none⟩ = some (.slice (some ⟨ga, 0, none⟩) m ca) ∧ W.cell? ⟨L, 3, none⟩ = some (.int .i64 fi) ∧ W.cell? ⟨gw, 0, none⟩ = some (.string x)

theorem P5.below {W : World} {L gw ga m cw ca n : Nat} {fi : Int} {x : ByteArray} (h : P5 W L gw ga m cw ca n fi x) {W' : World} (hb : Below W.heap.size W W') : P5 W' L gw ga m cw ca n fi x := by
  have h1 := World.block_lt_of_cell? W _ h.1
  have h2 := World.block_lt_of_cell? W _ h.2.2.2.2
  exact ⟨by rw [hb.cell (p := ⟨L, 0, none⟩) h1]; exact h.1, by rw [hb.cell (p := ⟨L, 1, none⟩) h1]; exact h.2.1, by rw [hb.cell (p := ⟨L, 2, none⟩) h1]; exact h.2.2.1, by rw [hb.cell (p := ⟨L, 3, none⟩) h1]; exact h.2.2.2.1, by rw [hb.cell (p := ⟨gw, 0, none⟩) h2]; exact h.2.2.2.2⟩

theorem p5_new {W : World} {gw ga m cw ca n : Nat} {fi : Int} {x : ByteArray} (h : W.cell? ⟨gw, 0, none⟩ = some (.string x)) (t : TypeId) : P5 (W.alloc (.cells #[.int .i64 n, .slice (some ⟨gw, 0, none⟩) m cw, .slice (some ⟨ga, 0, none⟩) m ca, .int .i64 fi] t)) W.heap.size gw ga m cw ca n fi x := by
  have b0 := block_new W (.cells #[.int .i64 n, .slice (some ⟨gw, 0, none⟩) m cw, .slice (some ⟨ga, 0, none⟩) m ca, .int .i64 fi] t)
  have hl := World.block_lt_of_cell? W _ h
  exact ⟨by simp only [World.cell?, b0]; rfl, by simp only [World.cell?, b0]; rfl, by simp only [World.cell?, b0]; rfl, by simp only [World.cell?, b0]; rfl, by rw [World.cell?_of_block (w := W) (a := ⟨gw, 0, none⟩) (Below.heap_alloc _ _ _ hl)]; exact h⟩

theorem vals3 (W : World) (t : TypeId) : ValsAt (W.alloc (.cells #[.int .i64 0, .int .i64 0, .int .i64 0] t)) W.heap.size 3 (fun _ => .int .i64 0) := by
  have b0 := block_new W (.cells #[.int .i64 0, .int .i64 0, .int .i64 0] t)
  refine ⟨fun j hj => ?_, fun j hj => ?_⟩
  · simp only [World.cell?, b0]
    rcases (by omega : j = 0 ∨ j = 1 ∨ j = 2) with e | e | e <;> simp [e]
  · simp only [World.frozen?, b0]; simp

theorem vals3x (W : World) (a b c : Value) (t : TypeId) : ValsAt (W.alloc (.cells #[a, b, c] t)) W.heap.size 3 (fun f => if f = 0 then a else if f = 1 then b else c) := by
  have b0 := block_new W (.cells #[a, b, c] t)
  refine ⟨fun j hj => ?_, fun j hj => ?_⟩
  · simp only [World.cell?, b0]
    rcases (by omega : j = 0 ∨ j = 1 ∨ j = 2) with e | e | e <;> simp [e]
  · simp only [World.frozen?, b0]; simp

theorem vals3s {W : World} {x : Nat} {f : Nat → Value} (h : ValsAt W x 3 f) (a b c : Value) : ValsAt (((W.setCell ⟨x, 0, none⟩ a).setCell ⟨x, 1, none⟩ b).setCell ⟨x, 2, none⟩ c) x 3 (fun f => if f = 0 then a else if f = 1 then b else c) := by
  refine (((h.set (p := 0) (by omega) a).set (p := 1) (by omega) b).set (p := 2) (by omega) c).ext fun j hj => ?_
  rcases (by omega : j = 0 ∨ j = 1 ∨ j = 2) with e | e | e <;> simp [e]

theorem step_slip {good : List OLn} {slips : List (Nat × Nat × Nat)} {k : Nat} {l : OLn} {a q : Nat} {ip : List UInt8 → Bool} (h : Tx.slip true ip (k == 0) ((olns good).any fun x => Tx.again (wtoks l.2) x.2) ((0 : Nat) == 20) (wtoks l.2) = some (a, q)) :
    Tx.stepDoc true ip 20 ⟨olns good, slips, k, 0⟩ (l.1, wtoks l.2) = ⟨olns good, slips ++ [(l.1, a, q)], k + 1, 0⟩ := by
  unfold Tx.stepDoc
  rw [h]

theorem step_good {good : List OLn} {slips : List (Nat × Nat × Nat)} {k : Nat} {l : OLn} {ip : List UInt8 → Bool} (h : Tx.slip true ip (k == 0) ((olns good).any fun x => Tx.again (wtoks l.2) x.2) ((0 : Nat) == 20) (wtoks l.2) = none) (hw : (Tx.hd (wtoks l.2)).2 ≠ Tx.wR) :
    Tx.stepDoc true ip 20 ⟨olns good, slips, k, 0⟩ (l.1, wtoks l.2) = ⟨olns (good ++ [l]), slips, k + 1, 0⟩ := by
  unfold Tx.stepDoc
  rw [h]
  simp only [if_neg hw]
  simp [olns]

theorem twoV_hd {l : OLn} (h : TwoV l) : (Tx.hd (wtoks l.2)).2 = Tx.wV := by
  obtain ⟨n, ws⟩ := l
  match ws, h.1 with
  | [a, b], _ =>
    have h2 : a.2 = bV := h.2.1
    show a.2.data.toList = Tx.wV
    rw [h2]
    rfl

theorem own_slice' {e : TypeId} {B sz m : Nat} {v : Value} {l : List Value} (h : w.ownsRow B e sz v m l) : ∃ a c, v = .slice a m c := by
  rcases h.2 with ⟨e1, e2⟩ | ⟨g, c, _, e1, _⟩
  · exact ⟨none, 0, by rw [e1, e2]⟩
  · exact ⟨some ⟨g, 0, none⟩, c, e1⟩

theorem own_base0 {B e s m : Nat} {u : Value} {xs : List Value} (h : w.ownsRow B e s u m xs) : w.ownsRow 0 e s u m xs := by
  refine ⟨h.1, ?_⟩
  rcases h.2 with hn | ⟨g, cap, cur, hv, hg, rest⟩
  · exact .inl hn
  · exact .inr ⟨g, cap, cur, hv, Nat.zero_le _, rest⟩

theorem Sl.poke {Wl wr : World} {gv sv : Value} {good : List OLn} {gxs : List Value} {slips : List (Nat × Nat × Nat)} {xb o : Nat} (h : Sl Wl gv sv good gxs slips wr) (hx : Wl.heap.size ≤ xb) (h1 : gv.ownBlock ≠ some xb) (h2 : sv.ownBlock ≠ some xb) (v : Value) : Sl Wl gv sv good gxs slips (wr.setCell ⟨xb, o, none⟩ v) := by
  have hk : ∀ k, k ≠ xb → (wr.setCell ⟨xb, o, none⟩ v).heap[k]? = wr.heap[k]? := fun k hk => Below.heap_setCell _ _ _ _ hk
  have hs : (wr.setCell ⟨xb, o, none⟩ v).heap.size = wr.heap.size := by simp [World.setCell]
  exact ⟨own_of_block h.og (fun b e => hk b (fun e2 => h1 (e2 ▸ e))), own_of_block h.os (fun b e => hk b (fun e2 => h2 (e2 ▸ e))), h.ne, h.lie.turn (by omega) (fun b _ ht => ⟨hk b (by omega), ht⟩), h.old.setCell hx _⟩

theorem again_all {Wl : World} {go : Option Addr} {gc n gw ga cw ca : Nat} {en : Int} {v : ByteArray} {good : List OLn} {gxs : List Value} (hg : good.length ≤ 2001) (ho : w.ownsRow Wl.heap.size 210 4 (.slice go good.length gc) good.length gxs) (hl : AllLines w (fun b => b < Wl.heap.size) good gxs) (h2 : ∀ g ∈ good, TwoV g)
    (w0 : w.cell? ⟨gw, 0, none⟩ = some (.string bV)) (w1 : w.cell? ⟨gw, 1, none⟩ = some (.string v)) :
    Calls Tryz.prog 163 #[.agg #[.int .i64 n, .slice (some ⟨gw, 0, none⟩) 2 cw, .slice (some ⟨ga, 0, none⟩) 2 ca, .int .i64 en], .slice go good.length gc] w fun e w' => e = .returned (.bool (good.any fun g => (g.2.getD 1 pad).2.toList == v.toList)) ∧ Below w.heap.size w w' := by
  by_cases h0 : good = []
  · subst h0
    exact again_none n gw ga cw ca gc en go w
  · have hpos : 0 < good.length := List.length_pos_iff.2 h0
    obtain ⟨ob, c, e⟩ := own_some ho hpos
    injection e with e1 _ e3
    subst e1
    exact again_any ob gc n gw ga cw ca en v good gxs _ w hg (own_base0 ho) hl (fun g hg => ⟨(h2 g hg).1, (h2 g hg).2.1⟩) w0 w1

abbrev ipF : List UInt8 → Bool := fun _ => false
abbrev got0 : Tx.Got := ⟨[], [], 0, 0⟩

theorem sl_start (Wl : World) : Sl Wl (.slice none 0 0) (.slice none 0 0) [] [] [] Wl :=
  ⟨World.ownsRow_nil _ _ _ _, World.ownsRow_nil _ _ _ _, fun b e => (by cases e), ⟨rfl, fun j hj => absurd hj (by simp)⟩, Below.refl _ _⟩

set_option maxRecDepth 100000 in
set_option maxHeartbeats 8000000 in
theorem slipped_any (s : ByteArray) (w : World) (hs : s.size ≤ 2000) :
    Calls Tryz.prog 117 #[.string s, .bool true] w fun e w' => ∃ (gv sv : Value) (good : List OLn) (gxs : List Value) (slips : List (Nat × Nat × Nat)) (Wl : World) (m : Nat), e = .returned (.tuple #[gv, sv]) ∧ Sl Wl gv sv good gxs slips w' ∧ Below w.heap.size w Wl ∧
      (Tx.docLines [] 1 [] false false 0 s.data.toList).foldl (Tx.stepDoc true ipF 20) got0 = ⟨olns good, slips, m, 0⟩ ∧ (∀ g ∈ good, TwoV g) ∧ good.length ≤ 2001 ∧ slips.length ≤ 2001 := by
  obtain ⟨i1, hi1, hi2, hi3, hi4⟩ := info181
  have HI : Hid (Tryz.prog.info? 210 = some i1 ∧ i1.zero = some (.agg #[.int .i64 0, .slice none 0 0, .slice none 0 0, .int .i64 0]) ∧ i1.size = 4 ∧ i1.bytes = 64) := ⟨hi1, hi2, hi3, hi4⟩
  clear hi1 hi2 hi3 hi4
  obtain ⟨i2, hi1, hi2, hi3, hi4⟩ := info45
  have HJ : Hid (Tryz.prog.info? 45 = some i2 ∧ i2.zero = some (.agg #[.int .i64 0, .int .i64 0, .int .i64 0]) ∧ i2.size = 3 ∧ i2.bytes = 24) := ⟨hi1, hi2, hi3, hi4⟩
  clear hi1 hi2 hi3 hi4
  have kl := lines_any s w hs
  obtain ⟨D, hD⟩ : ∃ D, Tx.docLines [] 1 [] false false 0 s.data.toList = D := ⟨_, rfl⟩
  rw [hD] at kl ⊢
  obtain ⟨R, hR⟩ : ∃ R, D.foldl (Tx.stepDoc true ipF 20) got0 = R := ⟨_, rfl⟩
  rw [hR]
  have HR : Hid (D.foldl (Tx.stepDoc true ipF 20) got0 = R) := hR
  clear hD hR
  have hsI : ¬ (s.size : Int) > 2000 := by omega
  go_enter Tryz.func117, Tryz.ntmps117
  go_wp2_with (go_at_call 160; fail)
  go_at_call 160
  refine kl.mono ?_
  rintro e Wl ⟨ov, all, xs, T, rfl, hall, hlen, hoo, hlines, hlow, htO, hb⟩
  clear kl
  obtain ⟨oa, oc, rfl⟩ := own_slice hoo
  have HO : Hid (Wl.ownsRow 0 210 4 (.slice oa all.length oc) all.length xs) := hoo
  have HLi : Hid (AllLines Wl (fun b => b < Wl.heap.size) all xs) := hlines.turn (Nat.le_refl _) (fun k hk _ => ⟨rfl, hk⟩)
  have HB : Hid (Below w.heap.size w Wl) := hb
  have HR0 : Hid ((olns (all.drop 0)).foldl (Tx.stepDoc true ipF 20) ⟨olns [], [], 0, 0⟩ = R) := by
    show _ = _
    rw [List.drop_zero, hall]
    exact HR.out
  clear hall hoo hlines hlow htO hb HR
  by_cases h0 : all.length = 0
  · have hq : ((all.length : Int) == 0) = true := by simp [h0]
    have he : all = [] := List.length_eq_zero_iff.1 h0
    subst he
    have HRe : Hid (R = ⟨[], [], 0, 0⟩) := HR0.out.symm
    clear HR0 h0
    go_wp2
    refine wp_loop_rounds 1 ?_
    rw [rounds_succ]
    go_wp2
    go_ret2
    exact ⟨_, _, [], [], [], Wl, 0, rfl, sl_start Wl, HB.out, HRe.out, (fun x hx => by cases hx), by simp, by simp⟩
  · have hq : ((all.length : Int) == 0) = false := by rw [beq_eq_false_iff_ne]; omega
    clear h0
    go_wp2
    go_loopg [7, 8, 9, 10] all.length (fun gg g sl rq i wr => ∃ (k : Nat) (good : List OLn) (gxs : List Value) (slips : List (Nat × Nat × Nat)), k ≤ all.length ∧ all.length - k ≤ gg ∧ i = .int .i64 k ∧ rq = .int .i64 0 ∧ good.length ≤ k ∧ slips.length ≤ k ∧ Hid (Sl Wl g sl good gxs slips wr) ∧ Hid (∀ x ∈ good, TwoV x) ∧ Hid ((olns (all.drop k)).foldl (Tx.stepDoc true ipF 20) ⟨olns good, slips, k, 0⟩ = R))
    case atStart => exact ⟨0, [], [], [], by omega, by omega, rfl, rfl, by simp, by simp, sl_start Wl, (fun x hx => by cases hx), HR0⟩
    case round =>
      clear HR0
      obtain ⟨k, good, gxs, slips, hk, hgk, rfl, rfl, hgl, hsl, HS, HG, HRk⟩ := hrel
      by_cases hlt : k < all.length
      · obtain ⟨ob, hoa⟩ : ∃ ob, oa = some ⟨ob, 0, none⟩ := by
          obtain ⟨g, c, e⟩ := own_some HO.out (by omega)
          injection e with e1
          exact ⟨g, e1⟩
        subst hoa
        obtain ⟨gw, cw, ga, ca, a0, a1, a2, a3, hLL, hvw, hgwl⟩ := lineCells HLi.out HO.out k hlt
        have hbw := HS.out.old
        have hobl := (HO.out.lt ob rfl).2
        have d0 : wr.cell? ⟨ob, k * 4, none⟩ = _ := (hbw.cell (p := ⟨ob, k * 4, none⟩) hobl).trans a0
        have d1 : wr.cell? ⟨ob, k * 4 + 1, none⟩ = _ := (hbw.cell (p := ⟨ob, k * 4 + 1, none⟩) hobl).trans a1
        have d2 : wr.cell? ⟨ob, k * 4 + 2, none⟩ = _ := (hbw.cell (p := ⟨ob, k * 4 + 2, none⟩) hobl).trans a2
        have d3 : wr.cell? ⟨ob, k * 4 + 3, none⟩ = _ := (hbw.cell (p := ⟨ob, k * 4 + 3, none⟩) hobl).trans a3
        have hltI : (k : Int) < (all.length : Int) := by omega
        have HRn : Hid ((olns (all.drop (k + 1))).foldl (Tx.stepDoc true ipF 20) (Tx.stepDoc true ipF 20 ⟨olns good, slips, k, 0⟩ (all[k].1, wtoks all[k].2)) = R) := by
          have := HRk.out
          rw [List.drop_eq_getElem_cons hlt] at this
          exact this
        clear HRk a0 a1 a2 a3
        generalize all[k] = l at *
        have hlne : l.2 ≠ [] := by obtain ⟨_, _, _, _, _, h, _⟩ := hLL; exact h
        have hLr : LineLies wr (fun b => b < Wl.heap.size) l [.int .i64 l.1, .slice (some ⟨gw, 0, none⟩) l.2.length cw, .slice (some ⟨ga, 0, none⟩) l.2.length ca, .int .i64 (Tx.fin (wtoks l.2))] := hLL.turn hbw.size (fun b hb ht => ⟨hbw.block b hb, ht⟩)
        have HLr : Hid (LineLies wr (fun b => b < Wl.heap.size) l [.int .i64 l.1, .slice (some ⟨gw, 0, none⟩) l.2.length cw, .slice (some ⟨ga, 0, none⟩) l.2.length ca, .int .i64 (Tx.fin (wtoks l.2))] ∧ l.2 ≠ []) := ⟨hLr, hlne⟩
        clear hLL hLr hlne hvw hbw
        obtain ⟨x0, rest, hx⟩ : ∃ x0 rest, l.2 = x0 :: rest := by
          cases h : l.2 with
          | nil => exact absurd h HLr.out.2
          | cons a b => exact ⟨a, b, rfl⟩
        have hg0 : wr.cell? ⟨gw, 0, none⟩ = some (.string x0.2) := by
          obtain ⟨_, _, _, _, e, _, hv, _⟩ := HLr.out.1
          simp only [List.cons.injEq, Value.slice.injEq, Option.some.injEq, Addr.mk.injEq, and_true, true_and] at e
          have := hv.at' 0 (by rw [hx]; simp)
          rw [← e.1.1, hx] at this
          exact this
        obtain ⟨xa, xk, hsv, hown⟩ := slipV_shape ipF l HLr.out.2
        have HX : Hid (l.2 = x0 :: rest) := hx
        have HOW : Hid ((Tx.own true ipF (wtoks l.2) = some (xa, xk) ∧ 0 < xk) ∨ (Tx.own true ipF (wtoks l.2) = none ∧ xk = 0)) := hown
        have HP0 : Hid (P5 (wr.alloc (.cells #[.int .i64 l.1, .slice (some ⟨gw, 0, none⟩) l.2.length cw, .slice (some ⟨ga, 0, none⟩) l.2.length ca, .int .i64 (Tx.fin (wtoks l.2))] 210)) wr.heap.size gw ga l.2.length cw ca l.1 (Tx.fin (wtoks l.2)) x0.2) := p5_new hg0 210
        have HBn : Hid (Below wr.heap.size wr (wr.alloc (.cells #[.int .i64 l.1, .slice (some ⟨gw, 0, none⟩) l.2.length cw, .slice (some ⟨ga, 0, none⟩) l.2.length ca, .int .i64 (Tx.fin (wtoks l.2))] 210))) := (Below.refl _ _).alloc (Nat.le_refl _) _
        clear hown hx hg0
        go_upto_region 13 with fail
        clear d0 d1 d2 d3
        generalize wr.alloc (.cells #[.int .i64 l.1, .slice (some ⟨gw, 0, none⟩) l.2.length cw, .slice (some ⟨ga, 0, none⟩) l.2.length ca, .int .i64 (Tx.fin (wtoks l.2))] 210) = W1 at *
        have HS1 : Hid (Sl Wl u7 u8 good gxs slips W1) := HS.out.below HBn.out
        have HL1 : Hid (LineLies W1 (fun b => b < Wl.heap.size) l [.int .i64 l.1, .slice (some ⟨gw, 0, none⟩) l.2.length cw, .slice (some ⟨ga, 0, none⟩) l.2.length ca, .int .i64 (Tx.fin (wtoks l.2))]) := HLr.out.1.turn HBn.out.size (fun b hb ht => ⟨HBn.out.block b hb, ht⟩)
        clear HS HBn
        go_cut [12] (fun xp wx => ∃ xb, xp = .pointer (some ⟨xb, 0, none⟩) ∧ Hid (Below W1.heap.size W1 wx ∧ W1.heap.size ≤ xb ∧ ValsAt wx xb 3 (fun f => if f = 0 then .int .i64 l.1 else if f = 1 then .int .i64 xa else .int .i64 xk)))
        case first =>
          obtain ⟨p0, p1, p2, p3, p4⟩ := HP0.out
          have kf := fun W => formX_any x0.2 W
          have kw : ∀ W, Below W1.heap.size W1 W → Calls Tryz.prog 161 #[.agg #[.int .i64 l.1, .slice (some ⟨gw, 0, none⟩) l.2.length cw, .slice (some ⟨ga, 0, none⟩) l.2.length ca, .int .i64 (Tx.fin (wtoks l.2))], .string (formX x0.2)] W fun e w' => e = .returned (.agg #[.int .i64 l.1, .int .i64 xa, .int .i64 xk]) ∧ Below W.heap.size W w' := fun W hb => by
            have h1 := HL1.out.turn (w' := W) hb.size (C := fun b => b < Wl.heap.size) (fun b hb' ht => ⟨hb.block b hb', ht⟩)
            have := wrong_any ipF h1 x0 rest HX.out
            rw [hsv] at this
            exact this
          have hpos : (0 : Int) < (l.2.length : Int) := by have h := HX.out; rw [h]; simp only [List.length_cons]; omega
          have HPd : Hid (∀ W, Below W1.heap.size W1 W → P5 W wr.heap.size gw ga l.2.length cw ca l.1 (Tx.fin (wtoks l.2)) x0.2) := fun W hb => HP0.out.below hb
          have hposN : 0 < l.2.length := by have h := HX.out; rw [h]; simp
          generalize l.2.length = m at *
          go_region_held3 (fun w' => w'.cell? ⟨wr.heap.size, 0, none⟩ = some (.int .i64 l.1) ∧ w'.cell? ⟨wr.heap.size, 1, none⟩ = some (.slice (some ⟨gw, 0, none⟩) m cw) ∧ w'.cell? ⟨wr.heap.size, 2, none⟩ = some (.slice (some ⟨ga, 0, none⟩) m ca) ∧ w'.cell? ⟨wr.heap.size, 3, none⟩ = some (.int .i64 (Tx.fin (wtoks l.2))) ∧ w'.cell? ⟨gw, 0, none⟩ = some (.string x0.2))
            (first | exact ⟨p0, p1, p2, p3, p4⟩ | exact HPd.out _ ((Below.refl _ _).drew) | exact HPd.out _ (below_alloc ((Below.refl _ _).drew) _) | exact HPd.out _ hbB | exact HPd.out _ (below_alloc hbB _) | exact HPd.out _ (((hbB.setCell (by simp) _).setCell (by simp) _).setCell (by simp) _))
            (first | (go_at_call 162; refine (kf _).mono ?_; rintro e w2 ⟨rfl, rfl⟩) | (go_at_call 161; refine (kw _ ((Below.refl _ _).drew)).mono ?_; rintro e w3 ⟨rfl, hbB'⟩; have hbB : Below W1.heap.size W1 w3 := ((Below.refl W1.heap.size W1).drew).trans hbB'; clear hbB') | (go_at_call 161; refine (kw _ (below_alloc ((Below.refl _ _).drew) _)).mono ?_; rintro e w3 ⟨rfl, hbB'⟩; have hbB : Below W1.heap.size W1 w3 := (below_alloc ((Below.refl W1.heap.size W1).drew) _).trans (hbB'.mono (by simp)); have hvx : ValsAt w3 W1.heap.size 3 (fun _ => .int .i64 0) := (vals3 W1.drew 45).of_block (hbB'.block _ (by simp)); have z0 := hvx.at' 0 (by omega); have z1 := hvx.at' 1 (by omega); have z2 := hvx.at' 2 (by omega); have y0 := hvx.fr 0 (by omega); have y1 := hvx.fr 1 (by omega); have y2 := hvx.fr 2 (by omega); clear hbB'))
          all_goals
            go_wp2_with fail
            go_meet
            first
              | exact ⟨w3.heap.size, rfl, below_alloc hbB _, hbB.size, vals3x w3 _ _ _ 45⟩
              | exact ⟨W1.heap.size, rfl, ((hbB.setCell (Nat.le_refl _) _).setCell (Nat.le_refl _) _).setCell (Nat.le_refl _) _, Nat.le_refl _, vals3s hvx _ _ _⟩
        case rest =>
          obtain ⟨xb, h12, HC⟩ := hcut
          rw [h12]
          clear h12
          have HSc : Hid (Sl Wl u7 u8 good gxs slips wc) := HS1.out.below HC.out.1
          have HLc : Hid (LineLies wc (fun b => b < Wl.heap.size) l [.int .i64 l.1, .slice (some ⟨gw, 0, none⟩) l.2.length cw, .slice (some ⟨ga, 0, none⟩) l.2.length ca, .int .i64 (Tx.fin (wtoks l.2))]) := HL1.out.turn HC.out.1.size (fun b hb ht => ⟨HC.out.1.block b hb, ht⟩)
          have HPc : Hid (P5 wc wr.heap.size gw ga l.2.length cw ca l.1 (Tx.fin (wtoks l.2)) x0.2) := HP0.out.below HC.out.1
          have HXc : Hid (ValsAt wc xb 3 (fun f => if f = 0 then .int .i64 l.1 else if f = 1 then .int .i64 xa else .int .i64 xk)) := HC.out.2.2
          have HXb : Hid (W1.heap.size ≤ xb ∧ xb < wc.heap.size) := ⟨HC.out.2.1, World.block_lt_of_cell? wc _ (HC.out.2.2.at' 0 (by omega))⟩
          have e0 : wc.cell? ⟨xb, 0, none⟩ = some (.int .i64 l.1) := HXc.out.at' 0 (by omega)
          have e1 : wc.cell? ⟨xb, 1, none⟩ = some (.int .i64 xa) := HXc.out.at' 1 (by omega)
          have e2 : wc.cell? ⟨xb, 2, none⟩ = some (.int .i64 xk) := HXc.out.at' 2 (by omega)
          have HWs : Hid (Wl.heap.size ≤ W1.heap.size) := HS1.out.old.size
          have HNE : Hid (u7.ownBlock ≠ some xb ∧ u8.ownBlock ≠ some xb) := ⟨fun e => by have h5 := (HS1.out.og.lt xb e).2; have h6 := HC.out.2.1; omega, fun e => by have h5 := (HS1.out.os.lt xb e).2; have h6 := HC.out.2.1; omega⟩
          clear HC HS1 HL1 HP0 HLr
          rcases HOW.out with ⟨hown, hpos⟩ | ⟨hown, hz⟩
          · have HRs : Hid ((olns (all.drop (k + 1))).foldl (Tx.stepDoc true ipF 20) ⟨olns good, slips ++ [(l.1, xa, xk)], k + 1, 0⟩ = R) := by
              have := HRn.out
              rw [step_slip (by rw [slip_index ipF _ _ good l (by rw [HX.out]; simp) HG.out, hown])] at this
              exact this
            have q0 : ((xk : Int) == 0) = false := by rw [beq_eq_false_iff_ne]; omega
            have q1 : (0 : Int) < (xk : Int) := by omega
            clear HRn hown HOW HPc HLc HX hpos
            go_wp2_with (at_builtin; refine wpList_append_own_at _ rfl _ _ 38 rfl Wl.heap.size 45 i2 (.agg #[.int .i64 0, .int .i64 0, .int .i64 0]) 3 24 Tryz.underlying38 HJ.out.1 HJ.out.2.1 HJ.out.2.2.1 HJ.out.2.2.2 rfl (by decide) _ _ _ rfl (HSc.out.os.alloc _) ⟨wc.heap.size, 0, none⟩ 1 1 [.int .i64 l.1, .int .i64 xa, .int .i64 xk] rfl rfl ?_ ?_ ?_ ?_ ?_ ?_)
            all_goals first
              | exact cell_three_new _ _ _ _ _
              | (show ∀ u ∈ [Value.int .i64 (l.1 : Int), Value.int .i64 (xa : Int), Value.int .i64 (xk : Int)], u.oneCell' = true; intro u hu; simp at hu; rcases hu with rfl | rfl | rfl <;> rfl)
              | (show slips.length + 1 ≤ maxLen; unfold maxLen; omega)
              | (show (slips.length + 1) * 24 ≤ 140737488355328; omega)
              | (show Wl.heap.size ≤ (wc.alloc _).heap.size; have := HSc.out.old.size; simp; omega)
              | (show Wl.heap.size ≤ wc.heap.size + 1; have := HSc.out.old.size; omega)
              | skip
            intro sv' w4 hown' hgrow _ hloc
            have HS4 : Hid (Sl Wl u7 sv' good gxs (slips ++ [(l.1, xa, xk)]) w4) := HSc.out.slip _ (l.1, xa, xk) hown' hgrow (by
              rcases hloc with e | e
              · exact Or.inl e
              · exact Or.inr (by rw [e]; simp))
            clear hown' hgrow hloc HSc e0 e1 e2 HXc HXb
            go_wp2
            go_roundg (all.length - (k + 1))
            case measure => omega
            case rel => exact ⟨k + 1, good, gxs, slips ++ [(l.1, xa, xk)], by omega, by omega, by go_num, rfl, by omega, by simp; omega, HS4, HG, HRs⟩
          · subst hz
            have h2 := own_none (by rw [HX.out]; simp) hown
            have HT2 : Hid (TwoV l) := h2
            have hl2 : l.2.length = 2 := h2.1
            have hx0 : x0.2 = bV := by
              have h3 := h2.2.1
              rw [HX.out] at h3
              exact h3
            have HP2 : Hid (P5 wc wr.heap.size gw ga 2 cw ca l.1 (Tx.fin (wtoks l.2)) bV) := by
              have h3 := HPc.out
              rw [hl2, hx0] at h3
              exact h3
            have HL2 : Hid (LineLies wc (fun b => b < Wl.heap.size) l [.int .i64 l.1, .slice (some ⟨gw, 0, none⟩) 2 cw, .slice (some ⟨ga, 0, none⟩) 2 ca, .int .i64 (Tx.fin (wtoks l.2))]) := by
              have h3 := HLc.out
              rw [hl2] at h3
              exact h3
            have hg1 : wc.cell? ⟨gw, 1, none⟩ = some (.string (l.2.getD 1 pad).2) ∧ wc.cell? ⟨ga, 0, none⟩ = some (.int .i64 (l.2.getD 0 pad).1) := by
              obtain ⟨_, _, _, _, e, _, hv, ha, _⟩ := HLc.out
              simp only [List.cons.injEq, Value.slice.injEq, Option.some.injEq, Addr.mk.injEq, and_true, true_and] at e
              have h3 := hv.at' 1 (by omega)
              have h4 := ha.at' 0 (by omega)
              first
                | rw [← e.1.1] at h3
                | rw [← e.1] at h3
              first
                | rw [← e.2.1.1] at h4
                | rw [← e.2.1] at h4
              exact ⟨h3, h4⟩
            obtain ⟨go, gc, hu7⟩ := own_slice' HSc.out.og
            subst hu7
            have ka := again_all (n := l.1) (ga := ga) (cw := cw) (ca := ca) (en := Tx.fin (wtoks l.2)) (by omega) HSc.out.og HSc.out.lie HG.out HP2.out.2.2.2.2 hg1.1
            obtain ⟨d, hd⟩ : ∃ d, (good.any fun g => (g.2.getD 1 pad).2.toList == (l.2.getD 1 pad).2.toList) = d := ⟨_, rfl⟩
            rw [hd] at ka
            have HRd : Hid ((olns (all.drop (k + 1))).foldl (Tx.stepDoc true ipF 20) (if d then ⟨olns good, slips ++ [(l.1, (l.2.getD 0 pad).1, 8)], k + 1, 0⟩ else ⟨olns (good ++ [l]), slips, k + 1, 0⟩) = R) := by
              have h3 := HRn.out
              have h4 := slip_index ipF (k == 0) ((0 : Nat) == 20) good l (by rw [HX.out]; simp) HG.out
              rw [hown, hd] at h4
              cases d
              · rw [step_good h4 (by rw [twoV_hd HT2.out]; decide)] at h3
                exact h3
              · rw [step_slip h4] at h3
                exact h3
            obtain ⟨p0, p1, p2, p3, p4⟩ := HP2.out
            have HGA : Hid (wc.cell? ⟨ga, 0, none⟩ = some (.int .i64 (l.2.getD 0 pad).1)) := hg1.2
            have hbV : bV = ⟨#[118, 101, 114, 115, 105, 111, 110]⟩ := rfl
            generalize (l.2.getD 0 pad).1 = a0 at *
            clear HRn hown HOW HPc HLc HX hd h2 hg1 hl2 hx0
            go_wp2_with (go_at_call 163; fail)
            go_at_call 163
            refine ka.mono ?_
            rintro e w4 ⟨rfl, hb4⟩
            have HS4 : Hid (Sl Wl (.slice go good.length gc) u8 good gxs slips w4) := HSc.out.below hb4
            have HL4 : Hid (LineLies w4 (fun b => b < Wl.heap.size) l [.int .i64 l.1, .slice (some ⟨gw, 0, none⟩) 2 cw, .slice (some ⟨ga, 0, none⟩) 2 ca, .int .i64 (Tx.fin (wtoks l.2))]) := HL2.out.turn hb4.size (fun b hb ht => ⟨hb4.block b hb, ht⟩)
            have HX4 : Hid (ValsAt w4 xb 3 (fun f => if f = 0 then .int .i64 l.1 else if f = 1 then .int .i64 xa else .int .i64 ((0 : Nat) : Int))) := HXc.out.of_block (hb4.block xb HXb.out.2)
            have HP4 := HP2.out.below hb4
            have ga4 : w4.cell? ⟨ga, 0, none⟩ = some (.int .i64 a0) := by
              rw [hb4.cell (p := ⟨ga, 0, none⟩) (World.block_lt_of_cell? wc _ HGA.out)]; exact HGA.out
            have hxl : Wl.heap.size ≤ xb := by have h5 := HXb.out.1; have h6 := HWs.out; omega
            clear ka p0 p1 p2 p3 p4 HP2 HL2 HXc HSc HGA e0 e1 e2 hb4
            obtain ⟨p0, p1, p2, p3, p4⟩ := HP4
            have e0 : w4.cell? ⟨xb, 0, none⟩ = some (.int .i64 l.1) := HX4.out.at' 0 (by omega)
            have e1 : w4.cell? ⟨xb, 1, none⟩ = some (.int .i64 xa) := HX4.out.at' 1 (by omega)
            have e2 : w4.cell? ⟨xb, 2, none⟩ = some (.int .i64 0) := HX4.out.at' 2 (by omega)
            have k0 := HX4.out.fr 0 (by omega)
            have k1 := HX4.out.fr 1 (by omega)
            have k2 := HX4.out.fr 2 (by omega)
            rw [hbV] at p4
            cases d
            · have HRs : Hid ((olns (all.drop (k + 1))).foldl (Tx.stepDoc true ipF 20) ⟨olns (good ++ [l]), slips, k + 1, 0⟩ = R) := HRd.out
              clear HRd
              go_wp2_with (at_builtin; refine wpList_append_own_at _ rfl _ _ 206 rfl Wl.heap.size 210 i1 (.agg #[.int .i64 0, .slice none 0 0, .slice none 0 0, .int .i64 0]) 4 64 Tryz.underlying206 HI.out.1 HI.out.2.1 HI.out.2.2.1 HI.out.2.2.2 rfl (by decide) _ _ _ rfl (HS4.out.og.alloc _) ⟨w4.heap.size, 0, none⟩ 1 1 [.int .i64 l.1, .slice (some ⟨gw, 0, none⟩) 2 cw, .slice (some ⟨ga, 0, none⟩) 2 ca, .int .i64 (Tx.fin (wtoks l.2))] rfl rfl ?_ ?_ ?_ ?_ ?_ ?_)
              all_goals first
                | exact cell_four_new _ _ _ _ _ _
                | (show ∀ u ∈ [Value.int .i64 (l.1 : Int), Value.slice (some ⟨gw, 0, none⟩) 2 cw, Value.slice (some ⟨ga, 0, none⟩) 2 ca, Value.int .i64 (Tx.fin (wtoks l.2) : Int)], u.oneCell' = true; intro u hu; simp at hu; rcases hu with rfl | rfl | rfl | rfl <;> rfl)
                | (show good.length + 1 ≤ maxLen; unfold maxLen; omega)
                | (show (good.length + 1) * 64 ≤ 140737488355328; omega)
                | (show Wl.heap.size ≤ (w4.alloc _).heap.size; have := HS4.out.old.size; simp; omega)
                | (show Wl.heap.size ≤ w4.heap.size + 1; have := HS4.out.old.size; omega)
                | skip
              intro gv' w5 hown' hgrow _ hloc
              have HS5 : Hid (Sl Wl gv' u8 (good ++ [l]) (gxs ++ [.int .i64 l.1, .slice (some ⟨gw, 0, none⟩) 2 cw, .slice (some ⟨ga, 0, none⟩) 2 ca, .int .i64 (Tx.fin (wtoks l.2))]) slips w5) := HS4.out.line _ HL4.out hown' hgrow (by
                rcases hloc with e | e
                · exact Or.inl e
                · exact Or.inr (by rw [e]; simp))
              have HG2 : Hid (∀ x ∈ good ++ [l], TwoV x) := fun x hx => by
                rcases List.mem_append.1 hx with h | h
                · exact HG.out x h
                · have e : x = l := by simpa using h
                  rw [e]; exact HT2.out
              clear hown' hgrow hloc HS4 e0 e1 e2 k0 k1 k2 p0 p1 p2 p3 p4 ga4
              go_wp2
              go_roundg (all.length - (k + 1))
              case measure => omega
              case rel => exact ⟨k + 1, good ++ [l], _, slips, by omega, by omega, by go_num, rfl, by simp; omega, by omega, HS5, HG2, HRs⟩
            · have HRs : Hid ((olns (all.drop (k + 1))).foldl (Tx.stepDoc true ipF 20) ⟨olns good, slips ++ [(l.1, a0, 8)], k + 1, 0⟩ = R) := HRd.out
              clear HRd
              go_upto_region 19 with fail
              go_region
              have HS5 : Hid (Sl Wl (.slice go good.length gc) u8 good gxs slips ((((w4.setCell ⟨xb, 0, none⟩ (.int .i64 l.1)).setCell ⟨xb, 1, none⟩ (.int .i64 a0)).setCell ⟨xb, 2, none⟩ (.int .i64 8)).drew)) :=
                (((HS4.out.poke hxl HNE.out.1 HNE.out.2 _).poke hxl HNE.out.1 HNE.out.2 _).poke hxl HNE.out.1 HNE.out.2 _).below (Below.refl _ _).drew
              have hv5 : ValsAt ((((w4.setCell ⟨xb, 0, none⟩ (.int .i64 l.1)).setCell ⟨xb, 1, none⟩ (.int .i64 a0)).setCell ⟨xb, 2, none⟩ (.int .i64 8)).drew) xb 3 (fun f => if f = 0 then .int .i64 l.1 else if f = 1 then .int .i64 a0 else .int .i64 8) := (vals3s HX4.out (.int .i64 l.1) (.int .i64 a0) (.int .i64 8)).of_block rfl
              clear e0 e1 e2 k0 k1 k2 p0 p1 p2 p3 p4 ga4 HS4 HX4 HL4
              generalize (((w4.setCell ⟨xb, 0, none⟩ (.int .i64 l.1)).setCell ⟨xb, 1, none⟩ (.int .i64 a0)).setCell ⟨xb, 2, none⟩ (.int .i64 8)).drew = w5 at *
              have e0 : w5.cell? ⟨xb, 0, none⟩ = some (.int .i64 l.1) := hv5.at' 0 (by omega)
              have e1 : w5.cell? ⟨xb, 1, none⟩ = some (.int .i64 a0) := hv5.at' 1 (by omega)
              have e2 : w5.cell? ⟨xb, 2, none⟩ = some (.int .i64 8) := hv5.at' 2 (by omega)
              clear hv5
              go_wp2_with (at_builtin; refine wpList_append_own_at _ rfl _ _ 38 rfl Wl.heap.size 45 i2 (.agg #[.int .i64 0, .int .i64 0, .int .i64 0]) 3 24 Tryz.underlying38 HJ.out.1 HJ.out.2.1 HJ.out.2.2.1 HJ.out.2.2.2 rfl (by decide) _ _ _ rfl (HS5.out.os.alloc _) ⟨w5.heap.size, 0, none⟩ 1 1 [.int .i64 l.1, .int .i64 a0, .int .i64 8] rfl rfl ?_ ?_ ?_ ?_ ?_ ?_)
              all_goals first
                | exact cell_three_new _ _ _ _ _
                | (show ∀ u ∈ [Value.int .i64 (l.1 : Int), Value.int .i64 (a0 : Int), Value.int .i64 8], u.oneCell' = true; intro u hu; simp at hu; rcases hu with rfl | rfl | rfl <;> rfl)
                | (show slips.length + 1 ≤ maxLen; unfold maxLen; omega)
                | (show (slips.length + 1) * 24 ≤ 140737488355328; omega)
                | (show Wl.heap.size ≤ (w5.alloc _).heap.size; have := HS5.out.old.size; simp; omega)
                | (show Wl.heap.size ≤ w5.heap.size + 1; have := HS5.out.old.size; omega)
                | skip
              intro sv' w6 hown' hgrow _ hloc
              have HS6 : Hid (Sl Wl (.slice go good.length gc) sv' good gxs (slips ++ [(l.1, a0, 8)]) w6) := HS5.out.slip _ (l.1, a0, 8) hown' hgrow (by
                rcases hloc with e | e
                · exact Or.inl e
                · exact Or.inr (by rw [e]; simp))
              clear hown' hgrow hloc HS5 e0 e1 e2
              go_wp2
              go_roundg (all.length - (k + 1))
              case measure => omega
              case rel => exact ⟨k + 1, good, gxs, slips ++ [(l.1, a0, 8)], by omega, by omega, by go_num, rfl, by omega, by simp; omega, HS6, HG, HRs⟩
      · have hltI : ((k : Int) < (all.length : Int)) = False := by simp; omega
        have hRe : R = ⟨olns good, slips, k, 0⟩ := by
          have := HRk.out
          rw [List.drop_of_length_le (by omega)] at this
          exact this.symm
        have HRe : Hid (R = ⟨olns good, slips, k, 0⟩) := hRe
        clear hRe HRk
        go_wp2
        go_ret2
        exact ⟨_, _, good, gxs, slips, Wl, k, rfl, HS.out, HB.out, HRe.out, HG.out, by omega, by omega⟩

end Go.Proofs.YtelmkfkgpnadnaaGreatDoor
