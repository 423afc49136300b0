/-
  The law's lines: the requires, the excludes, the replaces. No model's run in this text.
  The law's state: the requires that it holds, the manifest that it compares with, its lines.
  The law's texts as its loops write them; Manifest and Format at them.
  What the law looks at behind its four calls, told as one state.
-/
import Derived.Test.YtelmkfkgpnadnaaGreatDoorKRWB
import Derived.Test.YtelmkfkgpnadnaaGreatDoorKRWA
import Derived.Test.YtelmkfkgpnadnaaGreatDoorKCH
import Derived.Test.YtelmkfkgpnadnaaGreatDoorKQG
namespace Go.Proofs.YtelmkfkgpnadnaaGreatDoor
open Go.RowKit
namespace Rn
open Mf

def exIt (c : Int) : It := ⟨1, pk c 28 / 4, pk c 28 % 4, 0⟩
def reIt (c : Int) : It := ⟨2, pk c 28 / 4, pk c 28 % 4, pk c 4⟩

theorem exIt_ok (c : Int) : ItOk (exIt c) ∧ (exIt c).t ≠ 0 := by
  have := pk_lt c 28 (by omega)
  exact ⟨⟨by show 1 < 3; omega, by show pk c 28 / 4 < 7; omega, by show pk c 28 % 4 < 4; omega, by show 0 < 4; omega⟩, by show 1 ≠ 0; omega⟩
theorem reIt_ok (c : Int) : ItOk (reIt c) ∧ (reIt c).t ≠ 0 := by
  have := pk_lt c 28 (by omega)
  exact ⟨⟨by show 2 < 3; omega, by show pk c 28 / 4 < 7; omega, by show pk c 28 % 4 < 4; omega, pk_lt c 4 (by omega)⟩, by show 2 ≠ 0; omega⟩

/-- The first i of some numbers, each a line more. -/
def addUpto (f : Int → It) (l : List It) (cs : List Int) (i : Nat) : List It := (cs.take i).foldl (fun a c => once a (f c)) l

theorem addUpto_next (f : Int → It) (l : List It) (cs : List Int) (i : Nat) (c : Int) (h : cs[i]? = some c) : addUpto f l cs (i + 1) = once (addUpto f l cs i) (f c) := by
  unfold addUpto
  rw [List.take_add_one, h, List.foldl_append]
  rfl

structure Stage (l : List It) (m : Nat) : Prop where
  ok : ∀ x ∈ l, ItOk x
  nd : (l.map clI).Nodup
  q : nR l ≤ 7
  len : l.length ≤ m

theorem Stage.once {l : List It} {m : Nat} (h : Stage l m) {x : It} (hx : ItOk x) (ht : x.t ≠ 0) : Stage (once l x) (m + 1) :=
  ⟨once_ok h.ok hx, once_nd h.nd ht, by rw [once_nR ht]; exact h.q, by have := once_len l x; have := h.len; omega⟩

theorem stage_add {f : Int → It} (hf : ∀ c, ItOk (f c) ∧ (f c).t ≠ 0) {l : List It} {m : Nat} (h : Stage l m) (cs : List Int) : ∀ i, i ≤ cs.length → Stage (addUpto f l cs i) (m + i)
  | 0, _ => h
  | i + 1, hi => by
    rw [addUpto_next f l cs i cs[i] (List.getElem?_eq_getElem (by omega))]
    exact (stage_add hf h cs i (by omega)).once (hf _).1 (hf _).2

theorem stage_req (top : List Int) : Stage (reqUpto top top.length) 7 := by
  have h := reqUpto_ok top top.length (Nat.le_refl _)
  exact ⟨h.ok, h.cl, by rw [h.nR]; exact h.len, h.len⟩

def lines1 (top out : List Int) (i : Nat) : List It := addUpto exIt (reqUpto top top.length) out i
def lines2 (top out swaps : List Int) (i : Nat) : List It := addUpto reIt (lines1 top out (min out.length 6)) swaps i
def linesOf (top out swaps : List Int) : List It := lines2 top out swaps (min swaps.length 6)

theorem stage1 (top out : List Int) (i : Nat) (hi : i ≤ out.length) : Stage (lines1 top out i) (7 + i) := stage_add exIt_ok (stage_req top) out i hi
theorem stage2 (top out swaps : List Int) (i : Nat) (hi : i ≤ swaps.length) : Stage (lines2 top out swaps i) (13 + i) := by
  have h := stage1 top out (min out.length 6) (Nat.min_le_left _ _)
  exact stage_add reIt_ok ⟨h.ok, h.nd, h.q, by have := h.len; have := Nat.min_le_right out.length 6; omega⟩ swaps i hi

theorem its_of (top out swaps : List Int) : Its (linesOf top out swaps) := by
  have h := stage2 top out swaps (min swaps.length 6) (Nat.min_le_left _ _)
  exact ⟨h.ok, h.nd, h.q, by have := h.len; have := Nat.min_le_right swaps.length 6; unfold linesOf; omega⟩

/-- What a require says is among the lines. -/
theorem once_mem {l : List It} {x y : It} (h : y ∈ l) : y ∈ once l x := by
  unfold once
  split
  · exact h
  · exact List.mem_append_left _ h
theorem add_mem {f : Int → It} {l : List It} {y : It} (h : y ∈ l) (cs : List Int) : ∀ i, i ≤ cs.length → y ∈ addUpto f l cs i
  | 0, _ => h
  | i + 1, hi => by
    rw [addUpto_next f l cs i cs[i] (List.getElem?_eq_getElem (by omega))]
    exact once_mem (add_mem h cs i (by omega))
theorem req_mem (top out swaps : List Int) {y : It} (h : y ∈ reqUpto top top.length) : y ∈ linesOf top out swaps :=
  add_mem (add_mem h out _ (Nat.min_le_left _ _)) swaps _ (Nat.min_le_left _ _)

end Rn
end Go.Proofs.YtelmkfkgpnadnaaGreatDoor

namespace Go.Proofs.YtelmkfkgpnadnaaGreatDoor
open Go.RowKit
namespace Rn
open Mf

variable {w w' W W2 W3 : World}

/-- A line more. -/
theorem Lns.snoc {B : Nat} {v lv' : Value} {gs : List Nat} {its : List It} {x : It} {gx : Nat} (h : Lns W B v gs its) (hb : Below W.heap.size W W2) (hw : WordsAt W2 gx (itW x)) (hne : v.ownBlock ≠ some gx)
    (hown : W3.ownsRow B 33 1 lv' (its.length + 1) (lcells gs its ++ [lcell gx x])) (hgrow : W2.grownBy W3 v.ownBlock) (hloc : ∀ b, lv'.ownBlock = some b → v.ownBlock = some b ∨ W2.heap.size ≤ b) :
    Lns W3 B lv' (gs ++ [gx]) (its ++ [x]) ∧ Turn (fun b => v.ownBlock = some b) W W3 := by
  have ht2 : Turn (fun b => v.ownBlock = some b) W2 W3 := (Turn.refl _ W2).grown hgrow (fun b _ e => e)
  have ht : Turn (fun b => v.ownBlock = some b) W W3 := (Turn.of_below hb).grown hgrow (fun b _ e => e)
  have hold : ∀ g, g < W2.heap.size → v.ownBlock ≠ some g → lv'.ownBlock ≠ some g := fun g hg hne e => by
    rcases hloc g e with e2 | e2
    · exact hne e2
    · omega
  refine ⟨⟨by simp [h.len], by rw [lcells_snoc h.len, List.length_append]; exact hown, fun j g y h1 h2 => ?_⟩, ht⟩
  by_cases hj : j < its.length
  · rw [List.getElem?_append_left (by rw [h.len]; exact hj)] at h1
    rw [List.getElem?_append_left hj] at h2
    obtain ⟨hw, hne⟩ := h.ws j g y h1 h2
    exact ⟨hw.turn ht hne, hold g (by have := hw.1; have := hb.size; omega) hne⟩
  · rw [List.getElem?_append_right (by rw [h.len]; omega)] at h1
    rw [List.getElem?_append_right (by omega)] at h2
    rw [h.len] at h1
    obtain ⟨hj1, e1⟩ := List.getElem?_eq_some_iff.1 h1
    obtain ⟨hj2, e2⟩ := List.getElem?_eq_some_iff.1 h2
    have hj0 : j - its.length = 0 := by simp at hj1; omega
    have e1' : gx = g := by simpa [hj0] using e1
    have e2' : x = y := by simpa [hj0] using e2
    rw [← e1', ← e2']
    exact ⟨hw.turn ht2 hne, hold gx hw.1 hne⟩

/-- The manifest that it compares with: its path alone is told. -/
abbrev mCells : Array Value := #[.string ⟨#[97, 47, 98]⟩, .slice none 0 0, .slice none 0 0, .slice none 0 0]

structure St (w0 : World) (rv : Value) (R : List It) (mb : Nat) (lv : Value) (gs : List Nat) (its : List It) (W : World) : Prop where
  b : Below w0.heap.size w0 W
  r : W.ownsRow w0.heap.size 29 2 rv R.length (mcs (R.map mR))
  m : W.heap[mb]? = some (.cells mCells 26)
  mlt : w0.heap.size ≤ mb ∧ mb < W.heap.size
  l : Lns W w0.heap.size lv gs its
  a : ∀ b, lv.ownBlock = some b → rv.ownBlock ≠ some b ∧ b ≠ mb

variable {w0 : World} {rv lv : Value} {R its : List It} {mb : Nat} {gs : List Nat}

theorem St.below (h : St w0 rv R mb lv gs its W) (hb : Below W.heap.size W W2) : St w0 rv R mb lv gs its W2 :=
  ⟨h.b.trans (hb.mono h.b.size), own_below h.r hb, by rw [hb.block mb h.mlt.2]; exact h.m, ⟨h.mlt.1, by have := h.mlt.2; have := hb.size; omega⟩, h.l.below hb, h.a⟩

/-- The lines turned: all else stays. -/
theorem St.lines {lv' : Value} {gs' : List Nat} {its' : List It} (h : St w0 rv R mb lv gs its W) (hl : Lns W2 w0.heap.size lv' gs' its') (ht : Turn (fun b => lv.ownBlock = some b) W W2) (hloc : ∀ b, lv'.ownBlock = some b → lv.ownBlock = some b ∨ W.heap.size ≤ b) : St w0 rv R mb lv' gs' its' W2 := by
  refine ⟨⟨ht.os.trans h.b.os, ht.tape.trans h.b.tape, ht.output.trans h.b.output, Nat.le_trans h.b.size ht.size, fun k hk => ?_⟩, own_of_block h.r (fun b e => ht.block b (h.r.lt b e).2 (fun e2 => (h.a b e2).1 e)), by rw [ht.block mb h.mlt.2 (fun e => (h.a mb e).2 rfl)]; exact h.m, ⟨h.mlt.1, by have := h.mlt.2; have := ht.size; omega⟩, hl, fun b e => ?_⟩
  · rw [ht.block k (by have := h.b.size; omega) (fun e => by have := (h.l.row.lt k e).1; omega)]
    exact h.b.block k hk
  · rcases hloc b e with e2 | e2
    · exact h.a b e2
    · exact ⟨fun e3 => by have := (h.r.lt b e3).2; omega, by have := h.mlt.2; omega⟩

/-- A line more, unless it is there. -/
theorem once_st {la : Option Addr} {m lc gx k : Nat} {x : It} (h : St w0 rv R mb (.slice la m lc) gs its W ∧ m = its.length) (hk : its.length ≤ 30) (hok : ∀ y ∈ its, ItOk y) (hx : ItOk x) (hb : Below W.heap.size W W2) (hg : WordsAt W2 gx (itW x)) (hge : W.heap.size ≤ gx) (hl : (itW x).length = k) :
    Calls Tryz.prog 18 #[.slice la m lc, .slice (some ⟨gx, 0, none⟩) k k] W2 fun e w' => ∃ la' m' lc' gs', e = .returned (.slice la' m' lc') ∧ St w0 rv R mb (.slice la' m' lc') gs' (once its x) w' ∧ m' = (once its x).length := by
  have h2 := h.1.below hb
  have e : lcell gx x = .slice (some ⟨gx, 0, none⟩) k k := by unfold lcell; rw [hl]
  have hk18 := once_any (.slice la m lc) gs its x gx W2 w0.heap.size h2.b.size hk hok hx h2.l hg (fun e => by have := (h.1.l.row.lt _ e).2; omega)
  rw [e] at hk18
  refine hk18.mono ?_
  rintro e w' ⟨v', gs', rfl, hl', ht, hloc⟩
  obtain ⟨la', lc', rfl⟩ := own_slice' hl'.row
  exact ⟨la', _, lc', gs', rfl, h2.lines hl' ht hloc, rfl⟩

end Rn
end Go.Proofs.YtelmkfkgpnadnaaGreatDoor

namespace Go.Proofs.YtelmkfkgpnadnaaGreatDoor
open Go.RowKit
namespace Rn
open Mf

variable {w w' W W2 W3 : World}

/-- The first text, so far. -/
def tx (b : Bits) (bf : Nat → Bits) (l : List It) (i : Nat) : List UInt8 := ((lxOf b moduleW :: lxs bf 0 l).take (i + 1)).flatMap txt

theorem tx_zero (b : Bits) (bf : Nat → Bits) (l : List It) : tx b bf l 0 = txt (lxOf b moduleW) := by simp [tx]
theorem tx_next {b : Bits} {bf : Nat → Bits} {l : List It} {i : Nat} {y : It} (h : l[i]? = some y) : tx b bf l (i + 1) = tx b bf l i ++ txt (lxOf (bf i) (itW y)) := by
  unfold tx
  rw [List.take_add_one (i := i + 1), List.flatMap_append, List.getElem?_cons_succ, lxs_get, h]
  simp
theorem tx_all (b : Bits) (bf : Nat → Bits) (l : List It) : tx b bf l l.length = (lxOf b moduleW :: lxs bf 0 l).flatMap txt := by
  unfold tx; rw [List.take_of_length_le (by simp [lxs_len])]
theorem tx_len {l : List It} (H : Its l) (b : Bits) (bf : Nat → Bits) (i : Nat) : (tx b bf l i).length ≤ 1523 := by
  have h : (lxOf b moduleW :: lxs bf 0 l).flatMap txt = tx b bf l i ++ ((lxOf b moduleW :: lxs bf 0 l).drop (i + 1)).flatMap txt := by
    unfold tx; rw [← List.flatMap_append, List.take_append_drop]
  have h2 := lines_len H b bf
  rw [h, List.length_append] at h2
  omega

/-- One line of a list of lines. -/
theorem Lns.at {B : Nat} {v : Value} {gs : List Nat} {its : List It} (h : Lns W B v gs its) (j : Nat) (hj : j < its.length) :
    ∃ g0 c0 gi y, v = .slice (some ⟨g0, 0, none⟩) its.length c0 ∧ its[j]? = some y ∧ y ∈ its ∧ W.cell? ⟨g0, j, none⟩ = some (.slice (some ⟨gi, 0, none⟩) (itW y).length (itW y).length) ∧ (∀ i (h : i < (itW y).length), W.cell? ⟨gi, i, none⟩ = some (.string (ba (itW y)[i]))) := by
  have hgi : j < gs.length := by rw [h.len]; exact hj
  obtain ⟨hw, _⟩ := h.ws j gs[j] its[j] (List.getElem?_eq_getElem hgi) (List.getElem?_eq_getElem hj)
  obtain ⟨g0, c0, e⟩ := own_some h.row (by omega)
  refine ⟨g0, c0, gs[j], its[j], e, List.getElem?_eq_getElem hj, List.getElem_mem hj, ?_, hw.2⟩
  subst e
  rw [h.row.cellAt j (by omega)]
  unfold lcells
  rw [List.getElem?_zipWith, List.getElem?_eq_getElem hgi, List.getElem?_eq_getElem hj]
  rfl

/-- A manifest that came out: its three lists. -/
structure Got3 (W : World) (rv xv sv : Value) (R X : List Mo) (S : List So) : Prop where
  r : Sm.Rd W rv R
  x : Sm.Rd W xv X
  s : Sw.Rd W sv S

theorem Got3.below {rv xv sv : Value} {R X : List Mo} {S : List So} (h : Got3 W rv xv sv R X S) (hb : Below W.heap.size W W2) : Got3 W2 rv xv sv R X S :=
  ⟨h.r.below hb, h.x.below hb, h.s.below hb⟩

theorem reqs_len (L : List Mo) : (reqs L).length = L.length := Ss.insAll_len _
theorem excs_len (L : List Mo) : (excs L).length = L.length := Ss.insAll_len _
theorem reps_len (L : List So) : (reps L).length = L.length := Ss.insAll_len _

theorem man_good (s p : ByteArray) (R X : List Mo) (S : List So) (w : World) (hm : Ml w) (h : manSlips s = [] ∧ manMx s = ⟨p, R, X, S⟩) :
    Calls Tryz.prog 20 #[.string s] w fun e w' => ∃ ra rc xa xc sa sc la lc, e = .returned (.tuple #[.agg #[.string p, .slice ra R.length rc, .slice xa X.length xc, .slice sa S.length sc], .slice la 0 lc]) ∧
      Got3 w' (.slice ra R.length rc) (.slice xa X.length xc) (.slice sa S.length sc) (reqs R) (excs X) (reps S) ∧ Below w.heap.size w w' := by
  refine (progManifest s w hm).mono ?_
  rintro e w' ⟨p', rv, xv, sv, lv, rfl, ho, hb, _⟩
  have h1 := ho.pe
  have h2 := ho.re
  have h3 := ho.xe
  have h4 := ho.se
  have h5 := ho.le
  rw [h.2] at h1 h2 h3 h4
  rw [h.1] at h5
  simp only at h1 h2 h3 h4
  obtain ⟨ra, rc, rfl⟩ := own_slice' h2
  obtain ⟨xa, xc, rfl⟩ := own_slice' h3
  obtain ⟨sa, sc, rfl⟩ := own_slice' h4
  obtain ⟨la, lc, rfl⟩ := own_slice' h5
  subst h1
  exact ⟨ra, rc, xa, xc, sa, sc, la, lc, rfl, ⟨rd_of_mcs (B := w.heap.size) (by rw [reqs_len]; exact h2), rd_of_mcs (B := w.heap.size) (by rw [excs_len]; exact h3), rd_of_scs (B := w.heap.size) (by rw [reps_len]; exact h4)⟩, hb⟩

theorem man_twice (s : ByteArray) (k : Nat) (w : World) (hm : Ml w) (h : manSlips s = [(k, 0, 8)]) :
    Calls Tryz.prog 20 #[.string s] w fun e w' => ∃ p ra rn rc xa xn xc sa sn sc g c, e = .returned (.tuple #[.agg #[.string p, .slice ra rn rc, .slice xa xn xc, .slice sa sn sc], .slice (some ⟨g, 0, none⟩) 1 c]) ∧
      (w'.cell? ⟨g, 0, none⟩ = some (.int .i64 k) ∧ w'.cell? ⟨g, 1, none⟩ = some (.int .i64 0) ∧ w'.cell? ⟨g, 2, none⟩ = some (.int .i64 8)) ∧ Below w.heap.size w w' := by
  refine (progManifest s w hm).mono ?_
  rintro e w' ⟨p', rv, xv, sv, lv, rfl, ho, hb, _⟩
  have h5 := ho.le
  rw [h] at h5
  obtain ⟨ra, rc, rfl⟩ := own_slice' ho.re
  obtain ⟨xa, xc, rfl⟩ := own_slice' ho.xe
  obtain ⟨sa, sc, rfl⟩ := own_slice' ho.se
  obtain ⟨g, c, rfl⟩ := own_some h5 (by simp)
  refine ⟨_, ra, _, rc, xa, _, xc, sa, _, sc, g, c, rfl, ⟨?_, ?_, ?_⟩, hb⟩
  · rw [h5.cellAt 0 (by simp)]; rfl
  · rw [h5.cellAt 1 (by simp)]; rfl
  · rw [h5.cellAt 2 (by simp)]; rfl

/-- The text that Format writes. -/
def fm (l : List It) : List UInt8 := fmtOf (ba [97, 47, 98]) (reqs (l.filterMap iR)) (excs (l.filterMap iX)) (reps (l.filterMap iS))

theorem fm_len {l : List It} (H : Its l) : (fm l).length ≤ 1523 := by
  unfold fm; rw [fmt_is]; exact fmt_len H

theorem fm_good {l : List It} (H : Its l) (rv xv sv : Value) (w : World) (hm : Dr.Ml w) (h : Got3 w rv xv sv (reqs (l.filterMap iR)) (excs (l.filterMap iX)) (reps (l.filterMap iS))) :
    Calls Tryz.prog 21 #[.agg #[.string (ba [97, 47, 98]), rv, xv, sv]] w fun e w' => e = .returned (.string (ba (fm l))) ∧ Below w.heap.size w w' := by
  have h3 := three_len H
  have h4 := H.len
  have hf := fm_len H
  have k := pFormat_any (ba [97, 47, 98]) rv xv sv _ _ _ w hm (by rw [reqs_len]; omega) (by rw [excs_len]; omega) (by rw [reps_len]; omega) h.r h.x h.s (by rw [reqs_id, excs_id, reps_id]; unfold fm at hf; omega)
  rw [reqs_id, excs_id, reps_id] at k
  exact k

/-- A line in other words, told as one text. -/
theorem ba_of {s : ByteArray} {l : List UInt8} (h : s.data.toList = l) : s = ba l := by
  apply ByteArray.ext
  rw [← Array.toList_inj, h]
  simp [ba]
theorem line_val (c : Int) (ws : List (List UInt8)) (g cp : Nat) (w : World) (hne : ws ≠ []) (hlen : ws.length ≤ 5) (hby : bytesOf ws ≤ 60) (hcell : ∀ i (h : i < ws.length), w.cell? ⟨g, i, none⟩ = some (.string (ba ws[i]))) :
    Calls Tryz.prog 19 #[.slice (some ⟨g, 0, none⟩) ws.length cp, .int .i64 c] w fun e w' => e = .returned (.string (ba (txt (lxOf (bitsOf c) ws)))) ∧ w' = w :=
  (line_any c ws g cp w hne hlen hby hcell).mono fun _ _ ⟨⟨_, he, hs⟩, hw⟩ => ⟨by rw [he, ba_of hs], hw⟩

theorem ba_data (l : List UInt8) : (ba l).data.toList = l := by simp [ba]

/-- What is read of it. -/
theorem fm_read {l : List It} (H : Its l) : manSlips (ba (fm l)) = [] ∧ manMx (ba (fm l)) = ⟨ba [97, 47, 98], reqs (l.filterMap iR), excs (l.filterMap iX), reps (l.filterMap iS)⟩ :=
  read_fmt H (s := ba (fm l)) (ba_data _)

theorem man_fm {l : List It} (H : Its l) (w : World) (hm : Ml w) :
    Calls Tryz.prog 20 #[.string (ba (fm l))] w fun e w' => ∃ ra rc xa xc sa sc la lc, e = .returned (.tuple #[.agg #[.string (ba [97, 47, 98]), .slice ra (l.filterMap iR).length rc, .slice xa (l.filterMap iX).length xc, .slice sa (l.filterMap iS).length sc], .slice la 0 lc]) ∧
      Got3 w' (.slice ra (l.filterMap iR).length rc) (.slice xa (l.filterMap iX).length xc) (.slice sa (l.filterMap iS).length sc) (reqs (l.filterMap iR)) (excs (l.filterMap iX)) (reps (l.filterMap iS)) ∧ Below w.heap.size w w' := by
  have k := man_good _ _ _ _ _ w hm (fm_read H)
  rw [reqs_id, excs_id, reps_id, reqs_len, excs_len, reps_len] at k
  exact k

theorem less_of_cmp : ∀ a b : List UInt8, Lib.compareBytes a b < 0 → Go.Op.bytesLess a b = true
  | [], [], h => by simp [Lib.compareBytes] at h
  | [], _ :: _, _ => rfl
  | _ :: _, [], h => by simp [Lib.compareBytes] at h
  | x :: a, y :: b, h => by
    unfold Lib.compareBytes at h
    unfold Go.Op.bytesLess
    by_cases h1 : x < y
    · simp [h1]
    · rw [if_neg h1] at h
      by_cases h2 : y < x
      · rw [if_pos h2] at h; exact absurd h (by decide)
      · rw [if_neg h2] at h
        have e : x = y := UInt8.le_antisymm (UInt8.not_lt.1 h2) (UInt8.not_lt.1 h1)
        have ih := less_of_cmp a b h
        simp [e, ih]

/-- Of two requires that stand one behind the other the first has the lower path. -/
theorem up_less {l : List It} (H : Its l) (k : Nat) (hk : k + 1 < (reqs (l.filterMap iR)).length) : Go.Op.bytesLess (reqs (l.filterMap iR))[k]!.1.toList (reqs (l.filterMap iR))[k + 1]!.1.toList = true := by
  have h := List.pairwise_iff_getElem.1 (paths_up H) k (k + 1) (by omega) hk (by omega)
  rw [getElem!_pos _ k (by omega), getElem!_pos _ (k + 1) hk, Lib.toList_data, Lib.toList_data]
  exact less_of_cmp _ _ h

theorem four_cells {b : Nat} {v0 v1 v2 v3 : Value} {t : TypeId} (h : W.heap[b]? = some (.cells #[v0, v1, v2, v3] t)) :
    W.cell? ⟨b, 0, none⟩ = some v0 ∧ W.cell? ⟨b, 1, none⟩ = some v1 ∧ W.cell? ⟨b, 2, none⟩ = some v2 ∧ W.cell? ⟨b, 3, none⟩ = some v3 := by
  simp only [World.cell?, h]
  exact ⟨rfl, rfl, rfl, rfl⟩

theorem block_lt {b : Nat} {o : Obj} (h : W.heap[b]? = some o) : b < W.heap.size := (Array.getElem?_eq_some_iff.1 h).1

/-- What the law looks at behind its four calls: both manifests, the path that it compares with, the requires, its lines. -/
structure Fin5 (w0 W : World) (a1 b1 mb : Nat) (p : ByteArray) (rv xv sv rv2 xv2 sv2 : Value) (R X : List Mo) (S : List So) (rq : Value) (Q : List Mo) (lv : Value) (gs : List Nat) (its : List It) : Prop where
  b : Below w0.heap.size w0 W
  a : W.heap[a1]? = some (.cells #[.string p, rv, xv, sv] 26)
  c : W.heap[b1]? = some (.cells #[.string p, rv2, xv2, sv2] 26)
  m : W.heap[mb]? = some (.cells mCells 26)
  g1 : Got3 W rv xv sv R X S
  g2 : Got3 W rv2 xv2 sv2 R X S
  q : Sm.Rd W rq Q
  l : Lns W w0.heap.size lv gs its

theorem Fin5.below {w0 W W2 : World} {a1 b1 mb : Nat} {p : ByteArray} {rv xv sv rv2 xv2 sv2 : Value} {R X : List Mo} {S : List So} {rq : Value} {Q : List Mo} {lv : Value} {gs : List Nat} {its : List It}
    (h : Fin5 w0 W a1 b1 mb p rv xv sv rv2 xv2 sv2 R X S rq Q lv gs its) (hb : Below W.heap.size W W2) : Fin5 w0 W2 a1 b1 mb p rv xv sv rv2 xv2 sv2 R X S rq Q lv gs its :=
  ⟨h.b.trans (hb.mono h.b.size), by rw [hb.block a1 (block_lt h.a)]; exact h.a, by rw [hb.block b1 (block_lt h.c)]; exact h.c, by rw [hb.block mb (block_lt h.m)]; exact h.m, h.g1.below hb, h.g2.below hb, h.q.below hb, h.l.below hb⟩

end Rn
end Go.Proofs.YtelmkfkgpnadnaaGreatDoor

namespace Go.Proofs.YtelmkfkgpnadnaaGreatDoor
open Go.RowKit
namespace Rn
open Mf

/-- The first text as the law writes it, line by line. -/
theorem texts_of {w : World} {rv : Value} {R its : List It} {mb m lc q pc : Nat} {la : Option Addr} {gs : List Nat} (c : Int) (hI : Its its) (hml : m = its.length) (hq : q < m + 1) :
    ∃ T : Nat → List UInt8, T 0 = txt (lxOf (bitsOf c) moduleW) ∧ (∀ i, (T i).length ≤ 1523) ∧ (∀ x : ByteArray, x.data.toList = T m → manSlips x = [] ∧ manMx x = ⟨ba [97, 47, 98], (rot q its).filterMap iR, (rot q its).filterMap iX, (rot q its).filterMap iS⟩) ∧
      ∀ (wr : World), St w rv R mb (.slice la m lc) gs its wr → ∀ i, i < m → ∃ (j g0 gi k : Nat) (u : List UInt8), la = some ⟨g0, 0, none⟩ ∧ (((i : Int) + (q : Int)) % (m : Int) = (j : Int)) ∧ j < m ∧ wr.cell? ⟨g0, j, none⟩ = some (.slice (some ⟨gi, 0, none⟩) k k) ∧
        (∀ N, Calls Tryz.prog 19 #[.slice (some ⟨gi, 0, none⟩) k k, .int .i64 ((pc : Int) + (i : Int))] (wr.drewN N) fun e w' => e = .returned (.string (ba u)) ∧ w' = wr.drewN N) ∧ u.length ≤ 78 ∧ T (i + 1) = T i ++ u := by
  refine ⟨tx (bitsOf c) (fun i => bitsOf ((pc : Int) + (i : Int))) (rot q its), tx_zero _ _ _, fun i => tx_len (hI.rot _) _ _ i, fun x hx => ?_, fun wr hS i hi => ?_⟩
  · have hl : (rot q its).length = m := by rw [rot_len, hml]
    have h := tx_all (bitsOf c) (fun i => bitsOf ((pc : Int) + (i : Int))) (rot q its)
    rw [hl] at h
    exact read_first (hI.rot _) (bitsOf c) (fun i => bitsOf ((pc : Int) + (i : Int))) (hx.trans h)
  · have hj : (i + q) % its.length < its.length := Nat.mod_lt _ (by omega)
    obtain ⟨g0, c0, gi, y, e, hy, hym, hc, hws⟩ := hS.l.at _ hj
    injection e with e1 e2 e3
    have hok := hI.ok y hym
    have hln := item_len hok
    refine ⟨(i + q) % its.length, g0, gi, (itW y).length, txt (lxOf (bitsOf ((pc : Int) + (i : Int))) (itW y)), e1, by rw [hml]; rfl, by omega, hc, fun N => ?_, item_txt hok _, ?_⟩
    · exact line_val _ (itW y) gi _ _ (item_ne y) hln.2.1 (by have := hln.1; omega) (fun i h => by
        rw [show (wr.drewN N).cell? ⟨gi, i, none⟩ = wr.cell? ⟨gi, i, none⟩ by simp [go_sem]]
        exact hws i h)
    · exact tx_next (by rw [rot_get _ _ (by omega) i (by omega)]; exact hy)

/-- What holds of such a state. -/
structure Laws (F : World → Prop) (w : World) (a1 b1 mb n nr nx ns m : Nat) (p t : ByteArray) (ra la ra1 xa1 sa1 ra2 xa2 sa2 : Option Addr) (rc1 xc1 sc1 rc2 xc2 sc2 : Nat) : Prop where
  down : ∀ W W2, F W → Below W.heap.size W W2 → F W2
  b : ∀ W, F W → Below w.heap.size w W
  ml : ∀ W, F W → Dr.Ml W
  cells : ∀ W, F W → (W.cell? ⟨a1, 0, none⟩ = some (.string p) ∧ W.cell? ⟨a1, 1, none⟩ = some (.slice ra1 nr rc1) ∧ W.cell? ⟨a1, 2, none⟩ = some (.slice xa1 nx xc1) ∧ W.cell? ⟨a1, 3, none⟩ = some (.slice sa1 ns sc1)) ∧
    (W.cell? ⟨b1, 1, none⟩ = some (.slice ra2 nr rc2) ∧ W.cell? ⟨b1, 2, none⟩ = some (.slice xa2 nx xc2) ∧ W.cell? ⟨b1, 3, none⟩ = some (.slice sa2 ns sc2)) ∧ W.cell? ⟨mb, 0, none⟩ = some (.string p)
  has : ∀ W, F W → ∀ i, i < n → ∃ b o s1 s2, ra = some ⟨b, o, none⟩ ∧ W.cell? ⟨b, o + i * 2, none⟩ = some (.string s1) ∧ W.cell? ⟨b, o + i * 2 + 1, none⟩ = some (.string s2) ∧
    ∀ W', Below W.heap.size W W' → Calls Tryz.prog 22 #[.slice ra1 nr rc1, .agg #[.string s1, .string s2]] W' fun e w' => e = .returned (.bool true) ∧ F w' ∧ (w'.cell? ⟨a1, 1, none⟩ = some (.slice ra1 nr rc1) ∧ w'.cell? ⟨b, o + i * 2, none⟩ = some (.string s1) ∧ w'.cell? ⟨b, o + i * 2 + 1, none⟩ = some (.string s2))
  same1 : ∀ W, F W → Calls Tryz.prog 23 #[.slice ra1 nr rc1, .slice ra2 nr rc2] W fun e w' => e = .returned (.bool true) ∧ F w'
  same2 : ∀ W, F W → Calls Tryz.prog 23 #[.slice xa1 nx xc1, .slice xa2 nx xc2] W fun e w' => e = .returned (.bool true) ∧ F w'
  up : ∀ W, F W → ∀ k, k + 1 < nr → ∃ b o s1 s2, ra1 = some ⟨b, o, none⟩ ∧ W.cell? ⟨b, o + k * 2, none⟩ = some (.string s1) ∧ W.cell? ⟨b, o + (k + 1) * 2, none⟩ = some (.string s2) ∧ Go.Op.bytesLess s1.toList s2.toList = true
  line : ∀ W, F W → ∀ j, j < m → ∃ g0 gi k u, la = some ⟨g0, 0, none⟩ ∧ W.cell? ⟨g0, j, none⟩ = some (.slice (some ⟨gi, 0, none⟩) k k) ∧
    (Calls Tryz.prog 19 #[.slice (some ⟨gi, 0, none⟩) k k, .int .i64 0] W fun e w' => e = .returned (.string u) ∧ w' = W) ∧ u.size ≤ 78 ∧
    ∀ W', F W' → Calls Tryz.prog 20 #[.string (t ++ u)] W' fun e w' => ∃ p ra rn rc xa xn xc sa sn sc g c, e = .returned (.tuple #[.agg #[.string p, .slice ra rn rc, .slice xa xn xc, .slice sa sn sc], .slice (some ⟨g, 0, none⟩) 1 c]) ∧
      (w'.cell? ⟨g, 0, none⟩ = some (.int .i64 (m + 2 : Nat)) ∧ w'.cell? ⟨g, 1, none⟩ = some (.int .i64 0) ∧ w'.cell? ⟨g, 2, none⟩ = some (.int .i64 8)) ∧ F w'

theorem laws_of {w w5 : World} {l its R : List It} {a1 b1 mb n m : Nat} {ra la ra1 xa1 sa1 ra2 xa2 sa2 : Option Addr} {rc lc rc1 xc1 sc1 rc2 xc2 sc2 : Nat} {gs : List Nat} (hml : Dr.Ml w) (H : Its l) (hR : ∀ y ∈ R, y.t = 0) (hRl : ∀ y ∈ R, y ∈ l) (hn : R.length = n) (hm : m = its.length) (hlm : l.length = m) (hil : ∀ y ∈ its, y ∈ l)
    (h : Fin5 w w5 a1 b1 mb (ba [97, 47, 98]) (.slice ra1 (l.filterMap iR).length rc1) (.slice xa1 (l.filterMap iX).length xc1) (.slice sa1 (l.filterMap iS).length sc1) (.slice ra2 (l.filterMap iR).length rc2) (.slice xa2 (l.filterMap iX).length xc2) (.slice sa2 (l.filterMap iS).length sc2) (reqs (l.filterMap iR)) (excs (l.filterMap iX)) (reps (l.filterMap iS)) (.slice ra n rc) (R.map mR) (.slice la m lc) gs its) :
    ∃ F : World → Prop, F w5 ∧ Laws F w a1 b1 mb n (l.filterMap iR).length (l.filterMap iX).length (l.filterMap iS).length m (ba [97, 47, 98]) (ba (fm l)) ra la ra1 xa1 sa1 ra2 xa2 sa2 rc1 xc1 sc1 rc2 xc2 sc2 := by
  have h3 := three_len H
  have h19 := H.len
  refine ⟨fun W => Fin5 w W a1 b1 mb (ba [97, 47, 98]) (.slice ra1 (l.filterMap iR).length rc1) (.slice xa1 (l.filterMap iX).length xc1) (.slice sa1 (l.filterMap iS).length sc1) (.slice ra2 (l.filterMap iR).length rc2) (.slice xa2 (l.filterMap iX).length xc2) (.slice sa2 (l.filterMap iS).length sc2) (reqs (l.filterMap iR)) (excs (l.filterMap iX)) (reps (l.filterMap iS)) (.slice ra n rc) (R.map mR) (.slice la m lc) gs its, h,
    fun W W2 hF hb => hF.below hb, fun W hF => hF.b, fun W hF => Sm.ml_below hml hF.b, fun W hF => ?_, fun W hF i hi => ?_, fun W hF => ?_, fun W hF => ?_, fun W hF k hk => ?_, fun W hF j hj => ?_⟩
  · obtain ⟨_, x1, x2, x3⟩ := four_cells hF.c
    exact ⟨four_cells hF.a, ⟨x1, x2, x3⟩, (four_cells hF.m).1⟩
  · have hi2 : i < R.length := by omega
    have hiM : i < (R.map mR).length := by rw [List.length_map]; exact hi2
    obtain ⟨b, o, c, eg, x0, x1⟩ := rd_mod hF.q (Below.refl _ _) i hiM
    injection eg with eg1 eg2 eg3
    have e : (R.map mR)[i]! = mR R[i] := by rw [getElem!_pos _ i hiM, List.getElem_map]
    rw [e] at x0 x1
    have hy := List.getElem_mem hi2
    refine ⟨b, o, _, _, eg1, x0, x1, fun W' hb => ?_⟩
    refine (has_any _ (reqs (l.filterMap iR)) _ _ W' (by rw [reqs_len]; omega) (hF.g1.r.below hb) (has_R (hRl _ hy) (hR _ hy))).mono ?_
    rintro e w' ⟨rfl, hb'⟩
    have hb2 := hb.trans (hb'.mono hb.size)
    refine ⟨rfl, hF.below hb2, ?_, ?_, ?_⟩
    · rw [hb2.cell (p := ⟨a1, 1, none⟩) (block_lt hF.a)]; exact (four_cells hF.a).2.1
    · rw [hb2.cell (p := ⟨b, o + i * 2, none⟩) (World.block_lt_of_cell? _ _ x0)]; exact x0
    · rw [hb2.cell (p := ⟨b, o + i * 2 + 1, none⟩) (World.block_lt_of_cell? _ _ x1)]; exact x1
  · refine (keepSame_any _ _ (reqs (l.filterMap iR)) W (by rw [reqs_len]; omega) hF.g1.r hF.g2.r).mono ?_
    rintro e w' ⟨rfl, hb⟩
    exact ⟨rfl, hF.below hb⟩
  · refine (keepSame_any _ _ (excs (l.filterMap iX)) W (by rw [excs_len]; omega) hF.g1.x hF.g2.x).mono ?_
    rintro e w' ⟨rfl, hb⟩
    exact ⟨rfl, hF.below hb⟩
  · have hk1 : k + 1 < (reqs (l.filterMap iR)).length := by rw [reqs_len]; exact hk
    obtain ⟨b, o, c, eg, x0, _⟩ := rd_mod hF.g1.r (Below.refl _ _) k (by omega)
    obtain ⟨b', o', c', eg', y0, _⟩ := rd_mod hF.g1.r (Below.refl _ _) (k + 1) hk1
    injection eg with eg1 eg2 eg3
    injection eg' with eg1' eg2' eg3'
    rw [eg1] at eg1'
    injection eg1' with e1
    injection e1 with e2 e3
    subst e2; subst e3
    exact ⟨b, o, _, _, eg1, x0, y0, up_less H k hk1⟩
  · obtain ⟨g0, c0, gi, y, e, hy, hym, hc, hws⟩ := hF.l.at j (by omega)
    injection e with e1 e2 e3
    have hok := H.ok y (hil y hym)
    have hln := item_len hok
    refine ⟨g0, gi, (itW y).length, ba (txt (lxOf bits0 (itW y))), e1, hc, ?_, by rw [ba_size (ba_data _)]; exact item_txt hok _, fun W' hF' => ?_⟩
    · exact line_val 0 (itW y) gi _ _ (item_ne y) hln.2.1 (by have := hln.1; omega) hws
    · have hs := read_again H (hil y hym) (s := ba (fm l) ++ ba (txt (lxOf bits0 (itW y)))) (by rw [appR, ba_data, ba_data]; rfl)
      rw [hlm] at hs
      refine (man_twice _ (m + 2) W' (Sm.ml_below hml hF'.b) hs).mono ?_
      rintro e w' ⟨p, ra, rn, rc, xa, xn, xc, sa, sn, sc, g, c, rfl, hc, hb⟩
      exact ⟨p, ra, rn, rc, xa, xn, xc, sa, sn, sc, g, c, rfl, hc, hF'.below hb⟩

end Rn
end Go.Proofs.YtelmkfkgpnadnaaGreatDoor
