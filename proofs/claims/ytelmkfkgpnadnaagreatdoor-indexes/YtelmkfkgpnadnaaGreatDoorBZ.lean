/-
  The law's book: one Index.
  The law's book: one Index is listed; an index; the statement's own call.
  The statement's own call: Indexes.
-/
import Derived.Test.YtelmkfkgpnadnaaGreatDoorBK7
import Derived.Test.YtelmkfkgpnadnaaGreatDoorX4
namespace Go.Proofs.YtelmkfkgpnadnaaGreatDoor
open Go.RowKit
namespace Bk

variable {w w' : World}

theorem vcells_get (vs : List ByteArray) (i : Nat) (hi : i < vs.length) : (vcells vs)[i]? = some (.string (vs.getD i ⟨#[]⟩)) := by
  unfold vcells
  rw [List.getElem?_map, List.getElem?_eq_getElem hi]
  simp [List.getD, hi]

theorem scells_get : ∀ (l : List (Nat × Nat × Nat)) (i : Nat) (_ : i < l.length), (scells l)[i * 3]? = some (.int .i64 (l.getD i (0, 0, 0)).1) ∧ (scells l)[i * 3 + 1]? = some (.int .i64 (l.getD i (0, 0, 0)).2.1) ∧ (scells l)[i * 3 + 2]? = some (.int .i64 (l.getD i (0, 0, 0)).2.2)
  | x :: r, 0, _ => ⟨rfl, rfl, rfl⟩
  | x :: r, i + 1, h => by
    have e : scells (x :: r) = .int .i64 x.1 :: .int .i64 x.2.1 :: .int .i64 x.2.2 :: scells r := rfl
    have ih := scells_get r i (by simpa using h)
    rw [e]
    refine ⟨?_, ?_, ?_⟩
    · rw [show (i + 1) * 3 = i * 3 + 1 + 1 + 1 by omega]; simpa using ih.1
    · rw [show (i + 1) * 3 + 1 = i * 3 + 1 + 1 + 1 + 1 by omega]; simpa using ih.2.1
    · rw [show (i + 1) * 3 + 2 = i * 3 + 2 + 1 + 1 + 1 by omega]; simpa using ih.2.2

theorem sameTexts_rows (vs : List ByteArray) (a b : Value) (A B : Nat) (w : World) (hl : vs.length ≤ 3000) (h1 : w.ownsRow A 9 1 a vs.length (vcells vs)) (h2 : w.ownsRow B 9 1 b vs.length (vcells vs)) :
    Calls Tryz.prog 83 #[a, b] w fun e w' => e = .returned (.bool true) ∧ Below w.heap.size w w' := by
  by_cases h0 : vs.length = 0
  · obtain ⟨x, c, rfl⟩ := own_sl' h1
    obtain ⟨y, d, rfl⟩ := own_sl' h2
    rw [h0]
    refine (sameTexts_none c d x y w).mono ?_
    rintro e w' ⟨rfl, rfl⟩
    exact ⟨rfl, Below.refl _ _⟩
  · obtain ⟨g, c, rfl⟩ := own_some h1 (by omega)
    obtain ⟨k, d, rfl⟩ := own_some h2 (by omega)
    exact sameTexts_some g k vs.length c d (fun i => vs.getD i ⟨#[]⟩) w hl ⟨(h1.lt g rfl).2, (h2.lt k rfl).2⟩ (fun i hi => by rw [h1.cellAt i (by omega)]; exact vcells_get vs i hi) (fun i hi => by rw [h2.cellAt i (by omega)]; exact vcells_get vs i hi)

theorem sameSlips_rows (l : List (Nat × Nat × Nat)) (a b : Value) (A B : Nat) (w : World) (hl : l.length ≤ 3000) (h1 : w.ownsRow A 45 3 a l.length (scells l)) (h2 : w.ownsRow B 45 3 b l.length (scells l)) :
    Calls Tryz.prog 74 #[a, b] w fun e w' => e = .returned (.bool true) ∧ Below w.heap.size w w' := by
  by_cases h0 : l.length = 0
  · obtain ⟨x, c, rfl⟩ := own_sl' h1
    obtain ⟨y, d, rfl⟩ := own_sl' h2
    rw [h0]
    refine (sameSlips_none c d x y w).mono ?_
    rintro e w' ⟨rfl, rfl⟩
    exact ⟨rfl, Below.refl _ _⟩
  · obtain ⟨g, c, rfl⟩ := own_some h1 (by omega)
    obtain ⟨k, d, rfl⟩ := own_some h2 (by omega)
    refine sameSlips_some g k l.length c d (fun i => l.getD i (0, 0, 0)) w hl ⟨(h1.lt g rfl).2, (h2.lt k rfl).2⟩ (fun i hi => ?_) (fun i hi => ?_)
    · have h := scells_get l i hi
      exact ⟨by rw [h1.cellAt _ (by omega)]; exact h.1, by rw [h1.cellAt _ (by omega)]; exact h.2.1, by rw [h1.cellAt _ (by omega)]; exact h.2.2⟩
    · have h := scells_get l i hi
      exact ⟨by rw [h2.cellAt _ (by omega)]; exact h.1, by rw [h2.cellAt _ (by omega)]; exact h.2.1, by rw [h2.cellAt _ (by omega)]; exact h.2.2⟩

/-- A book that was laid since w0, and all that is older as it was. -/
structure Inv (w0 w : World) (T : Nat → Nat) (bp n : Nat) (ls ln : Value) (ks kn : Nat) (xs xn : List Value) : Prop where
  book : BookAt w T bp n ls ln ks kn xs xn
  old : Below w0.heap.size w0 w
  zero : ∀ b, b < w0.heap.size → T b = 0
  ml : Ml w0

variable {w0 : World} {T T' : Nat → Nat} {bp n ks kn : Nat} {ls ln : Value} {xs xn : List Value}

theorem Inv.below (h : Inv w0 w T bp n ls ln ks kn xs xn) (hb : Below w.heap.size w w') (hT : ∀ b, b < w.heap.size → T' b = T b) : Inv w0 w' T' bp n ls ln ks kn xs xn :=
  ⟨h.book.below hb hT, h.old.trans (hb.mono h.old.size), fun b hb' => by rw [hT b (Nat.lt_of_lt_of_le hb' h.old.size)]; exact h.zero b hb', h.ml⟩

/-- New blocks bear the tag 5. -/
def fresh (w : World) (T : Nat → Nat) (b : Nat) : Nat := if b < w.heap.size then T b else 5

theorem fresh_old {b : Nat} (h : b < w.heap.size) : fresh w T b = T b := if_pos h
theorem fresh_new {b : Nat} (h : w.heap.size ≤ b) : fresh w T b = 5 := if_neg (by omega)

theorem Inv.names {v ln' gv : Value} {ys : List Value} {mj : Nat} (h : Inv w0 w T bp n ls ln ks kn xs xn) (hv : ∀ b, v.ownBlock = some b → T b = 5)
    (tk : Tk 141 9 4 nameEl ((n + 1 : Nat) : Int) w bp kn (fun f => if f = 0 then .int .i64 ((n + 1 : Nat) : Int) else bkF n ls ln f) ln v xn 4 ys ln' gv mj w') :
    Inv w0 w' (tagOf w T v ln' 3) bp (n + 1) ls ln' ks (kn + 4) xs (xn ++ ys) := by
  have hz := h.zero
  refine ⟨h.book.names hv tk, ?_, fun b hb => ?_, h.ml⟩
  · refine ⟨tk.turn.os.trans h.old.os, tk.turn.tape.trans h.old.tape, tk.turn.output.trans h.old.output, Nat.le_trans h.old.size tk.turn.size, fun b hb => ?_⟩
    rw [tk.turn.block b (Nat.lt_of_lt_of_le hb h.old.size) ?_]
    · exact h.old.block b hb
    · have h0 := hz b hb
      rintro (e | e | e)
      · rw [e, h.book.t1] at h0; cases h0
      · rw [h.book.t3 b e] at h0; cases h0
      · rw [hv b e] at h0; cases h0
  · rw [tagOf_old (Nat.lt_of_lt_of_le hb h.old.size) (fun e => by have h0 := hz b hb; rw [hv b e] at h0; cases h0)]
    exact hz b hb

theorem Inv.slips {v ls' gv : Value} {ys : List Value} {mj : Nat} (h : Inv w0 w T bp n ls ln ks kn xs xn) (hv : ∀ b, v.ownBlock = some b → T b = 5)
    (tk : Tk 139 45 3 slipEl ((n + 1 : Nat) : Int) w bp ks (fun f => if f = 0 then .int .i64 ((n + 1 : Nat) : Int) else bkF n ls ln f) ls v xs 4 ys ls' gv mj w') :
    Inv w0 w' (tagOf w T v ls' 2) bp (n + 1) ls' ln (ks + 4) kn (xs ++ ys) xn := by
  have hz := h.zero
  refine ⟨h.book.slips hv tk, ?_, fun b hb => ?_, h.ml⟩
  · refine ⟨tk.turn.os.trans h.old.os, tk.turn.tape.trans h.old.tape, tk.turn.output.trans h.old.output, Nat.le_trans h.old.size tk.turn.size, fun b hb => ?_⟩
    rw [tk.turn.block b (Nat.lt_of_lt_of_le hb h.old.size) ?_]
    · exact h.old.block b hb
    · have h0 := hz b hb
      rintro (e | e | e)
      · rw [e, h.book.t1] at h0; cases h0
      · rw [h.book.t2 b e] at h0; cases h0
      · rw [hv b e] at h0; cases h0
  · rw [tagOf_old (Nat.lt_of_lt_of_le hb h.old.size) (fun e => by have h0 := hz b hb; rw [hv b e] at h0; cases h0)]
    exact hz b hb

/-- takeNames, at a book. -/
theorem namesAt {v : Value} {m : Nat} {ys : List Value} (h : Inv w0 w T bp n ls ln ks kn xs xn) (hv : ∀ b, v.ownBlock = some b → T b = 5) (hown : w.ownsRow 0 9 1 v m ys) (hm : m ≤ 2900) (hk : kn ≤ 1000) (hn : n ≤ 8) :
    Calls Tryz.prog 84 #[.pointer (some ⟨bp, 0, none⟩), v] w fun e w' => e = .returned (.tuple #[]) ∧ ∃ ln' xn', Inv w0 w' (tagOf w T v ln' 3) bp (n + 1) ls ln' ks (kn + 4) xs xn' ∧ Turn (fun b => T b = 1 ∨ T b = 3 ∨ v.ownBlock = some b) w w' := by
  have hob : ValsAt w bp 5 (fun f => if f = 4 then ln else if f = 0 then .int .i64 n else bkF n ls ln f) := h.book.obj.ext fun f _ => by
    unfold bkF
    by_cases e4 : f = 4
    · subst e4; rfl
    · by_cases e0 : f = 0
      · subst e0; rfl
      · simp [e4, e0]
  have ht3 := h.book.t3
  have ht1 := h.book.t1
  refine (takeNames_any bp kn m n (bkF n ls ln) ln v xn ys w hob h.book.rn hown hm hk hn ⟨fun e => by have := ht3 bp e; omega, fun e => by have := hv bp e; omega, fun b e e2 => by have h1 := ht3 b e; have h2 := hv b e2; omega⟩).mono ?_
  rintro e w' ⟨rfl, ys', ln', gv, tk⟩
  refine ⟨rfl, ln', _, h.names hv tk, tk.turn.mono fun b _ e => ?_⟩
  rcases e with e | e | e
  · exact Or.inl (by rw [e]; exact ht1)
  · exact Or.inr (Or.inl (ht3 b e))
  · exact Or.inr (Or.inr e)

/-- takeSlips, at a book. -/
theorem slipsAt {v : Value} {m : Nat} {ys : List Value} (h : Inv w0 w T bp n ls ln ks kn xs xn) (hv : ∀ b, v.ownBlock = some b → T b = 5) (hown : w.ownsRow 0 45 3 v m ys) (hm : m ≤ 2900) (hk : ks ≤ 1000) (hn : n ≤ 8) :
    Calls Tryz.prog 77 #[.pointer (some ⟨bp, 0, none⟩), v] w fun e w' => e = .returned (.tuple #[]) ∧ ∃ ls' xs', Inv w0 w' (tagOf w T v ls' 2) bp (n + 1) ls' ln (ks + 4) kn xs' xn := by
  have hob : ValsAt w bp 5 (fun f => if f = 3 then ls else if f = 0 then .int .i64 n else bkF n ls ln f) := h.book.obj.ext fun f _ => by
    unfold bkF
    by_cases e3 : f = 3
    · subst e3; rfl
    · by_cases e0 : f = 0
      · subst e0; rfl
      · simp [e3, e0]
  have ht2 := h.book.t2
  have ht1 := h.book.t1
  refine (takeSlips_any bp ks m n (bkF n ls ln) ls v xs ys w hob h.book.rs hown hm hk hn ⟨fun e => by have := ht2 bp e; omega, fun e => by have := hv bp e; omega, fun b e e2 => by have h1 := ht2 b e; have h2 := hv b e2; omega⟩).mono ?_
  rintro e w' ⟨rfl, ys', ls', gv, tk⟩
  exact ⟨rfl, ls', _, h.slips hv tk⟩

end Bk
end Go.Proofs.YtelmkfkgpnadnaaGreatDoor

namespace Go.Proofs.YtelmkfkgpnadnaaGreatDoor
open Go.RowKit
namespace Bk

variable {w w' w0 : World} {T : Nat → Nat} {bp n ks kn : Nat} {ls ln : Value} {xs xn : List Value}

set_option maxRecDepth 100000 in
set_option maxHeartbeats 2000000 in
theorem list_any (s : ByteArray) (h : Inv w0 w T bp n ls ln ks kn xs xn) (hks : ks ≤ 900) (hkn : kn ≤ 900) (hn : n ≤ 7) :
    Calls Tryz.prog 49 #[.pointer (some ⟨bp, 0, none⟩), .string s] w fun e w' => e = .returned (.bool true) ∧ ∃ T' ls' ln' xs' xn', Inv w0 w' T' bp (n + 2) ls' ln' (ks + 4) (kn + 4) xs' xn' := by
  have HI : Hid (Inv w0 w T bp n ls ln ks kn xs xn) := h
  have kp := progIndex s w (h.ml.below h.old)
  have kd := fun W => docIndex s W
  clear h
  generalize ixVers s = vs at *
  generalize ixSlips s = sl at *
  go_enter Tryz.func49, Tryz.ntmps49
  go_wp2_with (go_at_call 81; fail)
  go_at_call 81
  refine kp.mono ?_
  rintro e w1 ⟨ov, sv, rfl, ho1, hb1⟩
  clear kp
  have HO1 : Hid (Out w.heap.size vs sl w1 ov sv) := ho1
  have HB1 : Hid (Below w.heap.size w w1) := hb1
  clear ho1 hb1
  go_wp2_with (go_at_call 82; fail)
  go_at_call 82
  refine (kd _).mono ?_
  rintro e w2 ⟨ov2, sv2, rfl, ho2, hb2⟩
  clear kd
  have HO2 : Hid (Out w1.heap.size vs sl w2 ov2 sv2) := ho2
  have HB2 : Hid (Below w1.heap.size w1 w2) := hb2
  clear ho2 hb2
  obtain ⟨q1, q2, q3, q4, q5, q6⟩ := HO1.out
  have q5' := own_of_block q5 (fun b e => HB2.out.block b (q5.lt b e).2)
  have q6' := own_of_block q6 (fun b e => HB2.out.block b (q6.lt b e).2)
  have kt := sameTexts_rows vs ov ov2 _ _ w2 (by omega) q5' HO2.out.2.2.2.2.1
  have ks' : ∀ W, Below w2.heap.size w2 W → Calls Tryz.prog 74 #[sv, sv2] W fun e w' => e = .returned (.bool true) ∧ Below W.heap.size W w' := fun W hb => sameSlips_rows sl sv sv2 _ _ W (by omega) (own_of_block q6' (fun b e => hb.block b (q6'.lt b e).2)) (own_of_block HO2.out.2.2.2.2.2 (fun b e => hb.block b (HO2.out.2.2.2.2.2.lt b e).2))
  have HQ : Hid (vs.length ≤ 2001 ∧ sl.length ≤ 2001 ∧ (sl ≠ [] → ov = .slice none 0 0) ∧ (sl = [] → sv = .slice none 0 0) ∧ w2.ownsRow w.heap.size 9 1 ov vs.length (vcells vs) ∧ w2.ownsRow w.heap.size 45 3 sv sl.length (scells sl)) := ⟨q1, q2, q3, q4, q5', q6'⟩
  clear q1 q2 q3 q4 q5 q6 q5' q6'
  obtain ⟨oa, oc, hov⟩ := own_sl' HQ.out.2.2.2.2.1
  obtain ⟨sa, sc, hsv⟩ := own_sl' HQ.out.2.2.2.2.2
  obtain ⟨oa2, oc2, hov2⟩ := own_sl' HO2.out.2.2.2.2.1
  obtain ⟨sa2, sc2, hsv2⟩ := own_sl' HO2.out.2.2.2.2.2
  subst hov hsv hov2 hsv2
  clear HO1 HO2
  go_wp2_with (go_at_call 83; fail)
  go_at_call 83
  refine kt.mono ?_
  rintro e w3 ⟨rfl, hb3⟩
  have ks' := ks' w3 hb3
  go_wp2_with (go_at_call 74; fail)
  go_at_call 74
  refine ks'.mono ?_
  rintro e w4 ⟨rfl, hb4⟩
  have HB4 : Hid (Below w.heap.size w w4 ∧ Below w2.heap.size w2 w4) := by
    have h24 := hb3.trans (hb4.mono hb3.size)
    exact ⟨(HB1.out.trans (HB2.out.mono HB1.out.size)).trans (h24.mono (Nat.le_trans HB1.out.size HB2.out.size)), h24⟩
  clear ks' kt hb3 hb4
  have hI4 : Inv w0 w4 (fresh w T) bp n ls ln ks kn xs xn := HI.out.below HB4.out.1 (fun b hb => fresh_old hb)
  have ho4 := own_of_block HQ.out.2.2.2.2.1 (fun b e => HB4.out.2.block b (HQ.out.2.2.2.2.1.lt b e).2)
  have hs4 := own_of_block HQ.out.2.2.2.2.2 (fun b e => HB4.out.2.block b (HQ.out.2.2.2.2.2.lt b e).2)
  have hfo : ∀ b, (Value.slice oa vs.length oc).ownBlock = some b → fresh w T b = 5 := fun b e => fresh_new (ho4.lt b e).1
  have hfs : ∀ b, (Value.slice sa sl.length sc).ownBlock = some b → fresh w T b = 5 := fun b e => fresh_new (hs4.lt b e).1
  have kn' := namesAt hI4 hfo (own_base0 ho4) (by have := HQ.out.1; omega) (by omega) (by omega)
  have HX : Hid (∀ ln' xn' w5, Inv w0 w5 (tagOf w4 (fresh w T) (.slice oa vs.length oc) ln' 3) bp (n + 1) ls ln' ks (kn + 4) xs xn' → Turn (fun b => fresh w T b = 1 ∨ fresh w T b = 3 ∨ (Value.slice oa vs.length oc).ownBlock = some b) w4 w5 →
      Calls Tryz.prog 77 #[.pointer (some ⟨bp, 0, none⟩), .slice sa sl.length sc] w5 fun e w' => e = .returned (.tuple #[]) ∧ ∃ T' ls' xs', Inv w0 w' T' bp (n + 1 + 1) ls' ln' (ks + 4) (kn + 4) xs' xn') := fun ln' xn' w5 hI5 ht5 => by
    have hno : ∀ b, (Value.slice sa sl.length sc).ownBlock = some b → (Value.slice oa vs.length oc).ownBlock ≠ some b := fun b e e2 => by
      by_cases hsl : sl = []
      · rw [HQ.out.2.2.2.1 hsl] at e; cases e
      · rw [HQ.out.2.2.1 hsl] at e2; cases e2
    have hs5 := own_of_block hs4 (fun b e => ht5.block b (hs4.lt b e).2 (fun h => by
      have h5 := hfs b e
      rcases h with h | h | h
      · omega
      · omega
      · exact hno b e h))
    refine (slipsAt hI5 (fun b e => ?_) (own_base0 hs5) (by have := HQ.out.2.1; omega) (by omega) (by omega)).mono ?_
    · rw [tagOf_old (hs4.lt b e).2 (hno b e)]; exact hfs b e
    · rintro e w' ⟨rfl, ls', xs', hI⟩
      exact ⟨rfl, _, ls', xs', hI⟩
  clear hI4 ho4 hs4 hfo hfs
  have hnil : sl ≠ [] → oa = none ∧ vs = [] ∧ oc = 0 := fun h => by
    have := HQ.out.2.2.1 h
    injection this with e1 e2 e3
    exact ⟨e1, List.length_eq_zero_iff.1 e2, e3⟩
  by_cases hsl : sl = []
  · subst hsl
    have hq0 : ((([] : List (Nat × Nat × Nat)).length : Int) == 0) = true := by simp
    clear hnil
    go_wp2_with (go_at_call 84; fail)
    go_at_call 84
    refine kn'.mono ?_
    rintro e w5 ⟨rfl, ln', xn', hI5, ht5⟩
    have kx := HX.out ln' xn' w5 hI5 ht5
    clear kn' hI5 ht5 HX
    go_wp2_with (go_at_call 77; fail)
    go_at_call 77
    refine kx.mono ?_
    rintro e w6 ⟨rfl, T', ls', xs', hI6⟩
    clear kx
    have HI6 : Hid (Inv w0 w6 T' bp (n + 1 + 1) ls' ln' (ks + 4) (kn + 4) xs' xn') := hI6
    clear hI6
    go_wp2
    go_ret
    exact ⟨rfl, T', ls', ln', xs', xn', HI6.out⟩
  · obtain ⟨hoa, hvs, hoc⟩ := hnil hsl
    subst hoa hvs hoc
    have hbe : ∀ W, (binOp BinOp.eql 33 (.slice none 0 0) (.slice none 0 0)).run Tryz.prog W = .ok (.bool true) W := fun W => by kernel_rfl
    rw [List.length_nil] at kn' HX ⊢
    have hpos : 0 < sl.length := List.length_pos_iff.2 hsl
    have hq0 : ((sl.length : Int) == 0) = false := by rw [beq_eq_false_iff_ne]; omega
    clear hnil hsl
    go_wp2_with (go_at_call 84; fail)
    go_at_call 84
    refine kn'.mono ?_
    rintro e w5 ⟨rfl, ln', xn', hI5, ht5⟩
    have kx := HX.out ln' xn' w5 hI5 ht5
    clear kn' hI5 ht5 HX
    go_wp2_with (go_at_call 77; fail)
    go_at_call 77
    refine kx.mono ?_
    rintro e w6 ⟨rfl, T', ls', xs', hI6⟩
    clear kx
    have HI6 : Hid (Inv w0 w6 T' bp (n + 1 + 1) ls' ln' (ks + 4) (kn + 4) xs' xn') := hI6
    clear hI6
    go_wp2
    go_ret
    exact ⟨rfl, T', ls', ln', xs', xn', HI6.out⟩

end Bk
end Go.Proofs.YtelmkfkgpnadnaaGreatDoor

namespace Go.Proofs.YtelmkfkgpnadnaaGreatDoor
open Go.RowKit
namespace Bk

variable {w w' : World}

theorem inv_start (w : World) (hm : Ml w) : Inv w (w.alloc (.cells #[.int .i64 0, .slice none 0 0, .slice none 0 0, .slice none 0 0, .slice none 0 0] 100)) (fun b => if b = w.heap.size then 1 else 0) w.heap.size 0 (.slice none 0 0) (.slice none 0 0) 0 0 [] [] := by
  have b0 := new_block w (.cells #[.int .i64 0, .slice none 0 0, .slice none 0 0, .slice none 0 0, .slice none 0 0] 100)
  refine ⟨⟨⟨fun j hj => ?_, fun j hj => ?_⟩, if_pos rfl, World.ownsRow_nil _ _ _ _, fun b e => ?_, World.ownsRow_nil _ _ _ _, fun b e => ?_, fun j hj => by omega, fun j hj => by omega, by simp⟩, (Below.refl _ _).alloc (Nat.le_refl _) _, fun b hb => if_neg (by omega), hm⟩
  · simp only [World.cell?, b0]
    rcases (by omega : j = 0 ∨ j = 1 ∨ j = 2 ∨ j = 3 ∨ j = 4) with e | e | e | e | e <;> rw [e] <;> rfl
  · simp only [World.frozen?, b0]; simp
  · cases e
  · cases e

set_option maxRecDepth 100000 in
set_option maxHeartbeats 2000000 in
theorem index_any (s : ByteArray) (w : World) (hm : Ml w) : Calls Tryz.prog 13 #[.string s] w fun e w' => e = .returned (.bool true) ∧ Below w.heap.size w w' := by
  have HI0 : Hid (Inv w (w.alloc (.cells #[.int .i64 0, .slice none 0 0, .slice none 0 0, .slice none 0 0, .slice none 0 0] 100)) (fun b => if b = w.heap.size then 1 else 0) w.heap.size 0 (.slice none 0 0) (.slice none 0 0) 0 0 [] []) := inv_start w hm
  clear hm
  go_enter Tryz.func13, Tryz.ntmps13
  go_wp2_with (go_at_call 49; fail)
  go_at_call 49
  refine (list_any s HI0.out (by omega) (by omega) (by omega)).mono ?_
  rintro e w1 ⟨rfl, T1, ls1, ln1, xs1, xn1, hI1⟩
  have HI1 : Hid (Inv w w1 T1 w.heap.size 2 ls1 ln1 4 4 xs1 xn1) := hI1
  clear hI1 HI0
  go_wp2_with (go_at_call 49; fail)
  go_at_call 49
  refine (list_any _ HI1.out (by omega) (by omega) (by omega)).mono ?_
  rintro e w2 ⟨rfl, T2, ls2, ln2, xs2, xn2, hI2⟩
  have HI2 : Hid (Inv w w2 T2 w.heap.size 4 ls2 ln2 8 8 xs2 xn2) := hI2
  clear hI2 HI1
  go_wp2_with (go_at_call 49; fail)
  go_at_call 49
  refine (list_any _ HI2.out (by omega) (by omega) (by omega)).mono ?_
  rintro e w3 ⟨rfl, T3, ls3, ln3, xs3, xn3, hI3⟩
  have HI3 : Hid (Inv w w3 T3 w.heap.size 6 ls3 ln3 12 12 xs3 xn3) := hI3
  clear hI3 HI2
  go_wp2_with (go_at_call 49; fail)
  go_at_call 49
  refine (list_any _ HI3.out (by omega) (by omega) (by omega)).mono ?_
  rintro e w4 ⟨rfl, T4, ls4, ln4, xs4, xn4, hI4⟩
  have HI4 : Hid (Inv w w4 T4 w.heap.size 8 ls4 ln4 16 16 xs4 xn4) := hI4
  clear hI4 HI3
  go_wp2_with (go_at_call 45; fail)
  go_at_call 45
  refine (looks_any T4 w.heap.size 8 16 16 ls4 ln4 xs4 xn4 w4 HI4.out.book (by omega) (by omega)).mono ?_
  rintro e w5 ⟨rfl, hb5⟩
  have HB : Hid (Below w.heap.size w w5) := HI4.out.old.trans (hb5.mono HI4.out.old.size)
  clear hb5 HI4
  go_wp2
  go_ret
  exact ⟨rfl, HB.out⟩

set_option maxRecDepth 100000 in
set_option maxHeartbeats 2000000 in
theorem indexes_any (s : ByteArray) (w : World) (hm : Ml w) : Calls Tryz.prog 5 #[.string s] w fun e w' => e = .returned (.bool true) ∧ Below w.heap.size w w' := by
  have k1 := fun s => index_any s w hm
  have k2 : ∀ W, Below w.heap.size w W → Calls Tryz.prog 13 #[.string s] W fun e w' => e = .returned (.bool true) ∧ Below W.heap.size W w' := fun W hb => index_any s W (hm.below hb)
  clear hm
  go_enter Tryz.func5, Tryz.ntmps5
  go_wp2_with (go_at_call 13; fail)
  go_at_call 13
  refine (k1 _).mono ?_
  rintro e w1 ⟨rfl, hb1⟩
  have k3 := k2 w1 hb1
  go_wp2_with (go_at_call 13; fail)
  go_at_call 13
  refine k3.mono ?_
  rintro e w2 ⟨rfl, hb2⟩
  have hb : Below w.heap.size w w2 := hb1.trans (hb2.mono hb1.size)
  clear k1 k2 k3 hb1 hb2
  go_wp2
  go_ret
  exact ⟨rfl, hb⟩

end Bk
end Go.Proofs.YtelmkfkgpnadnaaGreatDoor
