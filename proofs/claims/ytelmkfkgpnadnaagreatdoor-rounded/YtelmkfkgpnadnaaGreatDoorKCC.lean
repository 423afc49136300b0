/-
  The program's lines of a manifest's text.
  The program's text of a manifest.
  The program's Format.
-/
import Derived.Test.YtelmkfkgpnadnaaGreatDoorKCB
import Derived.Test.YtelmkfkgpnadnaaGreatDoorKShelf3
namespace Go.Proofs.YtelmkfkgpnadnaaGreatDoor
open Go.RowKit Go.Sort Go.Shelf Go.Lib

/-- A line of words. -/
def lineOf (ws : List ByteArray) : List UInt8 := Lib.join (ws.map (·.data.toList)) [32] ++ [10]

/-- The text so far. -/
abbrev Txt (B b : Nat) (l : List UInt8) (w : World) : Prop := Lib.IsBuilder 158 5 B b (Lib.byteCells l) w

theorem builderAt_below {T e : TypeId} {B b : Nat} {p : Value} {bs : List Value} {w W : World} (h : Lib.BuilderAt T e B b p bs w) (hb : Below w.heap.size w W) : Lib.BuilderAt T e B b p bs W := by
  have hlt := h.lt
  obtain ⟨h1, v, h2, h3, h4⟩ := h
  exact ⟨h1, v, by rw [hb.block b hlt]; exact h2, own_below h3 hb, h4⟩

theorem Txt.below {B b : Nat} {l : List UInt8} {w W : World} (h : Txt B b l w) (hb : Below w.heap.size w W) : Txt B b l W := by
  rcases h with h | h
  · exact Or.inl (builderAt_below h hb)
  · exact Or.inr (builderAt_below h hb)

theorem Txt.lt {B b : Nat} {l : List UInt8} {w : World} (h : Txt B b l w) : B ≤ b ∧ b < w.heap.size := by
  rcases h with h | h
  · exact ⟨h.1, h.lt⟩
  · exact ⟨h.1, h.lt⟩

theorem cells_len (l : List UInt8) : (Lib.byteCells l).length = l.length := by simp [Lib.byteCells]

set_option maxRecDepth 100000 in
set_option maxHeartbeats 2000000 in
theorem writeLine_any (B b bk c : Nat) (l : List UInt8) (xs : List ByteArray) (w : World) (h : Txt B b l w)
    (hcells : ∀ (j : Nat) x, xs[j]? = some x → w.cell? ⟨bk, j, none⟩ = some (.string x)) (hbk : bk < w.heap.size) (hN : xs.length ≤ 10) (hcap : xs.length ≤ c) (hlen : (l ++ lineOf xs).length ≤ 140737488355328) :
    Calls Tryz.prog 88 #[.pointer (some ⟨b, 0, none⟩), .slice (some ⟨bk, 0, none⟩) xs.length c] w fun e w' => e = .returned (.tuple #[]) ∧ Txt B b (l ++ lineOf xs) w' ∧ Below B w w' := by
  have hl : l.length + ((Lib.join (xs.map (·.data.toList)) [32]).length + 1) ≤ 140737488355328 := by simpa [lineOf] using hlen
  have k1 : Calls Tryz.prog 132 #[.slice (some ⟨bk, 0, none⟩) xs.length c, .string ⟨#[32]⟩] w fun e w' => e = .returned (.string ⟨(Lib.join (xs.map (·.data.toList)) [32]).toArray⟩) ∧ Below w.heap.size w w' := Tryz.strings_Join bk 0 c xs ⟨#[32]⟩ w (fun j x hj => by rw [Nat.zero_add]; exact hcells j x hj) hbk (by omega) hcap (by show (Lib.join (xs.map (·.data.toList)) [32]).length ≤ _; omega)
  generalize hJ : Lib.join (xs.map (·.data.toList)) [32] = J at *
  have eL : lineOf xs = J ++ [10] := by unfold lineOf; rw [hJ]
  rw [eL]
  have hlt := h.lt
  have HT : Aside (∀ W, Below w.heap.size w W → Txt B b l W) := fun W hb => h.below hb
  have HB : Hid (B ≤ w.heap.size) := by show _ ≤ _; omega
  have k2 : Aside (∀ W, Below w.heap.size w W → Calls Tryz.prog 131 #[.pointer (some ⟨b, 0, none⟩), .string ⟨J.toArray⟩] W fun e w' => e = .returned (.tuple #[.int .i64 (⟨J.toArray⟩ : ByteArray).size, .nilIface]) ∧ (Txt B b (l ++ J) w' ∧ Below B W w')) := fun W hb => by
    refine (Tryz.writeString B b (Lib.byteCells l) ⟨J.toArray⟩ W (HT.out W hb) (by rw [cells_len]; show l.length + J.toArray.size ≤ _; rw [List.size_toArray]; omega) (Nat.le_trans HB.out hb.size)).mono ?_
    rintro e w' ⟨rfl, h1, h2⟩
    refine ⟨rfl, Or.inr ?_, h2⟩
    rw [Lib.strCells_eq, ← Lib.byteCells_append] at h1
    exact h1
  have k3 : Aside (∀ W, Txt B b (l ++ J) W → Calls Tryz.prog 133 #[.pointer (some ⟨b, 0, none⟩), .int .u8 10] W fun e w' => e = .returned .nilIface ∧ (Txt B b (l ++ (J ++ [10])) w' ∧ Below B W w')) := fun W ht => by
    have hlt := ht.lt
    refine (Tryz.writeByte B b (Lib.byteCells (l ++ J)) 10 W ht (by rw [cells_len, List.length_append]; omega) (by omega)).mono ?_
    rintro e w' ⟨rfl, h1, h2⟩
    refine ⟨rfl, Or.inr ?_, h2⟩
    have e1 : Lib.byteCells (l ++ J) ++ [.int .u8 10] = Lib.byteCells (l ++ (J ++ [10])) := by rw [← List.append_assoc, Lib.byteCells_append (l ++ J)]; rfl
    rw [e1] at h1
    exact h1
  clear h hcells hlen hJ eL
  go_enter Tryz.func88, Tryz.ntmps88
  go_wp2_with (go_at_call 132; fail)
  go_at_call 132
  refine k1.mono ?_
  rintro e w1 ⟨rfl, hb1⟩
  have k2' := k2.out w1 hb1
  have HB1 : Hid (Below B w w1) := hb1.mono HB.out
  clear k1 k2 hb1
  go_wp2_with (go_at_call 131; fail)
  go_at_call 131
  refine k2'.mono ?_
  rintro e w2 ⟨rfl, h2, hb2⟩
  have k3' := k3.out w2 h2
  have HB2 : Hid (Below B w w2) := HB1.out.trans hb2
  clear k2' k3 hb2 h2
  go_wp2_with (go_at_call 133; fail)
  go_at_call 133
  refine k3'.mono ?_
  rintro e w3 ⟨rfl, h3, hb3⟩
  have HF : Hid (Txt B b (l ++ (J ++ [10])) w3 ∧ Below B w w3) := ⟨h3, HB2.out.trans hb3⟩
  clear k3' hb3 h3
  go_wp2
  go_end0
  exact ⟨rfl, HF.out⟩

end Go.Proofs.YtelmkfkgpnadnaaGreatDoor

namespace Go.Proofs.YtelmkfkgpnadnaaGreatDoor
open Go.RowKit Go.Sort Go.Shelf Go.Lib

def wModule : ByteArray := ⟨#[109, 111, 100, 117, 108, 101]⟩
def wRequire : ByteArray := ⟨#[114, 101, 113, 117, 105, 114, 101]⟩
def wExclude : ByteArray := ⟨#[101, 120, 99, 108, 117, 100, 101]⟩
def wReplace : ByteArray := ⟨#[114, 101, 112, 108, 97, 99, 101]⟩
def wArrow : ByteArray := ⟨#[61, 62]⟩

def reqLine (x : Mo) : List UInt8 := lineOf [wRequire, x.1, x.2]
def excLine (x : Mo) : List UInt8 := lineOf [wExclude, x.1, x.2]
def repLine (x : So) : List UInt8 := lineOf [wReplace, x.1, x.2.1, wArrow, x.2.2]

/-- A manifest's text. -/
def fmtOf (p : ByteArray) (R X : List Mo) (S : List So) : List UInt8 := lineOf [wModule, p] ++ R.flatMap reqLine ++ X.flatMap excLine ++ S.flatMap repLine

theorem take_next {α : Type} [Inhabited α] (f : α → List UInt8) (L : List α) (i : Nat) (hi : i < L.length) : (L.take i).flatMap f ++ f L[i]! = (L.take (i + 1)).flatMap f := by
  rw [List.take_add_one, List.flatMap_append, getElem!_pos L i hi, List.getElem?_eq_getElem hi]
  simp

theorem take_le {α : Type} (f : α → List UInt8) (L : List α) (i : Nat) : ((L.take i).flatMap f).length ≤ (L.flatMap f).length := by
  have h : L.flatMap f = (L.take i).flatMap f ++ (L.drop i).flatMap f := by rw [← List.flatMap_append, List.take_append_drop]
  rw [h, List.length_append]
  omega

/-- Inside Format, behind its builder. -/
structure Sf (Wb : World) (B : Nat) (l : List UInt8) (W : World) : Prop where
  b : Below B Wb W
  t : Txt B B l W

variable {Wb W W' : World} {B : Nat} {l : List UInt8}

theorem Sf.lt (h : Sf Wb B l W) : B < W.heap.size := h.t.lt.2

theorem Sf.more (h : Sf Wb B l W) (hb : Below W.heap.size W W') : Sf Wb B l W' :=
  ⟨h.b.trans (hb.mono (by have := h.lt; omega)), h.t.below hb⟩

theorem Sf.line (h : Sf Wb B l W) (xs : List ByteArray) (bk : Nat) (hbk : bk = W.heap.size) (hN : xs.length ≤ 10) (hlen : (l ++ lineOf xs).length ≤ 140737488355328) :
    Calls Tryz.prog 88 #[.pointer (some ⟨B, 0, none⟩), .slice (some ⟨bk, 0, none⟩) xs.length xs.length] (W.alloc (.cells (xs.map Value.string).toArray 9)) fun e w' => e = .returned (.tuple #[]) ∧ Sf Wb B (l ++ lineOf xs) w' := by
  subst hbk
  have hb := (Below.refl W.heap.size W).alloc (Nat.le_refl _) (.cells (xs.map Value.string).toArray 9)
  have h' := h.more hb
  refine (writeLine_any B B W.heap.size xs.length l xs _ h'.t (fun j x hj => ?_) (by simp) hN (Nat.le_refl _) hlen).mono ?_
  · simp only [World.cell?, heap_alloc_new]
    show (xs.map Value.string).toArray[j]? = _
    rw [List.getElem?_toArray, List.getElem?_map, hj]
    rfl
  · rintro e w' ⟨rfl, h1, h2⟩
    exact ⟨rfl, h'.b.trans h2, h1⟩

theorem own_shape' {w : World} {B e s n : Nat} {v : Value} {l : List Value} (h : w.ownsRow B e s v n l) : ∃ a c, v = .slice a n c := by
  rcases h.2 with ⟨h, h0⟩ | ⟨g, c, _, h, _⟩
  · exact ⟨none, 0, by rw [h, h0]⟩
  · exact ⟨_, c, h⟩

/-- A row that lies ahead of the builder. -/
structure Ahead (Wb : World) (B e s : Nat) (v : Value) (n : Nat) (xs : List Value) : Prop where
  o : Wb.ownsRow 0 e s v n xs
  lt : ∀ g, v.ownBlock = some g → g < B

theorem Ahead.cells {e s n c : Nat} {a : Option Addr} {xs : List Value} (h : Ahead Wb B e s (.slice a n c) n xs) (hb : Below B Wb W) (hn : 0 < n) :
    ∃ g, a = some ⟨g, 0, none⟩ ∧ ∀ j, j < n * s → W.cell? ⟨g, j, none⟩ = xs[j]? := by
  have h' : W.ownsRow 0 e s (.slice a n c) n xs := own_of_block h.o (fun k hk => hb.block k (h.lt k hk))
  rcases h'.2 with ⟨hx, _⟩ | ⟨g, c', cur, hx, _⟩
  · injection hx with _ hx; omega
  · injection hx with e1 _ e3
    subst e1
    subst e3
    exact ⟨g, rfl, fun j hj => h'.cellAt j hj⟩

theorem mc_at (L : List Mo) (i : Nat) (hi : i < L.length) : (L.flatMap Sm.mc)[i * 2]? = some (.string L[i]!.1) ∧ (L.flatMap Sm.mc)[i * 2 + 1]? = some (.string L[i]!.2) := by
  constructor
  · rw [Ss.flat_get (enc := Sm.mc) (k := 2) (fun _ => rfl) (by decide) L (i * 2) (by omega), Nat.mul_div_cancel _ (by decide : 0 < 2), Nat.mul_mod_left]
    rfl
  · rw [Ss.flat_get (enc := Sm.mc) (k := 2) (fun _ => rfl) (by decide) L (i * 2 + 1) (by omega), show (i * 2 + 1) / 2 = i by omega, show (i * 2 + 1) % 2 = 1 by omega]
    rfl

theorem sc_at (L : List So) (i : Nat) (hi : i < L.length) : (L.flatMap Sw.mc)[i * 3]? = some (.string L[i]!.1) ∧ (L.flatMap Sw.mc)[i * 3 + 1]? = some (.string L[i]!.2.1) ∧ (L.flatMap Sw.mc)[i * 3 + 2]? = some (.string L[i]!.2.2) := by
  refine ⟨?_, ?_, ?_⟩
  · rw [Ss.flat_get (enc := Sw.mc) (k := 3) (fun _ => rfl) (by decide) L (i * 3) (by omega), Nat.mul_div_cancel _ (by decide : 0 < 3), Nat.mul_mod_left]
    rfl
  · rw [Ss.flat_get (enc := Sw.mc) (k := 3) (fun _ => rfl) (by decide) L (i * 3 + 1) (by omega), show (i * 3 + 1) / 3 = i by omega, show (i * 3 + 1) % 3 = 1 by omega]
    rfl
  · rw [Ss.flat_get (enc := Sw.mc) (k := 3) (fun _ => rfl) (by decide) L (i * 3 + 2) (by omega), show (i * 3 + 2) / 3 = i by omega, show (i * 3 + 2) % 3 = 2 by omega]
    rfl

theorem Ahead.mod {n c : Nat} {a : Option Addr} {L : List Mo} (h : Ahead Wb B 29 2 (.slice a n c) n (L.flatMap Sm.mc)) (hb : Below B Wb W) (i : Nat) (hi : i < n) (hn : n = L.length) :
    ∃ g, a = some ⟨g, 0, none⟩ ∧ W.cell? ⟨g, i * 2, none⟩ = some (.string L[i]!.1) ∧ W.cell? ⟨g, i * 2 + 1, none⟩ = some (.string L[i]!.2) := by
  obtain ⟨g, e, hc⟩ := h.cells hb (by omega)
  obtain ⟨h1, h2⟩ := mc_at L i (by omega)
  exact ⟨g, e, by rw [hc _ (by omega)]; exact h1, by rw [hc _ (by omega)]; exact h2⟩

theorem Ahead.swp {n c : Nat} {a : Option Addr} {L : List So} (h : Ahead Wb B 137 3 (.slice a n c) n (L.flatMap Sw.mc)) (hb : Below B Wb W) (i : Nat) (hi : i < n) (hn : n = L.length) :
    ∃ g, a = some ⟨g, 0, none⟩ ∧ W.cell? ⟨g, i * 3, none⟩ = some (.string L[i]!.1) ∧ W.cell? ⟨g, i * 3 + 1, none⟩ = some (.string L[i]!.2.1) ∧ W.cell? ⟨g, i * 3 + 2, none⟩ = some (.string L[i]!.2.2) := by
  obtain ⟨g, e, hc⟩ := h.cells hb (by omega)
  obtain ⟨h1, h2, h3⟩ := sc_at L i (by omega)
  exact ⟨g, e, by rw [hc _ (by omega)]; exact h1, by rw [hc _ (by omega)]; exact h2, by rw [hc _ (by omega)]; exact h3⟩

end Go.Proofs.YtelmkfkgpnadnaaGreatDoor

namespace Go.Proofs.YtelmkfkgpnadnaaGreatDoor
open Go.RowKit Go.Sort Go.Shelf Go.Lib

theorem vals4 (W : World) (a b c d : Value) (t : TypeId) : ValsAt (W.alloc (.cells #[a, b, c, d] t)) W.heap.size 4 (fun f => if f = 0 then a else if f = 1 then b else if f = 2 then c else d) := by
  refine ⟨fun j hj => ?_, fun j hj => ?_⟩
  · have h4 : j = 0 ∨ j = 1 ∨ j = 2 ∨ j = 3 := by omega
    rcases h4 with rfl | rfl | rfl | rfl <;> simp
  · have h4 : j = 0 ∨ j = 1 ∨ j = 2 ∨ j = 3 := by omega
    rcases h4 with rfl | rfl | rfl | rfl <;> simp

theorem vals4s {W : World} {x : Nat} {f : Nat → Value} (h : ValsAt W x 4 f) (a b c d : Value) : ValsAt ((((W.setCell ⟨x, 0, none⟩ a).setCell ⟨x, 1, none⟩ b).setCell ⟨x, 2, none⟩ c).setCell ⟨x, 3, none⟩ d) x 4 (fun f => if f = 0 then a else if f = 1 then b else if f = 2 then c else d) := by
  refine ((((h.set (p := 0) (by omega) a).set (p := 1) (by omega) b).set (p := 2) (by omega) c).set (p := 3) (by omega) d).ext (fun j hj => ?_)
  have h4 : j = 0 ∨ j = 1 ∨ j = 2 ∨ j = 3 := by omega
  rcases h4 with rfl | rfl | rfl | rfl <;> simp

theorem ahead_of {w1 Wb : World} {B0 e s n : Nat} {v : Value} {xs : List Value} (h : w1.ownsRow B0 e s v n xs) (hk : ∀ k, B0 ≤ k → k < w1.heap.size → Wb.heap[k]? = w1.heap[k]?) : Ahead Wb w1.heap.size e s v n xs :=
  ⟨own_down (own_of_block h (fun k hv => hk k (h.lt k hv).1 (h.lt k hv).2)) (Nat.zero_le _), fun g hg => (h.lt g hg).2⟩

/-- The world behind Format's builder. -/
theorem format_start (w1 : World) (m : Nat) (a b c d : Value) : Sf ((((((w1.setCell ⟨m, 0, none⟩ a).setCell ⟨m, 1, none⟩ b).setCell ⟨m, 2, none⟩ c).setCell ⟨m, 3, none⟩ d).alloc (.cells #[.pointer none, .slice none 0 0] 158))) w1.heap.size [] ((((((w1.setCell ⟨m, 0, none⟩ a).setCell ⟨m, 1, none⟩ b).setCell ⟨m, 2, none⟩ c).setCell ⟨m, 3, none⟩ d).alloc (.cells #[.pointer none, .slice none 0 0] 158))) := by
  refine ⟨Below.refl _ _, Or.inl ⟨Nat.le_refl _, .slice none 0 0, ?_, ⟨rfl, Or.inl ⟨rfl, rfl⟩⟩, by simp [Value.ownBlock]⟩⟩
  have := heap_alloc_new ((((w1.setCell ⟨m, 0, none⟩ a).setCell ⟨m, 1, none⟩ b).setCell ⟨m, 2, none⟩ c).setCell ⟨m, 3, none⟩ d) (.cells #[.pointer none, .slice none 0 0] 158)
  simpa using this

theorem step_line {α : Type} [Inhabited α] (f : α → List UInt8) (l : List UInt8) (L : List α) (N : Nat) (h : (l ++ L.flatMap f).length ≤ N) (i : Nat) (hi : i < L.length) : (l ++ (L.take i).flatMap f ++ f L[i]!).length ≤ N ∧ l ++ (L.take i).flatMap f ++ f L[i]! = l ++ (L.take (i + 1)).flatMap f := by
  have e : l ++ (L.take i).flatMap f ++ f L[i]! = l ++ (L.take (i + 1)).flatMap f := by rw [List.append_assoc, take_next f L i hi]
  refine ⟨?_, e⟩
  rw [e]
  have := take_le f L (i + 1)
  simp only [List.length_append] at h ⊢
  omega

theorem fmt_parts (p : ByteArray) (R X : List Mo) (S : List So) (N : Nat) (h : (fmtOf p R X S).length ≤ N) : (lineOf [wModule, p]).length ≤ N ∧ (lineOf [wModule, p] ++ R.flatMap reqLine).length ≤ N ∧ (lineOf [wModule, p] ++ R.flatMap reqLine ++ X.flatMap excLine).length ≤ N := by
  unfold fmtOf at h
  simp only [List.length_append] at h ⊢
  omega

set_option maxRecDepth 100000 in
set_option maxHeartbeats 4000000 in
theorem format_any (p : ByteArray) (rv xv sv : Value) (R X : List Mo) (S : List So) (w : World) (hm : Dr.Ml w) (hR : R.length ≤ 16777216) (hX : X.length ≤ 16777216) (hS : S.length ≤ 16777216) (hr : Sm.Rd w rv R) (hx : Sm.Rd w xv X) (hs : Sw.Rd w sv S)
    (hlen : (fmtOf p (reqs R) (excs X) (reps S)).length ≤ 140737488355328) :
    Calls Tryz.prog 51 #[.agg #[.string p, rv, xv, sv]] w fun e w' => e = .returned (.string ⟨(fmtOf p (reqs R) (excs X) (reps S)).toArray⟩) ∧ Below w.heap.size w w' := by
  obtain ⟨ra, rn, rc, er⟩ := hr.shape
  obtain ⟨xa, xn, xc, ex⟩ := hx.shape
  obtain ⟨sa, sn, sc, es⟩ := hs.shape
  have hb0 := (Below.refl w.heap.size w).alloc (Nat.le_refl _) (.cells #[.string p, .slice ra rn rc, .slice xa xn xc, .slice sa sn sc] 26)
  have k1 := inOrder_any p rv xv sv R X S (w.alloc (.cells #[.string p, .slice ra rn rc, .slice xa xn xc, .slice sa sn sc] 26)) (Sm.ml_below hm hb0) hR hX hS (hr.below hb0) (hx.below hb0) (hs.below hb0)
  rw [er, ex, es] at k1
  have lr : (reqs R).length = R.length := Ss.insAll_len R
  have lx : (excs X).length = X.length := Ss.insAll_len X
  have ls : (reps S).length = S.length := Ss.insAll_len S
  clear hr hx hs hm
  subst er; subst ex; subst es
  generalize reqs R = R' at *
  generalize excs X = X' at *
  generalize reps S = S' at *
  obtain ⟨nR, hnR⟩ : ∃ n, n = R.length := ⟨_, rfl⟩
  obtain ⟨nX, hnX⟩ : ∃ n, n = X.length := ⟨_, rfl⟩
  obtain ⟨nS, hnS⟩ : ∃ n, n = S.length := ⟨_, rfl⟩
  rw [← hnR] at k1 hR lr
  rw [← hnX] at k1 hX lx
  rw [← hnS] at k1 hS ls
  have LR : Hid (nR = R'.length) := lr.symm
  have LX : Hid (nX = X'.length) := lx.symm
  have LS : Hid (nS = S'.length) := ls.symm
  have HL : Hid ((fmtOf p R' X' S').length ≤ 140737488355328) := hlen
  have HB0 : Hid (Below w.heap.size w (w.alloc (.cells #[.string p, .slice ra rn rc, .slice xa xn xc, .slice sa sn sc] 26))) := hb0
  clear hnR hnX hnS lr lx ls hlen hb0
  obtain ⟨F, hF⟩ : ∃ F, F = fmtOf p R' X' S' := ⟨_, rfl⟩
  have HE : Hid (lineOf [wModule, p] ++ R'.flatMap reqLine ++ X'.flatMap excLine ++ S'.flatMap repLine = F) := hF.symm
  rw [← hF]
  clear hF
  go_enter Tryz.func51, Tryz.ntmps51
  go_wp2_with (go_at_call 87; fail)
  go_at_call 87
  refine k1.mono ?_
  rintro e w1 ⟨rv', xv', sv', rfl, o1, o2, o3, b1⟩
  obtain ⟨ra', rc', e1⟩ := own_shape' o1
  obtain ⟨xa', xc', e2⟩ := own_shape' o2
  obtain ⟨sa', sc', e3⟩ := own_shape' o3
  subst e1; subst e2; subst e3
  have hz1 : w.heap.size < w1.heap.size := by have := b1.size; simp at this; omega
  have v0 : ValsAt w1 w.heap.size 4 (fun f => if f = 0 then .string p else if f = 1 then .slice ra rn rc else if f = 2 then .slice xa xn xc else .slice sa sn sc) := (vals4 w _ _ _ _ 26).of_block (b1.block _ (by simp))
  have v1 := vals4s v0 (.string p) (.slice ra' nR rc') (.slice xa' nX xc') (.slice sa' nS sc')
  have Z0 := format_start w1 w.heap.size (.string p) (.slice ra' nR rc') (.slice xa' nX xc') (.slice sa' nS sc')
  have hkeep : ∀ k, (w.alloc (.cells #[.string p, .slice ra rn rc, .slice xa xn xc, .slice sa sn sc] 26)).heap.size ≤ k → k < w1.heap.size → (((((w1.setCell ⟨w.heap.size, 0, none⟩ (.string p)).setCell ⟨w.heap.size, 1, none⟩ (.slice ra' nR rc')).setCell ⟨w.heap.size, 2, none⟩ (.slice xa' nX xc')).setCell ⟨w.heap.size, 3, none⟩ (.slice sa' nS sc')).alloc (.cells #[.pointer none, .slice none 0 0] 158)).heap[k]? = w1.heap[k]? := fun k h1 h2 => by
    have h1' : w.heap.size + 1 ≤ k := by simpa using h1
    rw [heap_alloc_old _ _ (by simpa using h2), heap_setCell_other _ _ _ _ (by show k ≠ w.heap.size; omega), heap_setCell_other _ _ _ _ (by show k ≠ w.heap.size; omega), heap_setCell_other _ _ _ _ (by show k ≠ w.heap.size; omega), heap_setCell_other _ _ _ _ (by show k ≠ w.heap.size; omega)]
  have A1 := ahead_of o1 hkeep
  have A2 := ahead_of o2 hkeep
  have A3 := ahead_of o3 hkeep
  have HBW : Hid (∀ a b c d o, Below w.heap.size w (((((w1.setCell ⟨w.heap.size, 0, none⟩ a).setCell ⟨w.heap.size, 1, none⟩ b).setCell ⟨w.heap.size, 2, none⟩ c).setCell ⟨w.heap.size, 3, none⟩ d).alloc o)) := fun a b c d o => by
    have hb1 : Below w.heap.size w w1 := HB0.out.trans (b1.mono (by simp))
    exact ((((hb1.setCell (Nat.le_refl _) _).setCell (Nat.le_refl _) _).setCell (Nat.le_refl _) _).setCell (Nat.le_refl _) _).alloc (by simp; omega) _
  obtain ⟨c0, c1, c2, c3⟩ := (⟨v0.at' 0 (by omega), v0.at' 1 (by omega), v0.at' 2 (by omega), v0.at' 3 (by omega)⟩ : _ ∧ _ ∧ _ ∧ _)
  obtain ⟨f0, f1, f2, f3⟩ := (⟨v0.fr 0 (by omega), v0.fr 1 (by omega), v0.fr 2 (by omega), v0.fr 3 (by omega)⟩ : _ ∧ _ ∧ _ ∧ _)
  have V1 : Hid _ := v1
  have Z : Aside _ := Z0
  have AR : Aside _ := A1
  have AX : Aside _ := A2
  have AS : Aside _ := A3
  clear k1 o1 o2 o3 b1 v0 v1 Z0 A1 A2 A3 hkeep HB0
  obtain ⟨P0, P1, P2⟩ := fmt_parts p R' X' S' _ HL.out
  have KM := Z.out.line [wModule, p] (w1.heap.size + 1) (by simp) (by simp) (by rw [List.nil_append]; exact P0)
  have KM' : Aside _ := KM
  have N1 : Hid ((lineOf [wModule, p] ++ R'.flatMap reqLine).length ≤ 140737488355328) := P1
  have N3 : Hid ((lineOf [wModule, p] ++ R'.flatMap reqLine ++ X'.flatMap excLine ++ S'.flatMap repLine).length ≤ 140737488355328) := HL.out
  have N2 : Hid ((lineOf [wModule, p] ++ R'.flatMap reqLine ++ X'.flatMap excLine).length ≤ 140737488355328) := P2
  clear P0 P1 P2 KM Z HL
  go_wp2_with (go_at_call 88; fail)
  go_at_call 88
  refine Calls.mono KM'.out ?_
  rintro e wr0 ⟨rfl, Z0⟩
  have V2 : Hid (ValsAt (((((w1.setCell ⟨w.heap.size, 0, none⟩ (.string p)).setCell ⟨w.heap.size, 1, none⟩ (.slice ra' nR rc')).setCell ⟨w.heap.size, 2, none⟩ (.slice xa' nX xc')).setCell ⟨w.heap.size, 3, none⟩ (.slice sa' nS sc')).alloc (.cells #[.pointer none, .slice none 0 0] 158)) w.heap.size 4 (fun f => if f = 0 then .string p else if f = 1 then .slice ra' nR rc' else if f = 2 then .slice xa' nX xc' else .slice sa' nS sc')) := V1.out.of_block (heap_alloc_old _ _ (by simpa using hz1))
  have HBW2 : Hid (Below w.heap.size w (((((w1.setCell ⟨w.heap.size, 0, none⟩ (.string p)).setCell ⟨w.heap.size, 1, none⟩ (.slice ra' nR rc')).setCell ⟨w.heap.size, 2, none⟩ (.slice xa' nX xc')).setCell ⟨w.heap.size, 3, none⟩ (.slice sa' nS sc')).alloc (.cells #[.pointer none, .slice none 0 0] 158))) := HBW.out _ _ _ _ _
  have ZA : Aside _ := Z0
  clear KM' V1 HBW Z0 c0 c1 c2 c3 f0 f1 f2 f3
  generalize (((((w1.setCell ⟨w.heap.size, 0, none⟩ (.string p)).setCell ⟨w.heap.size, 1, none⟩ (.slice ra' nR rc')).setCell ⟨w.heap.size, 2, none⟩ (.slice xa' nX xc')).setCell ⟨w.heap.size, 3, none⟩ (.slice sa' nS sc')).alloc (.cells #[.pointer none, .slice none 0 0] 158)) = Wb at *
  generalize w1.heap.size = B at *
  rw [List.nil_append] at ZA
  have BX : Hid (∀ W, Below B Wb W → (W.cell? ⟨w.heap.size, 0, none⟩ = some (.string p) ∧ W.cell? ⟨w.heap.size, 1, none⟩ = some (.slice ra' nR rc') ∧ W.cell? ⟨w.heap.size, 2, none⟩ = some (.slice xa' nX xc') ∧ W.cell? ⟨w.heap.size, 3, none⟩ = some (.slice sa' nS sc'))) := fun W hb => by
    have v := V2.out.of_block (hb.block _ hz1)
    exact ⟨v.at' 0 (by omega), v.at' 1 (by omega), v.at' 2 (by omega), v.at' 3 (by omega)⟩
  clear V2
  obtain ⟨z0, z1, z2, z3⟩ := BX.out wr0 ZA.out.b
  go_wp2
  go_loopg [19] nR (fun kx s19 wr => ∃ i : Nat, s19 = .int .i64 i ∧ i ≤ nR ∧ nR - i ≤ kx ∧ Aside (Sf Wb B (lineOf [wModule, p] ++ (R'.take i).flatMap reqLine) wr))
  case atStart => exact ⟨0, rfl, by omega, by omega, by rw [List.take_zero, List.flatMap_nil, List.append_nil]; exact ZA⟩
  case round =>
    clear ZA z0 z1 z2 z3
    obtain ⟨i, rfl, hi, hkx, Z1⟩ := hrel
    by_cases hlt : i < nR
    · have hltI : (i : Int) < (nR : Int) := by omega
      obtain ⟨g, eg, x0, x1⟩ := AR.out.mod Z1.out.b i hlt LR.out
      subst eg
      obtain ⟨q1, q2⟩ := step_line reqLine _ R' _ N1.out i (by have := LR.out; omega)
      have KL : Aside (∀ W, Below wr.heap.size wr W → ∀ bk, bk = W.heap.size → Calls Tryz.prog 88 #[.pointer (some ⟨B, 0, none⟩), .slice (some ⟨bk, 0, none⟩) 3 3] (W.alloc (.cells #[.string wRequire, .string R'[i]!.1, .string R'[i]!.2] 9)) fun e w' => e = .returned (.tuple #[]) ∧ Sf Wb B (lineOf [wModule, p] ++ (R'.take (i + 1)).flatMap reqLine) w') := fun W hb bk hbk => by
        rw [← q2]
        exact (Z1.out.more hb).line [wRequire, R'[i]!.1, R'[i]!.2] bk hbk (by simp) q1
      clear q1 q2 Z1
      generalize R'[i]!.1 = y0 at x0 KL
      generalize R'[i]!.2 = y1 at x1 KL
      go_wp2_with (go_at_call 88; fail)
      go_at_call 88
      refine Calls.mono (KL.out (wr.alloc (.cells #[.string y0, .string y1] 29)) ((Below.refl _ _).alloc (Nat.le_refl _) _) (wr.heap.size + 1) (by simp)) ?_
      rintro e w2 ⟨rfl, Z2⟩
      have ZB : Aside (Sf Wb B (lineOf [wModule, p] ++ (R'.take (i + 1)).flatMap reqLine) w2) := Z2
      clear Z2 KL x0 x1
      go_wp2
      go_roundg (nR - (i + 1))
      case measure => omega
      case rel => exact ⟨i + 1, by go_num, by omega, Nat.le_refl _, ZB⟩
    · have hltI : ¬ ((i : Int) < (nR : Int)) := by omega
      have Z2 : Aside (Sf Wb B (lineOf [wModule, p] ++ R'.flatMap reqLine) wr) := by
        have e1 : R'.take i = R' := List.take_of_length_le (by have := LR.out; omega)
        have := Z1.out
        rw [e1] at this
        exact this
      obtain ⟨z0, z1, z2, z3⟩ := BX.out wr Z2.out.b
      clear Z1 AR LR hkx hi hlt
      go_wp2
      clear hltI
      generalize lineOf [wModule, p] ++ R'.flatMap reqLine = l1 at *
      go_loopg [33] nX (fun kx s33 wr => ∃ i : Nat, s33 = .int .i64 i ∧ i ≤ nX ∧ nX - i ≤ kx ∧ Aside (Sf Wb B (l1 ++ (X'.take i).flatMap excLine) wr))
      case atStart => exact ⟨0, rfl, by omega, by omega, by rw [List.take_zero, List.flatMap_nil, List.append_nil]; exact Z2⟩
      case round =>
        clear Z2 z0 z1 z2 z3
        obtain ⟨i, rfl, hi, hkx, Z1⟩ := hrel
        by_cases hlt : i < nX
        · have hltI : (i : Int) < (nX : Int) := by omega
          obtain ⟨g, eg, x0, x1⟩ := AX.out.mod Z1.out.b i hlt LX.out
          subst eg
          obtain ⟨q1, q2⟩ := step_line excLine _ X' _ N2.out i (by have := LX.out; omega)
          have KL : Aside (∀ W, Below wr.heap.size wr W → ∀ bk, bk = W.heap.size → Calls Tryz.prog 88 #[.pointer (some ⟨B, 0, none⟩), .slice (some ⟨bk, 0, none⟩) 3 3] (W.alloc (.cells #[.string wExclude, .string X'[i]!.1, .string X'[i]!.2] 9)) fun e w' => e = .returned (.tuple #[]) ∧ Sf Wb B (l1 ++ (X'.take (i + 1)).flatMap excLine) w') := fun W hb bk hbk => by
            rw [← q2]
            exact (Z1.out.more hb).line [wExclude, X'[i]!.1, X'[i]!.2] bk hbk (by simp) q1
          clear q1 q2 Z1
          generalize X'[i]!.1 = y0 at x0 KL
          generalize X'[i]!.2 = y1 at x1 KL
          go_wp2_with (go_at_call 88; fail)
          go_at_call 88
          refine Calls.mono (KL.out (wr.alloc (.cells #[.string y0, .string y1] 29)) ((Below.refl _ _).alloc (Nat.le_refl _) _) (wr.heap.size + 1) (by simp)) ?_
          rintro e w2 ⟨rfl, Z2⟩
          have ZB : Aside (Sf Wb B (l1 ++ (X'.take (i + 1)).flatMap excLine) w2) := Z2
          clear Z2 KL x0 x1
          go_wp2
          go_roundg (nX - (i + 1))
          case measure => omega
          case rel => exact ⟨i + 1, by go_num, by omega, Nat.le_refl _, ZB⟩
        · have hltI : ¬ ((i : Int) < (nX : Int)) := by omega
          have Z2 : Aside (Sf Wb B (l1 ++ X'.flatMap excLine) wr) := by
            have e1 : X'.take i = X' := List.take_of_length_le (by have := LX.out; omega)
            have := Z1.out
            rw [e1] at this
            exact this
          obtain ⟨z0, z1, z2, z3⟩ := BX.out wr Z2.out.b
          clear Z1 AX LX hkx hi hlt
          go_wp2
          clear hltI
          generalize l1 ++ X'.flatMap excLine = l2 at *
          go_loopg [47] nS (fun kx s47 wr => ∃ i : Nat, s47 = .int .i64 i ∧ i ≤ nS ∧ nS - i ≤ kx ∧ Aside (Sf Wb B (l2 ++ (S'.take i).flatMap repLine) wr))
          case atStart => exact ⟨0, rfl, by omega, by omega, by rw [List.take_zero, List.flatMap_nil, List.append_nil]; exact Z2⟩
          case round =>
            clear Z2 z0 z1 z2 z3
            obtain ⟨i, rfl, hi, hkx, Z1⟩ := hrel
            by_cases hlt : i < nS
            · have hltI : (i : Int) < (nS : Int) := by omega
              obtain ⟨g, eg, x0, x1, x2⟩ := AS.out.swp Z1.out.b i hlt LS.out
              subst eg
              obtain ⟨q1, q2⟩ := step_line repLine _ S' _ N3.out i (by have := LS.out; omega)
              have KL : Aside (∀ W, Below wr.heap.size wr W → ∀ bk, bk = W.heap.size → Calls Tryz.prog 88 #[.pointer (some ⟨B, 0, none⟩), .slice (some ⟨bk, 0, none⟩) 5 5] (W.alloc (.cells #[.string wReplace, .string S'[i]!.1, .string S'[i]!.2.1, .string wArrow, .string S'[i]!.2.2] 9)) fun e w' => e = .returned (.tuple #[]) ∧ Sf Wb B (l2 ++ (S'.take (i + 1)).flatMap repLine) w') := fun W hb bk hbk => by
                rw [← q2]
                exact (Z1.out.more hb).line [wReplace, S'[i]!.1, S'[i]!.2.1, wArrow, S'[i]!.2.2] bk hbk (by simp) q1
              clear q1 q2 Z1
              generalize S'[i]!.1 = y0 at x0 KL
              generalize S'[i]!.2.1 = y1 at x1 KL
              generalize S'[i]!.2.2 = y2 at x2 KL
              go_wp2_with (go_at_call 88; fail)
              go_at_call 88
              refine Calls.mono (KL.out (wr.alloc (.cells #[.string y0, .string y1, .string y2] 137)) ((Below.refl _ _).alloc (Nat.le_refl _) _) (wr.heap.size + 1) (by simp)) ?_
              rintro e w2 ⟨rfl, Z2⟩
              have ZB : Aside (Sf Wb B (l2 ++ (S'.take (i + 1)).flatMap repLine) w2) := Z2
              clear Z2 KL x0 x1 x2
              go_wp2
              go_roundg (nS - (i + 1))
              case measure => omega
              case rel => exact ⟨i + 1, by go_num, by omega, Nat.le_refl _, ZB⟩
            · have hltI : ¬ ((i : Int) < (nS : Int)) := by omega
              have Z2 : Aside (Sf Wb B (l2 ++ S'.flatMap repLine) wr) := by
                have e1 : S'.take i = S' := List.take_of_length_le (by have := LS.out; omega)
                have := Z1.out
                rw [e1] at this
                exact this
              have KF : Aside _ := Tryz.Builder_String_any B B (l2 ++ S'.flatMap repLine) wr Z2.out.t (by have := Z2.out.lt; omega)
              have HBr : Hid (∀ W, Below B wr W → Below w.heap.size w W) := fun W hb => HBW2.out.trans ((Z2.out.b.trans hb).mono (by omega))
              clear Z1 AS LS hkx hi hlt Z2 N3
              go_wp2_with (go_at_call 89; fail)
              go_at_call 89
              refine Calls.mono KF.out ?_
              rintro e w2 ⟨rfl, hb⟩
              have HB2 : Hid (Below w.heap.size w w2) := HBr.out w2 hb
              clear hb KF HBr
              go_wp2
              go_ret
              exact ⟨by rw [HE.out]; rfl, HB2.out⟩

end Go.Proofs.YtelmkfkgpnadnaaGreatDoor
