/-
  A manifest that is put together: three lists of the call's own, and the block that names them.
  The program's Manifest: what the lines say is put together, and in order.
  The program's Manifest: the walk.
  The program's Manifest, of every text.
-/
import Derived.Test.YtelmkfkgpnadnaaGreatDoorKCE
import Derived.Test.YtelmkfkgpnadnaaGreatDoorKCB
import Derived.Test.YtelmkfkgpnadnaaGreatDoorKQ10
import Derived.Test.YtelmkfkgpnadnaaGreatDoorKXA
namespace Go.Proofs.YtelmkfkgpnadnaaGreatDoor
open Go.RowKit
namespace Mf

variable {w w' W0 W W' : World} {b7 : Nat} {V : Nat → Value} {n : Nat → Nat} {L : Nat → List Value}

theorem results_cell_tmp {P : Program} {fn : Func} {p q : Tmp} {ty : TypeId} (h : fn.results = #[.cell p ty, .tmp q]) (tmps : Array Value) (w : World) (g : Nat) (t : TypeId) (cs : Array Value) (fr : Nat × Nat) (d : TypeDesc) (v : Value)
    (hp : tmps.getD p undef = .pointer (some ⟨g, 0, none⟩)) (hq : tmps.getD q undef = v) (hg : w.heap[g]? = some (.cells cs t fr))
    (hu : P.underlying ty = some d) (hd : (match d with | .struct _ | .array _ _ => true | _ => false) = true) (hi : (P.info? ty).map (·.size) = some cs.size) :
    (results fn tmps).run P w = .ok (.tuple #[.agg cs, v]) w := by
  have hp' : tmps[p]?.getD undef = .pointer (some ⟨g, 0, none⟩) := by simpa using hp
  have hq' : tmps[q]?.getD undef = v := by simpa using hq
  simp [results, h, hp', hq', asAddr, run_loadVar_row w g t ty cs fr d hg hu hd hi]

abbrev ty (i : Nat) : TypeId := if i = 3 then 137 else 29
abbrev sz (i : Nat) : Nat := if i = 3 then 3 else 2

/-- Three lists, and the block that names them. -/
structure Mk (W0 : World) (b7 : Nat) (V : Nat → Value) (n : Nat → Nat) (L : Nat → List Value) (W : World) : Prop where
  b : Below W0.heap.size W0 W
  lt : W0.heap.size ≤ b7 ∧ b7 < W.heap.size
  box : ValsAt W b7 4 V
  own : ∀ i, 1 ≤ i → i ≤ 3 → W.ownsRow (b7 + 1) (ty i) (sz i) (V i) (n i) (L i)
  ne : ∀ i j, 1 ≤ i → i ≤ 3 → 1 ≤ j → j ≤ 3 → i ≠ j → ∀ b, (V i).ownBlock = some b → (V j).ownBlock ≠ some b

theorem Mk.below (h : Mk W0 b7 V n L W) (hb : Below W.heap.size W W') : Mk W0 b7 V n L W' :=
  ⟨h.b.trans (hb.mono h.b.size), ⟨h.lt.1, Nat.lt_of_lt_of_le h.lt.2 hb.size⟩, h.box.of_block (hb.block _ h.lt.2), fun i h1 h3 => own_of_block (h.own i h1 h3) (fun b e => hb.block b ((h.own i h1 h3).lt b e).2), h.ne⟩

theorem own_out {e s m : Nat} {v : Value} {xs : List Value} (h : w.ownsRow (b7 + 1) e s v m xs) (e' : v.ownBlock = some b7) : False := by
  have := (h.lt b7 e').1
  omega

def upd {α : Type} (V : Nat → α) (i : Nat) (v : α) (j : Nat) : α := if j = i then v else V j

/-- One list has turned, and its place is written. -/
theorem Mk.put (h : Mk W0 b7 V n L W) (i : Nat) (h1 : 1 ≤ i) (h3 : i ≤ 3) {v' : Value} {m : Nat} {xs : List Value} (hown : w'.ownsRow (b7 + 1) (ty i) (sz i) v' m xs) (hT : Turn (fun b => (V i).ownBlock = some b) W w') (hat : ∀ b, v'.ownBlock = some b → (V i).ownBlock = some b ∨ W.heap.size ≤ b) :
    Mk W0 b7 (upd V i v') (upd n i m) (upd L i xs) (w'.setCell ⟨b7, i, none⟩ v') := by
  have hk : ∀ k, k ≠ b7 → (w'.setCell ⟨b7, i, none⟩ v').heap[k]? = w'.heap[k]? := fun k hk => Below.heap_setCell _ _ _ _ hk
  have hsz : (w'.setCell ⟨b7, i, none⟩ v').heap.size = w'.heap.size := by simp [World.setCell]
  have hn7 : ¬ ((V i).ownBlock = some b7) := fun e => own_out (h.own i h1 h3) e
  refine ⟨?_, ⟨h.lt.1, by rw [hsz]; exact Nat.lt_of_lt_of_le h.lt.2 hT.size⟩, ?_, fun j j1 j3 => ?_, fun a c a1 a3 c1 c3 hac b e => ?_⟩
  · refine (⟨hT.os.trans h.b.os, hT.tape.trans h.b.tape, hT.output.trans h.b.output, Nat.le_trans h.b.size hT.size, fun k hk => ?_⟩ : Below W0.heap.size W0 w').setCell h.lt.1 _
    rw [hT.block k (Nat.lt_of_lt_of_le hk h.b.size) (fun e => by have := ((h.own i h1 h3).lt k e).1; have := h.lt.1; omega)]
    exact h.b.block k hk
  · exact ((h.box.of_block (hT.block b7 h.lt.2 hn7)).set (p := i) (by omega) v').ext (fun j _ => rfl)
  · unfold upd
    by_cases e : j = i
    · subst e
      simp only [if_pos]
      exact own_of_block hown (fun b e => hk b (fun e2 => by subst e2; exact own_out hown e))
    · simp only [if_neg e]
      refine own_of_block (h.own j j1 j3) (fun b e2 => ?_)
      rw [hk b (fun e3 => by subst e3; exact own_out (h.own j j1 j3) e2)]
      exact hT.block b ((h.own j j1 j3).lt b e2).2 (fun e3 => h.ne j i j1 j3 h1 h3 e b e2 e3)
  · unfold upd at e ⊢
    by_cases ea : a = i
    · subst ea
      simp only [if_pos] at e
      rw [if_neg (fun h => hac h.symm)]
      rcases hat b e with e2 | e2
      · exact h.ne a c a1 a3 c1 c3 hac b e2
      · intro e3
        have := ((h.own c c1 c3).lt b e3).2
        omega
    · rw [if_neg ea] at e
      by_cases ec : c = i
      · subst ec
        simp only [if_pos]
        intro e2
        rcases hat b e2 with e3 | e3
        · exact h.ne a c a1 a3 c1 c3 hac b e e3
        · have := ((h.own a a1 a3).lt b e).2
          omega
      · rw [if_neg ec]
        exact h.ne a c a1 a3 c1 c3 hac b e

/-- Its path is written. -/
theorem Mk.path (h : Mk W0 b7 V n L W) (v : Value) : Mk W0 b7 (upd V 0 v) n L (W.setCell ⟨b7, 0, none⟩ v) := by
  have hk : ∀ k, k ≠ b7 → (W.setCell ⟨b7, 0, none⟩ v).heap[k]? = W.heap[k]? := fun k hk => Below.heap_setCell _ _ _ _ hk
  have hsz : (W.setCell ⟨b7, 0, none⟩ v).heap.size = W.heap.size := by simp [World.setCell]
  have hu : ∀ i, 1 ≤ i → upd V 0 v i = V i := fun i hi => if_neg (by omega)
  refine ⟨h.b.setCell h.lt.1 _, ⟨h.lt.1, by rw [hsz]; exact h.lt.2⟩, (h.box.set (p := 0) (by omega) v).ext (fun j _ => rfl), fun j j1 j3 => ?_, fun a c a1 a3 c1 c3 hac b e => ?_⟩
  · rw [hu j j1]
    exact own_of_block (h.own j j1 j3) (fun b e => hk b (fun e2 => by subst e2; exact own_out (h.own j j1 j3) e))
  · rw [hu c c1]
    rw [hu a a1] at e
    exact h.ne a c a1 a3 c1 c3 hac b e

/-- What lies there at the start. -/
theorem Mk.start (W0 : World) : Mk W0 W0.heap.size (fun f => if f = 0 then .string ⟨#[]⟩ else .slice none 0 0) (fun _ => 0) (fun _ => []) (W0.alloc (.cells #[.string ⟨#[]⟩, .slice none 0 0, .slice none 0 0, .slice none 0 0] 26)) := by
  have b0 := heap_alloc_new W0 (.cells #[.string ⟨#[]⟩, .slice none 0 0, .slice none 0 0, .slice none 0 0] 26)
  refine ⟨(Below.refl _ _).alloc (Nat.le_refl _) _, ⟨Nat.le_refl _, by simp⟩, ⟨fun j hj => ?_, fun j hj => ?_⟩, fun i h1 h3 => ?_, fun a c a1 _ _ _ _ b e => ?_⟩
  · rcases (by omega : j = 0 ∨ j = 1 ∨ j = 2 ∨ j = 3) with rfl | rfl | rfl | rfl <;> simp only [World.cell?, b0] <;> rfl
  · simp only [World.frozen?, b0]; simp
  · simp only [if_neg (by omega : ¬ i = 0)]
    exact World.ownsRow_nil _ _ _ _
  · simp only [if_neg (by omega : ¬ a = 0)] at e
    simp [Value.ownBlock] at e

/-- The four values, by their places. -/
def mv (p : ByteArray) (rv xv sv : Value) (i : Nat) : Value := if i = 0 then .string p else if i = 1 then rv else if i = 2 then xv else sv
def mn (R X : List Mo) (S : List So) (i : Nat) : Nat := if i = 1 then R.length else if i = 2 then X.length else S.length
def mL (R X : List Mo) (S : List So) (i : Nat) : List Value := if i = 1 then mcs R else if i = 2 then mcs X else scs S

theorem Mk.ext {V' : Nat → Value} {n' : Nat → Nat} {L' : Nat → List Value} (h : Mk W0 b7 V n L W) (hV : ∀ i, i < 4 → V i = V' i) (hn : ∀ i, 1 ≤ i → i ≤ 3 → n i = n' i) (hL : ∀ i, 1 ≤ i → i ≤ 3 → L i = L' i) : Mk W0 b7 V' n' L' W :=
  ⟨h.b, h.lt, h.box.ext hV, fun i h1 h3 => by rw [← hV i (by omega), ← hn i h1 h3, ← hL i h1 h3]; exact h.own i h1 h3, fun i j i1 i3 j1 j3 hij b e => by rw [← hV j (by omega)]; rw [← hV i (by omega)] at e; exact h.ne i j i1 i3 j1 j3 hij b e⟩

abbrev Mq (W0 : World) (b7 : Nat) (p : ByteArray) (rv xv sv : Value) (R X : List Mo) (S : List So) (W : World) : Prop := Mk W0 b7 (mv p rv xv sv) (mn R X S) (mL R X S) W

variable {p : ByteArray} {rv xv sv : Value} {R X R' X' : List Mo} {S S' : List So}

theorem Mq.start (W0 : World) : Mq W0 W0.heap.size ⟨#[]⟩ (.slice none 0 0) (.slice none 0 0) (.slice none 0 0) [] [] [] (W0.alloc (.cells #[.string ⟨#[]⟩, .slice none 0 0, .slice none 0 0, .slice none 0 0] 26)) :=
  (Mk.start W0).ext (fun i hi => by rcases (by omega : i = 0 ∨ i = 1 ∨ i = 2 ∨ i = 3) with rfl | rfl | rfl | rfl <;> rfl) (fun i h1 h3 => by rcases (by omega : i = 1 ∨ i = 2 ∨ i = 3) with rfl | rfl | rfl <;> rfl) (fun i h1 h3 => by rcases (by omega : i = 1 ∨ i = 2 ∨ i = 3) with rfl | rfl | rfl <;> rfl)

theorem Mq.path (h : Mq W0 b7 p rv xv sv R X S W) (p' : ByteArray) : Mq W0 b7 p' rv xv sv R X S (W.setCell ⟨b7, 0, none⟩ (.string p')) :=
  (Mk.path h (.string p')).ext (fun i hi => by rcases (by omega : i = 0 ∨ i = 1 ∨ i = 2 ∨ i = 3) with rfl | rfl | rfl | rfl <;> rfl) (fun i h1 h3 => rfl) (fun i h1 h3 => rfl)

theorem Mq.req (h : Mq W0 b7 p rv xv sv R X S W) {v' : Value} (hown : w'.ownsRow (b7 + 1) 29 2 v' R'.length (mcs R')) (hT : Turn (fun b => rv.ownBlock = some b) W w') (hat : ∀ b, v'.ownBlock = some b → rv.ownBlock = some b ∨ W.heap.size ≤ b) : Mq W0 b7 p v' xv sv R' X S (w'.setCell ⟨b7, 1, none⟩ v') :=
  (Mk.put h 1 (by omega) (by omega) (m := R'.length) (xs := mcs R') hown hT hat).ext (fun i hi => by rcases (by omega : i = 0 ∨ i = 1 ∨ i = 2 ∨ i = 3) with rfl | rfl | rfl | rfl <;> rfl) (fun i h1 h3 => by rcases (by omega : i = 1 ∨ i = 2 ∨ i = 3) with rfl | rfl | rfl <;> rfl) (fun i h1 h3 => by rcases (by omega : i = 1 ∨ i = 2 ∨ i = 3) with rfl | rfl | rfl <;> rfl)

theorem Mq.exc (h : Mq W0 b7 p rv xv sv R X S W) {v' : Value} (hown : w'.ownsRow (b7 + 1) 29 2 v' X'.length (mcs X')) (hT : Turn (fun b => xv.ownBlock = some b) W w') (hat : ∀ b, v'.ownBlock = some b → xv.ownBlock = some b ∨ W.heap.size ≤ b) : Mq W0 b7 p rv v' sv R X' S (w'.setCell ⟨b7, 2, none⟩ v') :=
  (Mk.put h 2 (by omega) (by omega) (m := X'.length) (xs := mcs X') hown hT hat).ext (fun i hi => by rcases (by omega : i = 0 ∨ i = 1 ∨ i = 2 ∨ i = 3) with rfl | rfl | rfl | rfl <;> rfl) (fun i h1 h3 => by rcases (by omega : i = 1 ∨ i = 2 ∨ i = 3) with rfl | rfl | rfl <;> rfl) (fun i h1 h3 => by rcases (by omega : i = 1 ∨ i = 2 ∨ i = 3) with rfl | rfl | rfl <;> rfl)

theorem Mq.rep (h : Mq W0 b7 p rv xv sv R X S W) {v' : Value} (hown : w'.ownsRow (b7 + 1) 137 3 v' S'.length (scs S')) (hT : Turn (fun b => sv.ownBlock = some b) W w') (hat : ∀ b, v'.ownBlock = some b → sv.ownBlock = some b ∨ W.heap.size ≤ b) : Mq W0 b7 p rv xv v' R X S' (w'.setCell ⟨b7, 3, none⟩ v') :=
  (Mk.put h 3 (by omega) (by omega) (m := S'.length) (xs := scs S') hown hT hat).ext (fun i hi => by rcases (by omega : i = 0 ∨ i = 1 ∨ i = 2 ∨ i = 3) with rfl | rfl | rfl | rfl <;> rfl) (fun i h1 h3 => by rcases (by omega : i = 1 ∨ i = 2 ∨ i = 3) with rfl | rfl | rfl <;> rfl) (fun i h1 h3 => by rcases (by omega : i = 1 ∨ i = 2 ∨ i = 3) with rfl | rfl | rfl <;> rfl)

theorem Mq.r (h : Mq W0 b7 p rv xv sv R X S W) : W.ownsRow (b7 + 1) 29 2 rv R.length (mcs R) := h.own 1 (by omega) (by omega)
theorem Mq.x (h : Mq W0 b7 p rv xv sv R X S W) : W.ownsRow (b7 + 1) 29 2 xv X.length (mcs X) := h.own 2 (by omega) (by omega)
theorem Mq.s (h : Mq W0 b7 p rv xv sv R X S W) : W.ownsRow (b7 + 1) 137 3 sv S.length (scs S) := h.own 3 (by omega) (by omega)

theorem Mq.cells (h : Mq W0 b7 p rv xv sv R X S W) : (W.cell? ⟨b7, 0, none⟩ = some (.string p) ∧ W.cell? ⟨b7, 1, none⟩ = some rv ∧ W.cell? ⟨b7, 2, none⟩ = some xv ∧ W.cell? ⟨b7, 3, none⟩ = some sv) ∧ (W.frozen? ⟨b7, 0, none⟩ = false ∧ W.frozen? ⟨b7, 1, none⟩ = false ∧ W.frozen? ⟨b7, 2, none⟩ = false ∧ W.frozen? ⟨b7, 3, none⟩ = false) :=
  ⟨⟨h.box.at' 0 (by omega), h.box.at' 1 (by omega), h.box.at' 2 (by omega), h.box.at' 3 (by omega)⟩, h.box.fr 0 (by omega), h.box.fr 1 (by omega), h.box.fr 2 (by omega), h.box.fr 3 (by omega)⟩

/-- What the lines say, as a manifest. -/
structure Mx where
  p : ByteArray
  R : List Mo
  X : List Mo
  S : List So

end Mf
end Go.Proofs.YtelmkfkgpnadnaaGreatDoor

namespace Go.Proofs.YtelmkfkgpnadnaaGreatDoor
open Go.RowKit
namespace Mf

variable {w w' : World}

def mxStep (m : Mx) (s : Sm4) : Mx :=
  if s.1 = bMod then ⟨s.2.1, m.R, m.X, m.S⟩ else if s.1 = bReq then ⟨m.p, m.R ++ [(s.2.1, s.2.2.1)], m.X, m.S⟩ else if s.1 = bExc then ⟨m.p, m.R, m.X ++ [(s.2.1, s.2.2.1)], m.S⟩ else if s.1 = bRep then ⟨m.p, m.R, m.X, m.S ++ [(s.2.1, s.2.2.1, s.2.2.2)]⟩ else m
def mxOf (L : List Sm4) : Mx := L.foldl mxStep ⟨⟨#[]⟩, [], [], []⟩

theorem mxOf_snoc (L : List Sm4) (s : Sm4) : mxOf (L ++ [s]) = mxStep (mxOf L) s := by simp [mxOf, List.foldl_append]

theorem mxOf_len (L : List Sm4) : (mxOf L).R.length ≤ L.length ∧ (mxOf L).X.length ≤ L.length ∧ (mxOf L).S.length ≤ L.length := by
  have gen : ∀ (L : List Sm4) (m : Mx), (L.foldl mxStep m).R.length ≤ m.R.length + L.length ∧ (L.foldl mxStep m).X.length ≤ m.X.length + L.length ∧ (L.foldl mxStep m).S.length ≤ m.S.length + L.length := by
    intro L
    induction L with
    | nil => intro m; simp
    | cons s L ih =>
      intro m
      have h := ih (mxStep m s)
      have hs : (mxStep m s).R.length ≤ m.R.length + 1 ∧ (mxStep m s).X.length ≤ m.X.length + 1 ∧ (mxStep m s).S.length ≤ m.S.length + 1 := by
        unfold mxStep
        split
        · simp
        · split
          · simp
          · split
            · simp
            · split <;> simp
      simp only [List.foldl_cons, List.length_cons]
      omega
  have := gen L ⟨⟨#[]⟩, [], [], []⟩
  simpa [mxOf] using this

theorem stcells_get : ∀ (l : List Sm4) (j : Nat) (h : j < l.length), (stcells l)[j * 4]? = some (.string l[j].1) ∧ (stcells l)[j * 4 + 1]? = some (.string l[j].2.1) ∧ (stcells l)[j * 4 + 2]? = some (.string l[j].2.2.1) ∧ (stcells l)[j * 4 + 3]? = some (.string l[j].2.2.2)
  | x :: r, 0, _ => ⟨rfl, rfl, rfl, rfl⟩
  | x :: r, j + 1, h => by
    have e : stcells (x :: r) = .string x.1 :: .string x.2.1 :: .string x.2.2.1 :: .string x.2.2.2 :: stcells r := rfl
    have ih := stcells_get r j (by simpa using h)
    rw [e]
    refine ⟨?_, ?_, ?_, ?_⟩
    · rw [show (j + 1) * 4 = j * 4 + 1 + 1 + 1 + 1 by omega]; simpa using ih.1
    · rw [show (j + 1) * 4 + 1 = j * 4 + 1 + 1 + 1 + 1 + 1 by omega]; simpa using ih.2.1
    · rw [show (j + 1) * 4 + 2 = j * 4 + 2 + 1 + 1 + 1 + 1 by omega]; simpa using ih.2.2.1
    · rw [show (j + 1) * 4 + 3 = j * 4 + 3 + 1 + 1 + 1 + 1 by omega]; simpa using ih.2.2.2

theorem rd_of_mcs {B : Nat} {v : Value} {L : List Mo} (h : w.ownsRow B 29 2 v L.length (mcs L)) : Sm.Rd w v L := by
  rcases h.2 with ⟨h1, h2⟩ | ⟨g, c, cur, h1, _⟩
  · exact Or.inl ⟨h1, List.eq_nil_of_length_eq_zero h2⟩
  · subst h1
    refine Or.inr ⟨g, 0, c, rfl, fun j u hj => ?_⟩
    have hj2 : j < L.length * 2 := by
      have := (List.getElem?_eq_some_iff.1 hj).1
      rw [Sm.mc_len] at this
      exact this
    rw [Nat.zero_add, h.cellAt j hj2]
    exact hj
theorem rd_of_scs {B : Nat} {v : Value} {L : List So} (h : w.ownsRow B 137 3 v L.length (scs L)) : Sw.Rd w v L := by
  rcases h.2 with ⟨h1, h2⟩ | ⟨g, c, cur, h1, _⟩
  · exact Or.inl ⟨h1, List.eq_nil_of_length_eq_zero h2⟩
  · subst h1
    refine Or.inr ⟨g, 0, c, rfl, fun j u hj => ?_⟩
    have hj2 : j < L.length * 3 := by
      have := (List.getElem?_eq_some_iff.1 hj).1
      rw [Sw.mc_len] at this
      exact this
    rw [Nat.zero_add, h.cellAt j hj2]
    exact hj

theorem rd_new (W : World) : ValsAt (W.alloc (.cells #[.func (.func 85) #[] #[], .string bMod, .int .i64 0, .int .i64 0, .map none, .slice none 0 0] 151)) W.heap.size 6 rdF := by
  have b0 := block_new W (.cells #[.func (.func 85) #[] #[], .string bMod, .int .i64 0, .int .i64 0, .map none, .slice none 0 0] 151)
  refine ⟨fun j hj => ?_, fun j hj => ?_⟩
  · simp only [World.cell?, b0]
    rcases (by omega : j = 0 ∨ j = 1 ∨ j = 2 ∨ j = 3 ∨ j = 4 ∨ j = 5) with e | e | e | e | e | e <;> rw [e] <;> rfl
  · simp only [World.frozen?, b0]; simp

abbrev zM : Array Value := #[.string ⟨#[]⟩, .slice none 0 0, .slice none 0 0, .slice none 0 0]

end Mf
end Go.Proofs.YtelmkfkgpnadnaaGreatDoor

namespace Go.Proofs.YtelmkfkgpnadnaaGreatDoor
open Go.RowKit
namespace Mf

variable {w w' : World}

theorem wholeM {W : World} {r : Nat} (h : W.heap[r]? = some (.cells zM 26)) (a b c d : Value) : ((((W.setCell ⟨r, 0, none⟩ a).setCell ⟨r, 1, none⟩ b).setCell ⟨r, 2, none⟩ c).setCell ⟨r, 3, none⟩ d).heap[r]? = some (.cells #[a, b, c, d] 26) := by
  have h1 := heap_setCell_same _ _ 0 _ _ a h
  have h2 := heap_setCell_same _ _ 1 _ _ b h1
  have h3 := heap_setCell_same _ _ 2 _ _ c h2
  exact heap_setCell_same _ _ 3 _ _ d h3

/-- The result's block is written, nothing else. -/
theorem four_below {W : World} {r : Nat} (hb : Below w.heap.size w W) (hr : w.heap.size ≤ r) (a b c d : Value) : Below w.heap.size w ((((W.setCell ⟨r, 0, none⟩ a).setCell ⟨r, 1, none⟩ b).setCell ⟨r, 2, none⟩ c).setCell ⟨r, 3, none⟩ d) := (((hb.setCell hr _).setCell hr _).setCell hr _).setCell hr _

theorem four_own {W : World} {r B e s n : Nat} {v : Value} {l : List Value} (h : W.ownsRow B e s v n l) (hr : r < B) (a b c d : Value) : ((((W.setCell ⟨r, 0, none⟩ a).setCell ⟨r, 1, none⟩ b).setCell ⟨r, 2, none⟩ c).setCell ⟨r, 3, none⟩ d).ownsRow B e s v n l := own_poke (own_poke (own_poke (own_poke h _ hr) _ hr) _ hr) _ hr

set_option maxRecDepth 100000 in
set_option maxHeartbeats 4000000 in
theorem textsManifest_any (s : ByteArray) (w : World) (hs : s.size ≤ 2000) (hm : Ml w) :
    Calls Tryz.prog 50 #[.string s] w fun e w' => ∃ (good : List OLn) (slips : List (Nat × Nat × Nat)) (m q : Nat) (p : ByteArray) (rv xv sv lv : Value), e = .returned (.tuple #[.agg #[.string p, rv, xv, sv], lv]) ∧ (Tx.spoken 1 (Pv.spl 10 s.data.toList)).foldl (Tx.stepDoc false Pv.isPath 20) got0 = ⟨olns good, slips, m, q⟩ ∧ (∀ g ∈ good, ∃ ks, Ok g.2 ks) ∧ good.length ≤ 2001 ∧ slips.length ≤ 2001 ∧ Below w.heap.size w w' ∧
      ((fin2 m slips ≠ [] ∧ (p = ⟨#[]⟩ ∧ rv = .slice none 0 0 ∧ xv = .slice none 0 0 ∧ sv = .slice none 0 0) ∧ w'.ownsRow w.heap.size 45 3 lv (fin2 m slips).length (scells (fin2 m slips))) ∨
       (fin2 m slips = [] ∧ lv = .slice none 0 0 ∧ p = (mxOf (good.map fun g => stOf g.2)).p ∧ w'.ownsRow w.heap.size 29 2 rv (mxOf (good.map fun g => stOf g.2)).R.length (mcs (reqs (mxOf (good.map fun g => stOf g.2)).R)) ∧ w'.ownsRow w.heap.size 29 2 xv (mxOf (good.map fun g => stOf g.2)).X.length (mcs (excs (mxOf (good.map fun g => stOf g.2)).X)) ∧ w'.ownsRow w.heap.size 137 3 sv (mxOf (good.map fun g => stOf g.2)).S.length (scs (reps (mxOf (good.map fun g => stOf g.2)).S)) ∧ Apart rv xv sv)) := by
  obtain ⟨i2, hi1, hi2, hi3, hi4⟩ := info29
  have HJ : Hid (Tryz.prog.info? 29 = some i2 ∧ i2.zero = some (.agg #[.string ⟨#[]⟩, .string ⟨#[]⟩]) ∧ i2.size = 2 ∧ i2.bytes = 32) := ⟨hi1, hi2, hi3, hi4⟩
  clear hi1 hi2 hi3 hi4
  obtain ⟨i3, hi1, hi2, hi3, hi4⟩ := Sw.info137
  have HJ3 : Hid (Tryz.prog.info? 137 = some i3 ∧ i3.zero = some (.agg #[.string ⟨#[]⟩, .string ⟨#[]⟩, .string ⟨#[]⟩]) ∧ i3.size = 3 ∧ i3.bytes = 48) := ⟨hi1, hi2, hi3, hi4⟩
  clear hi1 hi2 hi3 hi4
  generalize hR : (Tx.spoken 1 (Pv.spl 10 s.data.toList)).foldl (Tx.stepDoc false Pv.isPath 20) got0 = R
  have HM : Hid (Ml w) := hm
  clear hm
  have hst : ∀ (W : World) (a : Addr), (store a (.func (.func 85) #[] #[])).run Tryz.prog W = stored Tryz.prog W a (.func (.func 85) #[] #[]) .plain := fun W a => run_store Tryz.prog W a _ _ rfl
  have HB0 : Hid (Below w.heap.size w (w.alloc (.cells zM 26)) ∧ (w.alloc (.cells zM 26)).heap[w.heap.size]? = some (.cells zM 26) ∧ (w.alloc (.cells zM 26)).heap.size = w.heap.size + 1) := ⟨(Below.refl _ _).alloc (Nat.le_refl _) _, heap_alloc_new _ _, by simp⟩
  go_enter Tryz.func50, Tryz.ntmps50
  go_wp2_with (go_at_call 86; fail)
  have kr := read_any s (w.alloc (.cells zM 26)).heap.size ((w.alloc (.cells zM 26)).alloc (.cells #[.func (.func 85) #[] #[], .string bMod, .int .i64 0, .int .i64 0, .map none, .slice none 0 0] 151)) hs (HM.out.below (HB0.out.1.alloc (by simp) _)) (by rw [HB0.out.2.2]; omega) (rd_new _)
  rw [hR] at kr
  clear hR
  have HBa : Hid (Below w.heap.size w ((w.alloc (.cells zM 26)).alloc (.cells #[.func (.func 85) #[] #[], .string bMod, .int .i64 0, .int .i64 0, .map none, .slice none 0 0] 151)) ∧ ((w.alloc (.cells zM 26)).alloc (.cells #[.func (.func 85) #[] #[], .string bMod, .int .i64 0, .int .i64 0, .map none, .slice none 0 0] 151)).heap[w.heap.size]? = some (.cells zM 26) ∧ ((w.alloc (.cells zM 26)).alloc (.cells #[.func (.func 85) #[] #[], .string bMod, .int .i64 0, .int .i64 0, .map none, .slice none 0 0] 151)).heap.size = w.heap.size + 2) := ⟨HB0.out.1.alloc (by simp) _, heap_alloc2_old _ _ _, by simp⟩
  rw [HB0.out.2.2] at kr
  generalize (w.alloc (.cells zM 26)).alloc (.cells #[.func (.func 85) #[] #[], .string bMod, .int .i64 0, .int .i64 0, .map none, .slice none 0 0] 151) = W1 at *
  go_at_call 86
  refine kr.mono ?_
  rintro e w2 ⟨good, slips, m, q, rv, lv, rfl, hD, hT, hgl, hsl, hfr, hx⟩
  clear kr hst
  have HB2 : Hid (Below w.heap.size w w2 ∧ w2.heap[w.heap.size]? = some (.cells zM 26) ∧ w.heap.size + 2 ≤ w2.heap.size) := by
    have h1 := HBa.out.1
    refine ⟨⟨hfr.os.trans h1.os, hfr.tape.trans h1.tape, hfr.output.trans h1.output, Nat.le_trans h1.size hfr.size, fun b hb => ?_⟩, ?_, ?_⟩
    · rw [hfr.block b (Nat.lt_of_lt_of_le hb h1.size) (by omega)]; exact h1.block b hb
    · rw [hfr.block w.heap.size (by rw [HBa.out.2.2]; omega) (by omega)]; exact HBa.out.2.1
    · rw [← HBa.out.2.2]; exact hfr.size
  have HD : Hid (R = ⟨olns good, slips, m, q⟩ ∧ (∀ g ∈ good, ∃ ks, Ok g.2 ks) ∧ good.length ≤ 2001 ∧ slips.length ≤ 2001) := ⟨hD, hT, hgl, hsl⟩
  have hSz := HBa.out.2.2
  clear hD hT hfr HBa HB0
  rcases hx with ⟨hne, rfl, hown⟩ | ⟨hf2, rfl, hown⟩
  · obtain ⟨la, lc, rfl⟩ := own_slice' hown
    have hq : (0 : Int) < ((fin2 m slips).length : Int) := by have := List.length_pos_iff.2 hne; omega
    have HO : Hid (fin2 m slips ≠ [] ∧ w2.ownsRow (w.heap.size + 2) 45 3 (.slice la (fin2 m slips).length lc) (fin2 m slips).length (scells (fin2 m slips))) := ⟨hne, by rw [← hSz]; exact hown⟩
    have HW : Hid (∀ a b c d, ((((w2.setCell ⟨w.heap.size, 0, none⟩ a).setCell ⟨w.heap.size, 1, none⟩ b).setCell ⟨w.heap.size, 2, none⟩ c).setCell ⟨w.heap.size, 3, none⟩ d).heap[w.heap.size]? = some (.cells #[a, b, c, d] 26)) := fun a b c d => wholeM HB2.out.2.1 a b c d
    obtain ⟨⟨g0, g1, g2, g3⟩, f0, f1, f2, f3⟩ := Dr.cells4 HB2.out.2.1
    clear hne hown
    generalize hfl : (fin2 m slips).length = fl at *
    have HFl : Hid ((fin2 m slips).length = fl) := hfl
    clear hfl
    go_wp2
    refine bodyPost_ret (results_cell_tmp Tryz.results50 _ _ w.heap.size 26 _ (0, 0) _ _ rfl rfl (HW.out _ _ _ _) Tryz.underlying26 rfl (by kernel_rfl)) rfl ?_
    exact ⟨good, slips, m, q, _, _, _, _, _, rfl, HD.out.1, HD.out.2.1, HD.out.2.2.1, HD.out.2.2.2, four_below HB2.out.1 (Nat.le_refl _) _ _ _ _, Or.inl ⟨HO.out.1, ⟨rfl, rfl, rfl, rfl⟩, by rw [HFl.out]; exact own_down (B := w.heap.size + 2) (four_own (r := w.heap.size) (B := w.heap.size + 2) HO.out.2 (by omega) _ _ _ _) (by omega)⟩⟩
  · have HO : Hid (w2.ownsRow W1.heap.size 155 4 rv good.length (stcells (good.map fun g => stOf g.2))) := hown
    clear hown
    obtain ⟨ra, rc, rfl⟩ := own_slice' HO.out
    have HF2 : Hid (fin2 m slips = []) := hf2
    have HL4 : Hid (∀ j (h : j < (good.map fun g => stOf g.2).length), Wd4 (good.map fun g => stOf g.2)[j].1) := fun j h => by
      have hj : j < good.length := by simpa using h
      obtain ⟨ks, hk⟩ := HD.out.2.1 good[j] (List.getElem_mem hj)
      simp only [List.getElem_map]
      exact ok_wd4 hk
    clear hf2
    have hLl : (good.map fun g => stOf g.2).length = good.length := List.length_map ..
    generalize hLe : (good.map fun g => stOf g.2) = L at *
    have HLe : Hid ((good.map fun g => stOf g.2) = L) := hLe
    clear hLe
    have HS0 : Hid (Mq w2 w2.heap.size ⟨#[]⟩ (.slice none 0 0) (.slice none 0 0) (.slice none 0 0) [] [] [] (w2.alloc (.cells zM 26))) := Mq.start w2
    go_wp2
    go_loopg [23] good.length (fun gg kv wr => ∃ (k : Nat) (rv xv sv : Value), k ≤ good.length ∧ good.length - k ≤ gg ∧ kv = .int .i64 k ∧ Hid (Mq w2 w2.heap.size (mxOf (L.take k)).p rv xv sv (mxOf (L.take k)).R (mxOf (L.take k)).X (mxOf (L.take k)).S wr))
    case atStart => exact ⟨0, _, _, _, by omega, by omega, rfl, HS0⟩
    case round =>
      clear HS0
      obtain ⟨k, rv, xv, sv, hk, hgk, rfl, HS⟩ := hrel
      by_cases hlt : k < good.length
      · have hltI : (k : Int) < (good.length : Int) := by omega
        have hkL : k < L.length := by omega
        obtain ⟨g, c, hra⟩ := own_some HO.out (by omega)
        have hra' : ra = some ⟨g, 0, none⟩ := by injection hra
        subst hra'
        obtain ⟨a0, a1, a2, a3⟩ := stcells_get L k hkL
        have hgl2 := (HO.out.lt g rfl).2
        have hbw := HS.out.b
        have d0 : wr.cell? ⟨g, k * 4, none⟩ = some (.string L[k].1) := by rw [hbw.cell (p := ⟨g, k * 4, none⟩) hgl2, HO.out.cellAt (k * 4) (by omega)]; exact a0
        have d1 : wr.cell? ⟨g, k * 4 + 1, none⟩ = some (.string L[k].2.1) := by rw [hbw.cell (p := ⟨g, k * 4 + 1, none⟩) hgl2, HO.out.cellAt (k * 4 + 1) (by omega)]; exact a1
        have d2 : wr.cell? ⟨g, k * 4 + 2, none⟩ = some (.string L[k].2.2.1) := by rw [hbw.cell (p := ⟨g, k * 4 + 2, none⟩) hgl2, HO.out.cellAt (k * 4 + 2) (by omega)]; exact a2
        have d3 : wr.cell? ⟨g, k * 4 + 3, none⟩ = some (.string L[k].2.2.2) := by rw [hbw.cell (p := ⟨g, k * 4 + 3, none⟩) hgl2, HO.out.cellAt (k * 4 + 3) (by omega)]; exact a3
        have hw4 := HL4.out k hkL
        have hl3 := mxOf_len (L.take k)
        have hlk : (L.take k).length ≤ 2001 := by rw [List.length_take]; omega
        have HN : Hid (mxOf (L.take (k + 1)) = mxStep (mxOf (L.take k)) L[k]) := by
          show _ = _
          rw [← List.take_append_getElem hkL, mxOf_snoc]
        have hb7 : w2.heap.size < wr.heap.size := HS.out.lt.2
        generalize mxOf (L.take k) = M at *
        obtain ⟨mp, mR, mX, mS⟩ := M
        simp only at HS HN hl3
        have hRl : mR.length ≤ 2001 := by omega
        have hXl : mX.length ≤ 2001 := by omega
        have hSl : mS.length ≤ 2001 := by omega
        generalize hx : L[k] = x at *
        clear hx
        obtain ⟨f, p, v, b⟩ := x
        simp only at d0 d1 d2 d3 hw4 HN
        clear a0 a1 a2 a3 hbw hl3 hlk hkL
        have HS1 : Hid (Mq w2 w2.heap.size mp rv xv sv mR mX mS (wr.alloc (.cells #[.string f, .string p, .string v, .string b] 155))) := Mk.below HS.out ((Below.refl _ _).alloc (Nat.le_refl _) _)
        obtain ⟨⟨e0, e1, e2, e3⟩, f0, f1, f2, f3⟩ := HS1.out.cells
        obtain ⟨ra1, rc1, rfl⟩ := own_slice' HS.out.r
        obtain ⟨xa1, xc1, rfl⟩ := own_slice' HS.out.x
        obtain ⟨sa1, sc1, rfl⟩ := own_slice' HS.out.s
        have hsz : (wr.alloc (.cells #[.string f, .string p, .string v, .string b] 155)).heap.size = wr.heap.size + 1 := by simp
        rcases hw4 with rfl | rfl | rfl | rfl
        · have HN2 : Hid (Mq w2 w2.heap.size (mxOf (L.take (k + 1))).p (.slice ra1 mR.length rc1) (.slice xa1 mX.length xc1) (.slice sa1 mS.length sc1) (mxOf (L.take (k + 1))).R (mxOf (L.take (k + 1))).X (mxOf (L.take (k + 1))).S ((wr.setCell ⟨w2.heap.size, 0, none⟩ (.string p)).alloc (.cells #[.string bMod, .string p, .string v, .string b] 155))) := by
            show Mq _ _ _ _ _ _ _ _ _ _
            rw [HN.out]
            exact Mk.below (Mq.path HS.out p) ((Below.refl _ _).alloc (Nat.le_refl _) _)
          clear HS HS1 HN
          go_wp2
          go_roundg (good.length - (k + 1))
          case measure => omega
          case rel => exact ⟨k + 1, _, _, _, by omega, by omega, by go_num, HN2⟩
        · have hnw : ∀ j u, [Value.string p, .string v][j]? = some u → ((wr.alloc (.cells #[.string bReq, .string p, .string v, .string b] 155)).alloc (.cells #[.string p, .string v] 29)).cell? ((⟨wr.heap.size + 1, 0, none⟩ : Addr).add j) = some u := fun j u hj => by
            have h := cell_two_new (wr.alloc (.cells #[.string bReq, .string p, .string v, .string b] 155)) 29 (.string p) (.string v) j u hj
            rw [hsz] at h
            exact h
          go_wp2_with (at_builtin; refine wpList_append_own_at _ rfl _ _ 23 rfl (w2.heap.size + 1) 29 i2 (.agg #[.string ⟨#[]⟩, .string ⟨#[]⟩]) 2 32 Tryz.underlying23 HJ.out.1 HJ.out.2.1 HJ.out.2.2.1 HJ.out.2.2.2 rfl (by decide) (.slice ra1 mR.length rc1) mR.length (mcs mR) rfl (HS1.out.r.alloc _) ⟨wr.heap.size + 1, 0, none⟩ 1 1 [.string p, .string v] rfl rfl hnw ?_ ?_ ?_ ?_ ?_)
          all_goals first
            | (show ∀ u ∈ [Value.string p, Value.string v], u.oneCell' = true; intro u hu; simp at hu; rcases hu with rfl | rfl <;> rfl)
            | (show mR.length + 1 ≤ maxLen; unfold maxLen; omega)
            | (show (mR.length + 1) * 32 ≤ 140737488355328; omega)
            | (show w2.heap.size + 1 ≤ ((wr.alloc _).alloc _).heap.size; simp; omega)
            | (show w2.heap.size + 1 ≤ wr.heap.size + 1 + 1; omega)
            | skip
          intro lv' w3 hown' hgrow _ hloc
          obtain ⟨g', c', rfl⟩ := own_some hown' (by omega)
          have hT3 : Turn (fun b => (Value.slice ra1 mR.length rc1).ownBlock = some b) (wr.alloc (.cells #[.string bReq, .string p, .string v, .string b] 155)) w3 := ((Turn.refl _ _).alloc _).grown hgrow (fun b _ e => e)
          have hat : ∀ b', (Value.slice (some ⟨g', 0, none⟩) (mR.length + 1) c').ownBlock = some b' → (Value.slice ra1 mR.length rc1).ownBlock = some b' ∨ (wr.alloc (.cells #[.string bReq, .string p, .string v, .string b] 155)).heap.size ≤ b' := fun b' e => by
            rcases hloc with e2 | e2
            · exact Or.inl (by rw [← e2]; exact e)
            · right
              rw [e2] at e
              have : wr.heap.size + 1 + 1 = b' := by simpa using e
              rw [hsz]; omega
          have hx0 := (HS1.out.box.of_block (hT3.block w2.heap.size (by rw [hsz]; omega) (fun e => own_out HS1.out.r e)))
          have e1' : w3.cell? ⟨w2.heap.size, 1, none⟩ = some (.slice ra1 mR.length rc1) := hx0.at' 1 (by omega)
          have f1' : w3.frozen? ⟨w2.heap.size, 1, none⟩ = false := hx0.fr 1 (by omega)
          have HN2 : Hid (Mq w2 w2.heap.size (mxOf (L.take (k + 1))).p (.slice (some ⟨g', 0, none⟩) (mR.length + 1) c') (.slice xa1 mX.length xc1) (.slice sa1 mS.length sc1) (mxOf (L.take (k + 1))).R (mxOf (L.take (k + 1))).X (mxOf (L.take (k + 1))).S (w3.setCell ⟨w2.heap.size, 1, none⟩ (.slice (some ⟨g', 0, none⟩) (mR.length + 1) c'))) := by
            show Mq _ _ _ _ _ _ _ _ _ _
            rw [HN.out]
            exact Mq.req (R' := mR ++ [(p, v)]) HS1.out (by rw [List.length_append]; simpa [mcs, Sm.mc] using hown') hT3 hat
          clear HS HS1 HN hown' hgrow hloc hT3 hat hx0 hnw e0 e1 e2 e3 f0 f1 f2 f3
          go_wp2
          go_roundg (good.length - (k + 1))
          case measure => omega
          case rel => exact ⟨k + 1, _, _, _, by omega, by omega, by go_num, HN2⟩
        · have hnw : ∀ j u, [Value.string p, .string v][j]? = some u → ((wr.alloc (.cells #[.string bExc, .string p, .string v, .string b] 155)).alloc (.cells #[.string p, .string v] 29)).cell? ((⟨wr.heap.size + 1, 0, none⟩ : Addr).add j) = some u := fun j u hj => by
            have h := cell_two_new (wr.alloc (.cells #[.string bExc, .string p, .string v, .string b] 155)) 29 (.string p) (.string v) j u hj
            rw [hsz] at h
            exact h
          go_wp2_with (at_builtin; refine wpList_append_own_at _ rfl _ _ 23 rfl (w2.heap.size + 1) 29 i2 (.agg #[.string ⟨#[]⟩, .string ⟨#[]⟩]) 2 32 Tryz.underlying23 HJ.out.1 HJ.out.2.1 HJ.out.2.2.1 HJ.out.2.2.2 rfl (by decide) (.slice xa1 mX.length xc1) mX.length (mcs mX) rfl (HS1.out.x.alloc _) ⟨wr.heap.size + 1, 0, none⟩ 1 1 [.string p, .string v] rfl rfl hnw ?_ ?_ ?_ ?_ ?_)
          all_goals first
            | (show ∀ u ∈ [Value.string p, Value.string v], u.oneCell' = true; intro u hu; simp at hu; rcases hu with rfl | rfl <;> rfl)
            | (show mX.length + 1 ≤ maxLen; unfold maxLen; omega)
            | (show (mX.length + 1) * 32 ≤ 140737488355328; omega)
            | (show w2.heap.size + 1 ≤ ((wr.alloc _).alloc _).heap.size; simp; omega)
            | (show w2.heap.size + 1 ≤ wr.heap.size + 1 + 1; omega)
            | skip
          intro lv' w3 hown' hgrow _ hloc
          obtain ⟨g', c', rfl⟩ := own_some hown' (by omega)
          have hT3 : Turn (fun b => (Value.slice xa1 mX.length xc1).ownBlock = some b) (wr.alloc (.cells #[.string bExc, .string p, .string v, .string b] 155)) w3 := ((Turn.refl _ _).alloc _).grown hgrow (fun b _ e => e)
          have hat : ∀ b', (Value.slice (some ⟨g', 0, none⟩) (mX.length + 1) c').ownBlock = some b' → (Value.slice xa1 mX.length xc1).ownBlock = some b' ∨ (wr.alloc (.cells #[.string bExc, .string p, .string v, .string b] 155)).heap.size ≤ b' := fun b' e => by
            rcases hloc with e2 | e2
            · exact Or.inl (by rw [← e2]; exact e)
            · right
              rw [e2] at e
              have : wr.heap.size + 1 + 1 = b' := by simpa using e
              rw [hsz]; omega
          have hx0 := (HS1.out.box.of_block (hT3.block w2.heap.size (by rw [hsz]; omega) (fun e => own_out HS1.out.x e)))
          have e1' : w3.cell? ⟨w2.heap.size, 2, none⟩ = some (.slice xa1 mX.length xc1) := hx0.at' 2 (by omega)
          have f1' : w3.frozen? ⟨w2.heap.size, 2, none⟩ = false := hx0.fr 2 (by omega)
          have HN2 : Hid (Mq w2 w2.heap.size (mxOf (L.take (k + 1))).p (.slice ra1 mR.length rc1) (.slice (some ⟨g', 0, none⟩) (mX.length + 1) c') (.slice sa1 mS.length sc1) (mxOf (L.take (k + 1))).R (mxOf (L.take (k + 1))).X (mxOf (L.take (k + 1))).S (w3.setCell ⟨w2.heap.size, 2, none⟩ (.slice (some ⟨g', 0, none⟩) (mX.length + 1) c'))) := by
            show Mq _ _ _ _ _ _ _ _ _ _
            rw [HN.out]
            exact Mq.exc (X' := mX ++ [(p, v)]) HS1.out (by rw [List.length_append]; simpa [mcs, Sm.mc] using hown') hT3 hat
          clear HS HS1 HN hown' hgrow hloc hT3 hat hx0 hnw e0 e1 e2 e3 f0 f1 f2 f3
          go_wp2
          go_roundg (good.length - (k + 1))
          case measure => omega
          case rel => exact ⟨k + 1, _, _, _, by omega, by omega, by go_num, HN2⟩
        · have hnw : ∀ j u, [Value.string p, .string v, .string b][j]? = some u → ((wr.alloc (.cells #[.string bRep, .string p, .string v, .string b] 155)).alloc (.cells #[.string p, .string v, .string b] 137)).cell? ((⟨wr.heap.size + 1, 0, none⟩ : Addr).add j) = some u := fun j u hj => by
            have h := cell_three_new (wr.alloc (.cells #[.string bRep, .string p, .string v, .string b] 155)) (.string p) (.string v) (.string b) 137 j u hj
            rw [hsz] at h
            exact h
          go_wp2_with (at_builtin; refine wpList_append_own_at _ rfl _ _ 24 rfl (w2.heap.size + 1) 137 i3 (.agg #[.string ⟨#[]⟩, .string ⟨#[]⟩, .string ⟨#[]⟩]) 3 48 Tryz.underlying24 HJ3.out.1 HJ3.out.2.1 HJ3.out.2.2.1 HJ3.out.2.2.2 rfl (by decide) (.slice sa1 mS.length sc1) mS.length (scs mS) rfl (HS1.out.s.alloc _) ⟨wr.heap.size + 1, 0, none⟩ 1 1 [.string p, .string v, .string b] rfl rfl hnw ?_ ?_ ?_ ?_ ?_)
          all_goals first
            | (show ∀ u ∈ [Value.string p, Value.string v, Value.string b], u.oneCell' = true; intro u hu; simp at hu; rcases hu with rfl | rfl | rfl <;> rfl)
            | (show mS.length + 1 ≤ maxLen; unfold maxLen; omega)
            | (show (mS.length + 1) * 48 ≤ 140737488355328; omega)
            | (show w2.heap.size + 1 ≤ ((wr.alloc _).alloc _).heap.size; simp; omega)
            | (show w2.heap.size + 1 ≤ wr.heap.size + 1 + 1; omega)
            | skip
          intro lv' w3 hown' hgrow _ hloc
          obtain ⟨g', c', rfl⟩ := own_some hown' (by omega)
          have hT3 : Turn (fun b => (Value.slice sa1 mS.length sc1).ownBlock = some b) (wr.alloc (.cells #[.string bRep, .string p, .string v, .string b] 155)) w3 := ((Turn.refl _ _).alloc _).grown hgrow (fun b _ e => e)
          have hat : ∀ b', (Value.slice (some ⟨g', 0, none⟩) (mS.length + 1) c').ownBlock = some b' → (Value.slice sa1 mS.length sc1).ownBlock = some b' ∨ (wr.alloc (.cells #[.string bRep, .string p, .string v, .string b] 155)).heap.size ≤ b' := fun b' e => by
            rcases hloc with e2 | e2
            · exact Or.inl (by rw [← e2]; exact e)
            · right
              rw [e2] at e
              have : wr.heap.size + 1 + 1 = b' := by simpa using e
              rw [hsz]; omega
          have hx0 := (HS1.out.box.of_block (hT3.block w2.heap.size (by rw [hsz]; omega) (fun e => own_out HS1.out.s e)))
          have e1' : w3.cell? ⟨w2.heap.size, 3, none⟩ = some (.slice sa1 mS.length sc1) := hx0.at' 3 (by omega)
          have f1' : w3.frozen? ⟨w2.heap.size, 3, none⟩ = false := hx0.fr 3 (by omega)
          have HN2 : Hid (Mq w2 w2.heap.size (mxOf (L.take (k + 1))).p (.slice ra1 mR.length rc1) (.slice xa1 mX.length xc1) (.slice (some ⟨g', 0, none⟩) (mS.length + 1) c') (mxOf (L.take (k + 1))).R (mxOf (L.take (k + 1))).X (mxOf (L.take (k + 1))).S (w3.setCell ⟨w2.heap.size, 3, none⟩ (.slice (some ⟨g', 0, none⟩) (mS.length + 1) c'))) := by
            show Mq _ _ _ _ _ _ _ _ _ _
            rw [HN.out]
            exact Mq.rep (S' := mS ++ [(p, v, b)]) HS1.out (by rw [List.length_append]; simpa [scs, Sw.mc] using hown') hT3 hat
          clear HS HS1 HN hown' hgrow hloc hT3 hat hx0 hnw e0 e1 e2 e3 f0 f1 f2 f3
          go_wp2
          go_roundg (good.length - (k + 1))
          case measure => omega
          case rel => exact ⟨k + 1, _, _, _, by omega, by omega, by go_num, HN2⟩
      · have hltI : ¬ ((k : Int) < (good.length : Int)) := by omega
        have hke : L.take k = L := List.take_of_length_le (by omega)
        rw [hke] at HS
        have hl3 := mxOf_len L
        have HBw : Hid (Below w.heap.size w wr ∧ wr.heap[w.heap.size]? = some (.cells zM 26) ∧ w.heap.size + 2 ≤ wr.heap.size) := by
          have hb := HB2.out
          have h2 := HS.out.b
          exact ⟨hb.1.trans (h2.mono hb.1.size), by rw [h2.block w.heap.size (by omega)]; exact hb.2.1, by have := h2.size; omega⟩
        obtain ⟨M, hMM⟩ : ∃ M, mxOf L = M := ⟨_, rfl⟩
        rw [hMM] at HS hl3
        obtain ⟨mp, mR, mX, mS⟩ := M
        have HMM : Hid (mxOf (good.map fun g => stOf g.2) = ⟨mp, mR, mX, mS⟩) := by show _ = _; rw [HLe.out]; exact hMM
        simp only at HS hl3
        clear hMM
        have ko := inOrder_apart mp rv xv sv mR mX mS wr (HM.out.below HBw.out.1) (by omega) (by omega) (by omega) (rd_of_mcs HS.out.r) (rd_of_mcs HS.out.x) (rd_of_scs HS.out.s)
        obtain ⟨⟨e0, e1, e2, e3⟩, f0, f1, f2, f3⟩ := HS.out.cells
        obtain ⟨ra1, rc1, rfl⟩ := own_slice' HS.out.r
        obtain ⟨xa1, xc1, rfl⟩ := own_slice' HS.out.x
        obtain ⟨sa1, sc1, rfl⟩ := own_slice' HS.out.s
        clear HS HB2
        go_wp2_with (go_at_call 87; fail)
        go_at_call 87
        refine ko.mono ?_
        rintro e w4 ⟨rv', xv', sv', rfl, o1, o2, o3, hb4, hap⟩
        obtain ⟨_, _, _, e1'⟩ := own_shape o1
        obtain ⟨_, _, _, e2'⟩ := own_shape o2
        obtain ⟨_, _, _, e3'⟩ := own_shape o3
        subst e1' e2' e3'
        have HB5 : Hid (Below w.heap.size w w4 ∧ w4.heap[w.heap.size]? = some (.cells zM 26)) := by
          have hb := HBw.out
          exact ⟨hb.1.trans (hb4.mono hb.1.size), by rw [hb4.block w.heap.size (by omega)]; exact hb.2.1⟩
        have HW : Hid (∀ a b c d, ((((w4.setCell ⟨w.heap.size, 0, none⟩ a).setCell ⟨w.heap.size, 1, none⟩ b).setCell ⟨w.heap.size, 2, none⟩ c).setCell ⟨w.heap.size, 3, none⟩ d).heap[w.heap.size]? = some (.cells #[a, b, c, d] 26)) := fun a b c d => wholeM HB5.out.2 a b c d
        obtain ⟨⟨g0, g1, g2, g3⟩, k0, k1, k2, k3⟩ := Dr.cells4 HB5.out.2
        have hws : w.heap.size < wr.heap.size := by have := HBw.out.2.2; omega
        have HO5 := And.intro o1 (And.intro o2 o3)
        have HO6 : Hid _ := HO5
        have HAp : Hid _ := hap
        clear ko hb4 o1 o2 o3 HO5 hap e0 e1 e2 e3 f0 f1 f2 f3
        go_wp2
        refine bodyPost_ret (results_cell_tmp Tryz.results50 _ _ w.heap.size 26 _ (0, 0) _ _ rfl rfl (HW.out _ _ _ _) Tryz.underlying26 rfl (by kernel_rfl)) rfl ?_
        exact ⟨good, slips, m, q, _, _, _, _, _, rfl, HD.out.1, HD.out.2.1, HD.out.2.2.1, HD.out.2.2.2, four_below HB5.out.1 (Nat.le_refl _) _ _ _ _, Or.inr ⟨HF2.out, rfl, by rw [HMM.out], by rw [HMM.out]; exact own_down (B := wr.heap.size) (four_own (B := wr.heap.size) HO6.out.1 hws _ _ _ _) (by omega), by rw [HMM.out]; exact own_down (B := wr.heap.size) (four_own (B := wr.heap.size) HO6.out.2.1 hws _ _ _ _) (by omega), by rw [HMM.out]; exact own_down (B := wr.heap.size) (four_own (B := wr.heap.size) HO6.out.2.2 hws _ _ _ _) (by omega), HAp.out⟩⟩

end Mf
end Go.Proofs.YtelmkfkgpnadnaaGreatDoor

namespace Go.Proofs.YtelmkfkgpnadnaaGreatDoor
open Go.RowKit
namespace Mf

variable {w w' : World}

def manGot (s : ByteArray) : Tx.Got := (Tx.docLines [] 1 [] false false 0 s.data.toList).foldl (Tx.stepDoc false Pv.isPath 20) got0
/-- The slips of a manifest's text. -/
def manSlips (s : ByteArray) : List (Nat × Nat × Nat) := if s.size ≤ 2000 then fin2 (manGot s).spoken (manGot s).slips else [(0, 0, 1)]
/-- What it says, if it has none. -/
def manMx (s : ByteArray) : Mx := if manSlips s = [] then mxOf ((manGot s).good.map fun x => stOf (unoln x).2) else ⟨⟨#[]⟩, [], [], []⟩

/-- A manifest that came out, or its slips. -/
structure OutM (base : Nat) (s : ByteArray) (W : World) (p : ByteArray) (rv xv sv lv : Value) : Prop where
  pe : p = (manMx s).p
  re : W.ownsRow base 29 2 rv (manMx s).R.length (mcs (reqs (manMx s).R))
  xe : W.ownsRow base 29 2 xv (manMx s).X.length (mcs (excs (manMx s).X))
  se : W.ownsRow base 137 3 sv (manMx s).S.length (scs (reps (manMx s).S))
  le : W.ownsRow base 45 3 lv (manSlips s).length (scells (manSlips s))
  ne : (manMx s).R.length ≤ 2001 ∧ (manMx s).X.length ≤ 2001 ∧ (manMx s).S.length ≤ 2001 ∧ (manSlips s).length ≤ 2001

theorem fin2_len {m : Nat} {sl : List (Nat × Nat × Nat)} (h : sl.length ≤ 2001) : (fin2 m sl).length ≤ 2001 := by
  unfold fin2
  split
  · simp
  · exact h

theorem outM_slips {s : ByteArray} {base : Nat} {W : World} {lv : Value} (hne : manSlips s ≠ []) (hl : (manSlips s).length ≤ 2001) (ho : W.ownsRow base 45 3 lv (manSlips s).length (scells (manSlips s))) : OutM base s W ⟨#[]⟩ (.slice none 0 0) (.slice none 0 0) (.slice none 0 0) lv := by
  have e : manMx s = ⟨⟨#[]⟩, [], [], []⟩ := if_neg hne
  refine ⟨by rw [e], ?_, ?_, ?_, ho, ?_⟩
  · rw [e]; exact World.ownsRow_nil _ _ _ _
  · rw [e]; exact World.ownsRow_nil _ _ _ _
  · rw [e]; exact World.ownsRow_nil _ _ _ _
  · rw [e]; exact ⟨by simp, by simp, by simp, hl⟩

theorem apart_nil : Apart (.slice none 0 0) (.slice none 0 0) (.slice none 0 0) := fun b => ⟨fun e => (by cases e), fun e => (by cases e)⟩

theorem outM_good {s : ByteArray} (hs : s.size ≤ 2000) {good : List OLn} {slips : List (Nat × Nat × Nat)} {m q base : Nat} {W : World} {p : ByteArray} {rv xv sv : Value} (hR : manGot s = ⟨olns good, slips, m, q⟩) (hg : good.length ≤ 2001) (hf : fin2 m slips = []) (hp : p = (mxOf (good.map fun g => stOf g.2)).p)
    (h1 : W.ownsRow base 29 2 rv (mxOf (good.map fun g => stOf g.2)).R.length (mcs (reqs (mxOf (good.map fun g => stOf g.2)).R))) (h2 : W.ownsRow base 29 2 xv (mxOf (good.map fun g => stOf g.2)).X.length (mcs (excs (mxOf (good.map fun g => stOf g.2)).X))) (h3 : W.ownsRow base 137 3 sv (mxOf (good.map fun g => stOf g.2)).S.length (scs (reps (mxOf (good.map fun g => stOf g.2)).S))) :
    OutM base s W p rv xv sv (.slice none 0 0) := by
  have es : manSlips s = [] := by
    unfold manSlips
    rw [if_pos hs, hR]
    exact hf
  have e : manMx s = mxOf (good.map fun g => stOf g.2) := by
    unfold manMx
    rw [if_pos es, hR]
    show mxOf ((olns good).map fun x => stOf (unoln x).2) = _
    congr 1
    have h := unoln_olns good
    have h2 : (olns good).map (fun x => stOf (unoln x).2) = ((olns good).map unoln).map (fun g => stOf g.2) := by rw [List.map_map]; rfl
    rw [h2, h]
  have hl := mxOf_len (good.map fun g => stOf g.2)
  rw [List.length_map] at hl
  refine ⟨by rw [e]; exact hp, by rw [e]; exact h1, by rw [e]; exact h2, by rw [e]; exact h3, ?_, ?_⟩
  · rw [es]; exact World.ownsRow_nil _ _ _ _
  · rw [e, es]; exact ⟨by omega, by omega, by omega, by simp⟩

set_option maxRecDepth 100000 in
set_option maxHeartbeats 4000000 in
theorem textsManifest_long (s : ByteArray) (w : World) (hs : 2000 < s.size) :
    Calls Tryz.prog 50 #[.string s] w fun e w' => ∃ lv, e = .returned (.tuple #[.agg #[.string ⟨#[]⟩, .slice none 0 0, .slice none 0 0, .slice none 0 0], lv]) ∧ w'.ownsRow w.heap.size 45 3 lv 1 (scells [(0, 0, 1)]) ∧ Below w.heap.size w w' := by
  have hst : ∀ (W : World) (a : Addr), (store a (.func (.func 85) #[] #[])).run Tryz.prog W = stored Tryz.prog W a (.func (.func 85) #[] #[]) .plain := fun W a => run_store Tryz.prog W a _ _ rfl
  have HBa : Hid (Below w.heap.size w ((w.alloc (.cells zM 26)).alloc (.cells #[.func (.func 85) #[] #[], .string bMod, .int .i64 0, .int .i64 0, .map none, .slice none 0 0] 151)) ∧ ((w.alloc (.cells zM 26)).alloc (.cells #[.func (.func 85) #[] #[], .string bMod, .int .i64 0, .int .i64 0, .map none, .slice none 0 0] 151)).heap[w.heap.size]? = some (.cells zM 26) ∧ ((w.alloc (.cells zM 26)).alloc (.cells #[.func (.func 85) #[] #[], .string bMod, .int .i64 0, .int .i64 0, .map none, .slice none 0 0] 151)).heap.size = w.heap.size + 2) := ⟨((Below.refl _ _).alloc (Nat.le_refl _) _).alloc (by simp) _, heap_alloc2_old _ _ _, by simp⟩
  have kr := fun W => read_long s (w.heap.size + 1) W hs
  go_enter Tryz.func50, Tryz.ntmps50
  go_wp2_with (go_at_call 86; fail)
  generalize (w.alloc (.cells zM 26)).alloc (.cells #[.func (.func 85) #[] #[], .string bMod, .int .i64 0, .int .i64 0, .map none, .slice none 0 0] 151) = W1 at *
  go_at_call 86
  refine (kr _).mono ?_
  rintro e w2 ⟨lv, rfl, hown, hb⟩
  clear kr hst
  have HB2 : Hid (Below w.heap.size w w2 ∧ w2.heap[w.heap.size]? = some (.cells zM 26)) := ⟨HBa.out.1.trans (hb.mono HBa.out.1.size), by rw [hb.block w.heap.size (by rw [HBa.out.2.2]; omega)]; exact HBa.out.2.1⟩
  have HO : Hid (w2.ownsRow (w.heap.size + 2) 45 3 lv 1 (scells [(0, 0, 1)])) := by show World.ownsRow _ _ _ _ _ _ _; rw [← HBa.out.2.2]; exact hown
  obtain ⟨la, lc, rfl⟩ := own_slice' hown
  have HW : Hid (∀ a b c d, ((((w2.setCell ⟨w.heap.size, 0, none⟩ a).setCell ⟨w.heap.size, 1, none⟩ b).setCell ⟨w.heap.size, 2, none⟩ c).setCell ⟨w.heap.size, 3, none⟩ d).heap[w.heap.size]? = some (.cells #[a, b, c, d] 26)) := fun a b c d => wholeM HB2.out.2 a b c d
  obtain ⟨⟨g0, g1, g2, g3⟩, f0, f1, f2, f3⟩ := Dr.cells4 HB2.out.2
  clear hown hb HBa
  go_wp2
  refine bodyPost_ret (results_cell_tmp Tryz.results50 _ _ w.heap.size 26 _ (0, 0) _ _ rfl rfl (HW.out _ _ _ _) Tryz.underlying26 rfl (by kernel_rfl)) rfl ?_
  exact ⟨_, rfl, own_down (B := w.heap.size + 2) (four_own (r := w.heap.size) (B := w.heap.size + 2) HO.out (by omega) _ _ _ _) (by omega), four_below HB2.out.1 (Nat.le_refl _) _ _ _ _⟩

theorem textsManifest_out (s : ByteArray) (w : World) (hm : Ml w) :
    Calls Tryz.prog 50 #[.string s] w fun e w' => ∃ p rv xv sv lv, e = .returned (.tuple #[.agg #[.string p, rv, xv, sv], lv]) ∧ OutM w.heap.size s w' p rv xv sv lv ∧ Below w.heap.size w w' ∧ (Apart rv xv sv ∧ ∀ b, lv.ownBlock = some b → rv.ownBlock ≠ some b ∧ xv.ownBlock ≠ some b ∧ sv.ownBlock ≠ some b) := by
  by_cases hs : s.size ≤ 2000
  · refine (textsManifest_any s w hs hm).mono ?_
    rintro e w' ⟨good, slips, m, q, p, rv, xv, sv, lv, rfl, hR, hg, hgl, hsl, hb, hx⟩
    rw [← Tx.lines_same] at hR
    rcases hx with ⟨hne, ⟨rfl, rfl, rfl, rfl⟩, ho⟩ | ⟨hf, rfl, hp, h1, h2, h3, hap⟩
    · have es : manSlips s = fin2 m slips := by
        unfold manSlips
        rw [if_pos hs]
        have : manGot s = ⟨olns good, slips, m, q⟩ := hR
        rw [this]
      refine ⟨_, _, _, _, _, rfl, ?_, hb, apart_nil, fun b _ => ⟨fun e => by (cases e), fun e => by (cases e), fun e => by (cases e)⟩⟩
      refine outM_slips (by rw [es]; exact hne) (by rw [es]; exact fin2_len hsl) (by rw [es]; exact ho)
    · exact ⟨_, _, _, _, _, rfl, outM_good hs hR hgl hf hp h1 h2 h3, hb, hap, fun b e => by cases e⟩
  · refine (textsManifest_long s w (by omega)).mono ?_
    rintro e w' ⟨lv, rfl, ho, hb⟩
    have es : manSlips s = [(0, 0, 1)] := if_neg hs
    exact ⟨_, _, _, _, _, rfl, outM_slips (by rw [es]; simp) (by rw [es]; simp) (by rw [es]; exact ho), hb, apart_nil, fun b _ => ⟨fun e => by (cases e), fun e => by (cases e), fun e => by (cases e)⟩⟩

set_option maxRecDepth 100000 in
set_option maxHeartbeats 4000000 in
/-- The program's Manifest. -/
theorem progManifest (s : ByteArray) (w : World) (hm : Ml w) :
    Calls Tryz.prog 20 #[.string s] w fun e w' => ∃ p rv xv sv lv, e = .returned (.tuple #[.agg #[.string p, rv, xv, sv], lv]) ∧ OutM w.heap.size s w' p rv xv sv lv ∧ Below w.heap.size w w' ∧ (Apart rv xv sv ∧ ∀ b, lv.ownBlock = some b → rv.ownBlock ≠ some b ∧ xv.ownBlock ≠ some b ∧ sv.ownBlock ≠ some b) := by
  have HB0 : Hid (Below w.heap.size w (w.alloc (.cells zM 26)) ∧ (w.alloc (.cells zM 26)).heap[w.heap.size]? = some (.cells zM 26) ∧ (w.alloc (.cells zM 26)).heap.size = w.heap.size + 1) := ⟨(Below.refl _ _).alloc (Nat.le_refl _) _, heap_alloc_new _ _, by simp⟩
  have kt := textsManifest_out s (w.alloc (.cells zM 26)) (hm.below HB0.out.1)
  clear hm
  go_enter Tryz.func20, Tryz.ntmps20
  go_wp2_with (go_at_call 50; fail)
  generalize w.alloc (.cells zM 26) = W1 at *
  go_at_call 50
  refine kt.mono ?_
  rintro e w2 ⟨p, rv, xv, sv, lv, rfl, ho, hb, hap⟩
  have HAp : Hid (Apart rv xv sv ∧ ∀ b, lv.ownBlock = some b → rv.ownBlock ≠ some b ∧ xv.ownBlock ≠ some b ∧ sv.ownBlock ≠ some b) := hap
  have HB2 : Hid (Below w.heap.size w w2 ∧ w2.heap[w.heap.size]? = some (.cells zM 26)) := ⟨HB0.out.1.trans (hb.mono HB0.out.1.size), by rw [hb.block w.heap.size (by rw [HB0.out.2.2]; omega)]; exact HB0.out.2.1⟩
  have HO : Hid (OutM (w.heap.size + 1) s w2 p rv xv sv lv) := by show OutM _ _ _ _ _ _ _ _; rw [← HB0.out.2.2]; exact ho
  have HF : Hid (∀ a b c d, OutM w.heap.size s ((((w2.setCell ⟨w.heap.size, 0, none⟩ a).setCell ⟨w.heap.size, 1, none⟩ b).setCell ⟨w.heap.size, 2, none⟩ c).setCell ⟨w.heap.size, 3, none⟩ d) p rv xv sv lv) := fun a b c d => by
    have h := HO.out
    have hr : w.heap.size < w.heap.size + 1 := by omega
    exact ⟨h.pe, own_down (four_own h.re hr a b c d) (by omega), own_down (four_own h.xe hr a b c d) (by omega), own_down (four_own h.se hr a b c d) (by omega), own_down (four_own h.le hr a b c d) (by omega), h.ne⟩
  obtain ⟨_, _, _, e1⟩ := own_shape ho.re
  obtain ⟨_, _, _, e2⟩ := own_shape ho.xe
  obtain ⟨_, _, _, e3⟩ := own_shape ho.se
  obtain ⟨_, _, _, e4⟩ := own_shape ho.le
  subst e1 e2 e3 e4
  have HW : Hid (∀ a b c d, ((((w2.setCell ⟨w.heap.size, 0, none⟩ a).setCell ⟨w.heap.size, 1, none⟩ b).setCell ⟨w.heap.size, 2, none⟩ c).setCell ⟨w.heap.size, 3, none⟩ d).heap[w.heap.size]? = some (.cells #[a, b, c, d] 26)) := fun a b c d => wholeM HB2.out.2 a b c d
  obtain ⟨⟨g0, g1, g2, g3⟩, f0, f1, f2, f3⟩ := Dr.cells4 HB2.out.2
  clear kt ho hb HB0 HO hap
  go_wp2
  refine bodyPost_ret (results_cell_tmp Tryz.results20 _ _ w.heap.size 26 _ (0, 0) _ _ rfl rfl (HW.out _ _ _ _) Tryz.underlying26 rfl (by kernel_rfl)) rfl ?_
  exact ⟨_, _, _, _, _, rfl, HF.out _ _ _ _, four_below HB2.out.1 (Nat.le_refl _) _ _ _ _, HAp.out⟩

end Mf
end Go.Proofs.YtelmkfkgpnadnaaGreatDoor
