/-
  The law's book: lists that came out, each written full by its owner and laid down four times: what lies in memory.
-/
import Derived.Test.YtelmkfkgpnadnaaGreatDoorG0
namespace Go.Proofs.YtelmkfkgpnadnaaGreatDoor
open Go.RowKit

namespace Bk

variable {w w' : World}

/-- m times the same element. -/
def rep : Nat → List Value → List Value
  | 0, _ => []
  | m + 1, el => rep m el ++ el

theorem rep_len (el : List Value) : ∀ m, (rep m el).length = m * el.length
  | 0 => by simp [rep]
  | m + 1 => by rw [rep, List.length_append, rep_len el m, Nat.succ_mul]

theorem rep_pre (el : List Value) (z m : Nat) (hz : z < m * el.length) : ∀ m', m ≤ m' → (rep m' el)[z]? = (rep m el)[z]?
  | 0, h => by
    have : m = 0 := by omega
    rw [this]
  | m' + 1, h => by
    by_cases e : m = m' + 1
    · rw [e]
    · have hlt : z < m' * el.length := Nat.lt_of_lt_of_le hz (Nat.mul_le_mul_right _ (by omega))
      rw [rep, List.getElem?_append_left (by rw [rep_len]; exact hlt)]
      exact rep_pre el z m hz m' (by omega)

theorem rep_get (el : List Value) (i j m : Nat) (hi : i < m) (hj : j < el.length) : (rep m el)[i * el.length + j]? = el[j]? := by
  have h1 : i * el.length + j < (i + 1) * el.length := by rw [Nat.succ_mul]; omega
  rw [rep_pre el _ (i + 1) h1 m hi, rep, List.getElem?_append_right (by rw [rep_len]; omega), rep_len]
  congr 1
  omega

/-- The elements of one list: all the same. -/
def Reads (w : World) (g m : Nat) (el : List Value) : Prop := ∀ z, z < m * el.length → w.cell? ⟨g, z, none⟩ = (rep m el)[z]?

/-- A list that came out, where it lies. -/
def Lies (w : World) (B : Nat → Nat → Prop) (el : List Value) (s : Value) : Prop :=
  s = .slice none 0 0 ∨ ∃ g m cap, s = .slice (some ⟨g, 0, none⟩) m cap ∧ m ≤ 3000 ∧ g < w.heap.size ∧ Reads w g m el ∧ B g m

theorem Lies.imp {B C : Nat → Nat → Prop} {el : List Value} {s : Value} (h : Lies w B el s) (hs : w.heap.size ≤ w'.heap.size) (hb : ∀ g m, g < w.heap.size → Reads w g m el → B g m → Reads w' g m el ∧ C g m) : Lies w' C el s := by
  rcases h with h | ⟨g, m, cap, h1, h2, h3, h4, h5⟩
  · exact Or.inl h
  · have := hb g m h3 h4 h5
    exact Or.inr ⟨g, m, cap, h1, h2, by omega, this.1, this.2⟩

theorem reads_of_block {g m : Nat} {el : List Value} (h : Reads w g m el) (hb : w'.heap[g]? = w.heap[g]?) : Reads w' g m el := fun z hz => by
  rw [World.cell?_of_block (w := w) (a := ⟨g, z, none⟩) hb]; exact h z hz

/-- The row of them: pairs, a list and its number. -/
def AllLie (w : World) (B : Nat → Nat → Prop) (E : Int → List Value) (k : Nat) (xs : List Value) : Prop :=
  ∀ j, j < k → ∃ s c, xs[j * 2]? = some s ∧ xs[j * 2 + 1]? = some (.int .i64 c) ∧ (1 ≤ c ∧ c ≤ 9) ∧ Lies w B (E c) s

variable {E : Int → List Value}

theorem AllLie.imp {B C : Nat → Nat → Prop} {k : Nat} {xs : List Value} (h : AllLie w B E k xs) (hs : w.heap.size ≤ w'.heap.size) (hb : ∀ c g m, g < w.heap.size → Reads w g m (E c) → B g m → Reads w' g m (E c) ∧ C g m) : AllLie w' C E k xs := fun j hj => by
  obtain ⟨s, c, h1, h2, h0, h3⟩ := h j hj
  exact ⟨s, c, h1, h2, h0, h3.imp hs (hb c)⟩

theorem AllLie.append {B : Nat → Nat → Prop} {k m : Nat} {xs ys : List Value} (h : AllLie w B E k xs) (hl : xs.length = k * 2) (h2 : AllLie w B E m ys) : AllLie w B E (k + m) (xs ++ ys) := fun j hj => by
  by_cases e : j < k
  · obtain ⟨s, c, h1, h3, h0, h4⟩ := h j e
    exact ⟨s, c, by rw [List.getElem?_append_left (by omega)]; exact h1, by rw [List.getElem?_append_left (by omega)]; exact h3, h0, h4⟩
  · obtain ⟨s, c, h1, h3, h0, h4⟩ := h2 (j - k) (by omega)
    refine ⟨s, c, ?_, ?_, h0, h4⟩
    · rw [List.getElem?_append_right (by omega), hl, show j * 2 - k * 2 = (j - k) * 2 by omega]; exact h1
    · rw [List.getElem?_append_right (by omega), hl, show j * 2 + 1 - k * 2 = (j - k) * 2 + 1 by omega]; exact h3

theorem allLie_one {B : Nat → Nat → Prop} {c : Int} {s : Value} (h0 : 1 ≤ c ∧ c ≤ 9) (h : Lies w B (E c) s) : AllLie w B E 1 [s, .int .i64 c] := fun j hj => by
  have : j = 0 := by omega
  subst this
  exact ⟨s, c, rfl, rfl, h0, h⟩

/-- Where a list may lie that a take has laid down. -/
def tkB (w0 : World) (ob : Nat) (v0 lv gv : Value) (mj : Nat) (g m : Nat) : Prop :=
  (gv.ownBlock = some g → m ≤ mj) ∧ lv.ownBlock ≠ some g ∧ g ≠ ob ∧ (v0.ownBlock = some g ∨ w0.heap.size ≤ g)

/-- What a take has done so far: j lists laid down. -/
structure Tk (eT rT : TypeId) (fo : Nat) (E : Int → List Value) (q : Int) (w0 : World) (ob k : Nat) (F : Nat → Value) (lv0 v0 : Value) (xs : List Value) (j : Nat) (ys : List Value) (lv gv : Value) (mj : Nat) (wr : World) : Prop where
  obj : ValsAt wr ob 5 (fun f => if f = fo then lv else F f)
  rows : wr.ownsRow 0 eT 2 lv (k + j) (xs ++ ys)
  len : ys.length = j * 2
  lie : AllLie wr (tkB w0 ob v0 lv gv mj) E j ys
  own : wr.ownsRow 0 rT (E q).length gv mj (rep mj (E q))
  all : ∀ i, i < j → ys[i * 2 + 1]? = some (.int .i64 q)
  turn : Turn (fun b => b = ob ∨ lv0.ownBlock = some b ∨ v0.ownBlock = some b) w0 wr
  lb : ∀ b, lv.ownBlock = some b → lv0.ownBlock = some b ∨ w0.heap.size ≤ b
  gb : ∀ b, gv.ownBlock = some b → v0.ownBlock = some b ∨ w0.heap.size ≤ b
  ne : ∀ b, lv.ownBlock = some b → gv.ownBlock ≠ some b
  no : lv.ownBlock ≠ some ob ∧ gv.ownBlock ≠ some ob
  obl : ob < w0.heap.size

variable {eT rT : TypeId} {fo : Nat} {w0 wr : World} {ob k j mj : Nat} {F : Nat → Value} {lv0 v0 lv gv lv' gv' : Value} {xs ys : List Value} {q : Int}

theorem Tk.lists (h : Tk eT rT fo E q w0 ob k F lv0 v0 xs j ys lv gv mj wr) (hfo : fo < 5) (hq : 1 ≤ q ∧ q ≤ 9) (hm : mj ≤ 3000) (hm0 : gv = .slice none 0 0 ∨ ∃ g cap, gv = .slice (some ⟨g, 0, none⟩) mj cap) (o : Obj) (hown : w'.ownsRow 0 eT 2 lv' (k + j + 1) ((xs ++ ys) ++ [gv, .int .i64 q])) (hg : (wr.alloc o).grownBy w' lv.ownBlock)
    (hat : lv'.ownBlock = lv.ownBlock ∨ lv'.ownBlock = some (wr.alloc o).heap.size) :
    Tk eT rT fo E q w0 ob k F lv0 v0 xs (j + 1) (ys ++ [gv, .int .i64 q]) lv' gv mj (w'.setCell ⟨ob, fo, none⟩ lv') := by
  have hsz : w0.heap.size ≤ wr.heap.size := h.turn.size
  have hal : (wr.alloc o).heap.size = wr.heap.size + 1 := by simp
  have hs' : wr.heap.size + 1 ≤ w'.heap.size := by rw [← hal]; exact hg.size
  have hss : (w'.setCell ⟨ob, fo, none⟩ lv').heap.size = w'.heap.size := by simp [World.setCell]
  have hnew : ∀ b, b < wr.heap.size → lv'.ownBlock = some b → lv.ownBlock = some b := fun b hb he => by
    rcases hat with e | e
    · rw [← e]; exact he
    · rw [e] at he; injection he with he; omega
  have hkeep : ∀ b, b < wr.heap.size → lv.ownBlock ≠ some b → b ≠ ob → (w'.setCell ⟨ob, fo, none⟩ lv').heap[b]? = wr.heap[b]? := fun b hb hl hob => by
    rw [Below.heap_setCell _ _ _ _ hob, hg.block b (by omega) (fun e => hl e.symm), Below.heap_alloc _ _ _ hb]
  have hgl : ∀ b, gv.ownBlock = some b → b < wr.heap.size := fun b hb => (h.own.lt b hb).2
  have hobw : ob < wr.heap.size := by have := h.obl; omega
  have hob2 : lv'.ownBlock ≠ some ob := fun e => h.no.1 (hnew ob hobw e)
  have hgk : ∀ b, gv.ownBlock = some b → (w'.setCell ⟨ob, fo, none⟩ lv').heap[b]? = wr.heap[b]? := fun b hb => hkeep b (hgl b hb) (fun e => h.ne b e hb) (fun e => h.no.2 (e ▸ hb))
  have hown2 : (w'.setCell ⟨ob, fo, none⟩ lv').ownsRow 0 rT (E q).length gv mj (rep mj (E q)) := own_of_block h.own hgk
  refine ⟨?_, ?_, ?_, ?_, hown2, ?_, ?_, ?_, h.gb, ?_, ⟨hob2, h.no.2⟩, h.obl⟩
  · have h1 : ValsAt w' ob 5 (fun f => if f = fo then lv else F f) := h.obj.of_block (by rw [hg.block ob (by omega) (fun e => h.no.1 e.symm), Below.heap_alloc _ _ _ hobw])
    refine (h1.set (p := fo) hfo lv').ext fun f _ => ?_
    by_cases e : f = fo <;> simp [e]
  · rw [← List.append_assoc, ← Nat.add_assoc]
    exact ownsRow_setCell_other hown (fun e => hob2 e) lv'
  · rw [List.length_append, h.len]; simp; omega
  · refine AllLie.append (m := 1) (h.lie.imp (by rw [hss]; omega) ?_) h.len (allLie_one hq ?_)
    · intro c g m hgs hr hb
      exact ⟨reads_of_block hr (hkeep g hgs hb.2.1 hb.2.2.1), hb.1, fun e => hb.2.1 (hnew g hgs e), hb.2.2⟩
    · rcases hm0 with rfl | ⟨g, cap, rfl⟩
      · exact Or.inl rfl
      · have hgs := hgl g rfl
        refine Or.inr ⟨g, mj, cap, rfl, hm, by rw [hss]; omega, fun z hz => ?_, fun _ => Nat.le_refl _, fun e => h.ne g (hnew g hgs e) rfl, fun e => h.no.2 (by rw [← e]; rfl), h.gb g rfl⟩
        exact hown2.cellAt z hz
  · intro i hi
    by_cases e : i < j
    · rw [List.getElem?_append_left (by rw [h.len]; omega)]; exact h.all i e
    · have e' : i = j := by omega
      rw [List.getElem?_append_right (by rw [h.len]; omega), h.len, e']
      simp
  · refine ((h.turn.alloc o).grown hg (fun b hb e => ?_)).set (fun _ => Or.inl rfl) _
    rcases h.lb b e with h1 | h1
    · exact Or.inr (Or.inl h1)
    · omega
  · intro b hb
    by_cases hbs : b < wr.heap.size
    · exact h.lb b (hnew b hbs hb)
    · exact Or.inr (by omega)
  · intro b hb he
    exact h.ne b (hnew b (hgl b he) hb) he

theorem Tk.next (h : Tk eT rT fo E q w0 ob k F lv0 v0 xs j ys lv gv mj wr) (o : Obj) (hown : w'.ownsRow 0 rT (E q).length gv' (mj + 1) (rep mj (E q) ++ E q)) (hg : (wr.alloc o).grownBy w' gv.ownBlock)
    (hat : gv'.ownBlock = gv.ownBlock ∨ (gv'.ownBlock = some (wr.alloc o).heap.size ∧ (wr.alloc o).grownBy w' none)) :
    Tk eT rT fo E q w0 ob k F lv0 v0 xs j ys lv gv' (mj + 1) w' := by
  have hsz : w0.heap.size ≤ wr.heap.size := h.turn.size
  have hal : (wr.alloc o).heap.size = wr.heap.size + 1 := by simp
  have hs' : wr.heap.size + 1 ≤ w'.heap.size := by rw [← hal]; exact hg.size
  have hobw : ob < wr.heap.size := by have := h.obl; omega
  have hnew : ∀ b, b < wr.heap.size → gv'.ownBlock = some b → gv.ownBlock = some b := fun b hb he => by
    rcases hat with e | e
    · rw [← e]; exact he
    · rw [e.1] at he; injection he with he; omega
  have hkeep : ∀ b, b < wr.heap.size → gv.ownBlock ≠ some b → w'.heap[b]? = wr.heap[b]? := fun b hb hl => by
    rw [hg.block b (by omega) (fun e => hl e.symm), Below.heap_alloc _ _ _ hb]
  have hown' : w'.ownsRow 0 rT (E q).length gv' (mj + 1) (rep (mj + 1) (E q)) := hown
  refine ⟨h.obj.of_block (hkeep ob hobw h.no.2), own_of_block h.rows (fun b hb => hkeep b ((h.rows.lt b hb).2) (h.ne b hb)), h.len, ?_, hown', h.all, ?_, h.lb, ?_, ?_, ⟨h.no.1, fun e => h.no.2 (hnew ob hobw e)⟩, h.obl⟩
  · intro i hi
    obtain ⟨s, c, h1, h2, h0, h3⟩ := h.lie i hi
    have hc : c = q := by
      have := h.all i hi
      rw [h2] at this
      injection this with this
      injection this
    subst hc
    refine ⟨s, c, h1, h2, h0, h3.imp (by omega) ?_⟩
    intro g m hgs hr hb
    refine ⟨?_, ?_, hb.2⟩
    · by_cases e : gv.ownBlock = some g
      · rcases hat with e2 | ⟨_, e2⟩
        · have hmj := hb.1 e
          rw [e] at e2
          intro z hz
          have hlt : z < (mj + 1) * (E c).length := Nat.lt_of_lt_of_le hz (Nat.mul_le_mul_right _ (by omega))
          have hg? : (rep (mj + 1) (E c))[z]? = some ((rep (mj + 1) (E c))[z]'(by rw [rep_len]; exact hlt)) := List.getElem?_eq_getElem _
          have := hown'.cells e2 z _ hg?
          rw [Addr.add_lit, Nat.zero_add] at this
          rw [this, ← hg?]
          exact rep_pre _ z m hz _ (by omega)
        · exact reads_of_block hr (by rw [e2.block g (by omega) (by simp), Below.heap_alloc _ _ _ hgs])
      · exact reads_of_block hr (hkeep g hgs e)
    · intro e
      have := hb.1 (hnew g hgs e)
      omega
  · refine (h.turn.alloc o).grown hg (fun b hb e => ?_)
    rcases h.gb b e with h1 | h1
    · exact Or.inr (Or.inr h1)
    · omega
  · intro b hb
    by_cases hbs : b < wr.heap.size
    · exact h.gb b (hnew b hbs hb)
    · exact Or.inr (by omega)
  · intro b hb he
    exact h.ne b hb (hnew b ((h.rows.lt b hb).2) he)

end Bk
end Go.Proofs.YtelmkfkgpnadnaaGreatDoor
