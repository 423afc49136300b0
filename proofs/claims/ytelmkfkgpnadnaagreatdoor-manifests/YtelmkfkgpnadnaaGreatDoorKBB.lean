/-
  The law's book: lists that came out, each written full by its owner and laid down four times: what lies in memory.
  The law's book: the text for a number.
  The law's book: a list, as far as it is written over.
-/
import Derived.Test.YtelmkfkgpnadnaaGreatDoorKGA
import Derived.Test.YtelmkfkgpnadnaaGreatDoorKBA
import Derived.Test.YtelmkfkgpnadnaaGreatDoorKCE
namespace Go.Proofs.YtelmkfkgpnadnaaGreatDoor
open Go.RowKit

namespace Bm

variable {w w' : World}

/-- m times the same element. -/
def rep : Nat → List Value → List Value
  | 0, _ => []
  | m + 1, el => rep m el ++ el

theorem rep_len (el : List Value) : ∀ m, (rep m el).length = m * el.length
  | 0 => by simp [rep]
  | m + 1 => by rw [rep, List.length_append, rep_len el m, Nat.succ_mul]

theorem rep_pre (el : List Value) (z m : Nat) (hz : z < m * el.length) : ∀ m', m ≤ m' → (rep m' el)[z]? = (rep m el)[z]?
  | 0, h => by
    have : m = 0 := by omega
    rw [this]
  | m' + 1, h => by
    by_cases e : m = m' + 1
    · rw [e]
    · have hlt : z < m' * el.length := Nat.lt_of_lt_of_le hz (Nat.mul_le_mul_right _ (by omega))
      rw [rep, List.getElem?_append_left (by rw [rep_len]; exact hlt)]
      exact rep_pre el z m hz m' (by omega)

theorem rep_get (el : List Value) (i j m : Nat) (hi : i < m) (hj : j < el.length) : (rep m el)[i * el.length + j]? = el[j]? := by
  have h1 : i * el.length + j < (i + 1) * el.length := by rw [Nat.succ_mul]; omega
  rw [rep_pre el _ (i + 1) h1 m hi, rep, List.getElem?_append_right (by rw [rep_len]; omega), rep_len]
  congr 1
  omega

/-- The elements of one list: all the same. -/
def Reads (w : World) (g m : Nat) (el : List Value) : Prop := ∀ z, z < m * el.length → w.cell? ⟨g, z, none⟩ = (rep m el)[z]?

/-- A list that came out, where it lies. -/
def Lies (w : World) (B : Nat → Nat → Prop) (el : List Value) (s : Value) : Prop :=
  s = .slice none 0 0 ∨ ∃ g m cap, s = .slice (some ⟨g, 0, none⟩) m cap ∧ m ≤ 3000 ∧ g < w.heap.size ∧ Reads w g m el ∧ B g m

theorem Lies.imp {B C : Nat → Nat → Prop} {el : List Value} {s : Value} (h : Lies w B el s) (hs : w.heap.size ≤ w'.heap.size) (hb : ∀ g m, g < w.heap.size → Reads w g m el → B g m → Reads w' g m el ∧ C g m) : Lies w' C el s := by
  rcases h with h | ⟨g, m, cap, h1, h2, h3, h4, h5⟩
  · exact Or.inl h
  · have := hb g m h3 h4 h5
    exact Or.inr ⟨g, m, cap, h1, h2, by omega, this.1, this.2⟩

theorem reads_of_block {g m : Nat} {el : List Value} (h : Reads w g m el) (hb : w'.heap[g]? = w.heap[g]?) : Reads w' g m el := fun z hz => by
  rw [World.cell?_of_block (w := w) (a := ⟨g, z, none⟩) hb]; exact h z hz

/-- The row of them: pairs, a list and its number. -/
def AllLie (w : World) (B : Nat → Nat → Prop) (E : Int → List Value) (k : Nat) (xs : List Value) : Prop :=
  ∀ j, j < k → ∃ s c, xs[j * 2]? = some s ∧ xs[j * 2 + 1]? = some (.int .i64 c) ∧ (1 ≤ c ∧ c ≤ 1000000) ∧ Lies w B (E c) s

variable {E : Int → List Value}

theorem AllLie.imp {B C : Nat → Nat → Prop} {k : Nat} {xs : List Value} (h : AllLie w B E k xs) (hs : w.heap.size ≤ w'.heap.size) (hb : ∀ c g m, g < w.heap.size → Reads w g m (E c) → B g m → Reads w' g m (E c) ∧ C g m) : AllLie w' C E k xs := fun j hj => by
  obtain ⟨s, c, h1, h2, h0, h3⟩ := h j hj
  exact ⟨s, c, h1, h2, h0, h3.imp hs (hb c)⟩

theorem AllLie.append {B : Nat → Nat → Prop} {k m : Nat} {xs ys : List Value} (h : AllLie w B E k xs) (hl : xs.length = k * 2) (h2 : AllLie w B E m ys) : AllLie w B E (k + m) (xs ++ ys) := fun j hj => by
  by_cases e : j < k
  · obtain ⟨s, c, h1, h3, h0, h4⟩ := h j e
    exact ⟨s, c, by rw [List.getElem?_append_left (by omega)]; exact h1, by rw [List.getElem?_append_left (by omega)]; exact h3, h0, h4⟩
  · obtain ⟨s, c, h1, h3, h0, h4⟩ := h2 (j - k) (by omega)
    refine ⟨s, c, ?_, ?_, h0, h4⟩
    · rw [List.getElem?_append_right (by omega), hl, show j * 2 - k * 2 = (j - k) * 2 by omega]; exact h1
    · rw [List.getElem?_append_right (by omega), hl, show j * 2 + 1 - k * 2 = (j - k) * 2 + 1 by omega]; exact h3

theorem allLie_one {B : Nat → Nat → Prop} {c : Int} {s : Value} (h0 : 1 ≤ c ∧ c ≤ 1000000) (h : Lies w B (E c) s) : AllLie w B E 1 [s, .int .i64 c] := fun j hj => by
  have : j = 0 := by omega
  subst this
  exact ⟨s, c, rfl, rfl, h0, h⟩

/-- Where a list may lie that a take has laid down. -/
def tkB (w0 : World) (ob : Nat) (v0 lv gv : Value) (mj : Nat) (g m : Nat) : Prop :=
  (gv.ownBlock = some g → m ≤ mj) ∧ lv.ownBlock ≠ some g ∧ g ≠ ob ∧ (v0.ownBlock = some g ∨ w0.heap.size ≤ g)

/-- What a take has done so far: j lists laid down. -/
structure Tk (eT rT : TypeId) (fo : Nat) (E : Int → List Value) (q : Int) (w0 : World) (ob k : Nat) (F : Nat → Value) (lv0 v0 : Value) (xs : List Value) (j : Nat) (ys : List Value) (lv gv : Value) (mj : Nat) (wr : World) : Prop where
  obj : ValsAt wr ob 5 (fun f => if f = fo then lv else F f)
  rows : wr.ownsRow 0 eT 2 lv (k + j) (xs ++ ys)
  len : ys.length = j * 2
  lie : AllLie wr (tkB w0 ob v0 lv gv mj) E j ys
  own : wr.ownsRow 0 rT (E q).length gv mj (rep mj (E q))
  all : ∀ i, i < j → ys[i * 2 + 1]? = some (.int .i64 q)
  turn : Turn (fun b => b = ob ∨ lv0.ownBlock = some b ∨ v0.ownBlock = some b) w0 wr
  lb : ∀ b, lv.ownBlock = some b → lv0.ownBlock = some b ∨ w0.heap.size ≤ b
  gb : ∀ b, gv.ownBlock = some b → v0.ownBlock = some b ∨ w0.heap.size ≤ b
  ne : ∀ b, lv.ownBlock = some b → gv.ownBlock ≠ some b
  no : lv.ownBlock ≠ some ob ∧ gv.ownBlock ≠ some ob
  obl : ob < w0.heap.size

variable {eT rT : TypeId} {fo : Nat} {w0 wr : World} {ob k j mj : Nat} {F : Nat → Value} {lv0 v0 lv gv lv' gv' : Value} {xs ys : List Value} {q : Int}

theorem Tk.lists (h : Tk eT rT fo E q w0 ob k F lv0 v0 xs j ys lv gv mj wr) (hfo : fo < 5) (hq : 1 ≤ q ∧ q ≤ 1000000) (hm : mj ≤ 3000) (hm0 : gv = .slice none 0 0 ∨ ∃ g cap, gv = .slice (some ⟨g, 0, none⟩) mj cap) (o : Obj) (hown : w'.ownsRow 0 eT 2 lv' (k + j + 1) ((xs ++ ys) ++ [gv, .int .i64 q])) (hg : (wr.alloc o).grownBy w' lv.ownBlock)
    (hat : lv'.ownBlock = lv.ownBlock ∨ lv'.ownBlock = some (wr.alloc o).heap.size) :
    Tk eT rT fo E q w0 ob k F lv0 v0 xs (j + 1) (ys ++ [gv, .int .i64 q]) lv' gv mj (w'.setCell ⟨ob, fo, none⟩ lv') := by
  have hsz : w0.heap.size ≤ wr.heap.size := h.turn.size
  have hal : (wr.alloc o).heap.size = wr.heap.size + 1 := by simp
  have hs' : wr.heap.size + 1 ≤ w'.heap.size := by rw [← hal]; exact hg.size
  have hss : (w'.setCell ⟨ob, fo, none⟩ lv').heap.size = w'.heap.size := by simp [World.setCell]
  have hnew : ∀ b, b < wr.heap.size → lv'.ownBlock = some b → lv.ownBlock = some b := fun b hb he => by
    rcases hat with e | e
    · rw [← e]; exact he
    · rw [e] at he; injection he with he; omega
  have hkeep : ∀ b, b < wr.heap.size → lv.ownBlock ≠ some b → b ≠ ob → (w'.setCell ⟨ob, fo, none⟩ lv').heap[b]? = wr.heap[b]? := fun b hb hl hob => by
    rw [Below.heap_setCell _ _ _ _ hob, hg.block b (by omega) (fun e => hl e.symm), Below.heap_alloc _ _ _ hb]
  have hgl : ∀ b, gv.ownBlock = some b → b < wr.heap.size := fun b hb => (h.own.lt b hb).2
  have hobw : ob < wr.heap.size := by have := h.obl; omega
  have hob2 : lv'.ownBlock ≠ some ob := fun e => h.no.1 (hnew ob hobw e)
  have hgk : ∀ b, gv.ownBlock = some b → (w'.setCell ⟨ob, fo, none⟩ lv').heap[b]? = wr.heap[b]? := fun b hb => hkeep b (hgl b hb) (fun e => h.ne b e hb) (fun e => h.no.2 (e ▸ hb))
  have hown2 : (w'.setCell ⟨ob, fo, none⟩ lv').ownsRow 0 rT (E q).length gv mj (rep mj (E q)) := own_of_block h.own hgk
  refine ⟨?_, ?_, ?_, ?_, hown2, ?_, ?_, ?_, h.gb, ?_, ⟨hob2, h.no.2⟩, h.obl⟩
  · have h1 : ValsAt w' ob 5 (fun f => if f = fo then lv else F f) := h.obj.of_block (by rw [hg.block ob (by omega) (fun e => h.no.1 e.symm), Below.heap_alloc _ _ _ hobw])
    refine (h1.set (p := fo) hfo lv').ext fun f _ => ?_
    by_cases e : f = fo <;> simp [e]
  · rw [← List.append_assoc, ← Nat.add_assoc]
    exact ownsRow_setCell_other hown (fun e => hob2 e) lv'
  · rw [List.length_append, h.len]; simp; omega
  · refine AllLie.append (m := 1) (h.lie.imp (by rw [hss]; omega) ?_) h.len (allLie_one hq ?_)
    · intro c g m hgs hr hb
      exact ⟨reads_of_block hr (hkeep g hgs hb.2.1 hb.2.2.1), hb.1, fun e => hb.2.1 (hnew g hgs e), hb.2.2⟩
    · rcases hm0 with rfl | ⟨g, cap, rfl⟩
      · exact Or.inl rfl
      · have hgs := hgl g rfl
        refine Or.inr ⟨g, mj, cap, rfl, hm, by rw [hss]; omega, fun z hz => ?_, fun _ => Nat.le_refl _, fun e => h.ne g (hnew g hgs e) rfl, fun e => h.no.2 (by rw [← e]; rfl), h.gb g rfl⟩
        exact hown2.cellAt z hz
  · intro i hi
    by_cases e : i < j
    · rw [List.getElem?_append_left (by rw [h.len]; omega)]; exact h.all i e
    · have e' : i = j := by omega
      rw [List.getElem?_append_right (by rw [h.len]; omega), h.len, e']
      simp
  · refine ((h.turn.alloc o).grown hg (fun b hb e => ?_)).set (fun _ => Or.inl rfl) _
    rcases h.lb b e with h1 | h1
    · exact Or.inr (Or.inl h1)
    · omega
  · intro b hb
    by_cases hbs : b < wr.heap.size
    · exact h.lb b (hnew b hbs hb)
    · exact Or.inr (by omega)
  · intro b hb he
    exact h.ne b (hnew b (hgl b he) hb) he

theorem Tk.next (h : Tk eT rT fo E q w0 ob k F lv0 v0 xs j ys lv gv mj wr) (o : Obj) (hown : w'.ownsRow 0 rT (E q).length gv' (mj + 1) (rep mj (E q) ++ E q)) (hg : (wr.alloc o).grownBy w' gv.ownBlock)
    (hat : gv'.ownBlock = gv.ownBlock ∨ (gv'.ownBlock = some (wr.alloc o).heap.size ∧ (wr.alloc o).grownBy w' none)) :
    Tk eT rT fo E q w0 ob k F lv0 v0 xs j ys lv gv' (mj + 1) w' := by
  have hsz : w0.heap.size ≤ wr.heap.size := h.turn.size
  have hal : (wr.alloc o).heap.size = wr.heap.size + 1 := by simp
  have hs' : wr.heap.size + 1 ≤ w'.heap.size := by rw [← hal]; exact hg.size
  have hobw : ob < wr.heap.size := by have := h.obl; omega
  have hnew : ∀ b, b < wr.heap.size → gv'.ownBlock = some b → gv.ownBlock = some b := fun b hb he => by
    rcases hat with e | e
    · rw [← e]; exact he
    · rw [e.1] at he; injection he with he; omega
  have hkeep : ∀ b, b < wr.heap.size → gv.ownBlock ≠ some b → w'.heap[b]? = wr.heap[b]? := fun b hb hl => by
    rw [hg.block b (by omega) (fun e => hl e.symm), Below.heap_alloc _ _ _ hb]
  have hown' : w'.ownsRow 0 rT (E q).length gv' (mj + 1) (rep (mj + 1) (E q)) := hown
  refine ⟨h.obj.of_block (hkeep ob hobw h.no.2), own_of_block h.rows (fun b hb => hkeep b ((h.rows.lt b hb).2) (h.ne b hb)), h.len, ?_, hown', h.all, ?_, h.lb, ?_, ?_, ⟨h.no.1, fun e => h.no.2 (hnew ob hobw e)⟩, h.obl⟩
  · intro i hi
    obtain ⟨s, c, h1, h2, h0, h3⟩ := h.lie i hi
    have hc : c = q := by
      have := h.all i hi
      rw [h2] at this
      injection this with this
      injection this
    subst hc
    refine ⟨s, c, h1, h2, h0, h3.imp (by omega) ?_⟩
    intro g m hgs hr hb
    refine ⟨?_, ?_, hb.2⟩
    · by_cases e : gv.ownBlock = some g
      · rcases hat with e2 | ⟨_, e2⟩
        · have hmj := hb.1 e
          rw [e] at e2
          intro z hz
          have hlt : z < (mj + 1) * (E c).length := Nat.lt_of_lt_of_le hz (Nat.mul_le_mul_right _ (by omega))
          have hg? : (rep (mj + 1) (E c))[z]? = some ((rep (mj + 1) (E c))[z]'(by rw [rep_len]; exact hlt)) := List.getElem?_eq_getElem _
          have := hown'.cells e2 z _ hg?
          rw [Addr.add_lit, Nat.zero_add] at this
          rw [this, ← hg?]
          exact rep_pre _ z m hz _ (by omega)
        · exact reads_of_block hr (by rw [e2.block g (by omega) (by simp), Below.heap_alloc _ _ _ hgs])
      · exact reads_of_block hr (hkeep g hgs e)
    · intro e
      have := hb.1 (hnew g hgs e)
      omega
  · refine (h.turn.alloc o).grown hg (fun b hb e => ?_)
    rcases h.gb b e with h1 | h1
    · exact Or.inr (Or.inr h1)
    · omega
  · intro b hb
    by_cases hbs : b < wr.heap.size
    · exact h.gb b (hnew b hbs hb)
    · exact Or.inr (by omega)
  · intro b hb he
    exact h.ne b hb (hnew b ((h.rows.lt b hb).2) he)

end Bm
end Go.Proofs.YtelmkfkgpnadnaaGreatDoor

namespace Go.Proofs.YtelmkfkgpnadnaaGreatDoor
open Go.RowKit
namespace Bm

/-- The digits of a number, the least first, as bytes. -/
def digs : Nat → Nat → List Nat
  | 0, _ => []
  | f + 1, n => if n = 0 then [] else (48 + n % 10) :: digs f (n / 10)

theorem digs_len : ∀ f n, (digs f n).length ≤ f
  | 0, _ => by simp [digs]
  | f + 1, n => by
    rw [digs]
    split
    · simp
    · have := digs_len f (n / 10)
      simp
      exact this

def wordM (c : Nat) : ByteArray := ⟨(35 :: (digs 20 c).map UInt8.ofNat).toArray⟩

theorem digs_byte : ∀ f n, ∀ d ∈ digs f n, d < 256
  | 0, _, d, h => by simp [digs] at h
  | f + 1, n, d, h => by
    rw [digs] at h
    split at h
    · simp at h
    · rcases List.mem_cons.1 h with e | e
      · omega
      · exact digs_byte f (n / 10) d e

theorem conv_list (wr : World) (B g cap : Nat) (L : List Nat) (hL : ∀ d ∈ L, d < 256) (h : wr.ownsRow B 5 1 (.slice (some ⟨g, 0, none⟩) (L.length + 1) cap) (L.length + 1) (.int .u8 35 :: L.map fun d : Nat => Value.int .u8 (d : Int))) :
    (convert 103 9 (Value.slice (some ⟨g, 0, none⟩) (L.length + 1) cap)).run Tryz.prog wr = .ok (.string ⟨(35 :: L.map UInt8.ofNat).toArray⟩) wr := by
  have key := run_convert_bytes_back (P := Tryz.prog) wr 103 9 5 ⟨g, 0, none⟩ cap (35 :: L.map UInt8.ofNat) Tryz.underlying103 Tryz.underlying5 Tryz.underlying9 (fun j hj => by
    have hl : j < L.length + 1 := by simpa using hj
    have hc : (Value.int .u8 35 :: L.map fun d : Nat => Value.int .u8 (d : Int))[j]? = some (.int .u8 (((35 : UInt8) :: L.map UInt8.ofNat)[j].toNat : Int)) := by
      cases j with
      | zero => rfl
      | succ j =>
        have hj2 : j < L.length := by omega
        have h3 : (UInt8.ofNat L[j]).toNat = L[j] := by
          rw [UInt8.toNat_ofNat']
          have := hL L[j] (List.getElem_mem hj2)
          omega
        simp only [List.getElem?_cons_succ, List.getElem?_map, List.getElem?_eq_getElem hj2, Option.map_some, List.getElem_cons_succ, List.getElem_map]
        rw [h3]
    exact h.cells (g := g) rfl j _ hc)
  have e : (35 :: L.map UInt8.ofNat).length = L.length + 1 := by simp
  rw [e] at key
  exact key

set_option maxRecDepth 100000 in
set_option maxHeartbeats 1000000 in
theorem word_all (c : Nat) (hc : c ≤ 1000000) (w : World) :
    Calls Tryz.prog 78 #[.int .i64 c] w fun e w' => e = .returned (.string (wordM c)) ∧ Below w.heap.size w w' := by
  obtain ⟨i9, hi1, hi2, hi3, hi4⟩ := Bk.info5b
  have HI : Hid (Tryz.prog.info? 5 = some i9 ∧ i9.zero = some (.int .u8 0) ∧ i9.size = 1 ∧ i9.bytes = 1) := ⟨hi1, hi2, hi3, hi4⟩
  clear hi1 hi2 hi3 hi4
  have HD0 : Hid (∀ d ∈ digs 20 c, d < 256) := digs_byte 20 c
  have HW : Hid (wordM c = ⟨(35 :: (digs 20 c).map UInt8.ofNat).toArray⟩) := rfl
  obtain ⟨D, hD⟩ : ∃ D, digs 20 c = D := ⟨_, rfl⟩
  rw [hD] at HD0 HW
  have HDl : Hid (D.length ≤ 20) := by show D.length ≤ 20; rw [← hD]; exact digs_len 20 c
  have H0 : Hid ([] ++ digs 20 c = D) := hD
  clear hD
  go_enter Tryz.func78, Tryz.ntmps78
  go_wp2
  go_loopg [0, 3] 20 (fun gg nv v wr => ∃ (m f : Nat) (L : List Nat), nv = .int .i64 m ∧ m ≤ 1000000 ∧ (m ≠ 0 → 1 ≤ f) ∧ m < 10 ^ f ∧ f ≤ gg ∧ f ≤ 20 ∧ Below w.heap.size w wr ∧ Hid (L ++ digs f m = D) ∧ Hid (wr.ownsRow w.heap.size 5 1 v (L.length + 1) (.int .u8 35 :: L.map fun d : Nat => Value.int .u8 (d : Int))))
  case atStart => exact ⟨c, 20, [], rfl, hc, by omega, by omega, by omega, by omega, (Below.refl _ _).alloc (Nat.le_refl _) _, H0, Bk.own_hash w⟩
  case round =>
    clear H0
    obtain ⟨m, f, L, rfl, hm, hf1, hmf, hfg, hf20, hb, HL, HO⟩ := hrel
    by_cases hm0 : m = 0
    · subst hm0
      have hLD : L = D := by
        have h := HL.out
        have e : digs f 0 = [] := by cases f <;> simp [digs]
        rw [e, List.append_nil] at h
        exact h
      subst hLD
      obtain ⟨g, cap, hv⟩ := own_some HO.out (by omega)
      have hown := HO.out
      rw [hv] at hown ⊢
      have hcw := conv_list wr _ g cap L HD0.out hown
      rw [← HW.out] at hcw
      obtain ⟨x, hx⟩ : ∃ x, wordM c = x := ⟨_, rfl⟩
      have HXe : Hid (wordM c = x) := hx
      rw [hx] at hcw
      generalize L.length = ll at *
      clear hown HO HL HD0 HW hx
      go_wp2
      go_ret
      exact ⟨by rw [HXe.out]; rfl, hb⟩
    · obtain ⟨f', rfl⟩ : ∃ f', f = f' + 1 := ⟨f - 1, by have := hf1 hm0; omega⟩
      have hmI : (0 : Int) < (m : Int) := by omega
      have hw : IntKind.u8.wrap (48 + (m : Int) % 10) = ((48 + m % 10 : Nat) : Int) := by
        simp [IntKind.wrap, IntKind.bits, IntKind.signed]
        omega
      have hL2 : Hid ((L ++ [48 + m % 10]) ++ digs f' (m / 10) = D) := by
        have h := HL.out
        rw [digs, if_neg hm0] at h
        show _ = _
        rw [List.append_assoc]
        exact h
      have hll : L.length ≤ 20 := by
        have h := congrArg List.length HL.out
        rw [List.length_append] at h
        have := HDl.out
        omega
      have hdiv : m / 10 < 10 ^ f' := by
        rw [Nat.pow_succ] at hmf
        exact Nat.div_lt_of_lt_mul (by rw [Nat.mul_comm]; exact hmf)
      have hd1 : m / 10 ≠ 0 → 1 ≤ f' := fun h => by
        cases f' with
        | zero => simp at hdiv; omega
        | succ n => omega
      have hmd : m / 10 ≤ 1000000 := by omega
      generalize hdd : 48 + m % 10 = dd at *
      have hown := HO.out
      have HS : Hid (∀ (W : World) (v' : Value), W.ownsRow w.heap.size 5 1 v' (L.length + 1 + 1) ((.int .u8 35 :: L.map fun d : Nat => Value.int .u8 (d : Int)) ++ [.int .u8 dd]) → W.ownsRow w.heap.size 5 1 v' ((L ++ [dd]).length + 1) (.int .u8 35 :: (L ++ [dd]).map fun d : Nat => Value.int .u8 (d : Int))) := fun W v' h => by
        rw [List.length_append, List.map_append]
        exact h
      generalize hLL : (Value.int .u8 35 :: L.map fun d : Nat => Value.int .u8 (d : Int)) = VL at *
      obtain ⟨va, vc, hv⟩ := Bk.own_sl' hown
      have HO2 : Hid (wr.ownsRow w.heap.size 5 1 u3 (L.length + 1) VL) := hown
      rw [hv] at HO2 ⊢
      clear hLL hown HO HL hmf hf1
      generalize hln : L.length = ll at *
      go_wp2_with (at_builtin; refine wpList_append_own_at _ rfl _ _ 103 rfl w.heap.size 5 i9 (.int .u8 0) 1 1 Tryz.underlying103 HI.out.1 HI.out.2.1 HI.out.2.2.1 HI.out.2.2.2 rfl (by decide) _ _ _ rfl (HO2.out.alloc _) ⟨wr.heap.size, 0, none⟩ 1 1 [.int .u8 (dd : Int)] rfl rfl ?_ ?_ ?_ ?_ ?_ ?_)
      all_goals first
        | exact cell_one_new _ _ _
        | (show ∀ u ∈ [Value.int .u8 (dd : Int)], u.oneCell' = true; intro u hu; simp at hu; subst hu; rfl)
        | (show ll + 1 + 1 ≤ maxLen; unfold maxLen; omega)
        | (show (ll + 1 + 1) * 1 ≤ 140737488355328; omega)
        | (show w.heap.size ≤ (wr.alloc _).heap.size; have := hb.size; simp; omega)
        | (show w.heap.size ≤ wr.heap.size + 1; have := hb.size; omega)
        | skip
      intro v' w1 hown' hgrow _ _
      have hb1 : Below w.heap.size w w1 := (hb.alloc hb.size _).grown hgrow (by have := hb.size; simp; omega) (fun b e => (HO2.out.lt b e).1)
      have HO1 : Hid (w1.ownsRow w.heap.size 5 1 v' ((L ++ [dd]).length + 1) (.int .u8 35 :: (L ++ [dd]).map fun d : Nat => Value.int .u8 (d : Int))) := HS.out w1 v' hown'
      clear hown' hgrow HO2 HS hw
      go_wp2
      go_roundg f'
      case measure => omega
      case rel => exact ⟨m / 10, f', L ++ [dd], by go_num, hmd, hd1, hdiv, by omega, by omega, hb1, hL2, HO1⟩

end Bm
end Go.Proofs.YtelmkfkgpnadnaaGreatDoor

namespace Go.Proofs.YtelmkfkgpnadnaaGreatDoor
open Go.RowKit
open Bk (own_sl own_sl' Fl wrap_id)
namespace Bm

variable {w w' : World}

def slipEl (c : Int) : List Value := [.int .i64 0, .int .i64 0, .int .i64 (-c)]
def modEl (c : Int) : List Value := [.string (wordM c.toNat), .string ⟨#[]⟩]
def swapEl (c : Int) : List Value := [.string (wordM c.toNat), .string ⟨#[]⟩, .string ⟨#[]⟩]

/-- The list, as far as it is written over. -/
structure Wr (rT : TypeId) (fo : Nat) (el : List Value) (eT : TypeId) (w0 : World) (ob k m : Nat) (F : Nat → Value) (lv v : Value) (xs ys : List Value) (i : Nat) (wr : World) : Prop where
  obj : ValsAt wr ob 5 (fun f => if f = fo then lv else F f)
  rows : wr.ownsRow 0 eT 2 lv k xs
  own : wr.ownsRow 0 rT el.length v m (rep i el ++ ys.drop (i * el.length))
  turn : Turn (fun b => b = ob ∨ lv.ownBlock = some b ∨ v.ownBlock = some b) w0 wr
  obl : ob < w0.heap.size
  ne : lv.ownBlock ≠ some ob ∧ v.ownBlock ≠ some ob ∧ ∀ b, lv.ownBlock = some b → v.ownBlock ≠ some b

variable {rT eT : TypeId} {fo : Nat} {el : List Value} {w0 wr : World} {ob k m i : Nat} {F : Nat → Value} {lv v : Value} {xs ys : List Value} {E : Int → List Value} {q : Int}

theorem Wr.below (h : Wr rT fo el eT w0 ob k m F lv v xs ys i wr) (hb : Below wr.heap.size wr w') : Wr rT fo el eT w0 ob k m F lv v xs ys i w' :=
  ⟨h.obj.of_block (hb.block ob (Nat.lt_of_lt_of_le h.obl h.turn.size)), own_of_block h.rows (fun b e => hb.block b (h.rows.lt b e).2), own_of_block h.own (fun b e => hb.block b (h.own.lt b e).2), h.turn.more hb, h.obl, h.ne⟩

theorem Wr.done (h : Wr rT fo (E q) eT w0 ob k m F lv v xs ys m wr) (hl : ys.length = m * (E q).length) : Tk eT rT fo E q w0 ob k F lv v xs 0 [] lv v m wr := by
  have e : rep m (E q) ++ ys.drop (m * (E q).length) = rep m (E q) := by rw [← hl]; simp
  have ho := h.own
  rw [e] at ho
  exact ⟨h.obj, by simpa using h.rows, rfl, fun j hj => by omega, ho, fun j hj => by omega, h.turn, fun b hb => Or.inl hb, fun b hb => Or.inl hb, h.ne.2.2, ⟨h.ne.1, h.ne.2.1⟩, h.obl⟩

theorem Wr.start {c : Nat} {G : Nat → Value} (hfo : fo ≠ 0) (hobj : ValsAt w ob 5 (fun f => if f = fo then lv else if f = 0 then .int .i64 c else G f)) (hrows : w.ownsRow 0 eT 2 lv k xs) (hown : w.ownsRow 0 rT el.length v m ys)
    (hd : lv.ownBlock ≠ some ob ∧ v.ownBlock ≠ some ob ∧ ∀ b, lv.ownBlock = some b → v.ownBlock ≠ some b) :
    Wr rT fo el eT w ob k m (fun f => if f = 0 then .int .i64 ((c + 1 : Nat) : Int) else G f) lv v xs ys 0 (w.setCell ⟨ob, 0, none⟩ (.int .i64 ((c + 1 : Nat) : Int))) := by
  have hl : ob < w.heap.size := World.block_lt_of_cell? w ⟨ob, 0, none⟩ (hobj.at' 0 (by omega))
  refine ⟨?_, ownsRow_setCell_other hrows hd.1 _, ?_, (Turn.refl _ w).set (fun _ => Or.inl rfl) _, hl, hd⟩
  · refine (hobj.set (p := 0) (by omega) _).ext fun f _ => ?_
    by_cases e : f = 0
    · subst e
      rw [if_pos rfl, if_neg (fun e => hfo e.symm), if_pos rfl]
    · simp [e]
  · have : rep 0 el ++ ys.drop (0 * el.length) = ys := by simp [rep]
    rw [this]
    exact ownsRow_setCell_other hown hd.2.1 _

variable {lv0 v0 gv : Value} {w1 : World} {j mj : Nat}

theorem Tk.rebase (h : Tk eT rT fo E q w1 ob k F lv0 v0 xs j ys lv gv mj wr) (ht : Turn (fun b => b = ob ∨ lv0.ownBlock = some b ∨ v0.ownBlock = some b) w0 w1) (hob : ob < w0.heap.size) : Tk eT rT fo E q w0 ob k F lv0 v0 xs j ys lv gv mj wr := by
  have hs := ht.size
  refine ⟨h.obj, h.rows, h.len, h.lie.imp (Nat.le_refl _) (fun c g m _ hr hb => ⟨hr, hb.1, hb.2.1, hb.2.2.1, ?_⟩), h.own, h.all, ht.trans h.turn (fun _ _ e => e) (fun _ _ e => e), ?_, ?_, h.ne, h.no, hob⟩
  · rcases hb.2.2.2 with e | e
    · exact Or.inl e
    · exact Or.inr (by omega)
  · intro b e
    rcases h.lb b e with e | e
    · exact Or.inl e
    · exact Or.inr (by omega)
  · intro b e
    rcases h.gb b e with e | e
    · exact Or.inl e
    · exact Or.inr (by omega)

theorem Wr.rebase (h : Wr rT fo el eT w0 ob k m F lv v xs ys 0 wr) : Wr rT fo el eT wr ob k m F lv v xs ys 0 wr := ⟨h.obj, h.rows, h.own, Turn.refl _ _, Nat.lt_of_lt_of_le h.obl h.turn.size, h.ne⟩

theorem set_rep3 (a b c : Value) (ys : List Value) (i : Nat) (hi : i * 3 + 2 < ys.length) : (((rep i [a, b, c] ++ ys.drop (i * 3)).set (i * 3) a).set (i * 3 + 1) b).set (i * 3 + 2) c = rep (i + 1) [a, b, c] ++ ys.drop ((i + 1) * 3) := by
  have hl : (rep i [a, b, c]).length = i * 3 := by rw [rep_len]; rfl
  have hd : ys.drop (i * 3) = ys[i * 3] :: ys[i * 3 + 1] :: ys[i * 3 + 2] :: ys.drop ((i + 1) * 3) := by
    rw [List.drop_eq_getElem_cons (by omega), List.drop_eq_getElem_cons (by omega), List.drop_eq_getElem_cons (by omega)]
    congr 4
    omega
  rw [hd, List.set_append_right _ _ (by omega), List.set_append_right _ _ (by omega), List.set_append_right _ _ (by omega), hl, Nat.sub_self, show i * 3 + 1 - i * 3 = 1 by omega, show i * 3 + 2 - i * 3 = 2 by omega, rep, List.append_assoc]
  rfl

theorem Wr.next3 {a b c : Value} (h : Wr rT fo [a, b, c] eT w0 ob k m F lv v xs ys i wr) {g cap : Nat} (hv : v = .slice (some ⟨g, 0, none⟩) m cap) (hl : ys.length = m * 3) (hi : i < m) : Wr rT fo [a, b, c] eT w0 ob k m F lv v xs ys (i + 1) (((wr.setCell ⟨g, i * 3, none⟩ a).setCell ⟨g, i * 3 + 1, none⟩ b).setCell ⟨g, i * 3 + 2, none⟩ c) := by
  subst hv
  have hne1 : g ≠ ob := fun e => h.ne.2.1 (by rw [e]; rfl)
  have hne2 : lv.ownBlock ≠ some g := fun e => h.ne.2.2 g e rfl
  have hk : ∀ z, z ≠ g → (((wr.setCell ⟨g, i * 3, none⟩ a).setCell ⟨g, i * 3 + 1, none⟩ b).setCell ⟨g, i * 3 + 2, none⟩ c).heap[z]? = wr.heap[z]? := fun z hz => by
    rw [Below.heap_setCell _ _ _ _ hz, Below.heap_setCell _ _ _ _ hz, Below.heap_setCell _ _ _ _ hz]
  refine ⟨h.obj.of_block (hk ob (fun e => hne1 e.symm)), own_of_block h.rows (fun z e => hk z (fun e2 => hne2 (by rw [← e2]; exact e))), ?_, ((h.turn.set (a := ⟨g, i * 3, none⟩) (fun _ => Or.inr (Or.inr rfl)) _).set (a := ⟨g, i * 3 + 1, none⟩) (fun _ => Or.inr (Or.inr rfl)) _).set (a := ⟨g, i * 3 + 2, none⟩) (fun _ => Or.inr (Or.inr rfl)) _, h.obl, h.ne⟩
  have h3 := (((h.own.stored (i * 3) a).1.stored (i * 3 + 1) b).1.stored (i * 3 + 2) c).1
  have e := set_rep3 a b c ys i (by omega)
  simp only [List.length_cons, List.length_nil, Nat.zero_add] at h3 ⊢
  rw [e] at h3
  exact h3

theorem set_rep2 (a b : Value) (ys : List Value) (i : Nat) (hi : i * 2 + 1 < ys.length) : ((rep i [a, b] ++ ys.drop (i * 2)).set (i * 2) a).set (i * 2 + 1) b = rep (i + 1) [a, b] ++ ys.drop ((i + 1) * 2) := by
  have hl : (rep i [a, b]).length = i * 2 := by rw [rep_len]; rfl
  rw [List.set_append_right _ _ (by omega), hl, Nat.sub_self, List.drop_eq_getElem_cons (by omega), List.set_cons_zero, List.drop_eq_getElem_cons (by omega), List.set_append_right _ _ (by omega), hl, rep, List.append_assoc, show i * 2 + 1 - i * 2 = 1 by omega, show (i + 1) * 2 = i * 2 + 1 + 1 by omega]
  rfl

theorem Wr.next2 {a b : Value} (h : Wr rT fo [a, b] eT w0 ob k m F lv v xs ys i wr) {g cap : Nat} (hv : v = .slice (some ⟨g, 0, none⟩) m cap) (hl : ys.length = m * 2) (hi : i < m) : Wr rT fo [a, b] eT w0 ob k m F lv v xs ys (i + 1) ((wr.setCell ⟨g, i * 2, none⟩ a).setCell ⟨g, i * 2 + 1, none⟩ b) := by
  subst hv
  have hne1 : g ≠ ob := fun e => h.ne.2.1 (by rw [e]; rfl)
  have hne2 : lv.ownBlock ≠ some g := fun e => h.ne.2.2 g e rfl
  refine ⟨(h.obj.of_block (Below.heap_setCell _ _ _ _ (fun e => hne1 e.symm))).of_block (Below.heap_setCell _ _ _ _ (fun e => hne1 e.symm)), ownsRow_setCell_other (ownsRow_setCell_other h.rows hne2 _) hne2 _, ?_, (h.turn.set (a := ⟨g, i * 2, none⟩) (fun _ => Or.inr (Or.inr rfl)) _).set (a := ⟨g, i * 2 + 1, none⟩) (fun _ => Or.inr (Or.inr rfl)) _, h.obl, h.ne⟩
  have h1 := (h.own.stored (i * 2) a).1
  have h2 := (h1.stored (i * 2 + 1) b).1
  have e := set_rep2 a b ys i (by omega)
  simp only [List.length_cons, List.length_nil, Nat.zero_add] at h2 ⊢
  rw [e] at h2
  exact h2

/-- A block whole. -/
def XA (w : World) (xb : Nat) (cs : Array Value) (t : TypeId) : Prop := w.heap[xb]? = some (.cells cs t)

theorem cell_three (w : World) (a b c : Value) (t : TypeId) : ∀ j u, [a, b, c][j]? = some u → (w.alloc (.cells #[a, b, c] t)).cell? ((⟨w.heap.size, 0, none⟩ : Addr).add j) = some u := Bk.cell_three w a b c t

theorem infoOf (t : TypeId) (z : Value) (n b : Nat) (h : (Tryz.prog.info? t).map (fun i => (i.zero, i.size, i.bytes)) = some (some z, n, b)) : ∃ i, Tryz.prog.info? t = some i ∧ i.zero = some z ∧ i.size = n ∧ i.bytes = b := by
  rw [Option.map_eq_some_iff] at h
  obtain ⟨i, h1, h2⟩ := h
  simp only [Prod.mk.injEq] at h2
  exact ⟨i, h1, h2.1, h2.2.1, h2.2.2⟩

end Bm
end Go.Proofs.YtelmkfkgpnadnaaGreatDoor
