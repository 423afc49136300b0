/-
  What a step turns; an append that says where it writes; the lists that came out.
-/
import Derived.Test.YtelmkfkgpnadnaaK23
import Derived.Test.YtelmkfkgpnadnaaK24
import Derived.OneCell
namespace Go.Proofs.Ytelmkfkgpnadnaa
open Go.RowKit

variable {w w1 w2 w' : World} {p q r : Nat → Prop}

/-- Of the blocks before, those alone may have turned of which p holds. -/
structure Turn (p : Nat → Prop) (w w' : World) : Prop where
  os : w'.os = w.os
  tape : w'.tape = w.tape
  output : w'.output = w.output
  size : w.heap.size ≤ w'.heap.size
  block : ∀ k, k < w.heap.size → ¬ p k → w'.heap[k]? = w.heap[k]?

theorem Turn.refl (p : Nat → Prop) (w : World) : Turn p w w := ⟨rfl, rfl, rfl, Nat.le_refl _, fun _ _ _ => rfl⟩

theorem Turn.trans (h : Turn p w w1) (k : Turn q w1 w2) (hp : ∀ k, k < w.heap.size → p k → r k) (hq : ∀ k, k < w.heap.size → q k → r k) : Turn r w w2 :=
  ⟨k.os.trans h.os, k.tape.trans h.tape, k.output.trans h.output, Nat.le_trans h.size k.size, fun i hi hne =>
    (k.block i (Nat.lt_of_lt_of_le hi h.size) (fun e => hne (hq i hi e))).trans (h.block i hi (fun e => hne (hp i hi e)))⟩

theorem Turn.more (h : Turn p w w1) (hb : Below w1.heap.size w1 w2) : Turn p w w2 :=
  ⟨hb.os.trans h.os, hb.tape.trans h.tape, hb.output.trans h.output, Nat.le_trans h.size hb.size, fun i hi hne => (hb.block i (Nat.lt_of_lt_of_le hi h.size)).trans (h.block i hi hne)⟩

theorem Turn.of_below (hb : Below w.heap.size w w') : Turn p w w' := (Turn.refl p w).more hb

theorem Turn.mono (h : Turn p w w1) (hp : ∀ k, k < w.heap.size → p k → r k) : Turn r w w1 := ⟨h.os, h.tape, h.output, h.size, fun i hi hne => h.block i hi (fun e => hne (hp i hi e))⟩

theorem Turn.grown {row : Option Nat} (h : Turn p w w1) (hg : w1.grownBy w2 row) (hr : ∀ k, k < w.heap.size → row = some k → p k) : Turn p w w2 :=
  ⟨hg.os.trans h.os, hg.tape.trans h.tape, hg.output.trans h.output, Nat.le_trans h.size hg.size, fun i hi hne =>
    (hg.block i (Nat.lt_of_lt_of_le hi h.size) (fun e => hne (hr i hi e.symm))).trans (h.block i hi hne)⟩

theorem Turn.set {a : Addr} (h : Turn p w w1) (ha : a.block < w.heap.size → p a.block) (u : Value) : Turn p w (w1.setCell a u) :=
  ⟨h.os, h.tape, h.output, by have := h.size; simpa [World.setCell] using this, fun i hi hne => by
    rw [Below.heap_setCell _ _ _ _ (fun e => hne (by rw [e]; exact ha (e ▸ hi)))]; exact h.block i hi hne⟩

theorem Turn.alloc (h : Turn p w w1) (o : Obj) : Turn p w (w1.alloc o) := h.more ((Below.refl _ _).alloc (Nat.le_refl _) o)

theorem Turn.cell {a : Addr} (h : Turn p w w') (ha : a.block < w.heap.size) (hn : ¬ p a.block) : w'.cell? a = w.cell? a := World.cell?_of_block (w := w) (h.block a.block ha hn)

theorem own_of_block {base size n : Nat} {e : TypeId} {v : Value} {xs : List Value} (h : w.ownsRow base e size v n xs) (hb : ∀ k, v.ownBlock = some k → w'.heap[k]? = w.heap[k]?) : w'.ownsRow base e size v n xs := by
  refine ⟨h.1, ?_⟩
  rcases h.2 with hn | ⟨g, cap, cur, rfl, hbg, hg, rest⟩
  · exact .inl hn
  · exact .inr ⟨g, cap, cur, rfl, hbg, by rw [hb g rfl]; exact hg, rest⟩

/-- An append to a list that is owned: into its own block, or else into a new one, and then nothing before has turned. -/
theorem run_append_keep {P : Program} (w : World) (base : Nat) (t ty e : TypeId) (i : TypeInfo) (z : Value) (size bytes : Nat) (ht : P.underlying t = some (.slice e)) (hi : P.info? e = some i) (hz : i.zero = some z)
    (hsize : i.size = size) (hby : i.bytes = bytes) (hzs : z.cells.size = size) (hsz : 0 < size)
    (v : Value) (n : Nat) (xs : List Value) (hown : w.ownsRow base e size v n xs)
    (a : Addr) (m c : Nat) (news : List Value) (hl : news.length = m * size) (hnews : ∀ j u, news[j]? = some u → w.cell? (a.add j) = some u) (h1 : ∀ u ∈ news, u.oneCell' = true)
    (h63 : n + m ≤ maxLen) (hbytes : (n + m) * bytes ≤ 140737488355328) (hbase : base ≤ w.heap.size) :
    ∃ v' w', (Builtin.append_ #[t, t] ty #[v, .slice (some a) m c]).run P w = .ok v' w' ∧ w'.ownsRow base e size v' (n + m) (xs ++ news) ∧ w.grownBy w' v.ownBlock ∧
      (v'.ownBlock = v.ownBlock ∨ (v'.ownBlock = some w.heap.size ∧ w.grownBy w' none)) := by
  obtain ⟨v', w', hr, h2, h3, _, h5⟩ := run_append_own_at (P := P) w base t ty e i z size bytes ht hi hz hsize hby hzs hsz v n xs hown a m c news hl hnews h1 h63 hbytes hbase
  refine ⟨v', w', hr, h2, h3, ?_⟩
  rcases h5 with h5 | h5
  · exact Or.inl h5
  · refine Or.inr ⟨h5, ?_⟩
    rcases hown.2 with ⟨rfl, rfl⟩ | ⟨g, cap, cur, rfl, hbg, hg, hnc, hcm, hcs, htake⟩
    · exact h3
    · have hsmall : n + m ≤ 9223372036854775807 := by simp only [maxLen] at h63; omega
      by_cases hroom : n + m ≤ cap
      · exfalso
        have hfit : n * i.size + news.length ≤ cur.size := by rw [hl, hcs, hsize, ← Nat.add_mul]; exact Nat.mul_le_mul_right _ hroom
        have hr2 := run_append_room (P := P) w t ty e i ht hi g n cap cur hg a m c news (by rw [hl, hsize]) hnews h1 hroom hfit
        rw [hr] at hr2
        injection hr2 with e1 e2
        rw [e1] at h5
        have := (Array.getElem?_eq_some_iff.1 hg).1
        simp [Value.ownBlock] at h5
        omega
      · have holds : ∀ j u, xs[j]? = some u → w.cell? ((⟨g, 0, none⟩ : Addr).add j) = some u := hown.cells (g := g) rfl
        have hr2 := run_append_grow (P := P) w t ty e i z ht hi hz ⟨g, 0, none⟩ n cap xs (by rw [hown.1, hsize]) holds a m c news (by rw [hl, hsize]) hnews (by omega) (by omega) (growslice_fits (by omega) (by rw [hby]; exact hbytes))
        rw [hr] at hr2
        injection hr2 with e1 e2
        rw [e2]
        exact ⟨rfl, rfl, rfl, by simp, fun k hk _ => Below.heap_alloc w.drew _ k hk⟩

theorem wpList_append_keep {P : Program} {ops : Array Oper} {rest : List Oper} {o : Oper} {a : Act} {w : World} {Q : Exit → Act → World → Prop} (hgd : o.guard = none) (s x : Operand) (t : TypeId)
    (ho : o.op = .call { callee := .builtin .append, args := #[s, x], argTypes := #[t, t] })
    (base : Nat) (e : TypeId) (i : TypeInfo) (z : Value) (size bytes : Nat) (ht : P.underlying t = some (.slice e)) (hi : P.info? e = some i) (hz : i.zero = some z)
    (hsize : i.size = size) (hby : i.bytes = bytes) (hzs : z.cells.size = size) (hsz : 0 < size)
    (v : Value) (n : Nat) (xs : List Value) (hs : a.eval s = v) (hown : w.ownsRow base e size v n xs)
    (ad : Addr) (m c : Nat) (news : List Value) (hx : a.eval x = .slice (some ad) m c) (hl : news.length = m * size) (hnews : ∀ j u, news[j]? = some u → w.cell? (ad.add j) = some u) (h1 : ∀ u ∈ news, u.oneCell' = true)
    (h63 : n + m ≤ maxLen) (hbytes : (n + m) * bytes ≤ 140737488355328) (hbase : base ≤ w.heap.size)
    (h : ∀ v' w', w'.ownsRow base e size v' (n + m) (xs ++ news) → w.grownBy w' v.ownBlock → (v'.ownBlock = v.ownBlock ∨ (v'.ownBlock = some w.heap.size ∧ w.grownBy w' none)) → wpList P ops Q rest (a.put o.dst v') w') :
    wpList P ops Q (o :: rest) a w := by
  refine wpList_plain hgd fun K hK => ?_
  obtain ⟨v', w', hr, h2, h3, h4⟩ := run_append_keep (P := P) w base t o.type e i z size bytes ht hi hz hsize hby hzs hsz v n xs hown ad m c news hl hnews h1 h63 hbytes hbase
  unfold Oper.wp execOp
  simp only [ho, resolve, invoke, builtin, Sem.run_bind, Sem.run_pure, Result.andThen_ok, List.map_toArray, List.map_cons, List.map_nil, hs, hx, hr]
  exact hK _ _ (h v' w' h2 h3 h4)

/-- The numbers of one list: all the same. -/
def Reads (w : World) (g m : Nat) (c : Int) : Prop := ∀ z, z < m → w.cell? ⟨g, z, none⟩ = some (.int .i64 c)

/-- A list that came out, where it lies. -/
def Lies (w : World) (B : Int → Nat → Nat → Prop) (c : Int) (s : Value) : Prop :=
  ∃ g m cap, s = .slice (some ⟨g, 0, none⟩) m cap ∧ m ≤ 100 ∧ g < w.heap.size ∧ Reads w g m c ∧ B c g m

theorem Lies.imp {B C : Int → Nat → Nat → Prop} {c : Int} {s : Value} (h : Lies w B c s) (hs : w.heap.size ≤ w'.heap.size) (hb : ∀ g m, g < w.heap.size → Reads w g m c → B c g m → Reads w' g m c ∧ C c g m) : Lies w' C c s := by
  obtain ⟨g, m, cap, h1, h2, h3, h4, h5⟩ := h
  have := hb g m h3 h4 h5
  exact ⟨g, m, cap, h1, h2, by omega, this.1, this.2⟩

theorem reads_of_block {g m : Nat} {c : Int} (h : Reads w g m c) (hb : w'.heap[g]? = w.heap[g]?) : Reads w' g m c := fun z hz => by
  rw [World.cell?_of_block (w := w) (a := ⟨g, z, none⟩) hb]; exact h z hz

/-- The row of them: pairs, a list and its number. -/
def AllLie (w : World) (B : Int → Nat → Nat → Prop) (k : Nat) (xs : List Value) : Prop :=
  ∀ j, j < k → ∃ s c, xs[j * 2]? = some s ∧ xs[j * 2 + 1]? = some (.int .i64 c) ∧ Lies w B c s

theorem AllLie.imp {B C : Int → Nat → Nat → Prop} {k : Nat} {xs : List Value} (h : AllLie w B k xs) (hs : w.heap.size ≤ w'.heap.size) (hb : ∀ c g m, g < w.heap.size → Reads w g m c → B c g m → Reads w' g m c ∧ C c g m) : AllLie w' C k xs := fun j hj => by
  obtain ⟨s, c, h1, h2, h3⟩ := h j hj
  exact ⟨s, c, h1, h2, h3.imp hs (hb c)⟩

theorem AllLie.append {B : Int → Nat → Nat → Prop} {k m : Nat} {xs ys : List Value} (h : AllLie w B k xs) (hl : xs.length = k * 2) (h2 : AllLie w B m ys) : AllLie w B (k + m) (xs ++ ys) := fun j hj => by
  by_cases e : j < k
  · obtain ⟨s, c, h1, h3, h4⟩ := h j e
    exact ⟨s, c, by rw [List.getElem?_append_left (by omega)]; exact h1, by rw [List.getElem?_append_left (by omega)]; exact h3, h4⟩
  · obtain ⟨s, c, h1, h3, h4⟩ := h2 (j - k) (by omega)
    refine ⟨s, c, ?_, ?_, h4⟩
    · rw [List.getElem?_append_right (by omega), hl, show j * 2 - k * 2 = (j - k) * 2 by omega]; exact h1
    · rw [List.getElem?_append_right (by omega), hl, show j * 2 + 1 - k * 2 = (j - k) * 2 + 1 by omega]; exact h3

theorem allLie_one {B : Int → Nat → Nat → Prop} {c : Int} {s : Value} (h : Lies w B c s) : AllLie w B 1 [s, .int .i64 c] := fun j hj => by
  have : j = 0 := by omega
  subst this
  exact ⟨s, c, rfl, rfl, h⟩

/-- What a take has done so far: j lists laid down. -/
def tkB (w0 : World) (ob : Nat) (v0 lv gv : Value) (q : Int) (mj : Nat) (c : Int) (g m : Nat) : Prop :=
  c = q ∧ (gv.ownBlock = some g → m ≤ mj) ∧ lv.ownBlock ≠ some g ∧ g ≠ ob ∧ (v0.ownBlock = some g ∨ w0.heap.size ≤ g)

structure Tk (eT : TypeId) (w0 : World) (ob k : Nat) (F : Nat → Value) (lv0 v0 : Value) (xs : List Value) (cn q : Int) (j : Nat) (ys : List Value) (lv gv : Value) (mj : Nat) (wr : World) : Prop where
  obj : ValsAt wr ob 4 (fun f => if f = 2 then lv else if f = 3 then .int .i64 cn else F f)
  rows : wr.ownsRow 0 eT 2 lv (k + j) (xs ++ ys)
  len : ys.length = j * 2
  lie : AllLie wr (tkB w0 ob v0 lv gv q mj) j ys
  own : wr.ownsRow 0 3 1 gv mj (List.replicate mj (.int .i64 q))
  turn : Turn (fun b => b = ob ∨ lv0.ownBlock = some b ∨ v0.ownBlock = some b) w0 wr
  lb : ∀ b, lv.ownBlock = some b → lv0.ownBlock = some b ∨ w0.heap.size ≤ b
  gb : ∀ b, gv.ownBlock = some b → v0.ownBlock = some b ∨ w0.heap.size ≤ b
  ne : ∀ b, lv.ownBlock = some b → gv.ownBlock ≠ some b
  no : lv.ownBlock ≠ some ob ∧ gv.ownBlock ≠ some ob
  obl : ob < w0.heap.size

variable {eT : TypeId} {w0 wr : World} {ob k j mj : Nat} {F : Nat → Value} {lv0 v0 lv gv lv' gv' : Value} {xs ys : List Value} {cn qn : Int}

theorem Tk.lists (h : Tk eT w0 ob k F lv0 v0 xs cn qn j ys lv gv mj wr) (hm : mj ≤ 100) (hm0 : ∃ g cap, gv = .slice (some ⟨g, 0, none⟩) mj cap) (o : Obj) (hown : w'.ownsRow 0 eT 2 lv' (k + j + 1) ((xs ++ ys) ++ [gv, .int .i64 qn])) (hg : (wr.alloc o).grownBy w' lv.ownBlock)
    (hat : lv'.ownBlock = lv.ownBlock ∨ lv'.ownBlock = some (wr.alloc o).heap.size) :
    Tk eT w0 ob k F lv0 v0 xs cn qn (j + 1) (ys ++ [gv, .int .i64 qn]) lv' gv mj (w'.setCell ⟨ob, 2, none⟩ lv') := by
  have hsz : w0.heap.size ≤ wr.heap.size := h.turn.size
  have hal : (wr.alloc o).heap.size = wr.heap.size + 1 := by simp
  have hs' : wr.heap.size + 1 ≤ w'.heap.size := by rw [← hal]; exact hg.size
  have hss : (w'.setCell ⟨ob, 2, none⟩ lv').heap.size = w'.heap.size := by simp [World.setCell]
  have hnew : ∀ b, b < wr.heap.size → lv'.ownBlock = some b → lv.ownBlock = some b := fun b hb he => by
    rcases hat with e | e
    · rw [← e]; exact he
    · rw [e] at he; injection he with he; omega
  have hkeep : ∀ b, b < wr.heap.size → lv.ownBlock ≠ some b → b ≠ ob → (w'.setCell ⟨ob, 2, none⟩ lv').heap[b]? = wr.heap[b]? := fun b hb hl hob => by
    rw [Below.heap_setCell _ _ _ _ hob, hg.block b (by omega) (fun e => hl e.symm), Below.heap_alloc _ _ _ hb]
  have hgl : ∀ b, gv.ownBlock = some b → b < wr.heap.size := fun b hb => (h.own.lt b hb).2
  have hobw : ob < wr.heap.size := by have := h.obl; omega
  have hob2 : lv'.ownBlock ≠ some ob := fun e => h.no.1 (hnew ob hobw e)
  have hgk : ∀ b, gv.ownBlock = some b → (w'.setCell ⟨ob, 2, none⟩ lv').heap[b]? = wr.heap[b]? := fun b hb => hkeep b (hgl b hb) (fun e => h.ne b e hb) (fun e => h.no.2 (e ▸ hb))
  have hown2 : (w'.setCell ⟨ob, 2, none⟩ lv').ownsRow 0 3 1 gv mj (List.replicate mj (.int .i64 qn)) := own_of_block h.own hgk
  refine ⟨?_, ?_, ?_, ?_, hown2, ?_, ?_, h.gb, ?_, ⟨hob2, h.no.2⟩, h.obl⟩
  · have h1 : ValsAt w' ob 4 (fun f => if f = 2 then lv else if f = 3 then .int .i64 cn else F f) := h.obj.of_block (by rw [hg.block ob (by omega) (fun e => h.no.1 e.symm), Below.heap_alloc _ _ _ hobw])
    refine (h1.set (p := 2) (by omega) lv').ext fun f _ => ?_
    by_cases e : f = 2 <;> simp [e]
  · rw [← List.append_assoc, ← Nat.add_assoc]
    exact ownsRow_setCell_other hown (fun e => hob2 e) lv'
  · rw [List.length_append, h.len]; simp; omega
  · refine AllLie.append (m := 1) (h.lie.imp (by rw [hss]; omega) ?_) h.len (allLie_one ?_)
    · intro c g m hgs hr hb
      refine ⟨reads_of_block hr (hkeep g hgs hb.2.2.1 hb.2.2.2.1), hb.1, hb.2.1, fun e => hb.2.2.1 (hnew g hgs e), hb.2.2.2⟩
    · obtain ⟨g, cap, rfl⟩ := hm0
      have hgs := hgl g rfl
      refine ⟨g, mj, cap, rfl, hm, by rw [hss]; omega, fun z hz => ?_, rfl, fun _ => Nat.le_refl _, fun e => h.ne g (hnew g hgs e) rfl, fun e => h.no.2 (by rw [← e]; rfl), h.gb g rfl⟩
      rw [hown2.cellAt z (by omega), List.getElem?_replicate, if_pos hz]
  · refine ((h.turn.alloc o).grown hg (fun b hb e => ?_)).set (fun _ => Or.inl rfl) _
    rcases h.lb b e with h1 | h1
    · exact Or.inr (Or.inl h1)
    · omega
  · intro b hb
    by_cases hbs : b < wr.heap.size
    · exact h.lb b (hnew b hbs hb)
    · exact Or.inr (by omega)
  · intro b hb he
    exact h.ne b (hnew b (hgl b he) hb) he

theorem Tk.next (h : Tk eT w0 ob k F lv0 v0 xs cn qn j ys lv gv mj wr) (o : Obj) (hown : w'.ownsRow 0 3 1 gv' (mj + 1) (List.replicate mj (.int .i64 qn) ++ [.int .i64 qn])) (hg : (wr.alloc o).grownBy w' gv.ownBlock)
    (hat : gv'.ownBlock = gv.ownBlock ∨ (gv'.ownBlock = some (wr.alloc o).heap.size ∧ (wr.alloc o).grownBy w' none)) :
    Tk eT w0 ob k F lv0 v0 xs cn qn j ys lv gv' (mj + 1) w' := by
  have hsz : w0.heap.size ≤ wr.heap.size := h.turn.size
  have hal : (wr.alloc o).heap.size = wr.heap.size + 1 := by simp
  have hs' : wr.heap.size + 1 ≤ w'.heap.size := by rw [← hal]; exact hg.size
  have hobw : ob < wr.heap.size := by have := h.obl; omega
  have hnew : ∀ b, b < wr.heap.size → gv'.ownBlock = some b → gv.ownBlock = some b := fun b hb he => by
    rcases hat with e | e
    · rw [← e]; exact he
    · rw [e.1] at he; injection he with he; omega
  have hkeep : ∀ b, b < wr.heap.size → gv.ownBlock ≠ some b → w'.heap[b]? = wr.heap[b]? := fun b hb hl => by
    rw [hg.block b (by omega) (fun e => hl e.symm), Below.heap_alloc _ _ _ hb]
  have hown' : w'.ownsRow 0 3 1 gv' (mj + 1) (List.replicate (mj + 1) (.int .i64 qn)) := by
    rw [List.replicate_succ']; exact hown
  refine ⟨h.obj.of_block (hkeep ob hobw h.no.2), own_of_block h.rows (fun b hb => hkeep b ((h.rows.lt b hb).2) (h.ne b hb)), h.len, ?_, hown', ?_, h.lb, ?_, ?_, ⟨h.no.1, fun e => h.no.2 (hnew ob hobw e)⟩, h.obl⟩
  · refine h.lie.imp (by omega) ?_
    intro c g m hgs hr hb
    refine ⟨?_, hb.1, ?_, hb.2.2⟩
    · by_cases e : gv.ownBlock = some g
      · rcases hat with e2 | ⟨_, e2⟩
        · have hmj := hb.2.1 e
          rw [e] at e2
          have hc := hb.1
          subst hc
          intro z hz
          have := hown'.cells e2 z (.int .i64 c) (by rw [List.getElem?_replicate, if_pos (by omega)])
          rw [Addr.add_lit, Nat.zero_add] at this
          exact this
        · exact reads_of_block hr (by rw [e2.block g (by omega) (by simp), Below.heap_alloc _ _ _ hgs])
      · exact reads_of_block hr (hkeep g hgs e)
    · intro e
      have := hb.2.1 (hnew g hgs e)
      omega
  · refine (h.turn.alloc o).grown hg (fun b hb e => ?_)
    rcases h.gb b e with h1 | h1
    · exact Or.inr (Or.inr h1)
    · omega
  · intro b hb
    by_cases hbs : b < wr.heap.size
    · exact h.gb b (hnew b hbs hb)
    · exact Or.inr (by omega)
  · intro b hb he
    exact h.ne b hb (hnew b ((h.rows.lt b hb).2) he)

end Go.Proofs.Ytelmkfkgpnadnaa
