/-
  A map in memory as a list of its keys and values, whatever they are.
-/
import Derived.Maps.RangeWalk
import Derived.Maps.OwnSet
namespace Go.Proofs.YtiamomiafekihaaGreatDoor
open Go.ChangeMaps Go.MapKept
open Go.WideElems (Fit rd rg pl rd_val elemAt rd_key)
open Go.Maps (Keyed)

namespace Mp

/-- Its key and its value. -/
def pair (x : MapEntry) : Value × Value := (x.key, x.val)

/-- An element is read as nothing. -/
def noR (_ : Value) : Option (DataW Unit × List MemPlace) := some (.nil, [])

/-- Block b is a map of these keys and values. -/
def MapAt (P : Program) (k : TypeId) (w : World) (b : Nat) (L : List (Value × Value)) : Prop :=
  ∃ es clock, w.heap[b]? = some (.map es clock) ∧ Fit P k noR es clock ∧ (es.toList.map pair).Perm L

variable {P : Program} {k : TypeId} {w w' : World} {b r : Nat} {L L0 Lr : List (Value × Value)} {t e : TypeId} {key val old : Value} {kl : Lit}

theorem MapAt.lt (h : MapAt P k w b L) : b < w.heap.size := by
  obtain ⟨es, clock, hb, _⟩ := h
  exact (Array.getElem?_eq_some_iff.1 hb).1

theorem MapAt.of_block (h : MapAt P k w b L) (e : w'.heap[b]? = w.heap[b]?) : MapAt P k w' b L := by
  obtain ⟨es, clock, hb, r⟩ := h
  exact ⟨es, clock, e.trans hb, r⟩

theorem MapAt.perm (h : MapAt P k w b L) (e : L.Perm L0) : MapAt P k w b L0 := by
  obtain ⟨es, clock, hb, F, hp⟩ := h
  exact ⟨es, clock, hb, F, hp.trans e⟩

theorem made (w : World) (P : Program) (k : TypeId) : MapAt P k (w.alloc (.map #[] 0)) w.heap.size [] :=
  ⟨#[], 0, (MapKept.heap_alloc w _).1, ⟨by simp, stamped_empty 0, by simp⟩, by simp⟩

theorem MapAt.apart (h : MapAt P k w b L) : L.Pairwise (fun p q => p.1 ≠ q.1) := by
  obtain ⟨es, clock, hb, F, hp⟩ := h
  have h3 := ((stamped_iff es clock).1 F.stamped).2.2
  refine (hp.pairwise_iff (fun {_ _} hne => Ne.symm hne)).1 ?_
  rw [List.pairwise_map]
  exact h3

theorem MapAt.keys (h : MapAt P k w b L) : ∀ p ∈ L, ∃ l, keyOf P k p.1 = some l := by
  obtain ⟨es, clock, hb, F, hp⟩ := h
  intro p hm
  obtain ⟨x, hx, rfl⟩ := List.mem_map.1 (hp.mem_iff.2 hm)
  obtain ⟨y, hy⟩ := F.reads x hx
  exact ⟨_, rd_key hy⟩

theorem MapAt.room (h : MapAt P k w b L) : L.length ≤ maxLen := by
  obtain ⟨es, clock, hb, F, hp⟩ := h
  have e1 := hp.length_eq
  have e2 := F.size
  rw [List.length_map, Array.length_toList] at e1
  omega

theorem MapAt.look (c : Bool) (h : MapAt P k w b L) (K : Keyed P k) (ht : P.underlying t = some (.map k e)) {z : Value} (hz : (zeroValue e).run P w = .ok z w) (hkey : keyOf P k key = some kl) :
    ((Instr.lookup t (.map (some b)) key c).run P w = .ok (if c then .tuple #[z, .bool false] else z) w ∧ ∀ p ∈ L, p.1 ≠ key) ∨
    ∃ v, (key, v) ∈ L ∧ (Instr.lookup t (.map (some b)) key c).run P w = .ok (if c then .tuple #[v, .bool true] else v) w := by
  obtain ⟨es, clock, hb, F, hp⟩ := h
  rcases Maps.fit_look c K ht hz hb F hkey with ⟨hrun, hn, _⟩ | ⟨e0, y, hm, hk, hrun, _⟩
  · refine Or.inl ⟨hrun, fun p hpm => ?_⟩
    obtain ⟨x, hx, rfl⟩ := List.mem_map.1 (hp.mem_iff.2 hpm)
    exact hn x hx
  · refine Or.inr ⟨e0.val, hp.mem_iff.1 (List.mem_map.2 ⟨e0, hm, by rw [pair, hk]⟩), hrun⟩

theorem MapAt.look_none (c : Bool) (h : MapAt P k w b L) (K : Keyed P k) (ht : P.underlying t = some (.map k e)) {z : Value} (hz : (zeroValue e).run P w = .ok z w) (hkey : keyOf P k key = some kl) (hn : ∀ p ∈ L, p.1 ≠ key) :
    (Instr.lookup t (.map (some b)) key c).run P w = .ok (if c then .tuple #[z, .bool false] else z) w := by
  rcases h.look c K ht hz hkey with ⟨h1, _⟩ | ⟨v, hm, _⟩
  · exact h1
  · exact absurd rfl (hn _ hm)

theorem uniq : ∀ {L : List (Value × Value)} (_ : L.Pairwise (fun p q => p.1 ≠ q.1)) {key v u : Value} (_ : (key, v) ∈ L) (_ : (key, u) ∈ L), v = u
  | [], _, _, _, _, h1, _ => by cases h1
  | x :: r, h, key, v, u, h1, h2 => by
    obtain ⟨ha, hb⟩ := List.pairwise_cons.1 h
    rcases List.mem_cons.1 h1 with e1 | m1
    · rcases List.mem_cons.1 h2 with e2 | m2
      · have e3 := e1.trans e2.symm
        injection e3
      · exact absurd (by rw [← e1]) (ha _ m2)
    · rcases List.mem_cons.1 h2 with e2 | m2
      · exact absurd (by rw [← e2]) (ha _ m1)
      · exact uniq hb m1 m2

theorem MapAt.look_some (c : Bool) (h : MapAt P k w b L) (K : Keyed P k) (ht : P.underlying t = some (.map k e)) {z : Value} (hz : (zeroValue e).run P w = .ok z w) (hkey : keyOf P k key = some kl) {v : Value} (hm : (key, v) ∈ L) :
    (Instr.lookup t (.map (some b)) key c).run P w = .ok (if c then .tuple #[v, .bool true] else v) w := by
  rcases h.look c K ht hz hkey with ⟨_, h1⟩ | ⟨u, hu, h1⟩
  · exact absurd rfl (h1 _ hm)
  · rw [uniq h.apart hm hu]; exact h1

/-- A store at a new key. -/
theorem MapAt.put_new (h : MapAt P k w b L) (K : Keyed P k) (ht : P.underlying t = some (.map k e)) (hn : L.length < maxLen) (hkey : keyOf P k key = some kl) (hne : ∀ p ∈ L, p.1 ≠ key) (val : Value) :
    ∃ w', (Instr.mapUpdate t (.map (some b)) key val).run P w = .ok () w' ∧ w.mapTurned w' b ∧ MapAt P k w' b ((key, val) :: L) := by
  obtain ⟨es, clock, hb, F, hp⟩ := h
  have hne' : ∀ x ∈ es.toList, x.key ≠ key := fun x hx => hne _ (hp.mem_iff.1 (List.mem_map.2 ⟨x, hx, rfl⟩))
  have hsz : es.size < maxLen := by
    have := hp.length_eq
    rw [List.length_map, Array.length_toList] at this
    omega
  rcases K.find w hkey es.toList F.keys with ⟨h1, h2⟩ | ⟨j, e0, h1, h2, h3⟩
  · refine ⟨setBlock w b (.map (es.push ⟨key, val, clock⟩) (clock + 1)), ?_, ⟨es, clock, _, _, hb, rfl⟩, es.push ⟨key, val, clock⟩, clock + 1, heap_setBlock_same hb _, ⟨by simp; omega, stamped_push F.stamped h2, ?_⟩, ?_⟩
    · simp [Instr.mapUpdate, run_underlying ht, MapKept.run_getObj_map hb, K.check w false hkey, h1, MapKept.run_setObj_map _ hb, Result.andThen, setBlock]
    · intro x hx
      simp only [Array.toList_push, List.mem_append, List.mem_singleton] at hx
      rcases hx with hx | rfl
      · exact F.reads x hx
      · exact ⟨_, WideElems.rd_mk (R := noR) hkey rfl⟩
    · rw [Array.toList_push, List.map_append, List.map_singleton]
      exact (List.perm_append_singleton _ _).trans (hp.cons _)
  · exact absurd h3 (hne' e0 (List.mem_of_getElem? h2))

theorem set_perm_erase {α : Type} : ∀ (l : List α) (j : Nat) (x : α), j < l.length → (l.set j x).Perm (x :: l.eraseIdx j)
  | y :: r, 0, x, _ => by simp
  | y :: r, j + 1, x, h => by
    simp only [List.set_cons_succ, List.eraseIdx_cons_succ]
    exact ((set_perm_erase r j x (by simpa using h)).cons y).trans (List.Perm.swap _ _ _)

theorem perm_erase {α : Type} : ∀ (l : List α) (j : Nat) (h : j < l.length), l.Perm (l[j] :: l.eraseIdx j)
  | y :: r, 0, _ => by simp
  | y :: r, j + 1, h => by
    simp only [List.getElem_cons_succ, List.eraseIdx_cons_succ]
    exact ((perm_erase r j (by simpa using h)).cons y).trans (List.Perm.swap _ _ _)

/-- A store at a key that is there. -/
theorem MapAt.put_old (h : MapAt P k w b L) (K : Keyed P k) (ht : P.underlying t = some (.map k e)) (hkey : keyOf P k key = some kl) (hL : L.Perm ((key, old) :: L0)) (val : Value) :
    ∃ w', (Instr.mapUpdate t (.map (some b)) key val).run P w = .ok () w' ∧ w.mapTurned w' b ∧ MapAt P k w' b ((key, val) :: L0) := by
  have hap := h.apart
  obtain ⟨es, clock, hb, F, hp⟩ := h
  have hm : (key, old) ∈ es.toList.map pair := hp.mem_iff.2 (hL.mem_iff.2 (List.mem_cons_self ..))
  obtain ⟨x0, hx0, ex0⟩ := List.mem_map.1 hm
  rcases K.find w hkey es.toList F.keys with ⟨h1, h2⟩ | ⟨j, e0, h1, h2, h3⟩
  · exact absurd (by injection ex0) (h2 x0 hx0)
  · have hj : es[j]? = some e0 := by simpa using h2
    have hjl : j < es.toList.length := (List.getElem?_eq_some_iff.1 h2).1
    have hkeyf : ∀ e', es[j]? = some e' → ({ e' with key := key, val := val } : MapEntry).key = e'.key := fun e' he' => by rw [hj] at he'; cases he'; exact h3.symm
    have hlist : (es.modify j (fun e' => { e' with key := key, val := val })).toList = es.toList.set j { e0 with key := key, val := val } := by rw [Array.toList_modify, modify_eq_set _ _ _ _ h2]
    have hgj : es.toList[j] = e0 := (List.getElem?_eq_some_iff.1 h2).2
    refine ⟨setBlock w b (.map (es.modify j (fun e' => { e' with key := key, val := val })) clock), ?_, ⟨es, clock, _, _, hb, rfl⟩, es.modify j (fun e' => { e' with key := key, val := val }), clock, heap_setBlock_same hb _, ⟨by simpa using F.size, stamped_modify F.stamped _ _ (fun _ _ => rfl) (fun e' _ he' => hkeyf e' he'), ?_⟩, ?_⟩
    · simp [Instr.mapUpdate, run_underlying ht, MapKept.run_getObj_map hb, K.check w false hkey, h1, hj, h3, K.stays w hkey, MapKept.run_setObj_map _ hb, Result.andThen, setBlock]
    · intro x hx
      rw [hlist] at hx
      rcases List.mem_or_eq_of_mem_set hx with hx | rfl
      · exact F.reads x hx
      · exact ⟨_, WideElems.rd_mk (R := noR) hkey rfl⟩
    · rw [hlist]
      have e1 := (set_perm_erase es.toList j { e0 with key := key, val := val } hjl).map pair
      have e2 := (perm_erase es.toList j hjl).map pair
      rw [hgj] at e2
      simp only [List.map_cons] at e1 e2
      have e3 : pair e0 = (key, old) := by
        have m1 : (key, e0.val) ∈ L := hp.mem_iff.1 (List.mem_map.2 ⟨e0, List.mem_of_getElem? h2, by rw [pair, h3]⟩)
        have m2 : (key, old) ∈ L := hL.mem_iff.2 (List.mem_cons_self ..)
        rw [pair, h3, uniq hap m1 m2]
      rw [e3] at e2
      have e4 : ((es.toList.eraseIdx j).map pair).Perm L0 := List.Perm.cons_inv ((e2.symm.trans hp).trans hL)
      exact e1.trans (e4.cons _)

/-- A key that is there is struck. -/
theorem MapAt.drop_old (h : MapAt P k w b L) (K : Keyed P k) (ht : P.underlying t = some (.map k e)) (hkey : keyOf P k key = some kl) (hL : L.Perm ((key, old) :: L0)) (ty : TypeId) :
    ∃ w', (Builtin.delete_ #[t, k] ty #[.map (some b), key]).run P w = .ok (.tuple #[]) w' ∧ w.mapTurned w' b ∧ MapAt P k w' b L0 := by
  have hap := h.apart
  obtain ⟨es, clock, hb, F, hp⟩ := h
  have hm : (key, old) ∈ es.toList.map pair := hp.mem_iff.2 (hL.mem_iff.2 (List.mem_cons_self ..))
  obtain ⟨x0, hx0, ex0⟩ := List.mem_map.1 hm
  rcases K.find w hkey es.toList F.keys with ⟨h1, h2⟩ | ⟨j, e0, h1, h2, h3⟩
  · exact absurd (by injection ex0) (h2 x0 hx0)
  · have hjl : j < es.toList.length := (List.getElem?_eq_some_iff.1 h2).1
    have hjs : j < es.size := by simpa using hjl
    have hgj : es.toList[j] = e0 := (List.getElem?_eq_some_iff.1 h2).2
    have hsub : (es.eraseIdxIfInBounds j).toList = es.toList.eraseIdx j := by
      unfold Array.eraseIdxIfInBounds
      rw [dif_pos hjs]
      simp
    refine ⟨setBlock w b (.map (es.eraseIdxIfInBounds j) clock), ?_, ⟨es, clock, _, _, hb, rfl⟩, es.eraseIdxIfInBounds j, clock, heap_setBlock_same hb _, ⟨Nat.le_trans (MapFrom.size_erase es j) F.size, stamped_erase F.stamped j, ?_⟩, ?_⟩
    · simp [Builtin.delete_, run_underlying ht, MapKept.run_getObj_map hb, K.check w _ hkey, h1, MapKept.run_setObj_map _ hb, Result.andThen, setBlock]
    · intro x hx
      rw [hsub] at hx
      exact F.reads x ((List.eraseIdx_sublist _ _).subset hx)
    · rw [hsub]
      have e2 := (perm_erase es.toList j hjl).map pair
      rw [hgj] at e2
      simp only [List.map_cons] at e2
      have e3 : pair e0 = (key, old) := by
        have m1 : (key, e0.val) ∈ L := hp.mem_iff.1 (List.mem_map.2 ⟨e0, List.mem_of_getElem? h2, by rw [pair, h3]⟩)
        have m2 : (key, old) ∈ L := hL.mem_iff.2 (List.mem_cons_self ..)
        rw [pair, h3, uniq hap m1 m2]
      rw [e3] at e2
      exact List.Perm.cons_inv ((e2.symm.trans hp).trans hL)

theorem MapAt.len (h : MapAt P k w b L) (ht : P.underlying t = some (.map k e)) (ty : TypeId) : (Builtin.len_ #[t] ty #[.map (some b)]).run P w = .ok (.int .i64 L.length) w := by
  obtain ⟨es, clock, hb, F, hp⟩ := h
  have e1 := hp.length_eq
  rw [List.length_map, Array.length_toList] at e1
  rw [← e1]
  simp [Builtin.len_, run_underlying ht, MapKept.run_getObj_map hb, goInt, Result.andThen]

/-- Block r goes through the map in block b: these are to come. -/
def RangeAt (P : Program) (k : TypeId) (w : World) (b r : Nat) (L Lr : List (Value × Value)) : Prop :=
  ∃ es clock since seen c0, w.heap[b]? = some (.map es clock) ∧ Fit P k noR es clock ∧ (es.toList.map pair).Perm L ∧ w.heap[r]? = some (.mapIter (some b) since seen c0) ∧ (∀ x ∈ es.toList, x.born < since) ∧ since ≤ c0 ∧ since ≤ clock ∧ ((leftOf es seen).toList.map pair).Perm Lr

theorem RangeAt.owns (h : RangeAt P k w b r L Lr) : MapAt P k w b L := by
  obtain ⟨es, clock, _, _, _, hb, F, hp, _⟩ := h
  exact ⟨es, clock, hb, F, hp⟩

theorem RangeAt.lt (h : RangeAt P k w b r L Lr) : r < w.heap.size := by
  obtain ⟨es, clock, since, seen, c0, _, _, _, hr, _⟩ := h
  exact (Array.getElem?_eq_some_iff.1 hr).1

theorem RangeAt.ne (h : RangeAt P k w b r L Lr) : r ≠ b := by
  obtain ⟨es, clock, since, seen, c0, hb, _, _, hr, _⟩ := h
  intro e
  rw [e, hb] at hr
  cases hr

theorem RangeAt.of_block (h : RangeAt P k w b r L Lr) (e1 : w'.heap[b]? = w.heap[b]?) (e2 : w'.heap[r]? = w.heap[r]?) : RangeAt P k w' b r L Lr := by
  obtain ⟨es, clock, since, seen, c0, hb, F, hp, hr, rest⟩ := h
  exact ⟨es, clock, since, seen, c0, e1.trans hb, F, hp, e2.trans hr, rest⟩

theorem MapAt.range (h : MapAt P k w b L) (ht : P.underlying t = some (.map k e)) :
    ∃ w', (Instr.range t (.map (some b))).run P w = .ok (.pointer (some ⟨w.heap.size, 0, none⟩)) w' ∧ RangeAt P k w' b w.heap.size L L ∧ w.grownBy w' none ∧ w'.heap.size = w.heap.size + 1 := by
  have hlt := h.lt
  obtain ⟨es, clock, hb, F, hp⟩ := h
  refine ⟨_, run_range_map w t k e b es clock ht hb, ⟨es, clock, clock, #[], clock, ((MapKept.heap_alloc w _).2 b hlt).trans hb, F, hp, (MapKept.heap_alloc w _).1, F.stamped.1, Nat.le_refl _, Nat.le_refl _, ?_⟩, World.grownBy_alloc w _ none, by simp⟩
  have : leftOf es #[] = es := by
    unfold leftOf
    rw [Array.filter_eq_self]
    intro x _
    simp
  rw [this]
  exact hp

theorem perm_pick {l : List MapEntry} (hn : (l.map (·.born)).Nodup) {e : MapEntry} (he : e ∈ l) : l.Perm (e :: l.filter fun x => !(x.born == e.born)) := by
  obtain ⟨s, t, rfl⟩ := List.append_of_mem he
  rw [List.map_append, List.map_cons, List.nodup_append] at hn
  obtain ⟨_, h2, h3⟩ := hn
  have h4 := (List.nodup_cons.1 h2).1
  have hs : s.filter (fun x => !(x.born == e.born)) = s := List.filter_eq_self.2 fun x hx => by
    have := h3 x.born (List.mem_map.2 ⟨x, hx, rfl⟩) e.born (List.mem_cons_self ..)
    simp [this]
  have ht : t.filter (fun x => !(x.born == e.born)) = t := List.filter_eq_self.2 fun x hx => by
    have : x.born ≠ e.born := fun e1 => h4 (List.mem_map.2 ⟨x, hx, e1⟩)
    simp [this]
  rw [List.filter_append, List.filter_cons, hs, ht]
  simp

/-- The step. -/
theorem RangeAt.next (h : RangeAt P k w b r L Lr) (ty : TypeId) :
    (Lr = [] ∧ (Instr.next (.pointer (some ⟨r, 0, none⟩)) false ty).run P w = .ok (.tuple #[.bool false]) w) ∨
    ∃ key v Lr' w', (key, v) ∈ L ∧ Lr.Perm ((key, v) :: Lr') ∧ (Instr.next (.pointer (some ⟨r, 0, none⟩)) false ty).run P w = .ok (.tuple #[.bool true, key, v]) w' ∧
      RangeAt P k w' b r L Lr' ∧ w.grownBy w' (some r) ∧ w'.heap.size = w.heap.size ∧ (Instr.entry (.pointer (some ⟨r, 0, none⟩))).run P w' = .ok (.tuple #[key, v]) w' := by
  have hne := h.ne
  obtain ⟨es, clock, since, seen, c0, hb, F, hp, hr, hold, hsc, hsk, hl⟩ := h
  rcases run_next_at (P := P) w ty r b since c0 seen es clock hr hb hold hsc with ⟨h0, hrun⟩ | ⟨e, he, w1, hal, hrun⟩
  · refine Or.inl ⟨?_, hrun⟩
    have h1 := hl.length_eq
    rw [List.length_map, Array.length_toList, h0] at h1
    exact List.eq_nil_of_length_eq_zero h1.symm
  · obtain ⟨hem, hes⟩ := mem_left he
    have hst := (stamped_iff es clock).1 F.stamped
    have hr1 : w1.heap[r]? = some (.mapIter (some b) since seen c0) := by rcases hal with rfl | rfl <;> exact hr
    have hb1 : w1.heap[b]? = some (.map es clock) := by rcases hal with rfl | rfl <;> exact hb
    have hset := heap_set (o' := .mapIter (some b) since (seen.push e.born) clock) hr1
    have hb' : (setBlock w1 r (.mapIter (some b) since (seen.push e.born) clock)).heap[b]? = some (.map es clock) := (hset.2 b (fun e1 => hne e1.symm)).trans hb1
    have hlo : (leftOf es (seen.push e.born)).toList = (leftOf es seen).toList.filter (fun x => !(x.born == e.born)) := by
      unfold leftOf
      rw [Array.toList_filter, Array.toList_filter, List.filter_filter]
      refine List.filter_congr (fun x _ => ?_)
      rw [contains_push]
      cases seen.contains x.born <;> cases (x.born == e.born) <;> rfl
    have hnd : ((leftOf es seen).toList.map (·.born)).Nodup := by
      unfold leftOf
      rw [Array.toList_filter]
      exact hst.2.1.sublist (List.filter_sublist.map _)
    have hpk := (perm_pick hnd he).map pair
    rw [← hlo, List.map_cons] at hpk
    refine Or.inr ⟨e.key, e.val, (leftOf es (seen.push e.born)).toList.map pair, _, hp.mem_iff.1 (List.mem_map.2 ⟨e, hem, rfl⟩), hl.symm.trans hpk, hrun,
      ⟨es, clock, since, seen.push e.born, clock, hb', F, hp, hset.1, hold, hsk, hsk, List.Perm.refl _⟩, ?_, ?_,
      run_entry_at _ r b since seen es clock e hset.1 hb' hem hst.2.1⟩
    · rcases hal with rfl | rfl <;> exact ⟨rfl, rfl, rfl, by simp [setBlock], fun i _ hi => hset.2 i (fun e1 => hi (by rw [e1]))⟩
    · rcases hal with rfl | rfl <;> simp [setBlock]

end Mp
end Go.Proofs.YtiamomiafekihaaGreatDoor
