/-
  copy, of elements of several cells, into a row of the call's own.
  The law's list to hand over: copied into new memory.
  The law's manifest to hand over.
-/
import Derived.Test.YtelmkfkgpnadnaaGreatDoorKCF
import Derived.Laws.CopyOwn
namespace Go.Proofs.YtelmkfkgpnadnaaGreatDoor
open Go.RowKit
variable {P : Program}

theorem run_copy_wide (w : World) (dT sT ty elem : TypeId) (k g o dLen dCap : Nat) (a : Addr) (sLen sCap n : Nat) (cur : Array Value) (t : TypeId) (cs : List Value)
    (hu : P.underlying dT = some (.slice elem)) (hs : (P.info? elem).map (·.size) = some k)
    (hg : w.heap[g]? = some (.cells cur t (0, 0))) (hn : n = Nat.min sLen dLen) (hcs : cs.length = n * k)
    (hsrc : ∀ j v, cs[j]? = some v → w.cell? (a.add j) = some v) (hfit : o + cs.length ≤ cur.size) (h1 : ∀ v ∈ cs, v.oneCell' = true) :
    (Builtin.copy_ #[dT, sT] ty #[.slice (some ⟨g, o, none⟩) dLen dCap, .slice (some a) sLen sCap]).run P w =
      .ok (goInt n) (w.setRow g (cur.toList.take o ++ cs ++ cur.toList.drop (o + cs.length)).toArray) := by
  have hl := run_loadCells_list (P := P) w a cs hsrc
  have hst := run_storeCells_at P g o t cs 0 cur w hg (by simpa using hfit) h1
  rw [hcs] at hl
  cases hq : P.info? elem with
  | none => simp [hq] at hs
  | some i =>
    have hi : i.size = k := by simpa [hq] using hs
    simp [Builtin.copy_, run_underlying hu, Builtin.lenOf, Builtin.firstCells, sizeOf, typeInfo, hq, hi, ← hn, hl, hst]

theorem wpList_copy_wide {w : World} {ops : Array Oper} {rest : List Oper} {o : Oper} {a : Act} {Q : Exit → Act → World → Prop} (hgd : o.guard = none) (d s : Operand) (dT sT : TypeId)
    (ho : o.op = .call { callee := .builtin .copy, args := #[d, s], argTypes := #[dT, sT] }) (elem : TypeId) (hu : P.underlying dT = some (.slice elem)) (k : Nat) (hsz : (P.info? elem).map (·.size) = some k)
    (g off dLen dCap : Nat) (ad : Addr) (sLen sCap n : Nat) (hd : a.eval d = .slice (some ⟨g, off, none⟩) dLen dCap) (hs : a.eval s = .slice (some ad) sLen sCap)
    (cur : Array Value) (t : TypeId) (hg : w.heap[g]? = some (.cells cur t (0, 0))) (cs : List Value) (hn : n = Nat.min sLen dLen) (hcs : cs.length = n * k)
    (hsrc : ∀ j v, cs[j]? = some v → w.cell? (ad.add j) = some v) (hfit : off + cs.length ≤ cur.size) (h1 : ∀ v ∈ cs, v.oneCell' = true)
    (h : wpList P ops Q rest (a.put o.dst (goInt n)) (w.setRow g (cur.toList.take off ++ cs ++ cur.toList.drop (off + cs.length)).toArray)) : wpList P ops Q (o :: rest) a w := by
  refine wpList_plain hgd fun K hK => ?_
  have hrun := run_copy_wide (P := P) w dT sT o.type elem k g off dLen dCap ad sLen sCap n cur t cs hu hsz hg hn hcs hsrc hfit h1
  unfold Oper.wp
  simp [execOp, ho, resolve, invoke, builtin, hd, hs, hrun, Result.andThen]
  exact hK _ _ (by simpa using h)

theorem wpList_copy_nil {w : World} {ops : Array Oper} {rest : List Oper} {o : Oper} {a : Act} {Q : Exit → Act → World → Prop} (hgd : o.guard = none) (d s : Operand) (dT sT : TypeId)
    (ho : o.op = .call { callee := .builtin .copy, args := #[d, s], argTypes := #[dT, sT] }) (elem : TypeId) (hu : P.underlying dT = some (.slice elem)) (hsz : ((P.info? elem).map (·.size)).isSome = true)
    (ad : Addr) (dLen dCap : Nat) (hd : a.eval d = .slice (some ad) dLen dCap) (hs : a.eval s = .slice none 0 0)
    (h : wpList P ops Q rest (a.put o.dst (goInt 0)) w) : wpList P ops Q (o :: rest) a w := by
  refine wpList_plain hgd fun K hK => ?_
  have hrun := run_copy_nil (P := P) w dT sT o.type elem ad dLen dCap hu hsz
  unfold Oper.wp
  simp [execOp, ho, resolve, invoke, builtin, hd, hs, hrun, Result.andThen]
  exact hK _ _ h

end Go.Proofs.YtelmkfkgpnadnaaGreatDoor

namespace Go.Proofs.YtelmkfkgpnadnaaGreatDoor
open Go.RowKit

/-- copy of a list of modules into a longer row of the call's own, whatever the list. -/
theorem wpList_copy_mods {w : World} {ops : Array Oper} {rest : List Oper} {o : Oper} {a : Act} {Q : Exit → Act → World → Prop} (hgd : o.guard = none) (d s : Operand)
    (ho : o.op = .call { callee := .builtin .copy, args := #[d, s], argTypes := #[23, 23] })
    (g n m dCap : Nat) (v : Value) (L : List Mo) (hd : a.eval d = .slice (some ⟨g, 0, none⟩) m dCap) (hs : a.eval s = v) (hL : n = L.length) (hr : Sm.Rd w v L) (hm : n ≤ m)
    (cur : Array Value) (hg : w.heap[g]? = some (.cells cur 29 (0, 0))) (hfit : n * 2 ≤ cur.size)
    (h : wpList Tryz.prog ops Q rest (a.put o.dst (goInt n)) (w.setRow g (mcs L ++ cur.toList.drop (n * 2)).toArray)) : wpList Tryz.prog ops Q (o :: rest) a w := by
  obtain ⟨i0, i1, i2, i3, i4⟩ := info29
  have hz : (Tryz.prog.info? 29).map (·.size) = some 2 := by rw [i1]; simp [i3]
  have hl : (mcs L).length = n * 2 := by rw [Sm.mc_len, hL]
  rcases hr with ⟨e1, e2⟩ | ⟨b, off, c, e1, hc⟩
  · subst e2
    have e0 : n = 0 := by simpa using hL
    subst e0
    refine wpList_copy_nil hgd d s 23 23 ho 29 Tryz.underlying23 (by rw [hz]; rfl) ⟨g, 0, none⟩ m dCap hd (by rw [hs, e1]) ?_
    have e3 : w.setRow g (mcs [] ++ cur.toList.drop (0 * 2)).toArray = w := by
      have : (mcs [] ++ cur.toList.drop (0 * 2)).toArray = cur := by simp [mcs]
      rw [this]
      exact setRow_self w g cur 29 (0, 0) hg
    rw [e3] at h
    exact h
  · refine wpList_copy_wide hgd d s 23 23 ho 29 Tryz.underlying23 2 hz g 0 m dCap ⟨b, off, none⟩ L.length c n hd (by rw [hs, e1]) cur 29 hg (mcs L) (by rw [← hL]; exact (Nat.min_eq_left hm).symm) hl (fun j v hj => ?_) (by rw [hl]; omega) (Sm.mc_one L) ?_
    · rw [Addr.add_lit]; exact hc j v hj
    · rw [hl, Nat.zero_add, List.take_zero, List.nil_append]
      exact h

theorem wpList_copy_swaps {w : World} {ops : Array Oper} {rest : List Oper} {o : Oper} {a : Act} {Q : Exit → Act → World → Prop} (hgd : o.guard = none) (d s : Operand)
    (ho : o.op = .call { callee := .builtin .copy, args := #[d, s], argTypes := #[24, 24] })
    (g n m dCap : Nat) (v : Value) (L : List So) (hd : a.eval d = .slice (some ⟨g, 0, none⟩) m dCap) (hs : a.eval s = v) (hL : n = L.length) (hr : Sw.Rd w v L) (hm : n ≤ m)
    (cur : Array Value) (hg : w.heap[g]? = some (.cells cur 137 (0, 0))) (hfit : n * 3 ≤ cur.size)
    (h : wpList Tryz.prog ops Q rest (a.put o.dst (goInt n)) (w.setRow g (scs L ++ cur.toList.drop (n * 3)).toArray)) : wpList Tryz.prog ops Q (o :: rest) a w := by
  obtain ⟨i0, i1, i2, i3, i4⟩ := Sw.info137
  have hz : (Tryz.prog.info? 137).map (·.size) = some 3 := by rw [i1]; simp [i3]
  have hl : (scs L).length = n * 3 := by rw [Sw.mc_len, hL]
  rcases hr with ⟨e1, e2⟩ | ⟨b, off, c, e1, hc⟩
  · subst e2
    have e0 : n = 0 := by simpa using hL
    subst e0
    refine wpList_copy_nil hgd d s 24 24 ho 137 Tryz.underlying24 (by rw [hz]; rfl) ⟨g, 0, none⟩ m dCap hd (by rw [hs, e1]) ?_
    have e3 : w.setRow g (scs [] ++ cur.toList.drop (0 * 3)).toArray = w := by
      have : (scs [] ++ cur.toList.drop (0 * 3)).toArray = cur := by simp [scs]
      rw [this]
      exact setRow_self w g cur 137 (0, 0) hg
    rw [e3] at h
    exact h
  · refine wpList_copy_wide hgd d s 24 24 ho 137 Tryz.underlying24 3 hz g 0 m dCap ⟨b, off, none⟩ L.length c n hd (by rw [hs, e1]) cur 137 hg (scs L) (by rw [← hL]; exact (Nat.min_eq_left hm).symm) hl (fun j v hj => ?_) (by rw [hl]; omega) (Sw.mc_one L) ?_
    · rw [Addr.add_lit]; exact hc j v hj
    · rw [hl, Nat.zero_add, List.take_zero, List.nil_append]
      exact h

theorem run_copy_mods (w : World) (tr : TypeId) (g n m dCap : Nat) (v : Value) (L : List Mo) (hL : n = L.length) (hr : Sm.Rd w v L) (hm : n ≤ m) (cur : Array Value) (hg : w.heap[g]? = some (.cells cur 29 (0, 0))) (hfit : n * 2 ≤ cur.size) :
    (Builtin.copy_ #[23, 23] tr #[.slice (some ⟨g, 0, none⟩) m dCap, v]).run Tryz.prog w = .ok (goInt n) (w.setRow g (mcs L ++ cur.toList.drop (n * 2)).toArray) := by
  obtain ⟨i0, i1, i2, i3, i4⟩ := info29
  have hz : (Tryz.prog.info? 29).map (·.size) = some 2 := by rw [i1]; simp [i3]
  have hl : (mcs L).length = n * 2 := by rw [Sm.mc_len, hL]
  rcases hr with ⟨e1, e2⟩ | ⟨b, off, c, e1, hc⟩
  · subst e2
    have e0 : n = 0 := by simpa using hL
    subst e0
    have e3 : w.setRow g (mcs [] ++ cur.toList.drop (0 * 2)).toArray = w := by
      have : (mcs [] ++ cur.toList.drop (0 * 2)).toArray = cur := by simp [mcs]
      rw [this]
      exact setRow_self w g cur 29 (0, 0) hg
    rw [e3, e1]
    exact run_copy_nil Tryz.prog w 23 23 tr 29 ⟨g, 0, none⟩ m dCap Tryz.underlying23 (by rw [hz]; rfl)
  · rw [e1]
    have h := run_copy_wide (P := Tryz.prog) w 23 23 tr 29 2 g 0 m dCap ⟨b, off, none⟩ L.length c n cur 29 (mcs L) Tryz.underlying23 hz hg (by rw [← hL]; exact (Nat.min_eq_left hm).symm) hl (fun j v hj => by rw [Addr.add_lit]; exact hc j v hj) (by rw [hl]; omega) (Sm.mc_one L)
    rw [hl, Nat.zero_add, List.take_zero, List.nil_append] at h
    exact h

theorem run_copy_swaps (w : World) (tr : TypeId) (g n m dCap : Nat) (v : Value) (L : List So) (hL : n = L.length) (hr : Sw.Rd w v L) (hm : n ≤ m) (cur : Array Value) (hg : w.heap[g]? = some (.cells cur 137 (0, 0))) (hfit : n * 3 ≤ cur.size) :
    (Builtin.copy_ #[24, 24] tr #[.slice (some ⟨g, 0, none⟩) m dCap, v]).run Tryz.prog w = .ok (goInt n) (w.setRow g (scs L ++ cur.toList.drop (n * 3)).toArray) := by
  obtain ⟨i0, i1, i2, i3, i4⟩ := Sw.info137
  have hz : (Tryz.prog.info? 137).map (·.size) = some 3 := by rw [i1]; simp [i3]
  have hl : (scs L).length = n * 3 := by rw [Sw.mc_len, hL]
  rcases hr with ⟨e1, e2⟩ | ⟨b, off, c, e1, hc⟩
  · subst e2
    have e0 : n = 0 := by simpa using hL
    subst e0
    have e3 : w.setRow g (scs [] ++ cur.toList.drop (0 * 3)).toArray = w := by
      have : (scs [] ++ cur.toList.drop (0 * 3)).toArray = cur := by simp [scs]
      rw [this]
      exact setRow_self w g cur 137 (0, 0) hg
    rw [e3, e1]
    exact run_copy_nil Tryz.prog w 24 24 tr 137 ⟨g, 0, none⟩ m dCap Tryz.underlying24 (by rw [hz]; rfl)
  · rw [e1]
    have h := run_copy_wide (P := Tryz.prog) w 24 24 tr 137 3 g 0 m dCap ⟨b, off, none⟩ L.length c n cur 137 (scs L) Tryz.underlying24 hz hg (by rw [← hL]; exact (Nat.min_eq_left hm).symm) hl (fun j v hj => by rw [Addr.add_lit]; exact hc j v hj) (by rw [hl]; omega) (Sw.mc_one L)
    rw [hl, Nat.zero_add, List.take_zero, List.nil_append] at h
    exact h

end Go.Proofs.YtelmkfkgpnadnaaGreatDoor

namespace Go.Proofs.YtelmkfkgpnadnaaGreatDoor
open Go.RowKit

theorem made_block {w : World} {B e s n g c : Nat} {xs : List Value} (h : w.ownsRow B e s (.slice (some ⟨g, 0, none⟩) n c) n xs) (hc : c = n) : ∃ cur : Array Value, w.heap[g]? = some (.cells cur e (0, 0)) ∧ cur.size = n * s ∧ cur.toList = xs := by
  rcases h.2 with ⟨hn, _⟩ | ⟨g', c', cur, hv, _, hh, _, _, hcs, ht⟩
  · cases hn
  · injection hv with e1 _ e3
    have eg : g = g' := by injection e1 with e1; injection e1
    subst eg
    subst e3
    rw [hc] at hcs
    refine ⟨cur, hh, hcs, ?_⟩
    rw [← ht, ← hcs]
    exact (List.take_of_length_le (by simp)).symm

theorem InM.row {w W : World} {p : ByteArray} {rv xv sv : Value} (h : InM w p rv xv sv W) (g : Nat) (hg : w.heap.size + 2 ≤ g) (cs : Array Value) : InM w p rv xv sv (W.setRow g cs) :=
  ⟨below_setRow h.b (by omega) cs, h.box.of_block (setRow_other W g _ cs (by omega)), by rw [setRow_other W g _ cs (by omega)]; exact h.out, by rw [size_setRow]; exact h.sz⟩

theorem InM.cell {w W : World} {p : ByteArray} {rv xv sv : Value} (h : InM w p rv xv sv W) (a : Addr) (ha : w.heap.size + 2 ≤ a.block) (u : Value) : InM w p rv xv sv (W.setCell a u) :=
  ⟨h.b.setCell (by omega) u, h.box.of_block (Below.heap_setCell _ _ _ _ (by omega)), by rw [Below.heap_setCell _ _ _ _ (by omega)]; exact h.out, by have := h.sz; simpa using this⟩

theorem end2 {k n : Nat} {L D : List Value} (hk : L.length = k) (hD : (L ++ D).length = n) (hn : n = k + 2) (a b : Value) : (((L ++ D).toArray.setIfInBounds k a).setIfInBounds (k + 1) b) = (L ++ [a, b]).toArray := by
  match D, hD with
  | [x, y], _ => subst hk; simp
  | [], h => simp at h; omega
  | [_], h => simp at h; omega
  | _ :: _ :: _ :: _, h => simp at h; omega
theorem end3 {k n : Nat} {L D : List Value} (hk : L.length = k) (hD : (L ++ D).length = n) (hn : n = k + 3) (a b c : Value) : ((((L ++ D).toArray.setIfInBounds k a).setIfInBounds (k + 1) b).setIfInBounds (k + 2) c) = (L ++ [a, b, c]).toArray := by
  match D, hD with
  | [x, y, z], _ => subst hk; simp
  | [], h => simp at h; omega
  | [_], h => simp at h; omega
  | [_, _], h => simp at h; omega
  | _ :: _ :: _ :: _ :: _, h => simp at h; omega

set_option maxRecDepth 100000 in
set_option maxHeartbeats 4000000 in
theorem handed_any (p : ByteArray) (rv xv sv : Value) (R X : List Mo) (S : List So) (w : World) (hR : R.length ≤ 16777216) (hX : X.length ≤ 16777216) (hS : S.length ≤ 16777216) (hr : Sm.Rd w rv R) (hx : Sm.Rd w xv X) (hs : Sw.Rd w sv S) :
    Calls Tryz.prog 46 #[.agg #[.string p, rv, xv, sv]] w fun e w' => ∃ g1 g2 g3, e = .returned (.agg #[.string p, .slice (some ⟨g1, 0, none⟩) R.length (R.length + 1), .slice (some ⟨g2, 0, none⟩) X.length (X.length + 1), .slice (some ⟨g3, 0, none⟩) S.length (S.length + 1)]) ∧
      w'.heap[g1]? = some (.cells (mcs R ++ [Value.string ⟨#[35]⟩, .string ⟨#[]⟩]).toArray 29 (0, 0)) ∧ w'.heap[g2]? = some (.cells (mcs X ++ [Value.string ⟨#[35]⟩, .string ⟨#[]⟩]).toArray 29 (0, 0)) ∧ w'.heap[g3]? = some (.cells (scs S ++ [Value.string ⟨#[35]⟩, .string ⟨#[]⟩, .string ⟨#[]⟩]).toArray 137 (0, 0)) ∧ Below w.heap.size w w' := by
  obtain ⟨ra, rc, er⟩ := rd_len hr
  obtain ⟨xa, xc, ex⟩ := rd_len hx
  obtain ⟨sa, sc, es⟩ := rd_len_s hs
  subst er; subst ex; subst es
  obtain ⟨nR, hnR⟩ : ∃ n, n = R.length := ⟨_, rfl⟩
  obtain ⟨nX, hnX⟩ : ∃ n, n = X.length := ⟨_, rfl⟩
  obtain ⟨nS, hnS⟩ : ∃ n, n = S.length := ⟨_, rfl⟩
  rw [← hnR] at hR hr ⊢
  rw [← hnX] at hX hx ⊢
  rw [← hnS] at hS hs ⊢
  have LR : Hid (nR = R.length) := hnR
  have LX : Hid (nX = X.length) := hnX
  have LS : Hid (nS = S.length) := hnS
  have DR : Aside _ := hr
  have DX : Aside _ := hx
  have DS : Aside _ := hs
  clear hnR hnX hnS hr hx hs
  obtain ⟨i2, hi1, hi2, hi3, hi4⟩ := info29
  have HI : Hid (Tryz.prog.info? 29 = some i2 ∧ i2.zero = some (.agg #[.string ⟨#[]⟩, .string ⟨#[]⟩]) ∧ i2.size = 2 ∧ i2.bytes = 32) := ⟨hi1, hi2, hi3, hi4⟩
  obtain ⟨i3, hj1, hj2, hj3, hj4⟩ := Sw.info137
  have HJ : Hid (Tryz.prog.info? 137 = some i3 ∧ i3.zero = some (.agg #[.string ⟨#[]⟩, .string ⟨#[]⟩, .string ⟨#[]⟩]) ∧ i3.size = 3 ∧ i3.bytes = 48) := ⟨hj1, hj2, hj3, hj4⟩
  clear hi1 hi2 hi3 hi4 hj1 hj2 hj3 hj4
  have I0 : Aside (InM w p (.slice ra nR rc) (.slice xa nX xc) (.slice sa nS sc) ((w.alloc (.cells #[.string p, .slice ra nR rc, .slice xa nX xc, .slice sa nS sc] 26)).alloc (.cells #[.string ⟨#[]⟩, .slice none 0 0, .slice none 0 0, .slice none 0 0] 26))) := InM.start w p _ _ _
  have mR : Hid (32 * (nR + 1) ≤ 281474976710656 ∧ nR + 1 ≤ maxLen) := ⟨by omega, Nat.le_trans (Nat.succ_le_succ hR) (by decide)⟩
  have mX : Hid (32 * (nX + 1) ≤ 281474976710656 ∧ nX + 1 ≤ maxLen) := ⟨by omega, Nat.le_trans (Nat.succ_le_succ hX) (by decide)⟩
  have mS : Hid (48 * (nS + 1) ≤ 281474976710656 ∧ nS + 1 ≤ maxLen) := ⟨by omega, Nat.le_trans (Nat.succ_le_succ hS) (by decide)⟩
  go_enter Tryz.func46, Tryz.ntmps46
  go_wp2_with (at_make; refine wpList_make_full _ rfl (.tmp 9) (.tmp 9) 23 rfl 0 29 i2 (.agg #[.string ⟨#[]⟩, .string ⟨#[]⟩]) 2 Tryz.underlying23 HI.out.1 HI.out.2.1 HI.out.2.2.1 .i64 .i64 ((nR : Int) + 1) ((nR : Int) + 1) (nR + 1) rfl rfl (by omega) (by omega) (by rw [HI.out.2.2.2]; exact mR.out.1) mR.out.2 (Nat.zero_le _) ?_)
  intro W1 ho1 hg1
  obtain ⟨cur1, hb1, hz1, _⟩ := made_block ho1 rfl
  have I1 : Aside (InM w p (.slice ra nR rc) (.slice xa nX xc) (.slice sa nS sc) W1) := I0.out.call ((Below.refl _ _).grown hg1 (Nat.le_refl _) (fun k hk => by cases hk))
  have HG1 : Hid (W1.heap[w.heap.size + 1 + 1]? = some (.cells cur1 29 (0, 0)) ∧ cur1.size = (nR + 1) * 2) := ⟨hb1, hz1⟩
  clear ho1 hg1 hb1 hz1 I0 mR
  obtain ⟨⟨c0, c1, c2, c3⟩, _⟩ := I1.out.cells
  go_wp2_with (at_make; refine wpList_make_full _ rfl (.tmp 14) (.tmp 14) 23 rfl 0 29 i2 (.agg #[.string ⟨#[]⟩, .string ⟨#[]⟩]) 2 Tryz.underlying23 HI.out.1 HI.out.2.1 HI.out.2.2.1 .i64 .i64 ((nX : Int) + 1) ((nX : Int) + 1) (nX + 1) rfl rfl (by omega) (by omega) (by rw [HI.out.2.2.2]; exact mX.out.1) mX.out.2 (Nat.zero_le _) ?_)
  intro W2 ho2 hg2
  obtain ⟨cur2, hb2, hz2, _⟩ := made_block ho2 rfl
  have b2 : Below W1.heap.size W1 W2 := (Below.refl _ _).grown hg2 (Nat.le_refl _) (fun k hk => by cases hk)
  have I2 : Aside (InM w p (.slice ra nR rc) (.slice xa nX xc) (.slice sa nS sc) W2) := I1.out.call b2
  have HG2 : Hid (W2.heap[W1.heap.size]? = some (.cells cur2 29 (0, 0)) ∧ cur2.size = (nX + 1) * 2) := ⟨hb2, hz2⟩
  have hlt1 : w.heap.size + 1 + 1 < W1.heap.size := (Array.getElem?_eq_some_iff.1 HG1.out.1).1
  have HG1' : Hid (W2.heap[w.heap.size + 1 + 1]? = some (.cells cur1 29 (0, 0)) ∧ cur1.size = (nR + 1) * 2) := ⟨by rw [b2.block _ hlt1]; exact HG1.out.1, HG1.out.2⟩
  clear ho2 hg2 hb2 hz2 I1 mX b2 HG1 c0 c1 c2 c3
  obtain ⟨⟨c0, c1, c2, c3⟩, _⟩ := I2.out.cells
  generalize hK1 : W1.heap.size = K1 at *
  clear hK1
  go_wp2_with (at_make; refine wpList_make_full _ rfl (.tmp 19) (.tmp 19) 24 rfl 0 137 i3 (.agg #[.string ⟨#[]⟩, .string ⟨#[]⟩, .string ⟨#[]⟩]) 3 Tryz.underlying24 HJ.out.1 HJ.out.2.1 HJ.out.2.2.1 .i64 .i64 ((nS : Int) + 1) ((nS : Int) + 1) (nS + 1) rfl rfl (by omega) (by omega) (by rw [HJ.out.2.2.2]; exact mS.out.1) mS.out.2 (Nat.zero_le _) ?_)
  intro W3 ho3 hg3
  obtain ⟨cur3, hb3, hz3, _⟩ := made_block ho3 rfl
  have b3 : Below W2.heap.size W2 W3 := (Below.refl _ _).grown hg3 (Nat.le_refl _) (fun k hk => by cases hk)
  have I3 : Aside (InM w p (.slice ra nR rc) (.slice xa nX xc) (.slice sa nS sc) W3) := I2.out.call b3
  have hlt2 : K1 < W2.heap.size := (Array.getElem?_eq_some_iff.1 HG2.out.1).1
  have HG3 : Hid ((W3.heap[w.heap.size + 1 + 1]? = some (.cells cur1 29 (0, 0)) ∧ cur1.size = (nR + 1) * 2) ∧ (W3.heap[K1]? = some (.cells cur2 29 (0, 0)) ∧ cur2.size = (nX + 1) * 2) ∧ (W3.heap[W2.heap.size]? = some (.cells cur3 137 (0, 0)) ∧ cur3.size = (nS + 1) * 3)) := ⟨⟨by rw [b3.block _ (by omega)]; exact HG1'.out.1, HG1'.out.2⟩, ⟨by rw [b3.block _ hlt2]; exact HG2.out.1, HG2.out.2⟩, hb3, hz3⟩
  clear ho3 hg3 hb3 hz3 I2 mS b3 HG1' HG2 c0 c1 c2 c3
  generalize hK2 : W2.heap.size = K2 at *
  clear hK2
  obtain ⟨⟨c0, c1, c2, c3⟩, _⟩ := I3.out.cells
  have hl3 : K2 < W3.heap.size := (Array.getElem?_eq_some_iff.1 HG3.out.2.2.1).1
  have hKK : w.heap.size + 1 + 1 < K1 ∧ K1 < K2 := ⟨hlt1, hlt2⟩
  have h1 := run_copy_mods W3 3 (w.heap.size + 1 + 1) nR (nR + 1) (nR + 1) (.slice ra nR rc) R LR.out (Sm.Rd.below DR.out I3.out.b) (by omega) cur1 HG3.out.1.1 (by have := HG3.out.1.2; omega)
  obtain ⟨row1, hrow1⟩ : ∃ row, row = (mcs R ++ cur1.toList.drop (nR * 2)).toArray := ⟨_, rfl⟩
  rw [← hrow1] at h1
  have I4 : Aside (InM w p (.slice ra nR rc) (.slice xa nX xc) (.slice sa nS sc) (W3.setRow (w.heap.size + 1 + 1) row1)) := I3.out.row _ (by omega) _
  have h2 := run_copy_mods (W3.setRow (w.heap.size + 1 + 1) row1) 3 K1 nX (nX + 1) (nX + 1) (.slice xa nX xc) X LX.out (Sm.Rd.below DX.out I4.out.b) (by omega) cur2 (by rw [setRow_other _ _ _ _ (by omega)]; exact HG3.out.2.1.1) (by have := HG3.out.2.1.2; omega)
  obtain ⟨row2, hrow2⟩ : ∃ row, row = (mcs X ++ cur2.toList.drop (nX * 2)).toArray := ⟨_, rfl⟩
  rw [← hrow2] at h2
  have I5 : Aside (InM w p (.slice ra nR rc) (.slice xa nX xc) (.slice sa nS sc) ((W3.setRow (w.heap.size + 1 + 1) row1).setRow K1 row2)) := I4.out.row _ (by omega) _
  have h3 := run_copy_swaps ((W3.setRow (w.heap.size + 1 + 1) row1).setRow K1 row2) 3 K2 nS (nS + 1) (nS + 1) (.slice sa nS sc) S LS.out (Sw.Rd.below DS.out I5.out.b) (by omega) cur3 (by rw [setRow_other _ _ _ _ (by omega), setRow_other _ _ _ _ (by omega)]; exact HG3.out.2.2.1) (by have := HG3.out.2.2.2; omega)
  obtain ⟨row3, hrow3⟩ : ∃ row, row = (scs S ++ cur3.toList.drop (nS * 3)).toArray := ⟨_, rfl⟩
  rw [← hrow3] at h3
  have I6 : Aside (InM w p (.slice ra nR rc) (.slice xa nX xc) (.slice sa nS sc) (((W3.setRow (w.heap.size + 1 + 1) row1).setRow K1 row2).setRow K2 row3)) := I5.out.row _ (by omega) _
  obtain ⟨⟨d0, d1, d2, d3⟩, _⟩ := I4.out.cells
  obtain ⟨⟨e0, e1, e2, e3⟩, _⟩ := I5.out.cells
  obtain ⟨⟨f0, f1, f2, f3⟩, _⟩ := I6.out.cells
  have HRW : Hid (row1 = (mcs R ++ cur1.toList.drop (nR * 2)).toArray ∧ row2 = (mcs X ++ cur2.toList.drop (nX * 2)).toArray ∧ row3 = (scs S ++ cur3.toList.drop (nS * 3)).toArray) := ⟨hrow1, hrow2, hrow3⟩
  clear hrow1 hrow2 hrow3 hlt1 hlt2
  go_upto_region 7 with fail
  have q1 : (((W3.setRow (w.heap.size + 1 + 1) row1).setRow K1 row2).setRow K2 row3).heap[w.heap.size + 1 + 1]? = some (.cells row1 29 (0, 0)) := by
    rw [setRow_other _ _ _ _ (by omega), setRow_other _ _ _ _ (by omega)]; exact setRow_heap W3 _ cur1 _ 29 _ HG3.out.1.1
  have q2 : (((W3.setRow (w.heap.size + 1 + 1) row1).setRow K1 row2).setRow K2 row3).heap[K1]? = some (.cells row2 29 (0, 0)) := by
    rw [setRow_other _ _ _ _ (by omega)]; exact setRow_heap _ _ cur2 _ 29 _ (by rw [setRow_other _ _ _ _ (by omega)]; exact HG3.out.2.1.1)
  have q3 : (((W3.setRow (w.heap.size + 1 + 1) row1).setRow K1 row2).setRow K2 row3).heap[K2]? = some (.cells row3 137 (0, 0)) := setRow_heap _ _ cur3 _ 137 _ (by rw [setRow_other _ _ _ _ (by omega), setRow_other _ _ _ _ (by omega)]; exact HG3.out.2.2.1)
  have lR : (mcs R).length = nR * 2 := by rw [Sm.mc_len, LR.out]
  have lX : (mcs X).length = nX * 2 := by rw [Sm.mc_len, LX.out]
  have lS : (scs S).length = nS * 3 := by rw [Sw.mc_len, LS.out]
  have s1 : (mcs R ++ cur1.toList.drop (nR * 2)).length = (nR + 1) * 2 := by rw [List.length_append, List.length_drop, lR, Array.length_toList]; have := HG3.out.1.2; omega
  have s2 : (mcs X ++ cur2.toList.drop (nX * 2)).length = (nX + 1) * 2 := by rw [List.length_append, List.length_drop, lX, Array.length_toList]; have := HG3.out.2.1.2; omega
  have s3 : (scs S ++ cur3.toList.drop (nS * 3)).length = (nS + 1) * 3 := by rw [List.length_append, List.length_drop, lS, Array.length_toList]; have := HG3.out.2.2.2; omega
  have E1 : Hid (∀ a b, ((row1.setIfInBounds (nR * 2) a).setIfInBounds (nR * 2 + 1) b) = (mcs R ++ [a, b]).toArray) := fun a b => by rw [HRW.out.1]; exact end2 lR s1 (by omega) a b
  have E2 : Hid (∀ a b, ((row2.setIfInBounds (nX * 2) a).setIfInBounds (nX * 2 + 1) b) = (mcs X ++ [a, b]).toArray) := fun a b => by rw [HRW.out.2.1]; exact end2 lX s2 (by omega) a b
  have E3 : Hid (∀ a b c, (((row3.setIfInBounds (nS * 3) a).setIfInBounds (nS * 3 + 1) b).setIfInBounds (nS * 3 + 2) c) = (scs S ++ [a, b, c]).toArray) := fun a b c => by rw [HRW.out.2.2]; exact end3 lS s3 (by omega) a b c
  have z1 : row1.size = (nR + 1) * 2 := by rw [HRW.out.1, List.size_toArray]; exact s1
  have z2 : row2.size = (nX + 1) * 2 := by rw [HRW.out.2.1, List.size_toArray]; exact s2
  have z3 : row3.size = (nS + 1) * 3 := by rw [HRW.out.2.2, List.size_toArray]; exact s3
  clear h1 h2 h3 d0 d1 d2 d3 e0 e1 e2 e3 c0 c1 c2 c3 lR lX lS s1 s2 s3 HRW HG3 I3 I4 I5 hl3 DR DX DS LR LX LS HI HJ
  generalize ((W3.setRow (w.heap.size + 1 + 1) row1).setRow K1 row2).setRow K2 row3 = W6 at *
  have hkI : (nR : Int) < (nR : Int) + 1 := by omega
  have hkX : (nX : Int) < (nX : Int) + 1 := by omega
  have hkS : (nS : Int) < (nS : Int) + 1 := by omega
  have y1 : W6.cell? ⟨w.heap.size + 1 + 1, nR * 2, none⟩ = some row1[nR * 2]! := by rw [Lib.cell_of_heap q1, getElem!_pos row1 (nR * 2) (by omega), Array.getElem?_eq_getElem (by omega)]
  have y2 : W6.cell? ⟨w.heap.size + 1 + 1, nR * 2 + 1, none⟩ = some row1[nR * 2 + 1]! := by rw [Lib.cell_of_heap q1, getElem!_pos row1 (nR * 2 + 1) (by omega), Array.getElem?_eq_getElem (by omega)]
  have y3 : W6.frozen? ⟨w.heap.size + 1 + 1, nR * 2, none⟩ = false := Lib.frozen_of_heap q1 _
  have y4 : W6.frozen? ⟨w.heap.size + 1 + 1, nR * 2 + 1, none⟩ = false := Lib.frozen_of_heap q1 _
  go_upto_region 8 with fail
  have I7 : Aside (InM w p (.slice ra nR rc) (.slice xa nX xc) (.slice sa nS sc) ((W6.setCell ⟨w.heap.size + 1 + 1, nR * 2, none⟩ (.string ⟨#[35]⟩)).setCell ⟨w.heap.size + 1 + 1, nR * 2 + 1, none⟩ (.string ⟨#[]⟩))) := (I6.out.cell _ (Nat.le_refl _) _).cell _ (Nat.le_refl _) _
  have r1 : ((W6.setCell ⟨w.heap.size + 1 + 1, nR * 2, none⟩ (.string ⟨#[35]⟩)).setCell ⟨w.heap.size + 1 + 1, nR * 2 + 1, none⟩ (.string ⟨#[]⟩)).heap[w.heap.size + 1 + 1]? = some (.cells (mcs R ++ [Value.string ⟨#[35]⟩, .string ⟨#[]⟩]).toArray 29 (0, 0)) := by
    have h := heap_setCell_same _ _ (nR * 2 + 1) _ _ (.string ⟨#[]⟩) (heap_setCell_same _ _ (nR * 2) _ _ (.string ⟨#[35]⟩) q1)
    rw [E1.out] at h
    exact h
  have r2 : ((W6.setCell ⟨w.heap.size + 1 + 1, nR * 2, none⟩ (.string ⟨#[35]⟩)).setCell ⟨w.heap.size + 1 + 1, nR * 2 + 1, none⟩ (.string ⟨#[]⟩)).heap[K1]? = some (.cells row2 29 (0, 0)) := by
    rw [heap_setCell_other _ _ _ _ (by show K1 ≠ w.heap.size + 1 + 1; omega), heap_setCell_other _ _ _ _ (by show K1 ≠ w.heap.size + 1 + 1; omega)]; exact q2
  have r3 : ((W6.setCell ⟨w.heap.size + 1 + 1, nR * 2, none⟩ (.string ⟨#[35]⟩)).setCell ⟨w.heap.size + 1 + 1, nR * 2 + 1, none⟩ (.string ⟨#[]⟩)).heap[K2]? = some (.cells row3 137 (0, 0)) := by
    rw [heap_setCell_other _ _ _ _ (by show K2 ≠ w.heap.size + 1 + 1; omega), heap_setCell_other _ _ _ _ (by show K2 ≠ w.heap.size + 1 + 1; omega)]; exact q3
  clear q1 q2 q3 I6 E1 z1 y1 y2 y3 y4 f0 f1 f2 f3
  generalize (W6.setCell ⟨w.heap.size + 1 + 1, nR * 2, none⟩ (.string ⟨#[35]⟩)).setCell ⟨w.heap.size + 1 + 1, nR * 2 + 1, none⟩ (.string ⟨#[]⟩) = W7 at *
  obtain ⟨⟨f0, f1, f2, f3⟩, _⟩ := I7.out.cells
  have y1 : W7.cell? ⟨K1, nX * 2, none⟩ = some row2[nX * 2]! := by rw [Lib.cell_of_heap r2, getElem!_pos row2 (nX * 2) (by omega), Array.getElem?_eq_getElem (by omega)]
  have y2 : W7.cell? ⟨K1, nX * 2 + 1, none⟩ = some row2[nX * 2 + 1]! := by rw [Lib.cell_of_heap r2, getElem!_pos row2 (nX * 2 + 1) (by omega), Array.getElem?_eq_getElem (by omega)]
  have y3 : W7.frozen? ⟨K1, nX * 2, none⟩ = false := Lib.frozen_of_heap r2 _
  have y4 : W7.frozen? ⟨K1, nX * 2 + 1, none⟩ = false := Lib.frozen_of_heap r2 _
  go_upto_region 9 with fail
  have I8 : Aside (InM w p (.slice ra nR rc) (.slice xa nX xc) (.slice sa nS sc) ((W7.setCell ⟨K1, nX * 2, none⟩ (.string ⟨#[35]⟩)).setCell ⟨K1, nX * 2 + 1, none⟩ (.string ⟨#[]⟩))) := (I7.out.cell _ (by show w.heap.size + 2 ≤ K1; omega) _).cell _ (by show w.heap.size + 2 ≤ K1; omega) _
  have t2 : ((W7.setCell ⟨K1, nX * 2, none⟩ (.string ⟨#[35]⟩)).setCell ⟨K1, nX * 2 + 1, none⟩ (.string ⟨#[]⟩)).heap[K1]? = some (.cells (mcs X ++ [Value.string ⟨#[35]⟩, .string ⟨#[]⟩]).toArray 29 (0, 0)) := by
    have h := heap_setCell_same _ _ (nX * 2 + 1) _ _ (.string ⟨#[]⟩) (heap_setCell_same _ _ (nX * 2) _ _ (.string ⟨#[35]⟩) r2)
    rw [E2.out] at h
    exact h
  have t1 : ((W7.setCell ⟨K1, nX * 2, none⟩ (.string ⟨#[35]⟩)).setCell ⟨K1, nX * 2 + 1, none⟩ (.string ⟨#[]⟩)).heap[w.heap.size + 1 + 1]? = some (.cells (mcs R ++ [Value.string ⟨#[35]⟩, .string ⟨#[]⟩]).toArray 29 (0, 0)) := by
    rw [heap_setCell_other _ _ _ _ (by show w.heap.size + 1 + 1 ≠ K1; omega), heap_setCell_other _ _ _ _ (by show w.heap.size + 1 + 1 ≠ K1; omega)]; exact r1
  have t3 : ((W7.setCell ⟨K1, nX * 2, none⟩ (.string ⟨#[35]⟩)).setCell ⟨K1, nX * 2 + 1, none⟩ (.string ⟨#[]⟩)).heap[K2]? = some (.cells row3 137 (0, 0)) := by
    rw [heap_setCell_other _ _ _ _ (by show K2 ≠ K1; omega), heap_setCell_other _ _ _ _ (by show K2 ≠ K1; omega)]; exact r3
  clear r1 r2 r3 I7 E2 z2 y1 y2 y3 y4 f0 f1 f2 f3
  generalize (W7.setCell ⟨K1, nX * 2, none⟩ (.string ⟨#[35]⟩)).setCell ⟨K1, nX * 2 + 1, none⟩ (.string ⟨#[]⟩) = W8 at *
  obtain ⟨⟨f0, f1, f2, f3⟩, _⟩ := I8.out.cells
  have y1 : W8.cell? ⟨K2, nS * 3, none⟩ = some row3[nS * 3]! := by rw [Lib.cell_of_heap t3, getElem!_pos row3 (nS * 3) (by omega), Array.getElem?_eq_getElem (by omega)]
  have y2 : W8.cell? ⟨K2, nS * 3 + 1, none⟩ = some row3[nS * 3 + 1]! := by rw [Lib.cell_of_heap t3, getElem!_pos row3 (nS * 3 + 1) (by omega), Array.getElem?_eq_getElem (by omega)]
  have y5 : W8.cell? ⟨K2, nS * 3 + 2, none⟩ = some row3[nS * 3 + 2]! := by rw [Lib.cell_of_heap t3, getElem!_pos row3 (nS * 3 + 2) (by omega), Array.getElem?_eq_getElem (by omega)]
  have y3 : W8.frozen? ⟨K2, nS * 3, none⟩ = false := Lib.frozen_of_heap t3 _
  have y4 : W8.frozen? ⟨K2, nS * 3 + 1, none⟩ = false := Lib.frozen_of_heap t3 _
  have y6 : W8.frozen? ⟨K2, nS * 3 + 2, none⟩ = false := Lib.frozen_of_heap t3 _
  go_upto_region 10 with fail
  have I9 : Aside (InM w p (.slice ra nR rc) (.slice xa nX xc) (.slice sa nS sc) (((W8.setCell ⟨K2, nS * 3, none⟩ (.string ⟨#[35]⟩)).setCell ⟨K2, nS * 3 + 1, none⟩ (.string ⟨#[]⟩)).setCell ⟨K2, nS * 3 + 2, none⟩ (.string ⟨#[]⟩))) := ((I8.out.cell _ (by show w.heap.size + 2 ≤ K2; omega) _).cell _ (by show w.heap.size + 2 ≤ K2; omega) _).cell _ (by show w.heap.size + 2 ≤ K2; omega) _
  have v3 : (((W8.setCell ⟨K2, nS * 3, none⟩ (.string ⟨#[35]⟩)).setCell ⟨K2, nS * 3 + 1, none⟩ (.string ⟨#[]⟩)).setCell ⟨K2, nS * 3 + 2, none⟩ (.string ⟨#[]⟩)).heap[K2]? = some (.cells (scs S ++ [Value.string ⟨#[35]⟩, .string ⟨#[]⟩, .string ⟨#[]⟩]).toArray 137 (0, 0)) := by
    have h := heap_setCell_same _ _ (nS * 3 + 2) _ _ (.string ⟨#[]⟩) (heap_setCell_same _ _ (nS * 3 + 1) _ _ (.string ⟨#[]⟩) (heap_setCell_same _ _ (nS * 3) _ _ (.string ⟨#[35]⟩) t3))
    rw [E3.out] at h
    exact h
  have v1 : (((W8.setCell ⟨K2, nS * 3, none⟩ (.string ⟨#[35]⟩)).setCell ⟨K2, nS * 3 + 1, none⟩ (.string ⟨#[]⟩)).setCell ⟨K2, nS * 3 + 2, none⟩ (.string ⟨#[]⟩)).heap[w.heap.size + 1 + 1]? = some (.cells (mcs R ++ [Value.string ⟨#[35]⟩, .string ⟨#[]⟩]).toArray 29 (0, 0)) := by
    rw [heap_setCell_other _ _ _ _ (by show w.heap.size + 1 + 1 ≠ K2; omega), heap_setCell_other _ _ _ _ (by show w.heap.size + 1 + 1 ≠ K2; omega), heap_setCell_other _ _ _ _ (by show w.heap.size + 1 + 1 ≠ K2; omega)]; exact t1
  have v2 : (((W8.setCell ⟨K2, nS * 3, none⟩ (.string ⟨#[35]⟩)).setCell ⟨K2, nS * 3 + 1, none⟩ (.string ⟨#[]⟩)).setCell ⟨K2, nS * 3 + 2, none⟩ (.string ⟨#[]⟩)).heap[K1]? = some (.cells (mcs X ++ [Value.string ⟨#[35]⟩, .string ⟨#[]⟩]).toArray 29 (0, 0)) := by
    rw [heap_setCell_other _ _ _ _ (by show K1 ≠ K2; omega), heap_setCell_other _ _ _ _ (by show K1 ≠ K2; omega), heap_setCell_other _ _ _ _ (by show K1 ≠ K2; omega)]; exact t2
  clear t1 t2 t3 I8 E3 z3 y1 y2 y3 y4 y5 y6 f0 f1 f2 f3
  generalize ((W8.setCell ⟨K2, nS * 3, none⟩ (.string ⟨#[35]⟩)).setCell ⟨K2, nS * 3 + 1, none⟩ (.string ⟨#[]⟩)).setCell ⟨K2, nS * 3 + 2, none⟩ (.string ⟨#[]⟩) = W9 at *
  obtain ⟨⟨f0, f1, f2, f3⟩, _⟩ := I9.out.cells
  obtain ⟨⟨u0, u1, u2, u3⟩, o0, o1, o2, o3⟩ := I9.out.outs
  have HF : Hid (∀ a b c d, (((((W9.setCell ⟨w.heap.size + 1, 0, none⟩ a).setCell ⟨w.heap.size + 1, 1, none⟩ b).setCell ⟨w.heap.size + 1, 2, none⟩ c).setCell ⟨w.heap.size + 1, 3, none⟩ d).heap[w.heap.size + 1]? = some (.cells #[a, b, c, d] 26)) ∧ ((((W9.setCell ⟨w.heap.size + 1, 0, none⟩ a).setCell ⟨w.heap.size + 1, 1, none⟩ b).setCell ⟨w.heap.size + 1, 2, none⟩ c).setCell ⟨w.heap.size + 1, 3, none⟩ d).heap[w.heap.size + 1 + 1]? = some (.cells (mcs R ++ [Value.string ⟨#[35]⟩, .string ⟨#[]⟩]).toArray 29 (0, 0)) ∧ ((((W9.setCell ⟨w.heap.size + 1, 0, none⟩ a).setCell ⟨w.heap.size + 1, 1, none⟩ b).setCell ⟨w.heap.size + 1, 2, none⟩ c).setCell ⟨w.heap.size + 1, 3, none⟩ d).heap[K1]? = some (.cells (mcs X ++ [Value.string ⟨#[35]⟩, .string ⟨#[]⟩]).toArray 29 (0, 0)) ∧ ((((W9.setCell ⟨w.heap.size + 1, 0, none⟩ a).setCell ⟨w.heap.size + 1, 1, none⟩ b).setCell ⟨w.heap.size + 1, 2, none⟩ c).setCell ⟨w.heap.size + 1, 3, none⟩ d).heap[K2]? = some (.cells (scs S ++ [Value.string ⟨#[35]⟩, .string ⟨#[]⟩, .string ⟨#[]⟩]).toArray 137 (0, 0)) ∧ Below w.heap.size w (((((W9.setCell ⟨w.heap.size + 1, 0, none⟩ a).setCell ⟨w.heap.size + 1, 1, none⟩ b).setCell ⟨w.heap.size + 1, 2, none⟩ c).setCell ⟨w.heap.size + 1, 3, none⟩ d).drew)) := fun a b c d => by
    have ot : ∀ x, w.heap.size + 1 < x → ((((W9.setCell ⟨w.heap.size + 1, 0, none⟩ a).setCell ⟨w.heap.size + 1, 1, none⟩ b).setCell ⟨w.heap.size + 1, 2, none⟩ c).setCell ⟨w.heap.size + 1, 3, none⟩ d).heap[x]? = W9.heap[x]? := fun x hx => by
      rw [heap_setCell_other _ _ _ _ (by show x ≠ w.heap.size + 1; omega), heap_setCell_other _ _ _ _ (by show x ≠ w.heap.size + 1; omega), heap_setCell_other _ _ _ _ (by show x ≠ w.heap.size + 1; omega), heap_setCell_other _ _ _ _ (by show x ≠ w.heap.size + 1; omega)]
    exact ⟨I9.out.whole a b c d, by rw [ot _ (by omega)]; exact v1, by rw [ot _ (by omega)]; exact v2, by rw [ot _ (by omega)]; exact v3, ((((I9.out.b.setCell (by show w.heap.size ≤ w.heap.size + 1; omega) _).setCell (by show w.heap.size ≤ w.heap.size + 1; omega) _).setCell (by show w.heap.size ≤ w.heap.size + 1; omega) _).setCell (by show w.heap.size ≤ w.heap.size + 1; omega) _).drew⟩
  have hkR' : (nR : Int) ≤ (nR : Int) + 1 := by omega
  have hkX' : (nX : Int) ≤ (nX : Int) + 1 := by omega
  have hkS' : (nS : Int) ≤ (nS : Int) + 1 := by omega
  clear v1 v2 v3 I9
  go_region
  go_wp2
  refine bodyPost_ret (results_cell_row Tryz.results46 _ _ (w.heap.size + 1) 26 _ (0, 0) _ rfl (HF.out _ _ _ _).1 Tryz.underlying26 rfl (by kernel_rfl)) rfl ?_
  exact ⟨_, K1, K2, rfl, (HF.out _ _ _ _).2.1, (HF.out _ _ _ _).2.2.1, (HF.out _ _ _ _).2.2.2.1, (HF.out _ _ _ _).2.2.2.2⟩

end Go.Proofs.YtelmkfkgpnadnaaGreatDoor
