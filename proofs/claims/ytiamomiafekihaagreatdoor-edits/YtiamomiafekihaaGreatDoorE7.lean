/-
  Edits: the program's shelf: how many texts of a kind there are.
-/
import Derived.Test.YtiamomiafekihaaGreatDoorE6
import Derived.Maps.RangeWalk
namespace Go.Proofs.YtiamomiafekihaaGreatDoor
open Go.RowKit
namespace Ed

section
variable {P : Program} (w : World) {ops : Array Oper} {rest : List Oper} {o : Oper} {a : Act} {Q : Exit → Act → World → Prop}

theorem wpList_range_at (hg : o.guard = none) (m : Operand) (t : TypeId) (hop : o.op = Op.range t m) (k e : TypeId) (ht : P.underlying t = some (.map k e)) (b : Nat) (L : List (Value × Value))
    (hm : a.eval m = .map (some b)) (h : Mp.MapAt P k w b L)
    (hK : ∀ w', Mp.RangeAt P k w' b w.heap.size L L → w.grownBy w' none → w'.heap.size = w.heap.size + 1 → wpList P ops Q rest (a.put o.dst (.pointer (some ⟨w.heap.size, 0, none⟩))) w') :
    wpList P ops Q (o :: rest) a w := by
  refine wpList_plain hg fun K' hK' => ?_
  obtain ⟨w', hrun, r1, r2, r3⟩ := h.range ht
  unfold Oper.wp
  simp [execOp, hop, hm, hrun, Result.andThen]
  exact hK' _ _ (hK w' r1 r2 r3)

theorem wpList_next_plc (hg : o.guard = none) (it : Operand) (hop : o.op = Op.next it false) (k : TypeId) (b r : Nat) (L Lr : List (Value × Value)) (hL : Good L)
    (hit : a.eval it = .pointer (some ⟨r, 0, none⟩)) (h : Mp.RangeAt P k w b r L Lr)
    (hDone : Lr = [] → wpList P ops Q rest (a.put o.dst (.tuple #[.bool false])) w)
    (hMore : ∀ (q : Int) (p v s : ByteArray) (Lr' : List (Value × Value)) (w' : World), Lr.Perm ((plc q p v, txt s) :: Lr') → Mp.RangeAt P k w' b r L Lr' → w.grownBy w' (some r) → w'.heap.size = w.heap.size →
      (Instr.entry (.pointer (some ⟨r, 0, none⟩))).run P w' = .ok (.tuple #[plc q p v, txt s]) w' → wpList P ops Q rest (a.put o.dst (.tuple #[.bool true, plc q p v, txt s])) w') :
    wpList P ops Q (o :: rest) a w := by
  refine wpList_plain hg fun K' hK' => ?_
  unfold Oper.wp
  rcases h.next o.type with ⟨h0, hrun⟩ | ⟨key, v, Lr', w', hm, hp, hrun, hrg, hgr, hsz, hen⟩
  · simp [execOp, hop, hit, hrun, Result.andThen]
    exact hK' _ _ (hDone h0)
  · obtain ⟨q, p, v, s, e⟩ := hL _ hm
    injection e with e1 e2
    subst e1
    subst e2
    simp [execOp, hop, hit, hrun, Result.andThen]
    exact hK' _ _ (hMore q p v s Lr' w' hp hrg hgr hsz hen)

end

variable {w w' : World} {sb mb rev : Nat} {L : List (Value × Value)}

set_option maxRecDepth 100000 in
set_option maxHeartbeats 2000000 in
theorem count_any (k : Int) (w : World) (h : ShelfAt w sb mb rev L) (hl : L.length ≤ 100000) :
    Calls Tryz.prog 72 #[.pointer (some ⟨sb, 0, none⟩), .int .i64 k] w fun e w' => e = .returned (.int .i64 ((L.countP (ofKind k) : Nat) : Int)) ∧ Below w.heap.size w w' := by
  have c0 := h.f0.1
  have hM : TextsAt w mb L := h.map
  have HG : Hid (Good L) := h.good
  clear h
  generalize hr : L.countP (ofKind k) = r
  have HR : Hid (L.countP (ofKind k) = r) := hr
  clear hr
  go_enter Tryz.func72, Tryz.ntmps72
  go_wp2_with (first
    | (at_range; refine wpList_range_at _ rfl _ 99 rfl 110 137 Tryz.underlying99 mb L rfl hM ?_; intro w0 hrg0 hg0 hs0)
    | go_in)
  go_frame
  have hb0 : Below w.heap.size w w0 := (Below.refl _ _).grown hg0 (Nat.le_refl _) (fun j hj => by cases hj)
  clear hM c0 hg0
  go_loopg [5] L.length (fun gg nv wr => ∃ (Lr : List (Value × Value)) (n : Nat), nv = .int .i64 n ∧ Lr.length ≤ gg ∧ n + Lr.length ≤ L.length ∧ Hid (n + Lr.countP (ofKind k) = r) ∧ Hid (Mp.RangeAt Tryz.prog 110 wr mb w.heap.size L Lr) ∧ Below w.heap.size w wr)
  case atStart => exact ⟨L, 0, rfl, Nat.le_refl _, by omega, by show _ = _; rw [Nat.zero_add]; exact HR.out, hrg0, hb0⟩
  case round =>
    obtain ⟨Lr, n, rfl, hlen, hn, HC, HRg, hb⟩ := hrel
    go_wp2_with (first
      | (at_next; refine wpList_next_plc _ rfl _ rfl 110 mb w.heap.size L Lr HG.out rfl HRg.out ?_ ?_)
      | go_in)
    · intro h0
      have HF : Hid ((n : Int) = r) := by
        have h1 := HC.out
        rw [h0] at h1
        show (n : Int) = r
        simp at h1
        omega
      clear HC HRg
      go_wp2
      go_ret
      exact ⟨ret_int HF.out, hb⟩
    · intro q p v s Lr' w1 hp hrg hgr hsz hen
      have hb1 : Below w.heap.size w w1 := hb.grown hgr hb.size (fun j hj => by cases hj; exact Nat.le_refl _)
      have hl1 := hp.length_eq
      have hc1 := hp.countP_eq (ofKind k)
      rw [List.countP_cons] at hc1
      rw [List.length_cons] at hl1
      have HC1 : Hid ((if (q == k) = true then n + 1 else n) + Lr'.countP (ofKind k) = r) := by
        have h1 := HC.out
        have e1 : ofKind k (plc q p v, txt s) = (q == k) := rfl
        rw [e1] at hc1
        show _ = r
        split
        · rename_i e2; rw [if_pos e2] at hc1; omega
        · rename_i e2; rw [if_neg e2] at hc1; omega
      clear hc1 HC hgr
      have HRg1 : Hid (Mp.RangeAt Tryz.prog 110 w1 mb w.heap.size L Lr') := hrg
      clear hrg
      have HRg2 : Hid (Mp.RangeAt Tryz.prog 110 (w1.alloc (.cells #[.int .i64 q, .string p, .string v] 110)) mb w.heap.size L Lr') :=
        HRg1.out.of_block (Below.heap_alloc _ _ _ HRg1.out.owns.lt) (Below.heap_alloc _ _ _ HRg1.out.lt)
      have hb2 : Below w.heap.size w (w1.alloc (.cells #[.int .i64 q, .string p, .string v] 110)) := hb1.alloc hb1.size _
      clear HRg1 HRg hp
      cases hq : (q == k)
      · rw [hq] at HC1
        go_wp2
        go_roundg Lr'.length
        case measure => omega
        case rel => exact ⟨Lr', n, rfl, Nat.le_refl _, by omega, HC1.out, HRg2, hb2⟩
      · rw [hq] at HC1
        go_wp2
        go_roundg Lr'.length
        case measure => omega
        case rel => exact ⟨Lr', n + 1, by go_num, Nat.le_refl _, by omega, HC1.out, HRg2, hb2⟩

end Ed
end Go.Proofs.YtiamomiafekihaaGreatDoor
