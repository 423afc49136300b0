/-
  Edits: the program's shelf: a text is taken away.
-/
import Derived.Test.YtiamomiafekihaaGreatDoorE9
namespace Go.Proofs.YtiamomiafekihaaGreatDoor
open Go.RowKit
namespace Ed

variable {w w' : World} {sb mb rev : Nat} {L : List (Value × Value)}

theorem step_delete_at {P : Program} {ops : Array Oper} {o : Oper} {a : Act} {w : World} {K : Act → World → Prop} {Q : Exit → Act → World → Prop} {E : Prop}
    (hg : o.guard = none) (m x : Operand) (t k : TypeId) (hop : o.op = Op.call { callee := Callee.builtin Builtin.delete, args := #[m, x], argTypes := #[t, k] })
    (mb : Nat) (key : Value) (hm : a.eval m = .map (some mb)) (hx : a.eval x = key) (w' : World) (hrun : ∀ ty, (Builtin.delete_ #[t, k] ty #[.map (some mb), key]).run P w = .ok (.tuple #[]) w')
    (hK : K (a.put o.dst (.tuple #[])) w') : if Region.wanted o (yielded ops a.tmps) = true then Oper.wp P o a w K Q else E := by
  have hw : Region.wanted o (yielded ops a.tmps) = true := by simp [Region.wanted, hg]
  rw [if_pos hw]
  unfold Oper.wp
  simp [execOp, hop, resolve, invoke, builtin, hm, hx, hrun, Result.andThen]
  exact hK

theorem field255 (s : ByteArray) (b : Bool) (W : World) : (Instr.field 137 (.agg #[.string s, .bool b]) 1).run Tryz.prog W = .ok (.bool b) W := by kernel_rfl

theorem ShelfAt.dropped {L0 : List (Value × Value)} {old : ByteArray} {k : Int} {p v : ByteArray} (h : ShelfAt w sb mb rev L) (hL : L.Perm ((plc k p v, txt old) :: L0)) (hk : (Lit.int .i64 k).wf = true) (hp : p.size ≤ maxLen) (hv : v.size ≤ maxLen) :
    ∃ w', (∀ ty, (Builtin.delete_ #[99, 110] ty #[.map (some mb), plc k p v]).run Tryz.prog w = .ok (.tuple #[]) w') ∧ ShelfAt w' sb mb rev L0 ∧ Turn (fun x => x = mb) w w' := by
  obtain ⟨kl, hkey⟩ := key_plc k p v hk hp hv
  obtain ⟨w1, hrun, ht, hm⟩ := h.map.drop_old keyed188 Tryz.underlying99 hkey hL 0
  have hall : ∀ ty, (Builtin.delete_ #[99, 110] ty #[.map (some mb), plc k p v]).run Tryz.prog w = .ok (.tuple #[]) w1 := fun ty => hrun
  have tb := turned_below ht
  have e1 := tb.block sb h.f0.lt h.ne
  exact ⟨w1, hall, ⟨h.f0.of_block e1, h.f1.of_block e1, hm, (h.good.perm hL).tail, h.ne⟩, tb⟩

set_option maxRecDepth 100000 in
set_option maxHeartbeats 4000000 in
theorem drop_any (k : Int) (p v : ByteArray) (d : Nat) (L' : List (Value × Value)) (w : World) (h : ShelfAt w sb mb rev L) (hk : (Lit.int .i64 k).wf = true) (hp : p.size ≤ 281474976710656) (hv : v.size ≤ 281474976710656) (hr : rev < 4611686018427387904)
    (hS : DropSpec L (plc k p v) d L') :
    Calls Tryz.prog 57 #[.pointer (some ⟨sb, 0, none⟩), plc k p v] w fun e w' => e = .returned (.tuple #[]) ∧ ShelfAt w' sb mb (rev + d) L' ∧ Turn (fun b => b = sb ∨ b = mb) w w' := by
  obtain ⟨kl, hkey⟩ := key_plc k p v hk (by unfold maxLen; omega) (by unfold maxLen; omega)
  have HB1 : Hid (Below w.heap.size w (w.alloc (.cells #[.int .i64 k, .string p, .string v] 110)).drew) := ((Below.refl _ _).alloc (Nat.le_refl _) _).drew
  have HX1 : Hid (BoxP (w.alloc (.cells #[.int .i64 k, .string p, .string v] 110)).drew w.heap.size k p v) := (BoxP.new w k p v).of_block rfl
  have HS1 : Hid (ShelfAt (w.alloc (.cells #[.int .i64 k, .string p, .string v] 110)).drew sb mb rev L) := h.below HB1.out
  have hsl : sb < w.heap.size ∧ mb < w.heap.size := ⟨h.f0.lt, h.map.lt⟩
  clear h
  cases hS with
  | none hn =>
    have hfl := field255 ⟨#[]⟩ false
    have lk := HS1.out.map.look_none false keyed188 Tryz.underlying99 (zero255 _) hkey hn
    go_enter Tryz.func57, Tryz.ntmps57
    go_upto_region 1 with fail
    have c0 : (w.alloc (.cells #[.int .i64 k, .string p, .string v] 110)).cell? ⟨sb, 0, none⟩ = some (.map (some mb)) := HS1.out.f0.1
    go_region
    all_goals
      go_wp2
      exact bodyPost_end (v := .tuple #[]) (by simp [results, Tryz.results57, go_sem]) rfl ⟨rfl, HS1.out, Turn.of_below HB1.out⟩
  | there old L0 hL =>
    have hfl := field255 old true
    have lk := HS1.out.map.look_some false keyed188 Tryz.underlying99 (zero255 _) hkey (hL.mem_iff.2 (List.mem_cons_self ..))
    go_enter Tryz.func57, Tryz.ntmps57
    go_upto_region 1 with fail
    have c0 : (w.alloc (.cells #[.int .i64 k, .string p, .string v] 110)).cell? ⟨sb, 0, none⟩ = some (.map (some mb)) := HS1.out.f0.1
    go_region
    all_goals
      clear lk c0
      generalize (w.alloc (.cells #[.int .i64 k, .string p, .string v] 110)).drew = W1 at *
      obtain ⟨⟨x0, _⟩, ⟨x1, _⟩, ⟨x2, _⟩⟩ := HX1.out
      have c0 := HS1.out.f0.1
      obtain ⟨w7, hrun, h7, ht7⟩ := ShelfAt.dropped (w := W1.drew) (HS1.out.of_block rfl rfl) hL hk (by unfold maxLen; omega) (by unfold maxLen; omega)
      have HS7 : Hid (ShelfAt w7 sb mb rev L') := h7
      have HT7 : Hid (Turn (fun b => b = sb ∨ b = mb) w w7) := (Turn.of_below (p := fun b => b = sb ∨ b = mb) HB1.out.drew).trans ht7 (fun _ _ e => e) (fun _ _ e => Or.inr e)
      clear h7 ht7
      go_upto_region 2 with fail
      go_region_law (refine step_delete_at rfl (.tmp 14) (.tmp 15) 99 110 rfl mb (plc k p v) rfl rfl w7 hrun ?_)
      all_goals
        clear hrun x0 x1 x2 c0
        have g1 := HS7.out.f1.1
        have g2 := HS7.out.f1.2
        have e2 : IntKind.i64.wrap ((rev : Int) + 1) = (rev : Int) + 1 := by simp [IntKind.wrap, IntKind.bits, IntKind.signed]; omega
        have HS8 : Hid (ShelfAt (w7.setCell ⟨sb, 1, none⟩ (.int .i64 ((rev : Int) + 1))) sb mb (rev + 1) L') := HS7.out.bump
        have HT8 : Hid (Turn (fun b => b = sb ∨ b = mb) w (w7.setCell ⟨sb, 1, none⟩ (.int .i64 ((rev : Int) + 1)))) := HT7.out.set (a := ⟨sb, 1, none⟩) (fun _ => Or.inl rfl) _
        clear HS7 HT7
        go_wp2
        exact bodyPost_end (v := .tuple #[]) (by simp [results, Tryz.results57, go_sem]) rfl ⟨rfl, HS8.out, HT8.out⟩

end Ed
end Go.Proofs.YtiamomiafekihaaGreatDoor
