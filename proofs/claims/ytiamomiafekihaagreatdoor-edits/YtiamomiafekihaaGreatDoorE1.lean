/-
  Edits: what a text is laid under.
-/
import Derived.Test.YtiamomiafekihaaGreatDoorN3
import Derived.Test.YtiamomiafekihaaGreatDoorV8
namespace Go.Proofs.YtiamomiafekihaaGreatDoor
open Go.RowKit

variable {w w' : World}

/-- What is wrong with a path and a version. -/
def nameErr (p v : ByteArray) : Int := if Pv.isPath p.data.toList = false then 2 else if v.size ≠ 0 ∧ (Pv.parse v.data.toList).isSome = false then 3 else 0

theorem slOf_shape {v : Value} {ids : List ByteArray} (h : SlOf w v ids) : ∃ ad n k, v = .slice ad n k := by
  rcases h with ⟨_, h⟩ | ⟨b, c, h, _⟩
  · exact ⟨_, _, _, h⟩
  · exact ⟨_, _, _, h⟩

theorem empty_list (v : ByteArray) : (v.toList == []) = decide (v.size = 0) := by
  rw [Lib.toList_data, Lib.size_eq]
  cases v.data.toList <;> simp

set_option maxRecDepth 100000 in
set_option maxHeartbeats 1000000 in
theorem named_any (p v : ByteArray) (w : World) (hp : p.size ≤ 4611686018427387904) :
    Calls Tryz.prog 32 #[.string p, .string v] w fun e w' => e = .returned (.int .i64 (nameErr p v)) ∧ Below w.heap.size w w' := by
  have k1 := fun W => isPath_doc p W hp
  have k2 := fun W => isVersion_any v W
  have HN : Hid (nameErr p v = if Pv.isPath p.data.toList = false then 2 else if v.size ≠ 0 ∧ (Pv.parse v.data.toList).isSome = false then 3 else 0) := rfl
  have he := empty_list v
  generalize nameErr p v = r at *
  generalize Pv.isPath p.data.toList = a at *
  generalize (Pv.parse v.data.toList).isSome = b at *
  go_enter Tryz.func32, Tryz.ntmps32
  go_wp2_with (go_at_call 40; fail)
  go_at_call 40
  refine (k1 _).mono ?_
  intro e1 w1 h1
  rw [h1.1, h1.2]
  clear h1 k1
  go_wp2_with (go_at_call 56; fail)
  go_at_call 56
  refine (k2 _).mono ?_
  rintro e2 w2 ⟨rfl, hb⟩
  clear k2
  cases a
  · have HF : Hid (2 = r) := by rw [HN.out]; rfl
    clear HN he
    go_wp2
    go_ret
    exact ⟨ret_int HF.out, hb⟩
  · by_cases h0 : v.size = 0
    · have HF : Hid (0 = r) := by show 0 = r; rw [HN.out, if_neg (by decide), if_neg (fun h => h.1 h0)]
      rw [decide_eq_true h0] at he
      clear HN
      go_wp2
      go_ret
      exact ⟨ret_int HF.out, hb⟩
    · rw [decide_eq_false h0] at he
      cases b
      · have HF : Hid (3 = r) := by show 3 = r; rw [HN.out, if_neg (by decide), if_pos ⟨h0, rfl⟩]
        clear HN
        go_wp2
        go_ret
        exact ⟨ret_int HF.out, hb⟩
      · have HF : Hid (0 = r) := by show 0 = r; rw [HN.out, if_neg (by decide), if_neg (fun h => absurd h.2 (by decide))]
        clear HN
        go_wp2
        go_ret
        exact ⟨ret_int HF.out, hb⟩

set_option maxRecDepth 100000 in
set_option maxHeartbeats 1000000 in
/-- The program's way. -/
theorem checkModule_any (p v : ByteArray) (w : World) (hm : Ml w) (hp : p.size < 281474976710656) :
    Calls Tryz.prog 54 #[.string p, .string v] w fun e w' => e = .returned (.int .i64 (nameErr p v)) ∧ Below w.heap.size w w' := by
  have k1 := isPath_prog p w hm hp
  have k2 : ∀ W, Below w.heap.size w W → Calls Tryz.prog 71 #[.string v] W fun e w' => ∃ (i0 i1 i2 : Int) (ad : Option Addr) (n k : Nat), e = .returned (.tuple #[.agg #[.int .i64 i0, .int .i64 i1, .int .i64 i2, .slice ad n k], .bool (Pv.parse v.data.toList).isSome]) ∧ Below W.heap.size W w' := fun W hb => by
    cases hv : Pv.parse v.data.toList with
    | none =>
      refine (parseVersion_none v W (hm.below hb) hv).mono ?_
      rintro e w' ⟨rfl, h⟩
      exact ⟨_, _, _, _, _, _, rfl, h⟩
    | some y =>
      obtain ⟨_, _, _, _, _, _, _, k⟩ := parseVersion_some v W (hm.below hb) y hv
      refine k.mono ?_
      rintro e w' ⟨sl, rfl, h, hs⟩
      obtain ⟨ad, n, k, rfl⟩ := slOf_shape hs
      exact ⟨_, _, _, _, _, _, rfl, h⟩
  have HN : Hid (nameErr p v = if Pv.isPath p.data.toList = false then 2 else if v.size ≠ 0 ∧ (Pv.parse v.data.toList).isSome = false then 3 else 0) := rfl
  have he := empty_list v
  clear hm
  generalize nameErr p v = r at *
  generalize Pv.isPath p.data.toList = a at *
  generalize (Pv.parse v.data.toList).isSome = b at *
  go_enter Tryz.func54, Tryz.ntmps54
  go_wp2_with (go_at_call 58; fail)
  go_at_call 58
  refine k1.mono ?_
  rintro e1 w1 ⟨rfl, hb1⟩
  clear k1
  have k2 := k2 w1 hb1
  cases a
  · have HF : Hid (2 = r) := by rw [HN.out]; rfl
    clear HN he k2
    go_wp2
    go_ret
    exact ⟨ret_int HF.out, hb1⟩
  · go_wp2_with (go_at_call 71; fail)
    go_at_call 71
    refine k2.mono ?_
    rintro e2 w2 ⟨i0, i1, i2, ad, nn, kk, rfl, hb2⟩
    have HB : Hid (Below w.heap.size w w2) := hb1.trans (hb2.mono hb1.size)
    clear k2 hb1 hb2
    by_cases h0 : v.size = 0
    · have HF : Hid (0 = r) := by show 0 = r; rw [HN.out, if_neg (by decide), if_neg (fun h => h.1 h0)]
      rw [decide_eq_true h0] at he
      clear HN
      cases b
      all_goals
        go_wp2
        go_ret
        exact ⟨ret_int HF.out, HB.out.alloc HB.out.size _⟩
    · rw [decide_eq_false h0] at he
      cases b
      · have HF : Hid (3 = r) := by show 3 = r; rw [HN.out, if_neg (by decide), if_pos ⟨h0, rfl⟩]
        clear HN
        go_wp2
        go_ret
        exact ⟨ret_int HF.out, HB.out.alloc HB.out.size _⟩
      · have HF : Hid (0 = r) := by show 0 = r; rw [HN.out, if_neg (by decide), if_neg (fun h => absurd h.2 (by decide))]
        clear HN
        go_wp2
        go_ret
        exact ⟨ret_int HF.out, HB.out.alloc HB.out.size _⟩

end Go.Proofs.YtiamomiafekihaaGreatDoor
