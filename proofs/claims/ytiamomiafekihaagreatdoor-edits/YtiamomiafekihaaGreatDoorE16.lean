/-
  The statement's own call: Edits.
-/
import Derived.Test.YtiamomiafekihaaGreatDoorE15
namespace Go.Proofs.YtiamomiafekihaaGreatDoor
open Go.RowKit
namespace Ed

variable {w w0 w' : World}

set_option maxRecDepth 100000 in
set_option maxHeartbeats 2000000 in
theorem simple_any (w : World) :
    Calls Tryz.prog 5 #[] w fun e w' => e = .returned (.slice (some ⟨w.heap.size, 0, none⟩) 7 7) ∧ Below w.heap.size w w' ∧ Script w' (some ⟨w.heap.size, 0, none⟩) 7 := by
  go_enter Tryz.func5, Tryz.ntmps5
  go_wp2
  go_ret
  refine ⟨rfl, (Below.refl _ _).alloc (Nat.le_refl _) _, fun i hi => ?_⟩
  rcases (by omega : i = 0 ∨ i = 1 ∨ i = 2 ∨ i = 3 ∨ i = 4 ∨ i = 5 ∨ i = 6) with e | e | e | e | e | e | e <;> subst e
  · exact ⟨w.heap.size, 0, _, _, _, _, _, _, rfl, by simp, (new_cell w _ 37 (j := 0) rfl).1, (new_cell w _ 37 (j := 1) rfl).1, (new_cell w _ 37 (j := 2) rfl).1, (new_cell w _ 37 (j := 3) rfl).1, (new_cell w _ 37 (j := 4) rfl).1, (new_cell w _ 37 (j := 5) rfl).1, by decide, by decide, by decide⟩
  · exact ⟨w.heap.size, 0, _, _, _, _, _, _, rfl, by simp, (new_cell w _ 37 (j := 6) rfl).1, (new_cell w _ 37 (j := 7) rfl).1, (new_cell w _ 37 (j := 8) rfl).1, (new_cell w _ 37 (j := 9) rfl).1, (new_cell w _ 37 (j := 10) rfl).1, (new_cell w _ 37 (j := 11) rfl).1, by decide, by decide, by decide⟩
  · exact ⟨w.heap.size, 0, _, _, _, _, _, _, rfl, by simp, (new_cell w _ 37 (j := 12) rfl).1, (new_cell w _ 37 (j := 13) rfl).1, (new_cell w _ 37 (j := 14) rfl).1, (new_cell w _ 37 (j := 15) rfl).1, (new_cell w _ 37 (j := 16) rfl).1, (new_cell w _ 37 (j := 17) rfl).1, by decide, by decide, by decide⟩
  · exact ⟨w.heap.size, 0, _, _, _, _, _, _, rfl, by simp, (new_cell w _ 37 (j := 18) rfl).1, (new_cell w _ 37 (j := 19) rfl).1, (new_cell w _ 37 (j := 20) rfl).1, (new_cell w _ 37 (j := 21) rfl).1, (new_cell w _ 37 (j := 22) rfl).1, (new_cell w _ 37 (j := 23) rfl).1, by decide, by decide, by decide⟩
  · exact ⟨w.heap.size, 0, _, _, _, _, _, _, rfl, by simp, (new_cell w _ 37 (j := 24) rfl).1, (new_cell w _ 37 (j := 25) rfl).1, (new_cell w _ 37 (j := 26) rfl).1, (new_cell w _ 37 (j := 27) rfl).1, (new_cell w _ 37 (j := 28) rfl).1, (new_cell w _ 37 (j := 29) rfl).1, by decide, by decide, by decide⟩
  · exact ⟨w.heap.size, 0, _, _, _, _, _, _, rfl, by simp, (new_cell w _ 37 (j := 30) rfl).1, (new_cell w _ 37 (j := 31) rfl).1, (new_cell w _ 37 (j := 32) rfl).1, (new_cell w _ 37 (j := 33) rfl).1, (new_cell w _ 37 (j := 34) rfl).1, (new_cell w _ 37 (j := 35) rfl).1, by decide, by decide, by decide⟩
  · exact ⟨w.heap.size, 0, _, _, _, _, _, _, rfl, by simp, (new_cell w _ 37 (j := 36) rfl).1, (new_cell w _ 37 (j := 37) rfl).1, (new_cell w _ 37 (j := 38) rfl).1, (new_cell w _ 37 (j := 39) rfl).1, (new_cell w _ 37 (j := 40) rfl).1, (new_cell w _ 37 (j := 41) rfl).1, by decide, by decide, by decide⟩

theorem Script.below {la : Option Addr} {ln : Nat} (h : Script w la ln) (hb : Below w.heap.size w w') : Script w' la ln := fun i hi => by
  obtain ⟨b, o, kd, hh, nn, p, v, s, hla, hbl, d0, d1, d2, d3, d4, d5, z⟩ := h i hi
  exact ⟨b, o, kd, hh, nn, p, v, s, hla, Nat.lt_of_lt_of_le hbl hb.size, by rw [hb.cell (p := ⟨b, o + i * 6, none⟩) hbl]; exact d0, by rw [hb.cell (p := ⟨b, o + i * 6 + 1, none⟩) hbl]; exact d1, by rw [hb.cell (p := ⟨b, o + i * 6 + 2, none⟩) hbl]; exact d2, by rw [hb.cell (p := ⟨b, o + i * 6 + 3, none⟩) hbl]; exact d3, by rw [hb.cell (p := ⟨b, o + i * 6 + 4, none⟩) hbl]; exact d4, by rw [hb.cell (p := ⟨b, o + i * 6 + 5, none⟩) hbl]; exact d5, z⟩

set_option maxRecDepth 100000 in
set_option maxHeartbeats 2000000 in
theorem edits_any (c d : Int) (la : Option Addr) (ln cap : Nat) (w : World) (hm : Ml w) (hln : ln ≤ 2251799813685248) (hl : Script w la ln) :
    Calls Tryz.prog 3 #[.int .i64 c, .int .i64 d, .slice la ln cap] w fun e w' => e = .returned (.bool true) ∧ Below w.heap.size w w' := by
  have k1 := simple_any w
  have HL : Hid (Script w la ln) := hl
  have HM : Hid (Ml w) := hm
  clear hl hm
  go_enter Tryz.func3, Tryz.ntmps3
  go_wp2_with (go_at_call 5; fail)
  go_at_call 5
  refine k1.mono ?_
  rintro e w1 ⟨rfl, hb1, hs1⟩
  have k2 := engines_any 1 7 (some ⟨w.heap.size, 0, none⟩) 7 7 w1 (HM.out.below hb1) (by omega) hs1
  have HB1 : Hid (Below w.heap.size w w1) := hb1
  clear k1 hb1 hs1
  go_wp2_with (go_at_call 4; fail)
  go_at_call 4
  refine k2.mono ?_
  rintro e w2 ⟨rfl, hb2⟩
  have HB2 : Hid (Below w.heap.size w w2) := HB1.out.trans (hb2.mono HB1.out.size)
  clear k2 hb2 HB1
  have k3 := engines_any c d la ln cap w2 (HM.out.below HB2.out) hln (HL.out.below HB2.out)
  go_wp2_with (go_at_call 4; fail)
  go_at_call 4
  refine k3.mono ?_
  rintro e w3 ⟨rfl, hb3⟩
  have HB3 : Hid (Below w.heap.size w w3) := HB2.out.trans (hb3.mono HB2.out.size)
  clear k3 hb3 HB2
  go_wp2
  go_ret
  exact ⟨rfl, HB3.out⟩

end Ed
end Go.Proofs.YtiamomiafekihaaGreatDoor
