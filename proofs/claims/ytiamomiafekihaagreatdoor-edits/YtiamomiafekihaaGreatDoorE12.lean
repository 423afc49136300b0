/-
  Edits: the program's engine: its calls, a new one.
-/
import Derived.Test.YtiamomiafekihaaGreatDoorE11
namespace Go.Proofs.YtiamomiafekihaaGreatDoor
open Go.RowKit
namespace Ed

variable {w w' : World} {sb mb pb rev : Nat} {ms ix : List Tt} {root : ByteArray}

set_option maxRecDepth 100000 in
theorem ePutManifest {R : World → Prop} {r : Int} (p v s : ByteArray) (w : World) (hc : w.cell? ⟨pb, 0, none⟩ = some (.pointer (some ⟨sb, 0, none⟩)))
    (k : Calls Tryz.prog 31 #[.pointer (some ⟨sb, 0, none⟩), .string p, .string v, .string s] w fun e w' => e = .returned (.int .i64 r) ∧ R w') :
    Calls Tryz.prog 13 #[.pointer (some ⟨pb, 0, none⟩), .string p, .string v, .string s] w fun e w' => e = .returned (.int .i64 r) ∧ R w' := by
  go_enter Tryz.func13, Tryz.ntmps13
  go_wp2_with (go_at_call 31; fail)
  go_at_call 31
  refine k.mono ?_
  rintro e w1 ⟨rfl, h⟩
  have H : Hid (R w1) := h
  clear h k hc
  go_wp2
  go_ret
  exact ⟨rfl, H.out⟩

set_option maxRecDepth 100000 in
theorem eDropManifest {R : World → Prop} {r : Int} (p v : ByteArray) (w : World) (hc : w.cell? ⟨pb, 0, none⟩ = some (.pointer (some ⟨sb, 0, none⟩)))
    (k : Calls Tryz.prog 34 #[.pointer (some ⟨sb, 0, none⟩), .string p, .string v] w fun e w' => e = .returned (.int .i64 r) ∧ R w') :
    Calls Tryz.prog 15 #[.pointer (some ⟨pb, 0, none⟩), .string p, .string v] w fun e w' => e = .returned (.int .i64 r) ∧ R w' := by
  go_enter Tryz.func15, Tryz.ntmps15
  go_wp2_with (go_at_call 34; fail)
  go_at_call 34
  refine k.mono ?_
  rintro e w1 ⟨rfl, h⟩
  have H : Hid (R w1) := h
  clear h k hc
  go_wp2
  go_ret
  exact ⟨rfl, H.out⟩

set_option maxRecDepth 100000 in
theorem ePutIndex {R : World → Prop} {r : Int} (p s : ByteArray) (w : World) (hc : w.cell? ⟨pb, 0, none⟩ = some (.pointer (some ⟨sb, 0, none⟩)))
    (k : Calls Tryz.prog 37 #[.pointer (some ⟨sb, 0, none⟩), .string p, .string s] w fun e w' => e = .returned (.int .i64 r) ∧ R w') :
    Calls Tryz.prog 17 #[.pointer (some ⟨pb, 0, none⟩), .string p, .string s] w fun e w' => e = .returned (.int .i64 r) ∧ R w' := by
  go_enter Tryz.func17, Tryz.ntmps17
  go_wp2_with (go_at_call 37; fail)
  go_at_call 37
  refine k.mono ?_
  rintro e w1 ⟨rfl, h⟩
  have H : Hid (R w1) := h
  clear h k hc
  go_wp2
  go_ret
  exact ⟨rfl, H.out⟩

set_option maxRecDepth 100000 in
theorem eDropIndex {R : World → Prop} {r : Int} (p : ByteArray) (w : World) (hc : w.cell? ⟨pb, 0, none⟩ = some (.pointer (some ⟨sb, 0, none⟩)))
    (k : Calls Tryz.prog 38 #[.pointer (some ⟨sb, 0, none⟩), .string p] w fun e w' => e = .returned (.int .i64 r) ∧ R w') :
    Calls Tryz.prog 19 #[.pointer (some ⟨pb, 0, none⟩), .string p] w fun e w' => e = .returned (.int .i64 r) ∧ R w' := by
  go_enter Tryz.func19, Tryz.ntmps19
  go_wp2_with (go_at_call 38; fail)
  go_at_call 38
  refine k.mono ?_
  rintro e w1 ⟨rfl, h⟩
  have H : Hid (R w1) := h
  clear h k hc
  go_wp2
  go_ret
  exact ⟨rfl, H.out⟩

set_option maxRecDepth 100000 in
theorem eSetRoot {R : World → Prop} {r : Int} (p : ByteArray) (w : World) (hc : w.cell? ⟨pb, 0, none⟩ = some (.pointer (some ⟨sb, 0, none⟩)))
    (k : Calls Tryz.prog 39 #[.pointer (some ⟨sb, 0, none⟩), .string p] w fun e w' => e = .returned (.int .i64 r) ∧ R w') :
    Calls Tryz.prog 21 #[.pointer (some ⟨pb, 0, none⟩), .string p] w fun e w' => e = .returned (.int .i64 r) ∧ R w' := by
  go_enter Tryz.func21, Tryz.ntmps21
  go_wp2_with (go_at_call 39; fail)
  go_at_call 39
  refine k.mono ?_
  rintro e w1 ⟨rfl, h⟩
  have H : Hid (R w1) := h
  clear h k hc
  go_wp2
  go_ret
  exact ⟨rfl, H.out⟩

set_option maxRecDepth 100000 in
theorem sRevision {L : List (Value × Value)} (w : World) (h : ShelfAt w sb mb rev L) :
    Calls Tryz.prog 41 #[.pointer (some ⟨sb, 0, none⟩)] w fun e w' => e = .returned (.int .i64 rev) ∧ w' = w := by
  have c1 := h.f1.1
  clear h
  go_enter Tryz.func41, Tryz.ntmps41
  go_wp2
  go_ret
  exact ⟨rfl, rfl⟩

set_option maxRecDepth 100000 in
theorem eRevision {L : List (Value × Value)} (w : World) (hc : w.cell? ⟨pb, 0, none⟩ = some (.pointer (some ⟨sb, 0, none⟩))) (h : ShelfAt w sb mb rev L) :
    Calls Tryz.prog 23 #[.pointer (some ⟨pb, 0, none⟩)] w fun e w' => e = .returned (.int .i64 rev) ∧ w' = w := by
  have k := sRevision w h
  clear h
  go_enter Tryz.func23, Tryz.ntmps23
  go_wp2_with (go_at_call 41; fail)
  go_at_call 41
  refine k.mono ?_
  intro e w1 h1
  rw [h1.1, h1.2]
  clear k h1 hc
  go_wp2
  go_ret
  exact ⟨rfl, rfl⟩

theorem new_cell (w : World) (cs : Array Value) (t : TypeId) {j : Nat} {u : Value} (h : cs[j]? = some u) : Fd (w.alloc (.cells cs t)) w.heap.size j u := by
  have b0 : (w.alloc (.cells cs t)).heap[w.heap.size]? = some (.cells cs t) := by
    show (w.heap.push _)[w.heap.size]? = _
    simp
  refine ⟨?_, ?_⟩
  · simp only [World.cell?, b0]; exact h
  · simp only [World.frozen?, b0]; simp

set_option maxRecDepth 100000 in
set_option maxHeartbeats 1000000 in
theorem sNew (w : World) :
    Calls Tryz.prog 29 #[] w fun e w' => e = .returned (.pointer (some ⟨w.heap.size + 1, 0, none⟩)) ∧ ShelfAt w' (w.heap.size + 1) w.heap.size 0 [] ∧ Below w.heap.size w w' := by
  have HM : Hid (Mp.MapAt Tryz.prog 110 (w.alloc (.map #[] 0)) w.heap.size []) := Mp.made w Tryz.prog 110
  have hmm := @run_makeMap Tryz.prog
  go_enter Tryz.func29, Tryz.ntmps29
  go_wp2
  go_ret
  have hs : (w.alloc (.map #[] 0)).heap.size = w.heap.size + 1 := by simp
  have hf := fun j u => new_cell (w.alloc (.map #[] 0)) #[.map (some w.heap.size), .int .i64 0] 101 (j := j) (u := u)
  rw [hs] at hf
  refine ⟨rfl, ⟨hf 0 _ rfl, hf 1 _ rfl, HM.out.of_block (Below.heap_alloc _ _ _ (by simp)), fun x hx => (by cases hx), by omega⟩, ?_⟩
  exact ((Below.refl w.heap.size w).alloc (Nat.le_refl _) _).alloc (by simp) _

set_option maxRecDepth 100000 in
set_option maxHeartbeats 1000000 in
theorem dNew (b : Nat) (c : Int) (w : World) : Calls Tryz.prog 30 #[.pointer (some ⟨b, 0, none⟩), .int .i64 c] w fun e w' => ∃ db, e = .returned (.pointer (some ⟨db, 0, none⟩)) ∧ Below w.heap.size w w' := by
  have hmm := @run_makeMap Tryz.prog
  go_enter Tryz.func30, Tryz.ntmps30
  go_wp2
  go_ret
  exact ⟨_, rfl, ((Below.refl w.heap.size w).alloc (Nat.le_refl _) _).alloc (by simp) _⟩

set_option maxRecDepth 100000 in
theorem eNew_no (c : Int) (w : World) (hc : c < 1) : Calls Tryz.prog 10 #[.int .i64 c] w fun e w' => e = .returned (.tuple #[.pointer none, .int .i64 1]) ∧ w' = w := by
  go_enter Tryz.func10, Tryz.ntmps10
  go_wp2
  go_ret2
  exact ⟨rfl, rfl⟩

set_option maxRecDepth 100000 in
set_option maxHeartbeats 1000000 in
theorem eNew_yes (c : Int) (w : World) (hc : ¬ c < 1) :
    Calls Tryz.prog 10 #[.int .i64 c] w fun e w' => ∃ pb sb mb, e = .returned (.tuple #[.pointer (some ⟨pb, 0, none⟩), .int .i64 0]) ∧ w'.cell? ⟨pb, 0, none⟩ = some (.pointer (some ⟨sb, 0, none⟩)) ∧ ShelfAt w' sb mb 0 [] ∧ Below w.heap.size w w' ∧ w.heap.size ≤ sb ∧ w.heap.size ≤ mb ∧ sb < pb ∧ mb < pb ∧ pb < w'.heap.size := by
  have k1 := sNew w
  go_enter Tryz.func10, Tryz.ntmps10
  go_wp2_with (go_at_call 29; fail)
  go_at_call 29
  refine k1.mono ?_
  rintro e w1 ⟨rfl, hs1, hb1⟩
  have HS1 : Hid (ShelfAt w1 (w.heap.size + 1) w.heap.size 0 []) := hs1
  have HB1 : Hid (Below w.heap.size w w1) := hb1
  clear k1 hs1 hb1
  have k2 := dNew (w.heap.size + 1) c w1
  go_wp2_with (go_at_call 30; fail)
  go_at_call 30
  refine k2.mono ?_
  rintro e w2 ⟨db, rfl, hb2⟩
  have HS2 : Hid (ShelfAt w2 (w.heap.size + 1) w.heap.size 0 []) := HS1.out.below hb2
  have HB2 : Hid (Below w.heap.size w w2) := HB1.out.trans (hb2.mono HB1.out.size)
  clear k2 hb2 HS1 HB1
  go_wp2
  go_ret2
  have h1 := HS2.out.f0.lt
  refine ⟨w2.heap.size, _, _, rfl, ?_, HS2.out.below ((Below.refl _ _).alloc (Nat.le_refl _) _), HB2.out.alloc HB2.out.size _, by omega, by omega, h1, by omega, by simp⟩
  exact (new_cell w2 _ 80 rfl).1

end Ed
end Go.Proofs.YtiamomiafekihaaGreatDoor
