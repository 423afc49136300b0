/-
  Edits: the program's engine: its calls, a new one.
-/
import Derived.Test.YtelmkfkgpnadnaaGreatDoorE11
namespace Go.Proofs.YtelmkfkgpnadnaaGreatDoor
open Go.RowKit
namespace Ed

variable {w w' : World} {sb mb pb rev : Nat} {ms ix : List Tt} {root : ByteArray}

set_option maxRecDepth 100000 in
theorem ePutManifest {R : World → Prop} {r : Int} (p v s : ByteArray) (w : World) (hc : w.cell? ⟨pb, 0, none⟩ = some (.pointer (some ⟨sb, 0, none⟩)))
    (k : Calls Tryz.prog 62 #[.pointer (some ⟨sb, 0, none⟩), .string p, .string v, .string s] w fun e w' => e = .returned (.int .i64 r) ∧ R w') :
    Calls Tryz.prog 32 #[.pointer (some ⟨pb, 0, none⟩), .string p, .string v, .string s] w fun e w' => e = .returned (.int .i64 r) ∧ R w' := by
  go_enter Tryz.func32, Tryz.ntmps32
  go_wp2_with (go_at_call 62; fail)
  go_at_call 62
  refine k.mono ?_
  rintro e w1 ⟨rfl, h⟩
  have H : Hid (R w1) := h
  clear h k hc
  go_wp2
  go_ret
  exact ⟨rfl, H.out⟩

set_option maxRecDepth 100000 in
theorem eDropManifest {R : World → Prop} {r : Int} (p v : ByteArray) (w : World) (hc : w.cell? ⟨pb, 0, none⟩ = some (.pointer (some ⟨sb, 0, none⟩)))
    (k : Calls Tryz.prog 111 #[.pointer (some ⟨sb, 0, none⟩), .string p, .string v] w fun e w' => e = .returned (.int .i64 r) ∧ R w') :
    Calls Tryz.prog 65 #[.pointer (some ⟨pb, 0, none⟩), .string p, .string v] w fun e w' => e = .returned (.int .i64 r) ∧ R w' := by
  go_enter Tryz.func65, Tryz.ntmps65
  go_wp2_with (go_at_call 111; fail)
  go_at_call 111
  refine k.mono ?_
  rintro e w1 ⟨rfl, h⟩
  have H : Hid (R w1) := h
  clear h k hc
  go_wp2
  go_ret
  exact ⟨rfl, H.out⟩

set_option maxRecDepth 100000 in
theorem ePutIndex {R : World → Prop} {r : Int} (p s : ByteArray) (w : World) (hc : w.cell? ⟨pb, 0, none⟩ = some (.pointer (some ⟨sb, 0, none⟩)))
    (k : Calls Tryz.prog 101 #[.pointer (some ⟨sb, 0, none⟩), .string p, .string s] w fun e w' => e = .returned (.int .i64 r) ∧ R w') :
    Calls Tryz.prog 57 #[.pointer (some ⟨pb, 0, none⟩), .string p, .string s] w fun e w' => e = .returned (.int .i64 r) ∧ R w' := by
  go_enter Tryz.func57, Tryz.ntmps57
  go_wp2_with (go_at_call 101; fail)
  go_at_call 101
  refine k.mono ?_
  rintro e w1 ⟨rfl, h⟩
  have H : Hid (R w1) := h
  clear h k hc
  go_wp2
  go_ret
  exact ⟨rfl, H.out⟩

set_option maxRecDepth 100000 in
theorem eDropIndex {R : World → Prop} {r : Int} (p : ByteArray) (w : World) (hc : w.cell? ⟨pb, 0, none⟩ = some (.pointer (some ⟨sb, 0, none⟩)))
    (k : Calls Tryz.prog 112 #[.pointer (some ⟨sb, 0, none⟩), .string p] w fun e w' => e = .returned (.int .i64 r) ∧ R w') :
    Calls Tryz.prog 66 #[.pointer (some ⟨pb, 0, none⟩), .string p] w fun e w' => e = .returned (.int .i64 r) ∧ R w' := by
  go_enter Tryz.func66, Tryz.ntmps66
  go_wp2_with (go_at_call 112; fail)
  go_at_call 112
  refine k.mono ?_
  rintro e w1 ⟨rfl, h⟩
  have H : Hid (R w1) := h
  clear h k hc
  go_wp2
  go_ret
  exact ⟨rfl, H.out⟩

set_option maxRecDepth 100000 in
theorem eSetRoot {R : World → Prop} {r : Int} (p : ByteArray) (w : World) (hc : w.cell? ⟨pb, 0, none⟩ = some (.pointer (some ⟨sb, 0, none⟩)))
    (k : Calls Tryz.prog 100 #[.pointer (some ⟨sb, 0, none⟩), .string p] w fun e w' => e = .returned (.int .i64 r) ∧ R w') :
    Calls Tryz.prog 56 #[.pointer (some ⟨pb, 0, none⟩), .string p] w fun e w' => e = .returned (.int .i64 r) ∧ R w' := by
  go_enter Tryz.func56, Tryz.ntmps56
  go_wp2_with (go_at_call 100; fail)
  go_at_call 100
  refine k.mono ?_
  rintro e w1 ⟨rfl, h⟩
  have H : Hid (R w1) := h
  clear h k hc
  go_wp2
  go_ret
  exact ⟨rfl, H.out⟩

set_option maxRecDepth 100000 in
theorem sRevision {L : List (Value × Value)} (w : World) (h : ShelfAt w sb mb rev L) :
    Calls Tryz.prog 71 #[.pointer (some ⟨sb, 0, none⟩)] w fun e w' => e = .returned (.int .i64 rev) ∧ w' = w := by
  have c1 := h.f1.1
  clear h
  go_enter Tryz.func71, Tryz.ntmps71
  go_wp2
  go_ret
  exact ⟨rfl, rfl⟩

set_option maxRecDepth 100000 in
theorem eRevision {L : List (Value × Value)} (w : World) (hc : w.cell? ⟨pb, 0, none⟩ = some (.pointer (some ⟨sb, 0, none⟩))) (h : ShelfAt w sb mb rev L) :
    Calls Tryz.prog 43 #[.pointer (some ⟨pb, 0, none⟩)] w fun e w' => e = .returned (.int .i64 rev) ∧ w' = w := by
  have k := sRevision w h
  clear h
  go_enter Tryz.func43, Tryz.ntmps43
  go_wp2_with (go_at_call 71; fail)
  go_at_call 71
  refine k.mono ?_
  intro e w1 h1
  rw [h1.1, h1.2]
  clear k h1 hc
  go_wp2
  go_ret
  exact ⟨rfl, rfl⟩

theorem new_cell (w : World) (cs : Array Value) (t : TypeId) {j : Nat} {u : Value} (h : cs[j]? = some u) : Fd (w.alloc (.cells cs t)) w.heap.size j u := by
  have b0 : (w.alloc (.cells cs t)).heap[w.heap.size]? = some (.cells cs t) := by
    show (w.heap.push _)[w.heap.size]? = _
    simp
  refine ⟨?_, ?_⟩
  · simp only [World.cell?, b0]; exact h
  · simp only [World.frozen?, b0]; simp

set_option maxRecDepth 100000 in
set_option maxHeartbeats 1000000 in
theorem sNew (w : World) :
    Calls Tryz.prog 63 #[] w fun e w' => e = .returned (.pointer (some ⟨w.heap.size + 1, 0, none⟩)) ∧ ShelfAt w' (w.heap.size + 1) w.heap.size 0 [] ∧ Below w.heap.size w w' := by
  have HM : Hid (Mp.MapAt Tryz.prog 188 (w.alloc (.map #[] 0)) w.heap.size []) := Mp.made w Tryz.prog 188
  have hmm := @run_makeMap Tryz.prog
  go_enter Tryz.func63, Tryz.ntmps63
  go_wp2
  go_ret
  have hs : (w.alloc (.map #[] 0)).heap.size = w.heap.size + 1 := by simp
  have hf := fun j u => new_cell (w.alloc (.map #[] 0)) #[.map (some w.heap.size), .int .i64 0] 191 (j := j) (u := u)
  rw [hs] at hf
  refine ⟨rfl, ⟨hf 0 _ rfl, hf 1 _ rfl, HM.out.of_block (Below.heap_alloc _ _ _ (by simp)), fun x hx => (by cases hx), by omega⟩, ?_⟩
  exact ((Below.refl w.heap.size w).alloc (Nat.le_refl _) _).alloc (by simp) _

set_option maxRecDepth 100000 in
set_option maxHeartbeats 1000000 in
theorem dNew (b : Nat) (c : Int) (w : World) : Calls Tryz.prog 64 #[.pointer (some ⟨b, 0, none⟩), .int .i64 c] w fun e w' => ∃ db, e = .returned (.pointer (some ⟨db, 0, none⟩)) ∧ Below w.heap.size w w' := by
  have hmm := @run_makeMap Tryz.prog
  go_enter Tryz.func64, Tryz.ntmps64
  go_wp2
  go_ret
  exact ⟨_, rfl, ((Below.refl w.heap.size w).alloc (Nat.le_refl _) _).alloc (by simp) _⟩

set_option maxRecDepth 100000 in
theorem eNew_no (c : Int) (w : World) (hc : c < 1) : Calls Tryz.prog 36 #[.int .i64 c] w fun e w' => e = .returned (.tuple #[.pointer none, .int .i64 1]) ∧ w' = w := by
  go_enter Tryz.func36, Tryz.ntmps36
  go_wp2
  go_ret2
  exact ⟨rfl, rfl⟩

set_option maxRecDepth 100000 in
set_option maxHeartbeats 1000000 in
theorem eNew_yes (c : Int) (w : World) (hc : ¬ c < 1) :
    Calls Tryz.prog 36 #[.int .i64 c] w fun e w' => ∃ pb sb mb, e = .returned (.tuple #[.pointer (some ⟨pb, 0, none⟩), .int .i64 0]) ∧ w'.cell? ⟨pb, 0, none⟩ = some (.pointer (some ⟨sb, 0, none⟩)) ∧ ShelfAt w' sb mb 0 [] ∧ Below w.heap.size w w' ∧ w.heap.size ≤ sb ∧ w.heap.size ≤ mb ∧ sb < pb ∧ mb < pb ∧ pb < w'.heap.size := by
  have k1 := sNew w
  go_enter Tryz.func36, Tryz.ntmps36
  go_wp2_with (go_at_call 63; fail)
  go_at_call 63
  refine k1.mono ?_
  rintro e w1 ⟨rfl, hs1, hb1⟩
  have HS1 : Hid (ShelfAt w1 (w.heap.size + 1) w.heap.size 0 []) := hs1
  have HB1 : Hid (Below w.heap.size w w1) := hb1
  clear k1 hs1 hb1
  have k2 := dNew (w.heap.size + 1) c w1
  go_wp2_with (go_at_call 64; fail)
  go_at_call 64
  refine k2.mono ?_
  rintro e w2 ⟨db, rfl, hb2⟩
  have HS2 : Hid (ShelfAt w2 (w.heap.size + 1) w.heap.size 0 []) := HS1.out.below hb2
  have HB2 : Hid (Below w.heap.size w w2) := HB1.out.trans (hb2.mono HB1.out.size)
  clear k2 hb2 HS1 HB1
  go_wp2
  go_ret2
  have h1 := HS2.out.f0.lt
  refine ⟨w2.heap.size, _, _, rfl, ?_, HS2.out.below ((Below.refl _ _).alloc (Nat.le_refl _) _), HB2.out.alloc HB2.out.size _, by omega, by omega, h1, by omega, by simp⟩
  exact (new_cell w2 _ 122 rfl).1

end Ed
end Go.Proofs.YtelmkfkgpnadnaaGreatDoor
