/-
  The law Topos.
-/
import Derived.Test.YtelmkfkgpnadnaaK39
namespace Go.Proofs.Ytelmkfkgpnadnaa
open Go.RowKit

variable {w w' : World}

theorem lit_cells (w : World) (t : TypeId) : ∀ i, i < 5 → ∃ b o x y z u, (some ⟨w.heap.size, 0, none⟩ : Option Addr) = some ⟨b, o, none⟩ ∧ b < (w.alloc (.cells #[.int .i64 1, .int .i64 3, .int .i64 1, .int .i64 0, .int .i64 0, .int .i64 0, .int .i64 0, .int .i64 0, .int .i64 1, .int .i64 1, .int .i64 2, .int .i64 0, .int .i64 0, .int .i64 0, .int .i64 0, .int .i64 0, .int .i64 1, .int .i64 2, .int .i64 3, .int .i64 0] t)).heap.size ∧ (w.alloc (.cells #[.int .i64 1, .int .i64 3, .int .i64 1, .int .i64 0, .int .i64 0, .int .i64 0, .int .i64 0, .int .i64 0, .int .i64 1, .int .i64 1, .int .i64 2, .int .i64 0, .int .i64 0, .int .i64 0, .int .i64 0, .int .i64 0, .int .i64 1, .int .i64 2, .int .i64 3, .int .i64 0] t)).cell? ⟨b, o + i * 4, none⟩ = some (.int .i64 x) ∧ (w.alloc (.cells #[.int .i64 1, .int .i64 3, .int .i64 1, .int .i64 0, .int .i64 0, .int .i64 0, .int .i64 0, .int .i64 0, .int .i64 1, .int .i64 1, .int .i64 2, .int .i64 0, .int .i64 0, .int .i64 0, .int .i64 0, .int .i64 0, .int .i64 1, .int .i64 2, .int .i64 3, .int .i64 0] t)).cell? ⟨b, o + i * 4 + 1, none⟩ = some (.int .i64 y) ∧ (w.alloc (.cells #[.int .i64 1, .int .i64 3, .int .i64 1, .int .i64 0, .int .i64 0, .int .i64 0, .int .i64 0, .int .i64 0, .int .i64 1, .int .i64 1, .int .i64 2, .int .i64 0, .int .i64 0, .int .i64 0, .int .i64 0, .int .i64 0, .int .i64 1, .int .i64 2, .int .i64 3, .int .i64 0] t)).cell? ⟨b, o + i * 4 + 2, none⟩ = some (.int .i64 z) ∧ (w.alloc (.cells #[.int .i64 1, .int .i64 3, .int .i64 1, .int .i64 0, .int .i64 0, .int .i64 0, .int .i64 0, .int .i64 0, .int .i64 1, .int .i64 1, .int .i64 2, .int .i64 0, .int .i64 0, .int .i64 0, .int .i64 0, .int .i64 0, .int .i64 1, .int .i64 2, .int .i64 3, .int .i64 0] t)).cell? ⟨b, o + i * 4 + 3, none⟩ = some (.int .i64 u) := by
  intro i hi
  have h1 : (w.alloc (.cells #[.int .i64 1, .int .i64 3, .int .i64 1, .int .i64 0, .int .i64 0, .int .i64 0, .int .i64 0, .int .i64 0, .int .i64 1, .int .i64 1, .int .i64 2, .int .i64 0, .int .i64 0, .int .i64 0, .int .i64 0, .int .i64 0, .int .i64 1, .int .i64 2, .int .i64 3, .int .i64 0] t)).heap[w.heap.size]? = some (.cells #[.int .i64 1, .int .i64 3, .int .i64 1, .int .i64 0, .int .i64 0, .int .i64 0, .int .i64 0, .int .i64 0, .int .i64 1, .int .i64 1, .int .i64 2, .int .i64 0, .int .i64 0, .int .i64 0, .int .i64 0, .int .i64 0, .int .i64 1, .int .i64 2, .int .i64 3, .int .i64 0] t) := by
    show (w.heap.push _)[w.heap.size]? = _
    simp
  have hs : w.heap.size < (w.alloc (.cells #[.int .i64 1, .int .i64 3, .int .i64 1, .int .i64 0, .int .i64 0, .int .i64 0, .int .i64 0, .int .i64 0, .int .i64 1, .int .i64 1, .int .i64 2, .int .i64 0, .int .i64 0, .int .i64 0, .int .i64 0, .int .i64 0, .int .i64 1, .int .i64 2, .int .i64 3, .int .i64 0] t)).heap.size := by simp
  generalize w.alloc (.cells #[.int .i64 1, .int .i64 3, .int .i64 1, .int .i64 0, .int .i64 0, .int .i64 0, .int .i64 0, .int .i64 0, .int .i64 1, .int .i64 1, .int .i64 2, .int .i64 0, .int .i64 0, .int .i64 0, .int .i64 0, .int .i64 0, .int .i64 1, .int .i64 2, .int .i64 3, .int .i64 0] t) = W at *
  rcases (by omega : i = 0 ∨ i = 1 ∨ i = 2 ∨ i = 3 ∨ i = 4) with e | e | e | e | e <;> subst e
  · exact ⟨w.heap.size, 0, 1, 3, 1, 0, rfl, hs, by simp only [World.cell?, h1]; rfl, by simp only [World.cell?, h1]; rfl, by simp only [World.cell?, h1]; rfl, by simp only [World.cell?, h1]; rfl⟩
  · exact ⟨w.heap.size, 0, 0, 0, 0, 0, rfl, hs, by simp only [World.cell?, h1]; rfl, by simp only [World.cell?, h1]; rfl, by simp only [World.cell?, h1]; rfl, by simp only [World.cell?, h1]; rfl⟩
  · exact ⟨w.heap.size, 0, 1, 1, 2, 0, rfl, hs, by simp only [World.cell?, h1]; rfl, by simp only [World.cell?, h1]; rfl, by simp only [World.cell?, h1]; rfl, by simp only [World.cell?, h1]; rfl⟩
  · exact ⟨w.heap.size, 0, 0, 0, 0, 0, rfl, hs, by simp only [World.cell?, h1]; rfl, by simp only [World.cell?, h1]; rfl, by simp only [World.cell?, h1]; rfl, by simp only [World.cell?, h1]; rfl⟩
  · exact ⟨w.heap.size, 0, 1, 2, 3, 0, rfl, hs, by simp only [World.cell?, h1]; rfl, by simp only [World.cell?, h1]; rfl, by simp only [World.cell?, h1]; rfl, by simp only [World.cell?, h1]; rfl⟩

set_option maxRecDepth 100000 in
set_option maxHeartbeats 4000000 in
theorem topos_any (c d : Int) (la : Option Addr) (ln cap : Nat) (w : World) (hln : ln ≤ 17179869184)
    (hl : ∀ i, i < ln → ∃ b o x y z u, la = some ⟨b, o, none⟩ ∧ b < w.heap.size ∧ w.cell? ⟨b, o + i * 4, none⟩ = some (.int .i64 x) ∧ w.cell? ⟨b, o + i * 4 + 1, none⟩ = some (.int .i64 y) ∧ w.cell? ⟨b, o + i * 4 + 2, none⟩ = some (.int .i64 z) ∧ w.cell? ⟨b, o + i * 4 + 3, none⟩ = some (.int .i64 u)) :
    Calls Try.prog 3 #[.int .i64 c, .int .i64 d, .slice la ln cap] w fun e w' => e = .returned (.bool true) ∧ Below w.heap.size w w' := by
  have HL : Hid (∀ i, i < ln → ∃ b o x y z u, la = some ⟨b, o, none⟩ ∧ b < w.heap.size ∧ w.cell? ⟨b, o + i * 4, none⟩ = some (.int .i64 x) ∧ w.cell? ⟨b, o + i * 4 + 1, none⟩ = some (.int .i64 y) ∧ w.cell? ⟨b, o + i * 4 + 2, none⟩ = some (.int .i64 z) ∧ w.cell? ⟨b, o + i * 4 + 3, none⟩ = some (.int .i64 u)) := hl
  clear hl
  go_enter Try.func3, Try.ntmps3
  go_wp2_with (go_at_call 5; fail)
  go_at_call 5
  refine (plays_any 4 2 _ 5 5 _ (by omega) (lit_cells w 25)).mono ?_
  intro e w1 hq
  rw [hq.1]
  have hb1 : Below w.heap.size w w1 := ((Below.refl _ _).alloc (Nat.le_refl _) _).trans (hq.2.mono (by simp))
  clear hq
  have k2 := plays_any c d la ln cap w1 hln (fun i hi => by
    obtain ⟨b, o, x, y, z, u, h1, h2, d0, d1, d2, d3⟩ := HL.out i hi
    exact ⟨b, o, x, y, z, u, h1, Nat.lt_of_lt_of_le h2 hb1.size, by rw [hb1.cell (p := ⟨b, o + i * 4, none⟩) h2]; exact d0, by rw [hb1.cell (p := ⟨b, o + i * 4 + 1, none⟩) h2]; exact d1, by rw [hb1.cell (p := ⟨b, o + i * 4 + 2, none⟩) h2]; exact d2, by rw [hb1.cell (p := ⟨b, o + i * 4 + 3, none⟩) h2]; exact d3⟩)
  go_wp2_with (go_at_call 5; fail)
  go_at_call 5
  refine k2.mono ?_
  intro e w2 hq
  rw [hq.1]
  have hb2 : Below w.heap.size w w2 := hb1.trans (hq.2.mono hb1.size)
  clear hq k2 hb1
  go_wp2
  go_ret
  exact ⟨rfl, hb2⟩

end Go.Proofs.Ytelmkfkgpnadnaa
