/-
  The order as it stands.
-/
import Derived.Test.YtelmkfkgpnadnaaK6
import Derived.Deep.RegionHeldLaw
import Derived.Deep.AppendLies
namespace Go.Proofs.Ytelmkfkgpnadnaa
open Go.RowKit

variable {w w' : World} {b n : Nat} {A Pl : Nat → Nat} {E : Nat → Nat → Bool}

set_option maxHeartbeats 400000 in
theorem topoAdd_of (x y : Nat) (R : Value → Value → World → Prop) (h : RowAt w b n A Pl E)
    (k : Calls Try.prog 19 #[.pointer (some ⟨b, 0, none⟩), .int .i64 x, .int .i64 y] w fun e w' => ∃ a v, e = .returned (.tuple #[a, v]) ∧ R a v w') :
    Calls Try.prog 12 #[.pointer (some ⟨b, 0, none⟩), .int .i64 x, .int .i64 y] w fun e w' => ∃ a v, e = .returned (.tuple #[a, v]) ∧ R a v w' := by
  have hc := h.cnt
  clear h
  go_enter Try.func12, Try.ntmps12
  go_wp2_with (go_at_call 19; fail)
  go_at_call 19
  refine k.mono ?_
  rintro e w' ⟨a, v, rfl, h1⟩
  have H1 : Hid (R a v w') := h1
  clear k h1
  go_wp2
  go_ret2
  exact ⟨a, v, rfl, H1.out⟩

theorem slice54 (w : World) (b n : Nat) (hn : n ≤ 40) : (Instr.sliceAt 54 (.pointer (some ⟨b, 1, none⟩)) none (some (.int .i64 n)) none).run Try.prog w = .ok (.slice (some ⟨b, 1, none⟩) n 40) w := by
  have hl : Try.prog.arrayLen 54 = 40 := by kernel_rfl
  have he : Try.prog.elem 54 = 3 := by kernel_rfl
  have := run_sliceAt_array_h (P := Try.prog) w 54 ⟨b, 1, none⟩ (by rw [hl, he]; exact Try.underlying54) .i64 n (by omega) (by rw [hl]; omega)
  rw [this, he, hl]
  simp [slicedAt, Try.sizeOf3, Addr.add]

set_option maxRecDepth 100000 in
set_option maxHeartbeats 400000 in
theorem nodes_any (h : RowAt w b n A Pl E) (hn : n ≤ 40) (hn0 : 0 < n) :
    Calls Try.prog 17 #[.pointer (some ⟨b, 0, none⟩)] w fun e w' => ∃ v, e = .returned v ∧ w'.ownsRow w.heap.size 3 1 v n (ints ((List.range n).map A)) ∧ Below w.heap.size w w' := by
  obtain ⟨i0, hi1, hi2, hi3, hi4⟩ := info3
  have HI : Hid (Try.prog.info? 3 = some i0 ∧ i0.zero = some (.int .i64 0) ∧ i0.size = 1 ∧ i0.bytes = 8) := ⟨hi1, hi2, hi3, hi4⟩
  clear hi1 hi2 hi3 hi4
  have HR : Hid (RowAt w b n A Pl E) := h
  have hc := h.cnt
  clear h
  go_enter Try.func17, Try.ntmps17
  go_upto_region 1 with fail
  have hbl := HR.out.lt
  have hc2 : ((w.alloc (.cells #[] 3)).drew).cell? ⟨b, 0, none⟩ = some (.int .i64 n) := by
    show (w.alloc (.cells #[] 3)).cell? _ = _
    rw [World.cell?_alloc_lt _ _ _ hbl]; exact hc
  have hown0 : ((w.alloc (.cells #[] 3)).drew).ownsRow w.heap.size 3 1 (.slice (some ⟨w.heap.size, 0, none⟩) 0 0) 0 [] := World.ownsRow_made w #[] 0 (Nat.le_refl _) (by unfold maxLen; omega) rfl
  have hnews : ∀ j u, (ints ((List.range n).map A))[j]? = some u → ((w.alloc (.cells #[] 3)).drew).cell? ((⟨b, 1, none⟩ : Addr).add j) = some u := fun j u hu => by
    unfold ints at hu
    rw [List.getElem?_map, Option.map_eq_some_iff] at hu
    obtain ⟨k, hk, rfl⟩ := hu
    rw [List.getElem?_map, Option.map_eq_some_iff] at hk
    obtain ⟨m, hm, rfl⟩ := hk
    obtain ⟨h1, h2⟩ := List.getElem?_eq_some_iff.1 hm
    rw [List.getElem_range] at h2
    subst h2
    have hj : j < n := by simpa using h1
    rw [Addr.add_mid]
    show (w.alloc (.cells #[] 3)).cell? _ = _
    rw [World.cell?_alloc_lt _ _ _ hbl]
    exact HR.out.at' j (by omega)
  have hone : ∀ u ∈ ints ((List.range n).map A), u.oneCell' = true := fun u hu => by
    unfold ints at hu; obtain ⟨k, _, rfl⟩ := List.mem_map.1 hu; rfl
  have hlen : (ints ((List.range n).map A)).length = n * 1 := by simp [ints]
  have hsl := fun W => slice54 W b n hn
  go_region_held_law (fun w' => w'.cell? ⟨b, 0, none⟩ = some (.int .i64 n)) (first | exact hc | exact hc2 | assumption)
    (first | (refine step_append_lies _ rfl (.tmp 3) (.tmp 11) 34 rfl w.heap.size 3 i0 (.int .i64 0) 1 8 Try.underlying34 HI.out.1 HI.out.2.1 HI.out.2.2.1 HI.out.2.2.2 rfl (by decide) _ 0 [] rfl hown0 ⟨b, 1, none⟩ n 40 (ints ((List.range n).map A)) rfl hlen hnews hone hn0 (by unfold maxLen; omega) (by omega) (by show w.heap.size ≤ (w.alloc _).heap.size; simp) _ rfl ?_; intro g cap w1 hown hgrow hat hlt; have hk : w1.cell? ⟨b, 0, none⟩ = some (.int .i64 n) := hgrow.cell hc2 (by show some b ≠ some w.heap.size; simp; omega)))
  all_goals
    have hg : ((w.alloc (.cells #[] 3)).drew).grownBy w1 (some w.heap.size) := hgrow
    have hbw : Below w.heap.size w w1 := (((Below.refl w.heap.size w).alloc (Nat.le_refl _) _).drew).grown hg (by show w.heap.size ≤ (w.alloc _).heap.size; simp) (fun k hk => by cases hk; exact Nat.le_refl _)
    have hown2 : w1.ownsRow w.heap.size 3 1 (.slice (some ⟨g, 0, none⟩) n cap) n (ints ((List.range n).map A)) := by
      rw [Nat.zero_add] at hown
      exact hown
    clear hgrow hat hown hg hk hsl hnews hown0 hc2
    simp only [List.getElem_toArray, List.getElem_cons_succ, List.getElem_cons_zero]
    go_wp2
    go_ret
    exact ⟨_, rfl, hown2, hbw⟩

set_option maxHeartbeats 400000 in
theorem order_any (h : RowAt w b n A Pl E) (hn : n ≤ 40) (hn0 : 0 < n) :
    Calls Try.prog 9 #[.pointer (some ⟨b, 0, none⟩)] w fun e w' => ∃ v, e = .returned v ∧ w'.ownsRow w.heap.size 3 1 v n (ints ((List.range n).map A)) ∧ Below w.heap.size w w' := by
  have hc := h.cnt
  have k := nodes_any h hn hn0
  clear h
  go_enter Try.func9, Try.ntmps9
  go_wp2_with (go_at_call 17; fail)
  go_at_call 17
  refine k.mono ?_
  rintro e w' ⟨v, rfl, h1, h2⟩
  clear k
  go_wp2
  go_ret
  exact ⟨v, rfl, h1, h2⟩

end Go.Proofs.Ytelmkfkgpnadnaa
