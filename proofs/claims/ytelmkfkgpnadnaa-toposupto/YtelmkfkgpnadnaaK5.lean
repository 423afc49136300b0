/-
  The way that is told.
-/
import Derived.Test.YtelmkfkgpnadnaaK4
namespace Go.Proofs.Ytelmkfkgpnadnaa
namespace Kp

def down (g : Nat → Bool) : Nat → Nat
  | 0 => 0
  | p + 1 => if g (p + 1) then p + 1 else down g p

theorem down_eq (g : Nat → Bool) (p : Nat) (hp : g p = true) : ∀ m, p ≤ m → (∀ q, p < q → q ≤ m → g q = false) → down g m = p
  | 0, h, _ => by unfold down; omega
  | m + 1, h, hq => by
    unfold down
    by_cases e : p = m + 1
    · subst e; rw [if_pos hp]
    · rw [if_neg (by rw [hq (m + 1) (by omega) (Nat.le_refl _)]; simp)]
      exact down_eq g p hp m (by omega) fun q h1 h2 => hq q h1 (by omega)

/-- From u to x, of those that lead on the one that stands last. -/
def tell (E : Nat → Nat → Bool) (A Pl : Nat → Nat) (S : Nat → Bool) (x : Nat) : Nat → Nat → List Nat
  | 0, _ => []
  | k + 1, u => if u = x then [u] else u :: tell E A Pl S x k (A (down (fun p => E u (A p) && S (A p)) (Pl x)))

end Kp
open Go.RowKit

variable {w w' : World} {b n : Nat} {A Pl : Nat → Nat} {E : Nat → Nat → Bool}

theorem own_lit (w : World) (B p : Nat) (hB : B ≤ w.heap.size) : (w.alloc (.cells #[.int .i64 p] 3)).ownsRow B 3 1 (.slice (some ⟨w.heap.size, 0, none⟩) 1 1) [p].length (ints [p]) :=
  ⟨by simp [ints], .inr ⟨w.heap.size, 1, #[.int .i64 p], rfl, hB, heap_alloc_new w _, Nat.le_refl _, by unfold maxLen; omega, rfl, by simp [ints]⟩⟩

/-- A block of forty truths. -/
theorem one_box (w : World) (S : Nat → Bool) : BoolsAt (w.alloc (.cells (blist S).toArray 56)) w.heap.size S := by
  have h1 : (w.alloc (.cells (blist S).toArray 56)).heap[w.heap.size]? = some (.cells (blist S).toArray 56) := by
    show (w.heap.push _)[w.heap.size]? = _
    simp
  refine ⟨fun v hv => ?_, fun v hv => ?_⟩
  · simp only [World.cell?, h1]; simp [hv, blist]
  · simp only [World.frozen?, h1]; simp

set_option maxRecDepth 100000 in
set_option maxHeartbeats 8000000 in
theorem way_any (S : Nat → Bool) (x y f : Nat) (h : RowAt w b n A Pl E) (O : Kp.Ok n A Pl E) (hn : n ≤ 40) (hx : x < n) (hy : y < n) (hf : f ≤ Pl x) (hS : ∀ v, v < 40 → (S v = true ↔ Kp.SrcI E Pl x f v)) (hSy : S y = true) :
    Calls Try.prog 30 #[.pointer (some ⟨b, 0, none⟩), .int .i64 y, .int .i64 x, .agg (blist S).toArray] w fun e w' => ∃ v, e = .returned v ∧
      w'.ownsRow (w.heap.size + 1) 3 1 v (Kp.tell E A Pl S x 40 y).length (ints (Kp.tell E A Pl S x 40 y)) ∧ Below w.heap.size w w' := by
  obtain ⟨i0, hi1, hi2, hi3, hi4⟩ := info3
  have HI : Hid (Try.prog.info? 3 = some i0 ∧ i0.zero = some (.int .i64 0) ∧ i0.size = 1 ∧ i0.bytes = 8) := ⟨hi1, hi2, hi3, hi4⟩
  clear hi1 hi2 hi3 hi4
  have HH : Hid (RowAt w b n A Pl E) := h
  have HO : Hid (Kp.Ok n A Pl E) := O
  have hbl := h.lt
  have HSS : Hid (∀ v, v < 40 → (S v = true ↔ Kp.SrcI E Pl x f v)) := hS
  have HSY : Hid (S y = true) := hSy
  have hPx := O.plLt x hx
  have hx40 : x < 40 := by omega
  have hPy : f ≤ Pl y ∧ Pl y ≤ Pl x := Kp.src_le S hS (by omega) hSy hf
  obtain ⟨L, hL⟩ : ∃ L, Kp.tell E A Pl S x 40 y = L := ⟨_, rfl⟩
  rw [hL]
  have HL : Hid (Kp.tell E A Pl S x 40 y = L) := hL
  clear h O hS hSy hL
  go_enter Try.func30, Try.ntmps30
  go_upto_region 3 with fail
  generalize hW : World.alloc (World.alloc w _) _ = W
  have hB : Below w.heap.size w W := by
    rw [← hW]; exact ((Below.refl _ _).alloc (Nat.le_refl _) _).alloc (by simp) _
  have hWs : W.heap.size = w.heap.size + 2 := by rw [← hW]; simp
  have hbx : BoolsAt W w.heap.size S := by
    rw [← hW]; exact (one_box w S).of_block (Below.heap_alloc _ _ _ (by simp))
  have hown : W.ownsRow (w.heap.size + 1) 3 1 (.slice (some ⟨w.heap.size + 1, 0, none⟩) 1 1) [y].length (ints [y]) := by
    rw [← hW]
    have := own_lit (w.alloc (.cells (blist S).toArray 56)) (w.heap.size + 1) y (by simp)
    simpa using this
  clear hW
  have HR : Hid (RowAt W b n A Pl E) := HH.out.below hB
  have HB1 : Hid (BoolsAt W w.heap.size S) := hbx
  clear hbx HH
  go_loopg [9, 10] (Pl x + 1) (fun gg v nd wr => ∃ (u k : Nat) (pre : List Nat), u < n ∧ Hid (S u = true) ∧ nd = .int .i64 u ∧ Pl x - Pl u < gg ∧ Pl x - Pl u < k ∧ Hid (pre ++ Kp.tell E A Pl S x k u = L) ∧ pre.length ≤ Pl u ∧ wr.ownsRow (w.heap.size + 1) 3 1 v (pre ++ [u]).length (ints (pre ++ [u])) ∧ Below (w.heap.size + 1) W wr)
  case atStart => exact ⟨y, 40, [], hy, HSY, rfl, by omega, by omega, HL, by simp, hown, Below.refl _ _⟩
  case round =>
    obtain ⟨u, k, pre, hu, HU, rfl, hgu, hk, HT, hpre, hown1, hbw⟩ := hrel
    have hu40 : u < 40 := by omega
    have hbn : b < w.heap.size + 1 := by omega
    have HRw : Hid (RowAt wr b n A Pl E) := HR.out.of_block (hbw.block b hbn)
    have HBw : Hid (BoolsAt wr w.heap.size S) := HB1.out.of_block (hbw.block _ (by omega))
    have hpu := HO.out.plLt u hu
    clear hown
    by_cases hux : u = x
    · have hnq : ((u : Int) != (x : Int)) = false := by simp [hux]
      have HN : Hid (pre ++ [u] = L) := by
        obtain ⟨k', rfl⟩ : ∃ k', k = k' + 1 := ⟨k - 1, by omega⟩
        have := HT.out
        rw [Kp.tell, if_pos hux] at this
        exact this
      go_wp2
      go_ret
      exact ⟨_, rfl, by rw [← HN.out]; exact hown1, hB.trans (hbw.mono (by omega))⟩
    · have hnq : ((u : Int) != (x : Int)) = true := by simp; omega
      obtain ⟨z, hz, hez, hsz, hpz, hzx⟩ := Kp.way_next HO.out hn hx S HSS.out hu HU.out hux
      have HZ : Hid (z < n ∧ E u z = true ∧ S z = true) := ⟨hz, hez, hsz⟩
      clear hz hez hsz
      have hplx := HRw.out.pl x hx40
      go_wp2
      go_loopg [11] (Pl x) (fun gg s wx => ∃ p : Nat, Pl z ≤ p ∧ p ≤ Pl x ∧ p ≤ gg ∧ s = .int .i64 p ∧ Hid (wx.ownsRow (w.heap.size + 1) 3 1 u9 (pre ++ [u]).length (ints (pre ++ [u]))) ∧ Below (w.heap.size + 1) W wx ∧ Hid (∀ q, p < q → q ≤ Pl x → (E u (A q) && S (A q)) = false))
      case atStart => exact ⟨Pl x, hzx, Nat.le_refl _, Nat.le_refl _, rfl, hown1, hbw, fun q h1 h2 => by omega⟩
      case round =>
        obtain ⟨p, hzp, hpx, hgp, rfl, HOw, hbx, HQ⟩ := hrel
        clear HRw HBw hown1 hbw hplx
        have hp40 : p < 40 := by omega
        have hpn : p < n := by omega
        have hA := HO.out.atLt p hpn
        have hA40 : A p < 40 := by omega
        have HRx : Hid (RowAt wr b n A Pl E) := HR.out.of_block (hbx.block b hbn)
        have HBx : Hid (BoolsAt wr w.heap.size S) := HB1.out.of_block (hbx.block _ (by omega))
        have hat := HRx.out.at' p hp40
        have hed := HRx.out.ed u hu40 (A p) hA40
        have hsA := HBx.out.at' (A p) hA40
        have HOd : Hid (wr.drew.ownsRow (w.heap.size + 1) 3 1 u9 (pre ++ [u]).length (ints (pre ++ [u]))) := HOw.out
        have hbd := hbx.drew
        cases he : E u (A p)
        · rw [he] at hed
          have hpz' : p ≠ Pl z := fun e => by
            rw [e, HO.out.atPl z HZ.out.1, HZ.out.2.1] at he; cases he
          have HN : Hid (∀ q, p - 1 < q → q ≤ Pl x → (E u (A q) && S (A q)) = false) := fun q h1 h2 => by
            by_cases c : q = p
            · subst c; rw [he]; rfl
            · exact HQ.out q (by omega) h2
          clear he
          go_upto_region 6 with fail
          go_region
          go_wp2
          go_roundg (p - 1)
          case measure => omega
          case rel => exact ⟨p - 1, by omega, by omega, by omega, by go_num, HOd, hbd, HN⟩
        · rw [he] at hed
          cases hs : S (A p)
          · rw [hs] at hsA
            have hpz' : p ≠ Pl z := fun e => by
              rw [e, HO.out.atPl z HZ.out.1, HZ.out.2.2] at hs; cases hs
            have HN : Hid (∀ q, p - 1 < q → q ≤ Pl x → (E u (A q) && S (A q)) = false) := fun q h1 h2 => by
              by_cases c : q = p
              · subst c; rw [he, hs]; rfl
              · exact HQ.out q (by omega) h2
            clear he hs
            go_upto_region 6 with fail
            go_region
            go_wp2
            go_roundg (p - 1)
            case measure => omega
            case rel => exact ⟨p - 1, by omega, by omega, by omega, by go_num, HOd, hbd, HN⟩
          · rw [hs] at hsA
            have hfw := HO.out.fwd _ _ he
            rw [HO.out.plAt p hpn] at hfw
            have HS2 : Hid (S (A p) = true) := hs
            have hdn : Kp.down (fun p => E u (A p) && S (A p)) (Pl x) = p := Kp.down_eq _ p (by simp [he, hs]) (Pl x) hpx HQ.out
            obtain ⟨k', rfl⟩ : ∃ k', k = k' + 1 := ⟨k - 1, by omega⟩
            have HT2 : Hid ((pre ++ [u]) ++ Kp.tell E A Pl S x k' (A p) = L) := by
              have := HT.out
              rw [Kp.tell, if_neg hux, hdn] at this
              show _ = _
              rw [← this]; simp
            have hplA : Pl (A p) = p := HO.out.plAt p hpn
            have HPA : Hid (Pl (A p) = p) := hplA
            clear he hs hdn hplA
            go_upto_region 6 with fail
            go_region
            have hl41 : (pre ++ [u]).length ≤ 41 := by simp; omega
            have hszd : w.heap.size + 1 ≤ wr.drew.heap.size := by show w.heap.size + 1 ≤ wr.heap.size; have := hbx.size; omega
            go_wp2_with (at_builtin; refine wpList_append_own_at _ rfl _ _ 34 rfl (w.heap.size + 1) 3 i0 (.int .i64 0) 1 8 Try.underlying34 HI.out.1 HI.out.2.1 HI.out.2.2.1 HI.out.2.2.2 rfl (by decide) _ _ _ rfl (HOd.out.alloc _) ⟨wr.heap.size, 0, none⟩ 1 1 [.int .i64 (A p)] rfl rfl ?_ ?_ ?_ ?_ ?_ ?_)
            all_goals first
              | exact cell_one_new wr.drew _ _
              | (show ∀ v ∈ [Value.int .i64 ((A p : Nat) : Int)], v.oneCell' = true; intro v hv; simp at hv; subst hv; rfl)
              | (show _ + 1 ≤ maxLen; unfold maxLen; omega)
              | omega
              | (show w.heap.size + 1 ≤ (wr.drew.alloc _).heap.size; simp; omega)
              | (show w.heap.size + 1 ≤ (wr.alloc _).heap.size; have := hbx.size; simp; omega)
              | skip
            intro v' w1 hown' hgrow _ _
            have hown2 : w1.ownsRow (w.heap.size + 1) 3 1 v' ((pre ++ [u]) ++ [A p]).length (ints ((pre ++ [u]) ++ [A p])) := by
              rw [ints_snoc, show ((pre ++ [u]) ++ [A p]).length = pre.length + 1 + 1 by simp]; exact hown'
            have hbw2 : Below (w.heap.size + 1) W w1 := ((hbx.alloc (by have := hbx.size; omega) _).drew).grown hgrow (by show w.heap.size + 1 ≤ (wr.alloc _).heap.size; have := hbx.size; simp; omega) (fun k hk => (HOd.out.lt k hk).1)
            clear hown' hgrow HOd HOw hbd
            have hup := HPA.out
            go_wp2
            go_roundg (Pl x - p + 1)
            case measure => omega
            case rel => exact ⟨A p, k', pre ++ [u], hA, HS2, rfl, by omega, by omega, HT2, by simp; omega, hown2, hbw2⟩

end Go.Proofs.Ytelmkfkgpnadnaa
