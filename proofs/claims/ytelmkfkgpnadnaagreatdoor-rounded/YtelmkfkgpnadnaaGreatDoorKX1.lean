/-
  The program's comparison of two words that are versions, with the draws counted.
-/
import Derived.Test.YtelmkfkgpnadnaaGreatDoorKDA
import Derived.Test.YtelmkfkgpnadnaaGreatDoorKUA
namespace Go.Proofs.YtelmkfkgpnadnaaGreatDoor.Dr
open Go.RowKit

theorem SlOf.shape {w : World} {v : Value} {ids : List ByteArray} (h : SlOf w v ids) : ∃ ad n k, v = .slice ad n k := by
  rcases h with ⟨_, h⟩ | ⟨b, c, h, _⟩
  · exact ⟨_, _, _, h⟩
  · exact ⟨_, _, _, h⟩

set_option maxHeartbeats 1000000 in
theorem compareWords_yes (a b : ByteArray) (x0 x1 x2 y0 y1 y2 r : Int) (l m : List ByteArray) (w : World)
    (k1 : ∀ W, Below w.heap.size w W → Calls Tryz.prog 153 #[.string a] W fun e w' => ∃ sl, e = .returned (.tuple #[.agg #[.int .i64 x0, .int .i64 x1, .int .i64 x2, sl], .bool true]) ∧ Below W.heap.size W w' ∧ SlOf w' sl l)
    (k2 : ∀ W, Below w.heap.size w W → Calls Tryz.prog 153 #[.string b] W fun e w' => ∃ sl, e = .returned (.tuple #[.agg #[.int .i64 y0, .int .i64 y1, .int .i64 y2, sl], .bool true]) ∧ Below W.heap.size W w' ∧ SlOf w' sl m)
    (k3 : ∀ W sl sl', SlOf W sl l → SlOf W sl' m → Calls Tryz.prog 210 #[.agg #[.int .i64 x0, .int .i64 x1, .int .i64 x2, sl], .agg #[.int .i64 y0, .int .i64 y1, .int .i64 y2, sl']] W fun e w' => e = .returned (.int .i64 r) ∧ Below W.heap.size W w') :
    Calls Tryz.prog 167 #[.string a, .string b] w fun e w' => e = .returned (.int .i64 r) ∧ Below w.heap.size w w' := by
  go_enter Tryz.func167, Tryz.ntmps167
  go_wp2_with (go_at_call 153; fail)
  refine (k1 _ (Below.refl _ _)).mono ?_
  rintro e w1 ⟨sl, rfl, hb1, s1⟩
  obtain ⟨ad, n, k, hsl⟩ := s1.shape
  rw [hsl] at s1 ⊢
  clear hsl
  have S1 : Hid (SlOf w1 (.slice ad n k) l) := s1
  clear s1
  go_wp2_with (go_at_call 153; fail)
  refine (k2 _ (hb1.alloc hb1.size _)).mono ?_
  rintro e w2 ⟨sl', rfl, hb2, s2⟩
  obtain ⟨ad', n', k', hsl'⟩ := s2.shape
  rw [hsl'] at s2 ⊢
  clear hsl'
  have hz1 := hb1.size
  have hz2 : w1.heap.size < w2.heap.size := by have := hb2.size; simp at this; omega
  have hblk : w2.heap[w1.heap.size]? = some (.cells #[.int .i64 x0, .int .i64 x1, .int .i64 x2, .slice ad n k] 251) := by
    rw [hb2.block _ (by simp)]
    show (w1.heap.push _)[w1.heap.size]? = _
    rw [Array.getElem?_push, if_pos rfl]
  obtain ⟨⟨z0, z1, z2, z3⟩, _⟩ := cells4 hblk
  clear hblk
  have hbB : Below w1.heap.size w1 w2 := ((Below.refl w1.heap.size w1).alloc (Nat.le_refl _) _).trans (hb2.mono (by simp))
  have S1' : Hid (SlOf (w2.alloc (.cells #[.int .i64 y0, .int .i64 y1, .int .i64 y2, .slice ad' n' k'] 251)) (.slice ad n k) l) := S1.out.below (hbB.alloc (by omega) _)
  have S2' : Hid (SlOf (w2.alloc (.cells #[.int .i64 y0, .int .i64 y1, .int .i64 y2, .slice ad' n' k'] 251)) (.slice ad' n' k') m) := s2.below ((Below.refl _ _).alloc (Nat.le_refl _) _)
  have HB : Below w.heap.size w w2 := (hb1.alloc hz1 _).trans (hb2.mono (by simp; omega))
  clear hb1 hb2 s2 S1 hbB
  have k3 := k3 _ _ _ S1'.out S2'.out
  clear S1' S2'
  go_wp2_with (go_at_call 210; refine k3.mono ?_; rintro e w3 ⟨rfl, hb3⟩)
  go_ret
  exact ⟨rfl, (HB.alloc (by omega) _).trans (hb3.mono (by simp; omega))⟩

theorem data_inj : ∀ l l' : List ByteArray, l.map (·.data.toList) = l'.map (·.data.toList) → l = l'
  | [], [], _ => rfl
  | [], _ :: _, h => by simp at h
  | _ :: _, [], h => by simp at h
  | x :: t, y :: u, h => by
    simp only [List.map_cons, List.cons.injEq] at h
    rw [ByteArray.ext (Array.toList_inj.1 h.1), data_inj t u h.2]

theorem compareWords_any (a b : ByteArray) (w : World) (hm : Ml w) (ha : IsV a) (hb : IsV b) :
    Calls Tryz.prog 167 #[.string a, .string b] w fun e w' => e = .returned (.int .i64 (Pv.cmpV (pv a) (pv b))) ∧ Below w.heap.size w w' := by
  obtain ⟨p, q, r, l, e1, hl, hz, _⟩ := parseVersion_some a w hm _ (pv_of ha)
  obtain ⟨p', q', r', l', e1', hl', hz', _⟩ := parseVersion_some b w hm _ (pv_of hb)
  have k1 : ∀ W, Below w.heap.size w W → Calls Tryz.prog 153 #[.string a] W fun e w' => ∃ sl, e = .returned (.tuple #[.agg #[.int .i64 (Pv.val p), .int .i64 (Pv.val q), .int .i64 (Pv.val r), sl], .bool true]) ∧ Below W.heap.size W w' ∧ SlOf w' sl l := fun W hbw => by
    obtain ⟨p2, q2, r2, l2, e2, _, _, k⟩ := parseVersion_some a W (hm.below hbw) _ (pv_of ha)
    rw [e1] at e2
    simp only [Prod.mk.injEq, List.cons.injEq, and_true] at e2
    obtain ⟨⟨e3, e4, e5⟩, e6⟩ := e2
    rw [e3, e4, e5, data_inj l l2 e6]
    exact k
  have k2 : ∀ W, Below w.heap.size w W → Calls Tryz.prog 153 #[.string b] W fun e w' => ∃ sl, e = .returned (.tuple #[.agg #[.int .i64 (Pv.val p'), .int .i64 (Pv.val q'), .int .i64 (Pv.val r'), sl], .bool true]) ∧ Below W.heap.size W w' ∧ SlOf w' sl l' := fun W hbw => by
    obtain ⟨p2, q2, r2, l2, e2, _, _, k⟩ := parseVersion_some b W (hm.below hbw) _ (pv_of hb)
    rw [e1'] at e2
    simp only [Prod.mk.injEq, List.cons.injEq, and_true] at e2
    obtain ⟨⟨e3, e4, e5⟩, e6⟩ := e2
    rw [e3, e4, e5, data_inj l' l2 e6]
    exact k
  rw [e1, e1']
  exact compareWords_yes a b _ _ _ _ _ _ _ l l' w k1 k2 (fun W sl sl' h h' => verCompare_any p q r p' q' r' l l' sl sl' W h h' hl hl' hz hz')

end Go.Proofs.YtelmkfkgpnadnaaGreatDoor.Dr
