/-
  The program's reading of a line: its words.
-/
import Derived.Test.YtelmkfkgpnadnaaGreatDoorKGA
import Derived.Test.YtelmkfkgpnadnaaGreatDoorKVA
namespace Go.Proofs.YtelmkfkgpnadnaaGreatDoor
open Go.RowKit

def wcells (l : List (Nat × ByteArray)) : List Value := l.flatMap fun x => [.int .i64 x.1, .string x.2]
def wtoks (l : List (Nat × ByteArray)) : List (Nat × List UInt8) := l.map fun x => (x.1, x.2.data.toList)

theorem all_snoc (T : List UInt8) (k j : Nat) (h : j < T.length) (hk : k ≤ j) (ha : ((T.drop k).take (j - k)).all Tx.nb = true) (hj : Tx.nb T[j] = true) : ((T.drop k).take (j + 1 - k)).all Tx.nb = true := by
  rw [cur_snoc T j k h hk, List.all_append, ha]; simp [hj]

theorem all_one (T : List UInt8) (k : Nat) (h : k < T.length) (hj : Tx.nb T[k] = true) : ((T.drop k).take (k + 1 - k)).all Tx.nb = true := by
  rw [cur_snoc T k k h (Nat.le_refl _)]; simp [hj]

theorem info246 : ∃ i, Tryz.prog.info? 274 = some i ∧ i.zero = some (.agg #[.int .i64 0, .string ByteArray.empty]) ∧ i.size = 2 ∧ i.bytes = 24 := by
  have h : (Tryz.prog.info? 274).map (fun i => (i.zero, i.size, i.bytes)) = some (some (.agg #[.int .i64 0, .string ByteArray.empty]), 2, 24) := by kernel_rfl
  rw [Option.map_eq_some_iff] at h
  obtain ⟨i, h1, h2⟩ := h
  simp only [Prod.mk.injEq] at h2
  exact ⟨i, h1, h2.1, h2.2.1, h2.2.2⟩

theorem own_below {w w' : World} {base e size n : Nat} {v : Value} {xs : List Value} (h : w.ownsRow base e size v n xs) (hb : Below w.heap.size w w') : w'.ownsRow base e size v n xs :=
  h.kept (row := none) ⟨hb.os, hb.tape, hb.output, hb.size, fun k hk _ => hb.block k hk⟩ (by cases v.ownBlock <;> simp)

theorem cell_two_new (w : World) (e : Nat) (a b : Value) : ∀ j u, [a, b][j]? = some u → (w.alloc (.cells #[a, b] e)).cell? ((⟨w.heap.size, 0, none⟩ : Addr).add j) = some u := by
  intro j u h
  match j, h with
  | 0, h => simp at h; subst h; simp [Addr.add]
  | 1, h => simp at h; subst h; simp [Addr.add]
  | (j + 2), h => simp at h

theorem toks_next (T : List UInt8) (k j : Nat) (acc : List (Nat × ByteArray)) (x : ByteArray) (G : List (Nat × List UInt8)) (hkj : k < j) (hj : j ≤ T.length) (ha : ((T.drop k).take (j - k)).all Tx.nb = true)
    (he : ∀ h : j < T.length, Tx.nb T[j] = false) (hx : x.data.toList = (T.drop k).take (j - k)) (A : wtoks acc ++ Tx.toks k none (T.drop k) = G) : wtoks (acc ++ [(k, x)]) ++ Tx.toks j none (T.drop j) = G := by
  rw [Tx.toks_word T k j hkj hj ha he] at A
  rw [← A]
  simp [wtoks, hx]

set_option maxRecDepth 100000 in
set_option maxHeartbeats 8000000 in
theorem wordsOf_cut (s t : ByteArray) (w : World) (ht : t.size ≤ 4000)
    (kc : Calls Tryz.prog 169 #[.string s, .string ⟨#[35]⟩] w fun e w' => ∃ b ok, e = .returned (.tuple #[.string t, .string b, .bool ok]) ∧ Below w.heap.size w w') :
    Calls Tryz.prog 123 #[.string s] w fun e w' => ∃ v acc, e = .returned v ∧ wtoks acc = Tx.toks 0 none t.data.toList ∧ w'.ownsRow w.heap.size 274 2 v acc.length (wcells acc) ∧ Below w.heap.size w w' := by
  have HS : Hid (t.data.toList.length = t.size) := (Lib.size_eq t).symm
  have hG : wtoks [] ++ Tx.toks 0 none (t.data.toList.drop 0) = Tx.toks 0 none t.data.toList := by simp [wtoks]
  generalize Tx.toks 0 none t.data.toList = G at hG
  generalize hT : t.data.toList = T at hG HS
  have HT : Hid (t.data.toList = T) := hT
  have HST : Hid (wtoks [] ++ Tx.toks 0 none (T.drop 0) = G) := hG
  clear hT hG
  obtain ⟨i9, hi1, hi2, hi3, hi4⟩ := info246
  have HI : Hid (Tryz.prog.info? 274 = some i9 ∧ i9.zero = some (.agg #[.int .i64 0, .string ByteArray.empty]) ∧ i9.size = 2 ∧ i9.bytes = 24) := ⟨hi1, hi2, hi3, hi4⟩
  clear hi1 hi2 hi3 hi4
  go_enter Tryz.func123, Tryz.ntmps123
  go_wp2_with (go_at_call 169; fail)
  go_at_call 169
  refine kc.mono ?_
  rintro e w' ⟨b, ok, rfl, hb0⟩
  clear kc
  go_wp2
  go_loopg [3, 4] t.size (fun gg v f wr => ∃ (k : Nat) (acc : List (Nat × ByteArray)), k ≤ t.size ∧ t.size - k ≤ gg ∧ f = .int .i64 k ∧ acc.length ≤ k ∧ wr.ownsRow w.heap.size 274 2 v acc.length (wcells acc) ∧ Below w.heap.size w wr ∧ Hid (wtoks acc ++ Tx.toks k none (T.drop k) = G))
  case atStart => exact ⟨0, [], by omega, by omega, rfl, by simp, World.ownsRow_nil _ _ _ _, hb0, HST⟩
  case round =>
    obtain ⟨k, acc, hk, hg, rfl, hal, hown, hbw, A⟩ := hrel
    by_cases hlt : k < t.size
    · have hlt' : k < T.length := by rw [HS.out]; exact hlt
      have HE : Hid (T[k] = t[k]) := by
        show T[k] = t[k]
        have := HT.out
        subst this
        rfl
      have kb := fun W => isBlank_any t[k] W
      cases hnb : Tx.nb t[k]
      · rw [hnb] at kb
        have HN : Hid (wtoks acc ++ Tx.toks (k + 1) none (T.drop (k + 1)) = G) := by
          show _ = _
          rw [← Tx.toks_blank T k hlt' (by rw [HE.out]; exact hnb)]
          exact A.out
        clear hnb
        go_wp2_with (go_at_call 170; refine (kb _).mono ?_; rintro e w' ⟨rfl, rfl⟩)
        go_roundg (t.size - (k + 1))
        case measure => omega
        case rel => exact ⟨k + 1, acc, by omega, by omega, by go_num, by omega, hown, hbw, HN⟩
      · rw [hnb] at kb
        have HA0 : Hid (((T.drop k).take (k + 1 - k)).all Tx.nb = true) := all_one T k hlt' (by rw [HE.out]; exact hnb)
        clear hnb
        go_wp2_with (go_at_call 170; refine (kb _).mono ?_; rintro e w' ⟨rfl, rfl⟩)
        go_loopg [5] t.size (fun gg f wr => ∃ j : Nat, k < j ∧ j ≤ t.size ∧ t.size - j ≤ gg ∧ f = .int .i64 j ∧ wr = w' ∧ Hid (((T.drop k).take (j - k)).all Tx.nb = true))
        case atStart => exact ⟨k + 1, by omega, by omega, by omega, by go_num, rfl, HA0⟩
        case round =>
          obtain ⟨j, hkj, hj, hgj, rfl, rfl, B⟩ := hrel
          by_cases hlj : j < t.size
          · have hlj' : j < T.length := by rw [HS.out]; exact hlj
            have HEj : Hid (T[j] = t[j]) := by
              show T[j] = t[j]
              have := HT.out
              subst this
              rfl
            have kj := fun W => isBlank_any t[j] W
            cases hnj : Tx.nb t[j]
            · rw [hnj] at kj
              have HN : Hid (wtoks (acc ++ [(k, t.extract k j)]) ++ Tx.toks j none (T.drop j) = G) := toks_next T k j acc _ G hkj (by rw [HS.out]; exact hj) B.out (fun _ => by rw [HEj.out]; exact hnj) (by rw [Lib.extract_data, HT.out]) A.out
              have kx := fun W => clone_any (t.extract k j) W (by simp; omega)
              clear hnj
              go_wp2_with (first | (go_at_call 155; fail) | (go_at_call 170; refine (kj _).mono ?_; rintro e w' ⟨rfl, rfl⟩))
              go_at_call 155
              generalize t.extract k j = x at kx HN ⊢
              refine (kx _).mono ?_
              rintro e w1 ⟨rfl, hbx⟩
              have hown1 := own_below hown hbx
              have hbw1 : Below w.heap.size w w1 := hbw.trans (hbx.mono hbw.size)
              clear kx hown hbx hbw
              go_wp2_with (at_builtin; refine wpList_append_own _ rfl _ _ 216 rfl w.heap.size 274 i9 (.agg #[.int .i64 0, .string ByteArray.empty]) 2 24 Tryz.underlying216 HI.out.1 HI.out.2.1 HI.out.2.2.1 HI.out.2.2.2 rfl (by decide) _ _ _ rfl (hown1.alloc _) ⟨w1.heap.size, 0, none⟩ 1 1 [.int .i64 k, .string x] rfl rfl ?_ ?_ ?_ ?_ ?_ ?_)
              all_goals first
                | exact cell_two_new _ _ _ _
                | (show ∀ u ∈ [Value.int .i64 (k : Int), Value.string x], u.oneCell' = true; intro u hu; simp at hu; rcases hu with rfl | rfl <;> rfl)
                | (show acc.length + 1 ≤ maxLen; unfold maxLen; omega)
                | (show (acc.length + 1) * 24 ≤ 140737488355328; omega)
                | (show w.heap.size ≤ (w1.alloc _).heap.size; have := hbw1.size; simp; omega)
                | (show w.heap.size ≤ w1.heap.size + 1; have := hbw1.size; omega)
                | skip
              intro v' w2 hown' hgrow _
              have hbw2 : Below w.heap.size w w2 := (hbw1.alloc hbw1.size _).grown hgrow (by have := hbw1.size; simp; omega) (own_base hown1)
              have hown2 : w2.ownsRow w.heap.size 274 2 v' (acc ++ [(k, x)]).length (wcells (acc ++ [(k, x)])) := by
                rw [List.length_append, show wcells (acc ++ [(k, x)]) = wcells acc ++ [.int .i64 k, .string x] by simp [wcells]]; exact hown'
              clear hown' hgrow hown1
              go_wp2
              go_roundg (t.size - j)
              case measure => omega
              case rel => exact ⟨j, acc ++ [(k, x)], by omega, by omega, by go_num, by simp; omega, hown2, hbw2, HN⟩
            · rw [hnj] at kj
              have HN : Hid (((T.drop k).take (j + 1 - k)).all Tx.nb = true) := all_snoc T k j hlj' (by omega) B.out (by rw [HEj.out]; exact hnj)
              clear hnj
              go_wp2_with (go_at_call 170; refine (kj _).mono ?_; rintro e w' ⟨rfl, rfl⟩)
              go_roundg (t.size - (j + 1))
              case measure => omega
              case rel => exact ⟨j + 1, by omega, by omega, by omega, by go_num, rfl, HN⟩
          · have HN : Hid (wtoks (acc ++ [(k, t.extract k j)]) ++ Tx.toks j none (T.drop j) = G) := toks_next T k j acc _ G hkj (by rw [HS.out]; exact hj) B.out (fun h => absurd h (by rw [HS.out]; omega)) (by rw [Lib.extract_data, HT.out]) A.out
            have kx := fun W => clone_any (t.extract k j) W (by simp; omega)
            go_wp2_with (go_at_call 155; fail)
            go_at_call 155
            generalize t.extract k j = x at kx HN ⊢
            refine (kx _).mono ?_
            rintro e w1 ⟨rfl, hbx⟩
            have hown1 := own_below hown hbx
            have hbw1 : Below w.heap.size w w1 := hbw.trans (hbx.mono hbw.size)
            clear kx hown hbx hbw
            go_wp2_with (at_builtin; refine wpList_append_own _ rfl _ _ 216 rfl w.heap.size 274 i9 (.agg #[.int .i64 0, .string ByteArray.empty]) 2 24 Tryz.underlying216 HI.out.1 HI.out.2.1 HI.out.2.2.1 HI.out.2.2.2 rfl (by decide) _ _ _ rfl (hown1.alloc _) ⟨w1.heap.size, 0, none⟩ 1 1 [.int .i64 k, .string x] rfl rfl ?_ ?_ ?_ ?_ ?_ ?_)
            all_goals first
              | exact cell_two_new _ _ _ _
              | (show ∀ u ∈ [Value.int .i64 (k : Int), Value.string x], u.oneCell' = true; intro u hu; simp at hu; rcases hu with rfl | rfl <;> rfl)
              | (show acc.length + 1 ≤ maxLen; unfold maxLen; omega)
              | (show (acc.length + 1) * 24 ≤ 140737488355328; omega)
              | (show w.heap.size ≤ (w1.alloc _).heap.size; have := hbw1.size; simp; omega)
              | (show w.heap.size ≤ w1.heap.size + 1; have := hbw1.size; omega)
              | skip
            intro v' w2 hown' hgrow _
            have hbw2 : Below w.heap.size w w2 := (hbw1.alloc hbw1.size _).grown hgrow (by have := hbw1.size; simp; omega) (own_base hown1)
            have hown2 : w2.ownsRow w.heap.size 274 2 v' (acc ++ [(k, x)]).length (wcells (acc ++ [(k, x)])) := by
              rw [List.length_append, show wcells (acc ++ [(k, x)]) = wcells acc ++ [.int .i64 k, .string x] by simp [wcells]]; exact hown'
            clear hown' hgrow hown1
            go_wp2
            go_roundg (t.size - j)
            case measure => omega
            case rel => exact ⟨j, acc ++ [(k, x)], by omega, by omega, by go_num, by simp; omega, hown2, hbw2, HN⟩
    · have hk' : k = t.size := by omega
      have HN : Hid (wtoks acc = G) := by
        show _ = _
        have := A.out
        rw [List.drop_of_length_le (by rw [HS.out]; omega)] at this
        simpa [Tx.toks] using this
      go_wp2
      go_ret
      exact ⟨_, acc, rfl, HN.out, hown, hbw⟩

end Go.Proofs.YtelmkfkgpnadnaaGreatDoor
