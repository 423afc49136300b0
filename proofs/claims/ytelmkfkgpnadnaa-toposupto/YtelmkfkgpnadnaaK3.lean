/-
  Those to which y leads.
-/
import Derived.Test.YtelmkfkgpnadnaaK2
namespace Go.Proofs.Ytelmkfkgpnadnaa
open Go.RowKit

variable {w w' : World} {b n : Nat} {A Pl : Nat → Nat} {E : Nat → Nat → Bool}

/-- The inner round: how far the next ones have been asked. -/
def Led (E : Nat → Nat → Bool) (Pl : Nat → Nat) (u e : Nat) (T T' : Nat → Bool) (j : Nat) : Prop := ∀ v, v < 40 → (T' v = true ↔ T v = true ∨ (v < j ∧ E u v = true ∧ Pl v < e))

theorem Led.skip {u e j : Nat} {T T' : Nat → Bool} (h : Led E Pl u e T T' j) (hno : ¬ (E u j = true ∧ Pl j < e)) : Led E Pl u e T T' (j + 1) := fun v hv => by
  rw [h v hv]
  constructor
  · rintro (h1 | ⟨h1, h2⟩)
    · exact Or.inl h1
    · exact Or.inr ⟨by omega, h2⟩
  · rintro (h1 | ⟨h1, h2⟩)
    · exact Or.inl h1
    · by_cases c : v = j
      · subst c; exact absurd h2 hno
      · exact Or.inr ⟨by omega, h2⟩

theorem Led.take {u e j : Nat} {T T' : Nat → Bool} (h : Led E Pl u e T T' j) (he : E u j = true) (hs : Pl j < e) : Led E Pl u e T (Kp.on T' j) (j + 1) := fun v hv => by
  unfold Kp.on
  by_cases c : v = j
  · subst c
    rw [if_pos rfl]
    exact ⟨fun _ => Or.inr ⟨by omega, he, hs⟩, fun _ => rfl⟩
  · rw [if_neg c, h v hv]
    constructor
    · rintro (h1 | ⟨h1, h2⟩)
      · exact Or.inl h1
      · exact Or.inr ⟨by omega, h2⟩
    · rintro (h1 | ⟨h1, h2⟩)
      · exact Or.inl h1
      · exact Or.inr ⟨by omega, h2⟩

set_option maxRecDepth 100000 in
set_option maxHeartbeats 8000000 in
theorem targets_any (y e : Nat) (h : RowAt w b n A Pl E) (O : Kp.Ok n A Pl E) (hn : n ≤ 40) (hy : y < n) (hye : Pl y ≤ e) (hen : e < n) :
    Calls Try.prog 32 #[.pointer (some ⟨b, 0, none⟩), .int .i64 y, .int .i64 e] w fun r w' => ∃ T, r = .returned (.agg (blist T).toArray) ∧ (∀ v, v < 40 → (T v = true ↔ (v = y ∨ (Pl v < e ∧ Kp.Way E y v)))) ∧ Below w.heap.size w w' := by
  have hy40 : y < 40 := by omega
  have HH : Hid (RowAt w b n A Pl E) := h
  have HO : Hid (Kp.Ok n A Pl E) := O
  have hbl := h.lt
  clear h O
  go_enter Try.func32, Try.ntmps32
  go_upto_region 2 with fail
  generalize hW : World.alloc (World.alloc w _) _ = W
  have hW' : (w.alloc (.cells (Array.replicate 40 (.bool false)) 56)).alloc (.cells (Array.replicate 40 (.bool false)) 56) = W := hW
  clear hW
  have hB : Below w.heap.size w W := by
    rw [← hW']; exact ((Below.refl _ _).alloc (Nat.le_refl _) _).alloc (by simp) _
  have hb2 := two_new w
  rw [hW'] at hb2
  clear hW'
  have HR : Hid (RowAt W b n A Pl E) := HH.out.below hB
  have HF : Hid (BoolsAt (W.setCell ⟨w.heap.size + 1, y, none⟩ (.bool true)) (w.heap.size + 1) (Kp.on (fun _ => false) y)) := hb2.2.set hy40
  have HFr : Hid (Fr w b n A Pl E (W.setCell ⟨w.heap.size + 1, y, none⟩ (.bool true))) := (Fr.mk HR.out hB ⟨_, hb2.1⟩).set hbl _ _
  have hc1 := hb2.2.at' y hy40
  have hc2 := hb2.2.fr y hy40
  have hpx' := HFr.out.row.pl y hy40
  clear hb2 HH hB HR
  go_wp2
  go_loopg [8] (e - Pl y) (fun gg s wr => ∃ (k : Nat) (T : Nat → Bool), k ≤ e ∧ e - k ≤ gg ∧ s = .int .i64 k ∧ Hid (BoolsAt wr (w.heap.size + 1) T) ∧ Hid (Fr w b n A Pl E wr) ∧ Hid (∀ v, v < 40 → (T v = true ↔ Kp.TgtI E Pl y e k v)))
  case atStart => exact ⟨Pl y, _, hye, Nat.le_refl _, rfl, HF, HFr, fun v _ => by rw [← Kp.tgt_start HO.out]; unfold Kp.on; split <;> simp_all⟩
  case round =>
    obtain ⟨k, T, hke, hkg, rfl, HS, HW, HI⟩ := hrel
    by_cases hlt : k < e
    · have hk40 : k < 40 := by omega
      have hkn : k < n := by omega
      have hA := HO.out.atLt k hkn
      have hat := HW.out.row.at' k hk40
      have hA40 : A k < 40 := by omega
      have hTA := HS.out.at' (A k) hA40
      cases hT : T (A k)
      · rw [hT] at hTA
        have HN : Hid (∀ v, v < 40 → (T v = true ↔ Kp.TgtI E Pl y e (k + 1) v)) := Kp.tgt_step_no HO.out hkn hlt T hn HI.out hT
        clear hT
        go_wp2
        go_roundg (e - (k + 1))
        case measure => omega
        case rel => exact ⟨k + 1, T, by omega, by omega, by go_num, HS, HW, HN⟩
      · rw [hT] at hTA
        have HT : Hid (T (A k) = true) := hT
        clear hT
        have hran := HW.out.row.edges hA40
        have hu56 := Try.underlying56
        have hi56 : (Try.prog.info? 56).map (·.size) = some (blist (E (A k))).length := by rw [blist_length]; exact info56
        have hl56 := blist_length (E (A k))
        go_upto_region 7 with fail
        go_cut [43, 44] (fun s t wx => s = .agg (blist (E (A k))).toArray ∧ t = .int .i64 0 ∧ wx = wr.drew)
        case first =>
          go_region_held (fun w' => w'.rangeAt b (81 + A k * 40) (blist (E (A k))) ∧ w'.cell? ⟨b, 1 + k, none⟩ = some (.int .i64 (A k))) (constructor <;> simp_all) (fail)
          go_wp2_with fail
          go_meet
          exact ⟨rfl, rfl, rfl⟩
        case rest =>
          obtain ⟨rfl, rfl, rfl⟩ := hcut
          clear hran hu56 hi56 hl56
          have HSd : Hid (BoolsAt wr.drew (w.heap.size + 1) T) := HS.out.of_block rfl
          have HWd : Hid (Fr w b n A Pl E wr.drew) := ⟨HW.out.row.of_block rfl, HW.out.old.drew, HW.out.res.imp fun _ h => h.of_block rfl⟩
          go_wp2
          go_loopg [44] 40 (fun gg s wx => ∃ (j : Nat) (T' : Nat → Bool), j ≤ 40 ∧ 40 - j ≤ gg ∧ s = .int .i64 j ∧ Hid (BoolsAt wx (w.heap.size + 1) T') ∧ Hid (Fr w b n A Pl E wx) ∧ Hid (Led E Pl (A k) e T T' j))
          case atStart => exact ⟨0, T, by omega, by omega, rfl, HSd, HWd, fun v _ => by simp⟩
          case round =>
            obtain ⟨j, T', hj, hg, rfl, HS', HW', HI'⟩ := hrel
            by_cases hlt2 : j < 40
            · have hix := index_bools (E (A k)) j hlt2 wr
              have hjj := HS'.out.at' j hlt2
              have hfj := HS'.out.fr j hlt2
              have hpj := HW'.out.row.pl j hlt2
              cases he : E (A k) j
              · rw [he] at hix
                have HN : Hid (Led E Pl (A k) e T T' (j + 1)) := HI'.out.skip (by simp [he])
                clear he
                go_wp2
                go_roundg (40 - (j + 1))
                case measure => omega
                case rel => exact ⟨j + 1, T', by omega, by omega, by go_num, HS', HW', HN⟩
              · rw [he] at hix
                by_cases hs : Pl j < e
                · have HN : Hid (Led E Pl (A k) e T (Kp.on T' j) (j + 1)) := HI'.out.take he hs
                  clear he
                  go_wp2
                  go_roundg (40 - (j + 1))
                  case measure => omega
                  case rel => exact ⟨j + 1, _, by omega, by omega, by go_num, HS'.out.set hlt2, HW'.out.set hbl _ _, HN⟩
                · have HN : Hid (Led E Pl (A k) e T T' (j + 1)) := HI'.out.skip (by simp [hs])
                  clear he
                  go_wp2
                  go_roundg (40 - (j + 1))
                  case measure => omega
                  case rel => exact ⟨j + 1, T', by omega, by omega, by go_num, HS', HW', HN⟩
            · have hj40 : j = 40 := by omega
              subst hj40
              have HN : Hid (∀ v, v < 40 → (T' v = true ↔ Kp.TgtI E Pl y e (k + 1) v)) := Kp.tgt_step_yes HO.out hkn hlt T T' hn HI.out HT.out (fun v hv => by rw [HI'.out v hv]; simp [hv])
              go_wp2
              go_roundg (e - (k + 1))
              case measure => omega
              case rel => exact ⟨k + 1, T', by omega, by omega, by go_num, HS', HW', HN⟩
    · have hke' : k = e := by omega
      subst hke'
      have hi56 : (Try.prog.info? 56).map (·.size) = some (blist T).length := by rw [blist_length]; exact info56
      go_upto_region 13 with fail
      obtain ⟨S0, hS0⟩ := HW.out.res
      have hth := hS0.there T
      have hld : (loadVar 56 ⟨w.heap.size, 0, none⟩).run Try.prog (wr.setCells w.heap.size 0 (blist T).toArray.toList) = .ok (.agg (blist T).toArray) (wr.setCells w.heap.size 0 (blist T).toArray.toList) :=
        run_loadVar_mid _ _ _ _ (blist T) _ (by simpa using World.rangeAt_setCells_same wr w.heap.size 0 (blist T) (by simpa using hth)) Try.underlying56 rfl hi56
      have hBl : Below w.heap.size w (wr.setCells w.heap.size 0 (blist T).toArray.toList) := below_setCells _ (Nat.le_refl _) _ _ _ HW.out.old
      go_wp2_with (first | (refine wpList_load_mid rfl 56 (.tmp 7) rfl (w.heap.size + 1) 0 rfl (blist T) _ HS.out.range Try.underlying56 rfl hi56 ?_) | (refine wpList_store_mid rfl 56 (.tmp 6) (.tmp 62) rfl w.heap.size 0 (blist T).toArray rfl rfl hth (blist_info T) (blist_one T) ?_))
      refine bodyPost_ret (v := .agg (blist T).toArray) ?_ rfl ⟨T, rfl, fun v hv => by rw [HI.out v hv, Kp.tgt_end HO.out], hBl⟩
      rw [results_one rfl]
      simp [asAddr, Result.andThen, hld]

end Go.Proofs.Ytelmkfkgpnadnaa
