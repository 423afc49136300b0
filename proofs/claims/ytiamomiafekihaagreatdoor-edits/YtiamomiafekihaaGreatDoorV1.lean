/-
  The document's answer: the comparison of two identifiers.
-/
import Derived.Test.YtiamomiafekihaaGreatDoorW3
namespace Go.Proofs.YtiamomiafekihaaGreatDoor
open Go.RowKit

set_option maxHeartbeats 1000000 in
theorem label_core (a b : ByteArray) (n m : Nat) (cb co : Int) (w : World)
    (k1 : ∀ W, Calls Tryz.prog 103 #[.string a, .int .i64 0] W fun e w' => e = .returned (.int .i64 n) ∧ w' = W)
    (k2 : ∀ W, Calls Tryz.prog 103 #[.string b, .int .i64 0] W fun e w' => e = .returned (.int .i64 m) ∧ w' = W)
    (kb : ∀ W, Calls Tryz.prog 86 #[.string a, .string b] W fun e w' => e = .returned (.int .i64 cb) ∧ w' = W)
    (ko : ∀ W, Calls Tryz.prog 87 #[.int .i64 a.size, .int .i64 b.size] W fun e w' => e = .returned (.int .i64 co) ∧ w' = W) :
    Calls Tryz.prog 88 #[.string a, .string b] w fun e w' => e = .returned (.int .i64 (if n = a.size then (if m = b.size then (if a.size = b.size then cb else co) else -1) else if m = b.size then 1 else cb)) ∧ w' = w := by
  by_cases h1 : n = a.size
  · have b1 : ((n : Int) == (a.size : Int)) = true := by simp [h1]
    rw [if_pos h1]
    by_cases h2 : m = b.size
    · have b2 : ((m : Int) == (b.size : Int)) = true := by simp [h2]
      rw [if_pos h2]
      by_cases h3 : a.size = b.size
      · have b3 : ((a.size : Int) != (b.size : Int)) = false := by simp [h3]
        rw [if_pos h3]
        clear h1 h2 h3
        go_enter Tryz.func88, Tryz.ntmps88
        go_wp2_with (go_at_call 103; fail)
        refine (k1 _).mono ?_
        rintro e w' ⟨rfl, rfl⟩
        go_wp2_with (first | (go_at_call 103; refine (k2 _).mono ?_; rintro e w' ⟨rfl, rfl⟩) | (go_at_call 86; refine (kb _).mono ?_; rintro e w' ⟨rfl, rfl⟩) | (go_at_call 87; refine (ko _).mono ?_; rintro e w' ⟨rfl, rfl⟩))
        go_ret
        exact ⟨rfl, rfl⟩
      · have b3 : ((a.size : Int) != (b.size : Int)) = true := by simp; omega
        rw [if_neg h3]
        clear h1 h2 h3
        go_enter Tryz.func88, Tryz.ntmps88
        go_wp2_with (go_at_call 103; fail)
        refine (k1 _).mono ?_
        rintro e w' ⟨rfl, rfl⟩
        go_wp2_with (first | (go_at_call 103; refine (k2 _).mono ?_; rintro e w' ⟨rfl, rfl⟩) | (go_at_call 86; refine (kb _).mono ?_; rintro e w' ⟨rfl, rfl⟩) | (go_at_call 87; refine (ko _).mono ?_; rintro e w' ⟨rfl, rfl⟩))
        go_ret
        exact ⟨rfl, rfl⟩
    · have b2 : ((m : Int) == (b.size : Int)) = false := by simp; omega
      rw [if_neg h2]
      clear h1 h2
      go_enter Tryz.func88, Tryz.ntmps88
      go_wp2_with (go_at_call 103; fail)
      refine (k1 _).mono ?_
      rintro e w' ⟨rfl, rfl⟩
      go_wp2_with (first | (go_at_call 103; refine (k2 _).mono ?_; rintro e w' ⟨rfl, rfl⟩) | (go_at_call 86; refine (kb _).mono ?_; rintro e w' ⟨rfl, rfl⟩) | (go_at_call 87; refine (ko _).mono ?_; rintro e w' ⟨rfl, rfl⟩))
      go_ret
      exact ⟨rfl, rfl⟩
  · have b1 : ((n : Int) == (a.size : Int)) = false := by simp; omega
    rw [if_neg h1]
    by_cases h2 : m = b.size
    · have b2 : ((m : Int) == (b.size : Int)) = true := by simp [h2]
      rw [if_pos h2]
      clear h1 h2
      go_enter Tryz.func88, Tryz.ntmps88
      go_wp2_with (go_at_call 103; fail)
      refine (k1 _).mono ?_
      rintro e w' ⟨rfl, rfl⟩
      go_wp2_with (first | (go_at_call 103; refine (k2 _).mono ?_; rintro e w' ⟨rfl, rfl⟩) | (go_at_call 86; refine (kb _).mono ?_; rintro e w' ⟨rfl, rfl⟩) | (go_at_call 87; refine (ko _).mono ?_; rintro e w' ⟨rfl, rfl⟩))
      go_ret
      exact ⟨rfl, rfl⟩
    · have b2 : ((m : Int) == (b.size : Int)) = false := by simp; omega
      rw [if_neg h2]
      clear h1 h2
      go_enter Tryz.func88, Tryz.ntmps88
      go_wp2_with (go_at_call 103; fail)
      refine (k1 _).mono ?_
      rintro e w' ⟨rfl, rfl⟩
      go_wp2_with (first | (go_at_call 103; refine (k2 _).mono ?_; rintro e w' ⟨rfl, rfl⟩) | (go_at_call 86; refine (kb _).mono ?_; rintro e w' ⟨rfl, rfl⟩) | (go_at_call 87; refine (ko _).mono ?_; rintro e w' ⟨rfl, rfl⟩))
      go_ret
      exact ⟨rfl, rfl⟩

theorem label_any (a b : ByteArray) (w : World) (ha : a.size ≤ 40) (hb : b.size ≤ 40) :
    Calls Tryz.prog 88 #[.string a, .string b] w fun e w' => e = .returned (.int .i64 (Pv.label a.data.toList b.data.toList)) ∧ w' = w := by
  have k1 := fun w => digits_any a 0 w (by unfold maxLen; omega) (by omega)
  have k2 := fun w => digits_any b 0 w (by unfold maxLen; omega) (by omega)
  have k := label_core a b _ _ _ _ w k1 k2 (fun W => bytes_any a b W) (fun W => order_any a.size b.size W)
  have e : Pv.label a.data.toList b.data.toList = (if ((a.data.toList.drop 0).takeWhile Pv.dg).length = a.size then (if ((b.data.toList.drop 0).takeWhile Pv.dg).length = b.size then (if a.size = b.size then Lib.compareBytes a.data.toList b.data.toList else Lib.compareInt a.size b.size) else -1) else if ((b.data.toList.drop 0).takeWhile Pv.dg).length = b.size then 1 else Lib.compareBytes a.data.toList b.data.toList) := by
    unfold Pv.label
    rw [List.drop_zero, List.drop_zero, Lib.size_eq a, Lib.size_eq b]
    by_cases h1 : a.data.toList.all Pv.dg = true
    · rw [if_pos ((Pv.all_dg_iff _).2 h1)]
      by_cases h2 : b.data.toList.all Pv.dg = true
      · rw [if_pos ((Pv.all_dg_iff _).2 h2), h1, h2]
        by_cases h3 : a.data.toList.length = b.data.toList.length
        · rw [if_pos h3, if_pos (by rfl), if_neg (by simpa using h3)]
        · rw [if_neg h3, if_pos (by rfl), if_pos h3]
      · rw [if_neg (fun e => h2 ((Pv.all_dg_iff _).1 e))]
        have h2' : b.data.toList.all Pv.dg = false := by simpa using h2
        rw [h1, h2']; rfl
    · rw [if_neg (fun e => h1 ((Pv.all_dg_iff _).1 e))]
      have h1' : a.data.toList.all Pv.dg = false := by simpa using h1
      by_cases h2 : b.data.toList.all Pv.dg = true
      · rw [if_pos ((Pv.all_dg_iff _).2 h2), h1', h2]; rfl
      · rw [if_neg (fun e => h2 ((Pv.all_dg_iff _).1 e))]
        have h2' : b.data.toList.all Pv.dg = false := by simpa using h2
        rw [h1', h2']; rfl
  rw [e]
  exact k

end Go.Proofs.YtiamomiafekihaaGreatDoor
