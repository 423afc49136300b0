/-
  The walks of the law Rankings' small functions.
-/
import Derived.Test.YtelmkfkgpnadnaaDoorR1
import Derived.Test.YtelmkfkgpnadnaaDoorW1
import Derived.Deep.LoopGhost
import Derived.LoopN
namespace Go.Proofs.YtelmkfkgpnadnaaDoor
open Go.RowKit

/-- Which of n things a raw number speaks of. -/
def pk (c n : Int) : Int := (if c < 0 then -(c + 1) else c) % n

set_option maxHeartbeats 400000 in
theorem pick_any (c n : Int) (w : World) (hn : 0 < n) (hn2 : n ≤ 1000000) (h1 : -9223372036854775808 ≤ c) (h2 : c ≤ 9223372036854775807) :
    Calls Tryd.prog 8 #[.int .i64 c, .int .i64 n] w fun e w' => e = .returned (.int .i64 (pk c n)) ∧ w' = w := by
  unfold pk
  by_cases hc : c < 0
  · rw [if_pos hc, ← Int.tmod_eq_emod_of_nonneg (by omega : 0 ≤ -(c + 1))]
    go_enter Tryd.func8, Tryd.ntmps8
    go_wp2
    go_ret
    exact ⟨ret_int (by rw [Int.neg_tmod]), rfl⟩
  · rw [if_neg hc]
    go_enter Tryd.func8, Tryd.ntmps8
    go_wp2
    go_ret
    exact ⟨rfl, rfl⟩

/-- Where the writing of a number stands: what is left, what is written. -/
def DecAt (n m : Nat) (t : List UInt8) : Prop := (t = [] ∧ m = n) ∨ (t ≠ [] ∧ Rk.dec n = (if m = 0 then [] else Rk.dec m) ++ t)

theorem DecAt.step {n m : Nat} {t : List UInt8} (h : DecAt n m t) (hm : 0 < m ∨ t = []) : DecAt n (m / 10) (UInt8.ofNat (48 + m % 10) :: t) := by
  have hd : Rk.dec m = (if m / 10 = 0 then [] else Rk.dec (m / 10)) ++ [UInt8.ofNat (48 + m % 10)] := by
    by_cases h10 : m < 10
    · rw [if_pos (by omega), Rk.dec, if_pos h10, Nat.mod_eq_of_lt h10]; rfl
    · rw [if_neg (by omega)]
      conv => lhs; rw [Rk.dec, if_neg h10]
  right
  refine ⟨by simp, ?_⟩
  rcases h with ⟨rfl, rfl⟩ | ⟨ht, h⟩
  · exact hd
  · have hm0 : ¬ m = 0 := by
      rcases hm with h | h
      · omega
      · exact absurd h ht
    rw [if_neg hm0] at h
    rw [h, hd]; simp

theorem DecAt.done {n : Nat} {t : List UInt8} (h : DecAt n 0 t) (ht : t ≠ []) : t = Rk.dec n := by
  rcases h with ⟨h, _⟩ | ⟨_, h⟩
  · exact absurd h ht
  · rw [h]; simp

theorem dg_cast (m : Nat) : ((UInt8.ofNat (48 + m % 10)).toNat : Int) = 48 + (m : Int) % 10 := by
  have := (Rk.dig_ok (m % 10) (by omega)).2
  rw [this]; omega

theorem conv_at (wr : World) (m : Nat) : (convert 45 9 (Value.slice (some ⟨wr.heap.size, 0, none⟩) 1 1)).run Tryd.prog (wr.alloc (Obj.cells #[Value.int IntKind.u8 (48 + (m : Int) % 10)] 5)) = .ok (.string ⟨#[UInt8.ofNat (48 + m % 10)]⟩) (wr.alloc (Obj.cells #[Value.int IntKind.u8 (48 + (m : Int) % 10)] 5)) := by
  refine run_convert_bytes_back (P := Tryd.prog) (wr.alloc (Obj.cells #[Value.int IntKind.u8 (48 + (m : Int) % 10)] 5)) 45 9 5 ⟨wr.heap.size, 0, none⟩ 1 [UInt8.ofNat (48 + m % 10)] Tryd.underlying45 Tryd.underlying5 Tryd.underlying9 ?_
  intro j hj
  match j, hj with
  | 0, _ =>
    rw [← dg_cast m]
    exact cell_one_new _ _ _ 0 _ rfl

theorem app_data (a b : ByteArray) : (a ++ b).data.toList = a.data.toList ++ b.data.toList := by
  rw [ByteArray.data_append]; simp

theorem DecAt.len {n m : Nat} {t : List UInt8} (h : DecAt n m t) (hn : n < 1000000) : t.length ≤ 6 := by
  rcases h with ⟨rfl, _⟩ | ⟨_, h⟩
  · simp
  · have := Rk.dec_len 6 n (by omega) (by omega)
    rw [h, List.length_append] at this
    omega

set_option maxRecDepth 100000 in
set_option maxHeartbeats 1000000 in
theorem digitsOf_any (n : Nat) (hn : n < 1000000) (w : World) :
    Calls Tryd.prog 12 #[.int .i64 n] w fun e w' => e = .returned (.string ⟨(Rk.dec n).toArray⟩) ∧ Below w.heap.size w w' := by
  have ST : Hid (DecAt n n (⟨#[]⟩ : ByteArray).data.toList) := Or.inl ⟨rfl, rfl⟩
  go_enter Tryd.func12, Tryd.ntmps12
  go_wp2
  go_loopg [0, 3] (n + 1) (fun gg nv sv wr => ∃ (m : Nat) (x : ByteArray), m < 1000000 ∧ nv = .int .i64 m ∧ sv = .string x ∧ (if x.size = 0 then m + 1 else m) ≤ gg ∧ Below w.heap.size w wr ∧ Hid (DecAt n m x.data.toList))
  case atStart => exact ⟨n, ⟨#[]⟩, hn, rfl, rfl, by split <;> omega, Below.refl _ _, ST⟩
  case round =>
    obtain ⟨m, x, hm, rfl, rfl, hg, hbw, A⟩ := hrel
    have hx6 : x.size ≤ 6 := by rw [Lib.size_eq]; exact A.out.len hn
    have HG : Hid ((if x.size = 0 then m + 1 else m) ≤ gk) := hg
    clear hg
    have hcw := conv_at wr m
    have hd1 : (⟨#[UInt8.ofNat (48 + m % 10)]⟩ : ByteArray).size = 1 := rfl
    by_cases hgo : 0 < m ∨ x.data.toList = []
    · have HN : Hid (DecAt n (m / 10) ((⟨#[UInt8.ofNat (48 + m % 10)]⟩ : ByteArray) ++ x).data.toList) := by
        show DecAt n (m / 10) ((⟨#[UInt8.ofNat (48 + m % 10)]⟩ : ByteArray) ++ x).data.toList
        rw [app_data]
        exact A.out.step hgo
      have HX : Hid ((if ((⟨#[UInt8.ofNat (48 + m % 10)]⟩ : ByteArray) ++ x).size = 0 then m / 10 + 1 else m / 10) ≤ (if x.size = 0 then m + 1 else m) - 1) := by
        have : ((⟨#[UInt8.ofNat (48 + m % 10)]⟩ : ByteArray) ++ x).size = 1 + x.size := by rw [ByteArray.size_append]; rfl
        show (if ((⟨#[UInt8.ofNat (48 + m % 10)]⟩ : ByteArray) ++ x).size = 0 then m / 10 + 1 else m / 10) ≤ (if x.size = 0 then m + 1 else m) - 1
        rw [this, if_neg (by omega)]
        split
        · omega
        · rename_i hne
          rcases hgo with h | h
          · omega
          · exact absurd (by rw [Lib.size_eq, h]; rfl) hne
      have HP : Hid (0 < (if x.size = 0 then m + 1 else m)) := by
        show 0 < (if x.size = 0 then m + 1 else m)
        split
        · omega
        · rename_i hne
          rcases hgo with h | h
          · exact h
          · exact absurd (by rw [Lib.size_eq, h]; rfl) hne
      generalize (if x.size = 0 then m + 1 else m) = g0 at HG HX HP
      generalize (⟨#[UInt8.ofNat (48 + m % 10)]⟩ : ByteArray) = d at hcw HN HX hd1
      by_cases hm0 : 0 < m
      · have hmI : (0 : Int) < (m : Int) := by omega
        clear hgo hm0
        go_wp2
        go_roundg (g0 - 1)
        case measure => have := HG.out; have := HP.out; omega
        case rel => exact ⟨m / 10, d ++ x, by omega, by go_num, rfl, HX.out, hbw.alloc hbw.size _, HN⟩
      · have hxe : x.toList = [] := by
          rw [Lib.toList_data]
          rcases hgo with h | h
          · exact absurd h hm0
          · exact h
        have hme : m = 0 := by omega
        clear hgo hm0
        subst hme
        rw [show (48 : Int) + ((0 : Nat) : Int) % 10 = 48 from rfl] at hcw
        go_wp2
        go_roundg (g0 - 1)
        case measure => have := HG.out; have := HP.out; omega
        case rel => exact ⟨0, d ++ x, by omega, by go_num, rfl, HX.out, hbw.alloc hbw.size _, HN⟩
    · have hm0 : m = 0 := by
        apply Classical.byContradiction
        intro h
        exact hgo (Or.inl (by omega))
      have hxn : ¬ x.data.toList = [] := fun h => hgo (Or.inr h)
      have hxt : ¬ x.toList = [] := by rw [Lib.toList_data]; exact hxn
      rw [hm0] at A
      have HF : Hid (x = ⟨(Rk.dec n).toArray⟩) := by
        have := A.out.done hxn
        show x = ⟨(Rk.dec n).toArray⟩
        rw [← this]
      have hxb : x.toList.isEmpty = false := by
        cases h : x.toList with
        | nil => exact absurd h hxt
        | cons _ _ => rfl
      clear hgo hxn hxt
      subst hm0
      go_wp2
      go_ret
      exact ⟨by rw [← HF.out]; rfl, hbw⟩

end Go.Proofs.YtelmkfkgpnadnaaDoor
