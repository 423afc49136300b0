/-
  The document's answer: the reading of a version, all cases; IsVersion.
-/
import Derived.Test.YtiamomiafekihaaGreatDoorV6
import Derived.Test.YtiamomiafekihaaGreatDoorV1
namespace Go.Proofs.YtiamomiafekihaaGreatDoor
open Go.RowKit

theorem version_any (s : ByteArray) (w : World) :
    Calls Tryz.prog 74 #[.string s] w fun e w' => ∃ v1 v2 ok, e = .returned (.tuple #[v1, v2, .bool ok]) ∧ Below w.heap.size w w' ∧ VRes w' v1 v2 ok (Pv.parse s.data.toList) := by
  rw [Pv.parse_ref]
  have hs := Lib.size_eq s
  by_cases h : s.size = 0 ∨ 40 < s.size
  · refine (version_bad s w h).mono ?_
    rintro e w' ⟨rfl, rfl⟩
    refine ⟨_, _, _, rfl, Below.refl _ _, VRes.no ?_⟩
    unfold Pv.refParse
    rw [if_neg]
    rintro ⟨h1, h2⟩
    rcases h with h | h
    · have : s.data.toList = [] := List.eq_nil_of_length_eq_zero (by omega)
      rw [this] at h1; simp at h1
    · omega
  · have h0 : 0 < s.size := by omega
    have h40 : s.size ≤ 40 := by omega
    by_cases hv : s[0] = 118
    · have hh : s.data.toList.head? = some 118 ∧ s.data.toList.length ≤ 40 := ⟨by rw [head_of s h0, hv], by omega⟩
      refine version_main s w h0 h40 hv _ ?_ ?_ ?_ ?_
      · intro k hk hn
        exact ref_none hk hn
      · intro ns hn
        unfold Pv.refParse
        rw [if_pos hh, hn]
      · intro ns c t hn hc
        unfold Pv.refParse
        rw [if_pos hh, hn]
        dsimp only
        rw [if_neg hc]
      · intro ns t hn
        unfold Pv.refParse
        rw [if_pos hh, hn]
        dsimp only
        rw [if_pos rfl]
    · refine (version_not s w h0 h40 hv).mono ?_
      rintro e w' ⟨rfl, rfl⟩
      refine ⟨_, _, _, rfl, Below.refl _ _, VRes.no ?_⟩
      unfold Pv.refParse
      rw [if_neg]
      rintro ⟨h1, _⟩
      rw [head_of s h0] at h1
      exact hv (Option.some.inj h1)

set_option maxHeartbeats 1000000 in
theorem isVersion_any (s : ByteArray) (w : World) :
    Calls Tryz.prog 56 #[.string s] w fun e w' => e = .returned (.bool (Pv.parse s.data.toList).isSome) ∧ Below w.heap.size w w' := by
  have k := version_any s w
  generalize Pv.parse s.data.toList = R at k
  go_enter Tryz.func56, Tryz.ntmps56
  go_wp2_with (go_at_call 74; fail)
  refine k.mono ?_
  rintro e w1 ⟨v1, v2, ok, rfl, hb1, hres⟩
  have HOK : Hid (ok = R.isSome) := by
    show ok = R.isSome
    cases R with
    | none => exact hres.1
    | some x => exact hres.1
  clear hres
  go_wp2
  go_ret
  exact ⟨ret_bool HOK.out, hb1⟩

end Go.Proofs.YtiamomiafekihaaGreatDoor
