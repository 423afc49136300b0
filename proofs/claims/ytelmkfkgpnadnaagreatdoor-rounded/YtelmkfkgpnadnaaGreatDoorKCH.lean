/-
  The program's Format, as it is asked.
-/
import Derived.Test.YtelmkfkgpnadnaaGreatDoorKCF
import Derived.Test.YtelmkfkgpnadnaaGreatDoorKCC
import Derived.Laws.CopyOwn
namespace Go.Proofs.YtelmkfkgpnadnaaGreatDoor
open Go.RowKit

theorem pFormat_any (p : ByteArray) (rv xv sv : Value) (R X : List Mo) (S : List So) (w : World) (hm : Dr.Ml w) (hR : R.length ≤ 16777216) (hX : X.length ≤ 16777216) (hS : S.length ≤ 16777216) (hr : Sm.Rd w rv R) (hx : Sm.Rd w xv X) (hs : Sw.Rd w sv S)
    (hlen : (fmtOf p (reqs R) (excs X) (reps S)).length ≤ 140737488355328) :
    Calls Tryz.prog 21 #[.agg #[.string p, rv, xv, sv]] w fun e w' => e = .returned (.string ⟨(fmtOf p (reqs R) (excs X) (reps S)).toArray⟩) ∧ Below w.heap.size w w' := by
  obtain ⟨ra, rn, rc, er⟩ := hr.shape
  obtain ⟨xa, xn, xc, ex⟩ := hx.shape
  obtain ⟨sa, sn, sc, es⟩ := hs.shape
  have hb0 := (Below.refl w.heap.size w).alloc (Nat.le_refl _) (.cells #[.string p, .slice ra rn rc, .slice xa xn xc, .slice sa sn sc] 26)
  have k1 := format_any p rv xv sv R X S (w.alloc (.cells #[.string p, .slice ra rn rc, .slice xa xn xc, .slice sa sn sc] 26)) (Sm.ml_below hm hb0) hR hX hS (hr.below hb0) (hx.below hb0) (hs.below hb0) hlen
  rw [er, ex, es] at k1
  have HB : Hid (Below w.heap.size w (w.alloc (.cells #[.string p, .slice ra rn rc, .slice xa xn xc, .slice sa sn sc] 26))) := hb0
  clear hr hx hs hm hlen hb0
  subst er; subst ex; subst es
  generalize fmtOf p (reqs R) (excs X) (reps S) = F at *
  go_enter Tryz.func21, Tryz.ntmps21
  go_wp2_with (go_at_call 51; fail)
  go_at_call 51
  refine k1.mono ?_
  rintro e w1 ⟨rfl, hb1⟩
  have hb : Below w.heap.size w w1 := HB.out.trans (hb1.mono HB.out.size)
  clear hb1 k1 HB
  go_wp2
  go_ret
  exact ⟨rfl, hb⟩

end Go.Proofs.YtelmkfkgpnadnaaGreatDoor
