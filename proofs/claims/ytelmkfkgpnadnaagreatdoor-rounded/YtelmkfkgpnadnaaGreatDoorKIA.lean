/-
  The program's reading of a line: the small questions.
  The program's reading of a line: a word too many, or one that is missing.
  The program's reading of a line: the first word that does not fit into a place of a kind.
  The program's reading of a line: does a word fit into a place of a version, or of an arrow?
  The program's reading of a line: what of it may be said once.
-/
import Derived.Test.YtelmkfkgpnadnaaGreatDoorKI2
import Derived.Test.YtelmkfkgpnadnaaGreatDoorKTA
import Derived.Deep.LoopGhost
import Derived.Test.YtelmkfkgpnadnaaGreatDoorKWB
namespace Go.Proofs.YtelmkfkgpnadnaaGreatDoor
open Go.RowKit

set_option maxHeartbeats 400000 in
theorem end_any (at' : Nat) (x : ByteArray) (w : World) (h1 : at' ≤ 4000) (h2 : x.size ≤ 4000) :
    Calls Tryz.prog 215 #[.agg #[.int .i64 at', .string x]] w fun e w' => e = .returned (.int .i64 ((at' : Int) + (x.size : Int))) ∧ Below w.heap.size w w' := by
  go_enter Tryz.func215, Tryz.ntmps215
  go_wp2
  go_ret
  exact ⟨rfl, (Below.refl _ _).alloc (Nat.le_refl _) _⟩

end Go.Proofs.YtelmkfkgpnadnaaGreatDoor

namespace Go.Proofs.YtelmkfkgpnadnaaGreatDoor
open Go.RowKit

set_option maxHeartbeats 400000 in
theorem miscount_none (pa wa : Option Addr) (np cp cw : Nat) (w : World) (hp : np ≤ 4) :
    Calls Tryz.prog 171 #[.slice pa np cp, .slice wa (np + 1) cw] w fun e w' => e = .returned (.int .i64 (-1)) ∧ w' = w := by
  go_enter Tryz.func171, Tryz.ntmps171
  go_wp2
  go_ret
  exact ⟨rfl, rfl⟩

set_option maxHeartbeats 400000 in
theorem miscount_many (pa : Option Addr) (b o np cp n cw : Nat) (a : Int) (w : World) (hp : np ≤ 4) (hn : np + 1 < n)
    (hc : w.cell? ⟨b, o + (1 + np) * 2, none⟩ = some (.int .i64 a)) :
    Calls Tryz.prog 171 #[.slice pa np cp, .slice (some ⟨b, o, none⟩) n cw] w fun e w' => e = .returned (.int .i64 a) ∧ w' = w := by
  go_enter Tryz.func171, Tryz.ntmps171
  go_wp2
  go_ret
  exact ⟨rfl, rfl⟩

set_option maxHeartbeats 400000 in
theorem miscount_few (pa : Option Addr) (b o np cp n cw : Nat) (a : Nat) (x : ByteArray) (w : World) (hp : np ≤ 4) (hn : n < np + 1) (h1 : 1 ≤ n) (ha : a ≤ 4000) (hx : x.size ≤ 4000)
    (hc : w.cell? ⟨b, o + (n - 1) * 2, none⟩ = some (.int .i64 a)) (hc1 : w.cell? ⟨b, o + (n - 1) * 2 + 1, none⟩ = some (.string x)) :
    Calls Tryz.prog 171 #[.slice pa np cp, .slice (some ⟨b, o, none⟩) n cw] w fun e w' => e = .returned (.int .i64 ((a : Int) + (x.size : Int))) ∧ Below w.heap.size w w' := by
  obtain ⟨m, rfl⟩ : ∃ m, n = m + 1 := ⟨n - 1, by omega⟩
  rw [Nat.add_sub_cancel] at hc hc1
  have ke := fun W => end_any a x W ha hx
  go_enter Tryz.func171, Tryz.ntmps171
  go_wp2_with (go_at_call 215; fail)
  go_at_call 215
  refine (ke _).mono ?_
  rintro e w' ⟨rfl, hb⟩
  clear ke
  go_wp2
  go_ret
  exact ⟨rfl, hb⟩

end Go.Proofs.YtelmkfkgpnadnaaGreatDoor

namespace Go.Proofs.YtelmkfkgpnadnaaGreatDoor
open Go.RowKit

/-- A row of words at a place. -/
def WAt (w : World) (b o : Nat) (l : List (Nat × ByteArray)) : Prop := b < w.heap.size ∧ ∀ j, ∀ h : j < l.length, w.cell? ⟨b, o + j * 2, none⟩ = some (.int .i64 l[j].1) ∧ w.cell? ⟨b, o + j * 2 + 1, none⟩ = some (.string l[j].2)

theorem WAt.below {w w' : World} {b o : Nat} {l : List (Nat × ByteArray)} (h : WAt w b o l) (hb : Below w.heap.size w w') : WAt w' b o l :=
  ⟨Nat.lt_of_lt_of_le h.1 hb.size, fun j hj => ⟨by rw [hb.cell (p := ⟨b, o + j * 2, none⟩) h.1]; exact (h.2 j hj).1, by rw [hb.cell (p := ⟨b, o + j * 2 + 1, none⟩) h.1]; exact (h.2 j hj).2⟩⟩

/-- A row of kinds at a place. -/
def KAt (w : World) (p : Nat) (ps : List Nat) : Prop := p < w.heap.size ∧ ∀ j, ∀ h : j < ps.length, w.cell? ⟨p, j, none⟩ = some (.int .i64 ps[j])

theorem KAt.below {w w' : World} {p : Nat} {ps : List Nat} (h : KAt w p ps) (hb : Below w.heap.size w w') : KAt w' p ps :=
  ⟨Nat.lt_of_lt_of_le h.1 hb.size, fun j hj => by rw [hb.cell (p := ⟨p, j, none⟩) h.1]; exact h.2 j hj⟩

def atOr (r : Option Nat) : Int := match r with | some a => a | none => -1

theorem misfit_step (ip : List UInt8 → Bool) (k : Nat) (ps : List Nat) (l : List (Nat × ByteArray)) (j : Nat) (h : j < ps.length) (h' : j < l.length) :
    Tx.misfit ip k (ps.drop j) ((wtoks l).drop j) = if ps[j] = k ∧ Tx.fit ip k l[j].2.data.toList = false then some l[j].1 else Tx.misfit ip k (ps.drop (j + 1)) ((wtoks l).drop (j + 1)) := by
  rw [List.drop_eq_getElem_cons h, List.drop_eq_getElem_cons (l := wtoks l) (by simpa [wtoks] using h'), Tx.misfit]
  simp [wtoks]

set_option maxRecDepth 100000 in
set_option maxHeartbeats 2000000 in
theorem misfit_any (ip : List UInt8 → Bool) (k : Nat) (p b o np cp nw cw : Nat) (ps : List Nat) (l : List (Nat × ByteArray)) (w : World) (hk : k ≤ 9) (hnp : ps.length = np) (hnw : l.length = nw) (hl : np ≤ nw) (hp4 : np ≤ 4)
    (hP : KAt w p ps) (hW : WAt w b o l)
    (kf : ∀ j, ∀ h : j < l.length, ∀ W, Below w.heap.size w W → Calls Tryz.prog 216 #[.int .i64 k, .string l[j].2] W fun e w' => e = .returned (.bool (Tx.fit ip k l[j].2.data.toList)) ∧ Below W.heap.size W w') :
    Calls Tryz.prog 172 #[.int .i64 k, .slice (some ⟨p, 0, none⟩) np cp, .slice (some ⟨b, o, none⟩) nw cw] w fun e w' => e = .returned (.int .i64 (atOr (Tx.misfit ip k ps (wtoks l)))) ∧ Below w.heap.size w w' := by
  have hR : Tx.misfit ip k (ps.drop 0) ((wtoks l).drop 0) = Tx.misfit ip k ps (wtoks l) := by simp
  generalize Tx.misfit ip k ps (wtoks l) = R at hR
  have HR : Hid (Tx.misfit ip k (ps.drop 0) ((wtoks l).drop 0) = R) := hR
  clear hR
  have HP : Hid (KAt w p ps) := hP
  have HW : Hid (WAt w b o l) := hW
  clear hP hW
  go_enter Tryz.func172, Tryz.ntmps172
  go_wp2
  go_loopg [11] np (fun gg f wr => ∃ j : Nat, j ≤ np ∧ np - j ≤ gg ∧ f = .int .i64 j ∧ Below w.heap.size w wr ∧ Hid (Tx.misfit ip k (ps.drop j) ((wtoks l).drop j) = R))
  case atStart => exact ⟨0, by omega, by omega, rfl, Below.refl _ _, HR⟩
  case round =>
    obtain ⟨j, hj, hg, rfl, hbw, A⟩ := hrel
    by_cases hlt : j < np
    · have hlp : j < ps.length := by omega
      have hlw : j < l.length := by omega
      have hc := (HP.out.below hbw).2 j hlp
      have hc1 := ((HW.out.below hbw).2 j hlw).1
      have hc2 := ((HW.out.below hbw).2 j hlw).2
      have hst := misfit_step ip k ps l j hlp hlw
      rw [A.out] at hst
      have hbl : b < wr.heap.size := (HW.out.below hbw).1
      have kj := kf j hlw wr hbw
      clear kf
      generalize ps[j] = q at hc hst
      generalize l[j].2 = x at hc2 hst kj
      generalize l[j].1 = a at hc1 hst
      by_cases hq : q = k
      · subst hq
        have hq1 : (((q : Nat) : Int) == (q : Int)) = true := by simp
        cases hf : Tx.fit ip q x.data.toList
        · rw [hf] at kj hst
          have HN : Hid (R = some a) := by show _ = _; simpa using hst
          clear hst hf
          go_wp2_with (go_at_call 216; fail)
          go_at_call 216
          refine kj.mono ?_
          rintro e w' ⟨rfl, hb⟩
          have hc3 : w'.cell? ⟨b, o + j * 2, none⟩ = some (.int .i64 a) := by rw [hb.cell (p := ⟨b, o + j * 2, none⟩) hbl]; exact hc1
          have hbw' : Below w.heap.size w w' := hbw.trans (hb.mono hbw.size)
          clear kj hb hbw hc1 hc2 hc
          go_wp2
          go_ret
          exact ⟨by rw [HN.out]; rfl, hbw'⟩
        · rw [hf] at kj hst
          have HN : Hid (Tx.misfit ip q (ps.drop (j + 1)) ((wtoks l).drop (j + 1)) = R) := by show _ = _; rw [hst]; simp
          clear hst hf
          go_wp2_with (go_at_call 216; fail)
          go_at_call 216
          refine kj.mono ?_
          rintro e w' ⟨rfl, hb⟩
          have hbw' : Below w.heap.size w w' := hbw.trans (hb.mono hbw.size)
          clear kj hb hbw hc1 hc2 hc
          go_wp2
          go_roundg (np - (j + 1))
          case measure => omega
          case rel => exact ⟨j + 1, by omega, by omega, by go_num, hbw', HN⟩
      · have hq1 : (((q : Nat) : Int) == (k : Int)) = false := beq_eq_false_iff_ne.2 (by omega)
        have HN : Hid (Tx.misfit ip k (ps.drop (j + 1)) ((wtoks l).drop (j + 1)) = R) := by show _ = _; rw [hst, if_neg (fun h => hq h.1)]
        clear hst kj
        go_wp2
        go_roundg (np - (j + 1))
        case measure => omega
        case rel => exact ⟨j + 1, by omega, by omega, by go_num, hbw, HN⟩
    · have HN : Hid (R = none) := by
        show _ = _
        rw [← A.out, List.drop_of_length_le (by omega)]
        rfl
      go_wp2
      go_ret
      exact ⟨by rw [HN.out]; rfl, hbw⟩

end Go.Proofs.YtelmkfkgpnadnaaGreatDoor

namespace Go.Proofs.YtelmkfkgpnadnaaGreatDoor
open Go.RowKit

set_option maxHeartbeats 1000000 in
theorem fits_version (ip : List UInt8 → Bool) (x : ByteArray) (w : World) (hm : Ml w) :
    Calls Tryz.prog 216 #[.int .i64 6, .string x] w fun e w' => e = .returned (.bool (Tx.fit ip 6 x.data.toList)) ∧ Below w.heap.size w w' := by
  have hfit : Tx.fit ip 6 x.data.toList = (Pv.parse x.data.toList).isSome := rfl
  rw [hfit]
  cases h : Pv.parse x.data.toList with
  | none =>
    have k := parseVersion_none x w hm h
    show Calls Tryz.prog 216 #[.int .i64 6, .string x] w fun e w' => e = .returned (.bool false) ∧ Below w.heap.size w w'
    go_enter Tryz.func216, Tryz.ntmps216
    go_wp2_with (go_at_call 153; fail)
    go_at_call 153
    refine k.mono ?_
    rintro e w' ⟨rfl, hb⟩
    clear k
    go_wp2
    go_ret
    exact ⟨rfl, hb.alloc hb.size _⟩
  | some v =>
    obtain ⟨p, q, r, l, _, _, _, k⟩ := parseVersion_some x w hm v h
    show Calls Tryz.prog 216 #[.int .i64 6, .string x] w fun e w' => e = .returned (.bool true) ∧ Below w.heap.size w w'
    go_enter Tryz.func216, Tryz.ntmps216
    go_wp2_with (go_at_call 153; fail)
    go_at_call 153
    refine k.mono ?_
    rintro e w' ⟨sl, rfl, hb, hsl⟩
    obtain ⟨ad, n, c, rfl⟩ : ∃ ad n c, sl = .slice ad n c := by
      rcases hsl with ⟨_, h⟩ | ⟨b, c, h, _⟩
      · exact ⟨_, _, _, h⟩
      · exact ⟨_, _, _, h⟩
    clear k hsl
    go_wp2
    go_ret
    exact ⟨rfl, hb.alloc hb.size _⟩

set_option maxHeartbeats 400000 in
theorem fits_arrow (x : ByteArray) (w : World) :
    Calls Tryz.prog 216 #[.int .i64 7, .string x] w fun e w' => e = .returned (.bool (x.toList == [61, 62])) ∧ Below w.heap.size w w' := by
  cases h : (x.toList == [61, 62])
  all_goals
    go_enter Tryz.func216, Tryz.ntmps216
    go_wp2
    go_ret
    exact ⟨rfl, Below.refl _ _⟩

end Go.Proofs.YtelmkfkgpnadnaaGreatDoor

namespace Go.Proofs.YtelmkfkgpnadnaaGreatDoor
open Go.RowKit

set_option maxHeartbeats 1000000 in
theorem claim_other (f p v b : ByteArray) (w : World) (h : (f.toList == [114, 101, 113, 117, 105, 114, 101]) = false) :
    Calls Tryz.prog 174 #[.agg #[.string f, .string p, .string v, .string b]] w fun e w' => e = .returned (.agg #[.string f, .string p, .string v]) ∧ Below w.heap.size w w' := by
  go_enter Tryz.func174, Tryz.ntmps174
  go_wp2
  exact bodyPost_ret (v := .agg #[.string f, .string p, .string v]) (by simp [results, Tryz.results174, go_sem]) rfl ⟨rfl, ((Below.refl _ _).alloc (Nat.le_refl _) _).alloc (by simp) _⟩

set_option maxHeartbeats 1000000 in
theorem claim_require (f p v b : ByteArray) (w : World) (h : (f.toList == [114, 101, 113, 117, 105, 114, 101]) = true) :
    Calls Tryz.prog 174 #[.agg #[.string f, .string p, .string v, .string b]] w fun e w' => e = .returned (.agg #[.string f, .string p, .string ⟨#[]⟩]) ∧ Below w.heap.size w w' := by
  go_enter Tryz.func174, Tryz.ntmps174
  go_wp2
  exact bodyPost_ret (v := .agg #[.string f, .string p, .string ⟨#[]⟩]) (by simp [results, Tryz.results174, go_sem]) rfl ⟨rfl, ((Below.refl _ _).alloc (Nat.le_refl _) _).alloc (by simp) _⟩

end Go.Proofs.YtelmkfkgpnadnaaGreatDoor
