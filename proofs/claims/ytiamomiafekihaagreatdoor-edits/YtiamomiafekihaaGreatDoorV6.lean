/-
  The document's answer: the walk of the reading of a version, third part.
-/
import Derived.Test.YtiamomiafekihaaGreatDoorV5
import Derived.Test.YtiamomiafekihaaGreatDoorW11
namespace Go.Proofs.YtiamomiafekihaaGreatDoor
open Go.RowKit

theorem SlOf.shape {w : World} {v : Value} {ids : List ByteArray} (h : SlOf w v ids) : ∃ ad n k, v = .slice ad n k := by
  rcases h with ⟨_, h⟩ | ⟨b, c, h, _⟩
  · exact ⟨_, _, _, h⟩
  · exact ⟨_, _, _, h⟩

theorem map_data_inj : ∀ l l' : List ByteArray, l.map (·.data.toList) = l'.map (·.data.toList) → l = l'
  | [], [], _ => rfl
  | [], _ :: _, h => by simp at h
  | _ :: _, [], h => by simp at h
  | x :: t, y :: u, h => by
    simp only [List.map_cons, List.cons.injEq] at h
    have e : x = y := by
      obtain ⟨⟨a⟩⟩ := x
      obtain ⟨⟨b⟩⟩ := y
      have : a = b := h.1
      rw [this]
    rw [e, map_data_inj t u h.2]

theorem vres_id {w1 : World} {v1 v : Value} {ok : Bool} {ns : List (List UInt8)} {R : Option (List (List UInt8) × List (List UInt8))} {G : Option (List (List UInt8))} (hres : IdRes w1 v ok G)
    (hR : R = Option.map (fun i => (ns, i)) (match G with | none => none | some l => if l.length ≤ 4 then some l else none)) (hN : NumOf w1 v1 ns) (h3 : ns.length = 3) : VRes w1 v1 v ok R := by
  have hsh : ∃ ad n k, v1 = .slice ad n k := by
    obtain ⟨b, c, h, _⟩ := hN
    exact ⟨_, _, _, h⟩
  cases G with
  | none =>
    rw [hR]
    exact ⟨hres.1, hsh, hres.2⟩
  | some L =>
    obtain ⟨hok, l, hl, hsl⟩ := hres
    dsimp only at hR
    by_cases hL : L.length ≤ 4
    · rw [decide_eq_true hL] at hok
      rw [if_pos hL] at hR
      rw [hR]
      exact ⟨hok, hN, h3, l, hl, by rw [← hl] at hL; simpa using hL, hsl⟩
    · rw [decide_eq_false hL] at hok
      rw [if_neg hL] at hR
      rw [hR]
      exact ⟨hok, hsh, hsl.shape⟩

set_option maxRecDepth 100000 in
set_option maxHeartbeats 8000000 in
theorem version_main (s : ByteArray) (w : World) (h0 : 0 < s.size) (h40 : s.size ≤ 40) (hv : s[0] = 118) (R : Option (List (List UInt8) × List (List UInt8)))
    (hR0 : ∀ k, k ≤ 3 → Pv.scan k s.data.toList.tail = none → R = none)
    (hR1 : ∀ ns, Pv.scan 3 s.data.toList.tail = some (ns, []) → R = some (ns, []))
    (hR2 : ∀ ns c t, Pv.scan 3 s.data.toList.tail = some (ns, c :: t) → c ≠ 45 → R = none)
    (hR3 : ∀ ns t, Pv.scan 3 s.data.toList.tail = some (ns, 45 :: t) → R = (Pv.refI t).map fun i => (ns, i)) :
    Calls Tryz.prog 74 #[.string s] w fun e w' => ∃ v1 v2 ok, e = .returned (.tuple #[v1, v2, .bool ok]) ∧ Below w.heap.size w w' ∧ VRes w' v1 v2 ok R := by
  have RN : Hid (∀ k, k ≤ 3 → Pv.scan k s.data.toList.tail = none → R = none) := hR0
  have R1 : Hid (∀ ns, Pv.scan 3 s.data.toList.tail = some (ns, []) → R = some (ns, [])) := hR1
  have R2 : Hid (∀ ns c t, Pv.scan 3 s.data.toList.tail = some (ns, c :: t) → c ≠ 45 → R = none) := hR2
  have R3 : Hid (∀ ns t, Pv.scan 3 s.data.toList.tail = some (ns, 45 :: t) → R = (Pv.refI t).map fun i => (ns, i)) := hR3
  clear hR0 hR1 hR2 hR3
  have hb0 : ((s.size : Int) == 0) = false := beq_eq_false_iff_ne.2 (by omega)
  have hb40 : (s.size : Int) ≤ 40 := by omega
  have hbv : ((s[0].toNat : Int) != 118) = false := by rw [hv]; rfl
  clear hv
  have HS : Hid (s.data.toList.length = s.size) := (Lib.size_eq s).symm
  have ST : Hid (ScAt s.data.toList 0 1 []) := ScAt.start (by rw [HS.out]; exact h0)
  obtain ⟨i3, hi1, hi2, hi3, hi4⟩ := info3'
  have HI : Hid (Tryz.prog.info? 3 = some i3 ∧ i3.zero = some (.int .i64 0) ∧ i3.size = 1 ∧ i3.bytes = 8) := ⟨hi1, hi2, hi3, hi4⟩
  clear hi1 hi2 hi3 hi4
  go_enter Tryz.func74, Tryz.ntmps74
  go_wp2
  clear hb0 hb40 hbv
  go_loopg [5, 6, 7] 3 (fun gg v iv kv wr => ∃ (k i : Nat) (ns : List (List UInt8)), k ≤ 3 ∧ 3 - k ≤ gg ∧ kv = .int .i64 k ∧ iv = .int .i64 i ∧ 1 ≤ i ∧ i ≤ s.size ∧ ns.length ≤ 3 ∧ wr.ownsRow w.heap.size 3 1 v ns.length (ns.map fun d => Value.int .i64 (Pv.val d)) ∧ Below w.heap.size w wr ∧ Hid (ScAt s.data.toList k i ns))
  case atStart => exact ⟨0, 1, [], by omega, by omega, rfl, rfl, by omega, by omega, by simp, World.ownsRow_nil _ _ _ _, Below.refl _ _, ST⟩
  case round =>
    obtain ⟨k, i, ns, hk, hgk, rfl, rfl, hi1, hi2, hns, hown, hbw, A⟩ := hrel
    clear ST
    by_cases hk3 : k < 3
    · by_cases hk0 : k = 0
      · have MD : Mid s.data.toList k i ns := by
          have := A.out
          rw [hk0] at this ⊢
          exact this.first
        have hkn : (k : Int) ≤ 0 := by omega
        clear hk0 A
        go_wp2_with (go_at_call 103; fail)
        obtain ⟨i2, rfl⟩ : ∃ i2, i2 = i := ⟨i, rfl⟩
        have NA := numAt s k i2 ns R (by omega) MD RN.out
        have kdg := fun W => digits_any s i2 W (by unfold maxLen; omega) (by omega)
        generalize ((s.data.toList.drop i2).takeWhile Pv.dg).length = nd at NA kdg
        generalize (s.data.toList.drop i2).takeWhile Pv.dg = d at NA
        have hroom := NA.room
        have HL : Hid (d.length = nd) := NA.len
        have VB : Hid (nd ≤ 6 → ∀ j, Pv.val (d.take j) < 1000000) := NA.small
        have VS : Hid (∀ j, j < nd → ∃ h : i2 + j < s.size, Pv.val (d.take (j + 1)) = Pv.val (d.take j) * 10 + (s[i2 + j].toNat - 48) ∧ 48 ≤ s[i2 + j].toNat ∧ s[i2 + j].toNat ≤ 57) := NA.step
        have NB : Hid (nd = 0 ∨ 6 < nd → R = none) := NA.bad
        have NZ : Hid (∀ h : i2 < s.size, 1 < nd → s[i2] = 48 → R = none) := NA.zero
        have NG : Hid (1 ≤ nd → nd ≤ 6 → (1 < nd → ∀ h : i2 < s.size, s[i2] ≠ 48) → ScAt s.data.toList (k + 1) (i2 + nd) (ns ++ [d])) := NA.good
        clear NA MD
        refine (kdg _).mono ?_
        rintro e w' ⟨rfl, hw'⟩
        rw [hw']
        clear hw' kdg
        by_cases hn0 : nd = 0
        · have HN : Hid (R = none) := NB.out (Or.inl hn0)
          have hb0 : ((nd : Int) == 0) = true := beq_iff_eq.2 (by omega)
          clear NB NZ NG VB VS HL hn0
          go_wp2
          go_ret3
          exact ⟨_, _, _, rfl, hbw, VRes.no HN.out⟩
        · have hb0 : ((nd : Int) == 0) = false := beq_eq_false_iff_ne.2 (by omega)
          have hn1 : 1 ≤ nd := by omega
          by_cases hn6 : 6 < nd
          · have HN : Hid (R = none) := NB.out (Or.inr hn6)
            have hb6 : (6 : Int) < (nd : Int) := by omega
            clear NB NZ NG VB VS HL hn0
            go_wp2
            go_ret3
            exact ⟨_, _, _, rfl, hbw, VRes.no HN.out⟩
          · have hb6 : (nd : Int) ≤ 6 := by omega
            have VB := VB.out (by omega)
            by_cases hn2 : 1 < nd
            · have hb1 : (1 : Int) < (nd : Int) := by omega
              have hi2 : i2 < s.size := by omega
              by_cases h48 : (s[i2].toNat : Int) = 48
              · have HN : Hid (R = none) := NZ.out hi2 hn2 (UInt8.toNat.inj (by simpa using (by omega : s[i2].toNat = 48)))
                have hb48 : ((s[i2].toNat : Int) == 48) = true := beq_iff_eq.2 h48
                clear NB NZ NG VB VS HL hn0 h48
                go_wp2
                go_ret3
                exact ⟨_, _, _, rfl, hbw, VRes.no HN.out⟩
              · have HG : Hid (ScAt s.data.toList (k + 1) (i2 + nd) (ns ++ [d])) := NG.out hn1 (by omega) (fun _ _ e => h48 (by rw [e]; rfl))
                have hb48 : ((s[i2].toNat : Int) == 48) = false := beq_eq_false_iff_ne.2 h48
                clear NB NZ NG hn0 h48
                obtain ⟨V, hV⟩ : ∃ V : Nat → Nat, ∀ j, Pv.val (d.take j) = V j := ⟨_, fun _ => rfl⟩
                have V0 : Hid (V 0 = 0) := by show V 0 = 0; rw [← hV]; rfl
                have VN : Hid (Pv.val d = V nd) := by show Pv.val d = V nd; rw [← hV, List.take_of_length_le (by rw [HL.out]; omega)]
                have VS2 : Hid (∀ j, j < nd → ∃ h : i2 + j < s.size, V (j + 1) = V j * 10 + (s[i2 + j].toNat - 48) ∧ 48 ≤ s[i2 + j].toNat ∧ s[i2 + j].toNat ≤ 57) := by
                  intro j hj
                  obtain ⟨q1, q2, q3⟩ := VS.out j hj
                  rw [hV, hV] at q2
                  exact ⟨q1, q2, q3⟩
                have VB2 : Hid (∀ j, V j < 1000000) := by
                  intro j
                  rw [← hV]
                  exact VB j
                clear VS VB hV
                go_wp2
                go_loopg [9, 10] nd (fun g x j wx => ∃ jj : Nat, jj ≤ nd ∧ nd - jj ≤ g ∧ j = .int .i64 jj ∧ x = .int .i64 (V jj) ∧ wx = wr)
                case atStart => exact ⟨0, by omega, by omega, rfl, by rw [V0.out]; rfl, rfl⟩
                case round =>
                  obtain ⟨jj, hj1, hj2, rfl, rfl, rfl⟩ := hrel
                  have HV := VB2.out jj
                  by_cases hj : jj < nd
                  · obtain ⟨q1, q2, q3, q4⟩ := VS2.out jj hj
                    have q5 : (48 : Int) ≤ (s[i2 + jj].toNat : Int) := by omega
                    have q6 : (s[i2 + jj].toNat : Int) ≤ 57 := by omega
                    have Q2 : Hid (V (jj + 1) = V jj * 10 + (s[i2 + jj].toNat - 48)) := q2
                    clear q2 q3 q4
                    go_wp2
                    go_roundg (nd - (jj + 1))
                    case measure => omega
                    case rel => exact ⟨jj + 1, by omega, by omega, by go_num, congrArg (Value.int .i64) (by rw [Q2.out]; omega), rfl⟩
                  · have hj' : jj = nd := by omega
                    rw [hj']
                    clear hj' hj hj1 hj2 HV
                    go_wp2_with (at_builtin; refine wpList_append_own _ rfl _ _ 140 rfl w.heap.size 3 i3 (.int .i64 0) 1 8 Tryz.underlying140 HI.out.1 HI.out.2.1 HI.out.2.2.1 HI.out.2.2.2 rfl (by decide) _ _ _ rfl (hown.alloc _) ⟨wr.heap.size, 0, none⟩ 1 1 [.int .i64 (V nd)] rfl rfl ?_ ?_ ?_ ?_ ?_ ?_)
                    all_goals first
                      | exact cell_one_new _ _ _
                      | (show (Value.int .i64 (V nd)).oneCell' = true; rfl)
                      | (show ∀ u ∈ [Value.int .i64 (V nd)], u.oneCell' = true; intro u hu; simp at hu; subst hu; rfl)
                      | (show ns.length + 1 ≤ maxLen; unfold maxLen; omega)
                      | (show (ns.length + 1) * 8 ≤ 140737488355328; omega)
                      | (show w.heap.size ≤ (wr.alloc _).heap.size; have := hbw.size; simp; omega)
                      | (show w.heap.size ≤ wr.heap.size + 1; have := hbw.size; omega)
                      | skip
                    intro v' w1 hown' hgrow _
                    have hbw1 : Below w.heap.size w w1 := (hbw.alloc hbw.size _).grown hgrow (by have := hbw.size; simp; omega) (own_base hown)
                    have hown1 : w1.ownsRow w.heap.size 3 1 v' (ns ++ [d]).length ((ns ++ [d]).map fun d => Value.int .i64 (Pv.val d)) := by rw [List.map_append, List.length_append, List.map_cons, List.map_nil, VN.out]; exact hown'
                    have hns' : ns.length = k := HG.out.2.2.2 |> fun h => by simp at h; omega
                    clear hown' hgrow hown
                    go_wp2
                    go_roundg (3 - (k + 1))
                    case measure => omega
                    case rel => exact ⟨k + 1, i2 + nd, ns ++ [d], by omega, by omega, by go_num, by go_num, by omega, by omega, by simp; omega, hown1, hbw1, HG⟩
            · have hb1 : (nd : Int) ≤ 1 := by omega
              have HG : Hid (ScAt s.data.toList (k + 1) (i2 + nd) (ns ++ [d])) := NG.out hn1 (by omega) (fun h => absurd h hn2)
              clear NB NZ NG hn0 hn2
              obtain ⟨V, hV⟩ : ∃ V : Nat → Nat, ∀ j, Pv.val (d.take j) = V j := ⟨_, fun _ => rfl⟩
              have V0 : Hid (V 0 = 0) := by show V 0 = 0; rw [← hV]; rfl
              have VN : Hid (Pv.val d = V nd) := by show Pv.val d = V nd; rw [← hV, List.take_of_length_le (by rw [HL.out]; omega)]
              have VS2 : Hid (∀ j, j < nd → ∃ h : i2 + j < s.size, V (j + 1) = V j * 10 + (s[i2 + j].toNat - 48) ∧ 48 ≤ s[i2 + j].toNat ∧ s[i2 + j].toNat ≤ 57) := by
                intro j hj
                obtain ⟨q1, q2, q3⟩ := VS.out j hj
                rw [hV, hV] at q2
                exact ⟨q1, q2, q3⟩
              have VB2 : Hid (∀ j, V j < 1000000) := by
                intro j
                rw [← hV]
                exact VB j
              clear VS VB hV
              go_wp2
              go_loopg [9, 10] nd (fun g x j wx => ∃ jj : Nat, jj ≤ nd ∧ nd - jj ≤ g ∧ j = .int .i64 jj ∧ x = .int .i64 (V jj) ∧ wx = wr)
              case atStart => exact ⟨0, by omega, by omega, rfl, by rw [V0.out]; rfl, rfl⟩
              case round =>
                obtain ⟨jj, hj1, hj2, rfl, rfl, rfl⟩ := hrel
                have HV := VB2.out jj
                by_cases hj : jj < nd
                · obtain ⟨q1, q2, q3, q4⟩ := VS2.out jj hj
                  have q5 : (48 : Int) ≤ (s[i2 + jj].toNat : Int) := by omega
                  have q6 : (s[i2 + jj].toNat : Int) ≤ 57 := by omega
                  have Q2 : Hid (V (jj + 1) = V jj * 10 + (s[i2 + jj].toNat - 48)) := q2
                  clear q2 q3 q4
                  go_wp2
                  go_roundg (nd - (jj + 1))
                  case measure => omega
                  case rel => exact ⟨jj + 1, by omega, by omega, by go_num, congrArg (Value.int .i64) (by rw [Q2.out]; omega), rfl⟩
                · have hj' : jj = nd := by omega
                  rw [hj']
                  clear hj' hj hj1 hj2 HV
                  go_wp2_with (at_builtin; refine wpList_append_own _ rfl _ _ 140 rfl w.heap.size 3 i3 (.int .i64 0) 1 8 Tryz.underlying140 HI.out.1 HI.out.2.1 HI.out.2.2.1 HI.out.2.2.2 rfl (by decide) _ _ _ rfl (hown.alloc _) ⟨wr.heap.size, 0, none⟩ 1 1 [.int .i64 (V nd)] rfl rfl ?_ ?_ ?_ ?_ ?_ ?_)
                  all_goals first
                    | exact cell_one_new _ _ _
                    | (show (Value.int .i64 (V nd)).oneCell' = true; rfl)
                    | (show ∀ u ∈ [Value.int .i64 (V nd)], u.oneCell' = true; intro u hu; simp at hu; subst hu; rfl)
                    | (show ns.length + 1 ≤ maxLen; unfold maxLen; omega)
                    | (show (ns.length + 1) * 8 ≤ 140737488355328; omega)
                    | (show w.heap.size ≤ (wr.alloc _).heap.size; have := hbw.size; simp; omega)
                    | (show w.heap.size ≤ wr.heap.size + 1; have := hbw.size; omega)
                    | skip
                  intro v' w1 hown' hgrow _
                  have hbw1 : Below w.heap.size w w1 := (hbw.alloc hbw.size _).grown hgrow (by have := hbw.size; simp; omega) (own_base hown)
                  have hown1 : w1.ownsRow w.heap.size 3 1 v' (ns ++ [d]).length ((ns ++ [d]).map fun d => Value.int .i64 (Pv.val d)) := by rw [List.map_append, List.length_append, List.map_cons, List.map_nil, VN.out]; exact hown'
                  have hns' : ns.length = k := HG.out.2.2.2 |> fun h => by simp at h; omega
                  clear hown' hgrow hown
                  go_wp2
                  go_roundg (3 - (k + 1))
                  case measure => omega
                  case rel => exact ⟨k + 1, i2 + nd, ns ++ [d], by omega, by omega, by go_num, by go_num, by omega, by omega, by simp; omega, hown1, hbw1, HG⟩
      · have hkp : (0 : Int) < (k : Int) := by omega
        by_cases hil : i < s.size
        · have HE : Hid (s.data.toList[i]'(by rw [HS.out]; exact hil) = s[i]) := rfl
          by_cases h46 : (s[i].toNat : Int) = 46
          · have MD := A.out.dot (by omega) (by rw [HS.out]; exact hil) (by rw [HE.out]; exact UInt8.toNat.inj (by simpa using (by omega : s[i].toNat = 46)))
            have hb46 : ((s[i].toNat : Int) != 46) = false := by rw [h46]; rfl
            have hil' : (i : Int) < (s.size : Int) := by omega
            clear h46 hk0
            go_wp2_with (go_at_call 103; fail)
            obtain ⟨i2, hi2e⟩ : ∃ i2 : Nat, i2 = i + 1 := ⟨_, rfl⟩
            have ec : (i : Int) + 1 = (i2 : Int) := by omega
            rw [← hi2e] at MD
            rw [ec]
            have hi21 : 1 ≤ i2 := by omega
            have hi22 : i2 ≤ s.size := by omega
            clear hi2e ec hb46 HE A
            have NA := numAt s k i2 ns R (by omega) MD RN.out
            have kdg := fun W => digits_any s i2 W (by unfold maxLen; omega) (by omega)
            generalize ((s.data.toList.drop i2).takeWhile Pv.dg).length = nd at NA kdg
            generalize (s.data.toList.drop i2).takeWhile Pv.dg = d at NA
            have hroom := NA.room
            have HL : Hid (d.length = nd) := NA.len
            have VB : Hid (nd ≤ 6 → ∀ j, Pv.val (d.take j) < 1000000) := NA.small
            have VS : Hid (∀ j, j < nd → ∃ h : i2 + j < s.size, Pv.val (d.take (j + 1)) = Pv.val (d.take j) * 10 + (s[i2 + j].toNat - 48) ∧ 48 ≤ s[i2 + j].toNat ∧ s[i2 + j].toNat ≤ 57) := NA.step
            have NB : Hid (nd = 0 ∨ 6 < nd → R = none) := NA.bad
            have NZ : Hid (∀ h : i2 < s.size, 1 < nd → s[i2] = 48 → R = none) := NA.zero
            have NG : Hid (1 ≤ nd → nd ≤ 6 → (1 < nd → ∀ h : i2 < s.size, s[i2] ≠ 48) → ScAt s.data.toList (k + 1) (i2 + nd) (ns ++ [d])) := NA.good
            clear NA MD
            refine (kdg _).mono ?_
            rintro e w' ⟨rfl, hw'⟩
            rw [hw']
            clear hw' kdg
            by_cases hn0 : nd = 0
            · have HN : Hid (R = none) := NB.out (Or.inl hn0)
              have hb0 : ((nd : Int) == 0) = true := beq_iff_eq.2 (by omega)
              clear NB NZ NG VB VS HL hn0
              go_wp2
              go_ret3
              exact ⟨_, _, _, rfl, hbw, VRes.no HN.out⟩
            · have hb0 : ((nd : Int) == 0) = false := beq_eq_false_iff_ne.2 (by omega)
              have hn1 : 1 ≤ nd := by omega
              by_cases hn6 : 6 < nd
              · have HN : Hid (R = none) := NB.out (Or.inr hn6)
                have hb6 : (6 : Int) < (nd : Int) := by omega
                clear NB NZ NG VB VS HL hn0
                go_wp2
                go_ret3
                exact ⟨_, _, _, rfl, hbw, VRes.no HN.out⟩
              · have hb6 : (nd : Int) ≤ 6 := by omega
                have VB := VB.out (by omega)
                by_cases hn2 : 1 < nd
                · have hb1 : (1 : Int) < (nd : Int) := by omega
                  have hi2 : i2 < s.size := by omega
                  by_cases h48 : (s[i2].toNat : Int) = 48
                  · have HN : Hid (R = none) := NZ.out hi2 hn2 (UInt8.toNat.inj (by simpa using (by omega : s[i2].toNat = 48)))
                    have hb48 : ((s[i2].toNat : Int) == 48) = true := beq_iff_eq.2 h48
                    clear NB NZ NG VB VS HL hn0 h48
                    go_wp2
                    go_ret3
                    exact ⟨_, _, _, rfl, hbw, VRes.no HN.out⟩
                  · have HG : Hid (ScAt s.data.toList (k + 1) (i2 + nd) (ns ++ [d])) := NG.out hn1 (by omega) (fun _ _ e => h48 (by rw [e]; rfl))
                    have hb48 : ((s[i2].toNat : Int) == 48) = false := beq_eq_false_iff_ne.2 h48
                    clear NB NZ NG hn0 h48
                    obtain ⟨V, hV⟩ : ∃ V : Nat → Nat, ∀ j, Pv.val (d.take j) = V j := ⟨_, fun _ => rfl⟩
                    have V0 : Hid (V 0 = 0) := by show V 0 = 0; rw [← hV]; rfl
                    have VN : Hid (Pv.val d = V nd) := by show Pv.val d = V nd; rw [← hV, List.take_of_length_le (by rw [HL.out]; omega)]
                    have VS2 : Hid (∀ j, j < nd → ∃ h : i2 + j < s.size, V (j + 1) = V j * 10 + (s[i2 + j].toNat - 48) ∧ 48 ≤ s[i2 + j].toNat ∧ s[i2 + j].toNat ≤ 57) := by
                      intro j hj
                      obtain ⟨q1, q2, q3⟩ := VS.out j hj
                      rw [hV, hV] at q2
                      exact ⟨q1, q2, q3⟩
                    have VB2 : Hid (∀ j, V j < 1000000) := by
                      intro j
                      rw [← hV]
                      exact VB j
                    clear VS VB hV
                    go_wp2
                    go_loopg [9, 10] nd (fun g x j wx => ∃ jj : Nat, jj ≤ nd ∧ nd - jj ≤ g ∧ j = .int .i64 jj ∧ x = .int .i64 (V jj) ∧ wx = wr)
                    case atStart => exact ⟨0, by omega, by omega, rfl, by rw [V0.out]; rfl, rfl⟩
                    case round =>
                      obtain ⟨jj, hj1, hj2, rfl, rfl, rfl⟩ := hrel
                      have HV := VB2.out jj
                      by_cases hj : jj < nd
                      · obtain ⟨q1, q2, q3, q4⟩ := VS2.out jj hj
                        have q5 : (48 : Int) ≤ (s[i2 + jj].toNat : Int) := by omega
                        have q6 : (s[i2 + jj].toNat : Int) ≤ 57 := by omega
                        have Q2 : Hid (V (jj + 1) = V jj * 10 + (s[i2 + jj].toNat - 48)) := q2
                        clear q2 q3 q4
                        go_wp2
                        go_roundg (nd - (jj + 1))
                        case measure => omega
                        case rel => exact ⟨jj + 1, by omega, by omega, by go_num, congrArg (Value.int .i64) (by rw [Q2.out]; omega), rfl⟩
                      · have hj' : jj = nd := by omega
                        rw [hj']
                        clear hj' hj hj1 hj2 HV
                        go_wp2_with (at_builtin; refine wpList_append_own _ rfl _ _ 140 rfl w.heap.size 3 i3 (.int .i64 0) 1 8 Tryz.underlying140 HI.out.1 HI.out.2.1 HI.out.2.2.1 HI.out.2.2.2 rfl (by decide) _ _ _ rfl (hown.alloc _) ⟨wr.heap.size, 0, none⟩ 1 1 [.int .i64 (V nd)] rfl rfl ?_ ?_ ?_ ?_ ?_ ?_)
                        all_goals first
                          | exact cell_one_new _ _ _
                          | (show (Value.int .i64 (V nd)).oneCell' = true; rfl)
                          | (show ∀ u ∈ [Value.int .i64 (V nd)], u.oneCell' = true; intro u hu; simp at hu; subst hu; rfl)
                          | (show ns.length + 1 ≤ maxLen; unfold maxLen; omega)
                          | (show (ns.length + 1) * 8 ≤ 140737488355328; omega)
                          | (show w.heap.size ≤ (wr.alloc _).heap.size; have := hbw.size; simp; omega)
                          | (show w.heap.size ≤ wr.heap.size + 1; have := hbw.size; omega)
                          | skip
                        intro v' w1 hown' hgrow _
                        have hbw1 : Below w.heap.size w w1 := (hbw.alloc hbw.size _).grown hgrow (by have := hbw.size; simp; omega) (own_base hown)
                        have hown1 : w1.ownsRow w.heap.size 3 1 v' (ns ++ [d]).length ((ns ++ [d]).map fun d => Value.int .i64 (Pv.val d)) := by rw [List.map_append, List.length_append, List.map_cons, List.map_nil, VN.out]; exact hown'
                        have hns' : ns.length = k := HG.out.2.2.2 |> fun h => by simp at h; omega
                        clear hown' hgrow hown
                        go_wp2
                        go_roundg (3 - (k + 1))
                        case measure => omega
                        case rel => exact ⟨k + 1, i2 + nd, ns ++ [d], by omega, by omega, by go_num, by go_num, by omega, by omega, by simp; omega, hown1, hbw1, HG⟩
                · have hb1 : (nd : Int) ≤ 1 := by omega
                  have HG : Hid (ScAt s.data.toList (k + 1) (i2 + nd) (ns ++ [d])) := NG.out hn1 (by omega) (fun h => absurd h hn2)
                  clear NB NZ NG hn0 hn2
                  obtain ⟨V, hV⟩ : ∃ V : Nat → Nat, ∀ j, Pv.val (d.take j) = V j := ⟨_, fun _ => rfl⟩
                  have V0 : Hid (V 0 = 0) := by show V 0 = 0; rw [← hV]; rfl
                  have VN : Hid (Pv.val d = V nd) := by show Pv.val d = V nd; rw [← hV, List.take_of_length_le (by rw [HL.out]; omega)]
                  have VS2 : Hid (∀ j, j < nd → ∃ h : i2 + j < s.size, V (j + 1) = V j * 10 + (s[i2 + j].toNat - 48) ∧ 48 ≤ s[i2 + j].toNat ∧ s[i2 + j].toNat ≤ 57) := by
                    intro j hj
                    obtain ⟨q1, q2, q3⟩ := VS.out j hj
                    rw [hV, hV] at q2
                    exact ⟨q1, q2, q3⟩
                  have VB2 : Hid (∀ j, V j < 1000000) := by
                    intro j
                    rw [← hV]
                    exact VB j
                  clear VS VB hV
                  go_wp2
                  go_loopg [9, 10] nd (fun g x j wx => ∃ jj : Nat, jj ≤ nd ∧ nd - jj ≤ g ∧ j = .int .i64 jj ∧ x = .int .i64 (V jj) ∧ wx = wr)
                  case atStart => exact ⟨0, by omega, by omega, rfl, by rw [V0.out]; rfl, rfl⟩
                  case round =>
                    obtain ⟨jj, hj1, hj2, rfl, rfl, rfl⟩ := hrel
                    have HV := VB2.out jj
                    by_cases hj : jj < nd
                    · obtain ⟨q1, q2, q3, q4⟩ := VS2.out jj hj
                      have q5 : (48 : Int) ≤ (s[i2 + jj].toNat : Int) := by omega
                      have q6 : (s[i2 + jj].toNat : Int) ≤ 57 := by omega
                      have Q2 : Hid (V (jj + 1) = V jj * 10 + (s[i2 + jj].toNat - 48)) := q2
                      clear q2 q3 q4
                      go_wp2
                      go_roundg (nd - (jj + 1))
                      case measure => omega
                      case rel => exact ⟨jj + 1, by omega, by omega, by go_num, congrArg (Value.int .i64) (by rw [Q2.out]; omega), rfl⟩
                    · have hj' : jj = nd := by omega
                      rw [hj']
                      clear hj' hj hj1 hj2 HV
                      go_wp2_with (at_builtin; refine wpList_append_own _ rfl _ _ 140 rfl w.heap.size 3 i3 (.int .i64 0) 1 8 Tryz.underlying140 HI.out.1 HI.out.2.1 HI.out.2.2.1 HI.out.2.2.2 rfl (by decide) _ _ _ rfl (hown.alloc _) ⟨wr.heap.size, 0, none⟩ 1 1 [.int .i64 (V nd)] rfl rfl ?_ ?_ ?_ ?_ ?_ ?_)
                      all_goals first
                        | exact cell_one_new _ _ _
                        | (show (Value.int .i64 (V nd)).oneCell' = true; rfl)
                        | (show ∀ u ∈ [Value.int .i64 (V nd)], u.oneCell' = true; intro u hu; simp at hu; subst hu; rfl)
                        | (show ns.length + 1 ≤ maxLen; unfold maxLen; omega)
                        | (show (ns.length + 1) * 8 ≤ 140737488355328; omega)
                        | (show w.heap.size ≤ (wr.alloc _).heap.size; have := hbw.size; simp; omega)
                        | (show w.heap.size ≤ wr.heap.size + 1; have := hbw.size; omega)
                        | skip
                      intro v' w1 hown' hgrow _
                      have hbw1 : Below w.heap.size w w1 := (hbw.alloc hbw.size _).grown hgrow (by have := hbw.size; simp; omega) (own_base hown)
                      have hown1 : w1.ownsRow w.heap.size 3 1 v' (ns ++ [d]).length ((ns ++ [d]).map fun d => Value.int .i64 (Pv.val d)) := by rw [List.map_append, List.length_append, List.map_cons, List.map_nil, VN.out]; exact hown'
                      have hns' : ns.length = k := HG.out.2.2.2 |> fun h => by simp at h; omega
                      clear hown' hgrow hown
                      go_wp2
                      go_roundg (3 - (k + 1))
                      case measure => omega
                      case rel => exact ⟨k + 1, i2 + nd, ns ++ [d], by omega, by omega, by go_num, by go_num, by omega, by omega, by simp; omega, hown1, hbw1, HG⟩
          · have HN : Hid (R = none) := RN.out (k + 1) (by omega) (A.out.nodot (by omega) (fun h => by rw [HE.out]; intro e; exact h46 (by rw [e]; rfl)))
            have hb46 : ((s[i].toNat : Int) != 46) = true := by simpa using h46
            have hil' : (i : Int) < (s.size : Int) := by omega
            clear h46 hk0 HE
            go_wp2
            go_ret3
            exact ⟨_, _, _, rfl, hbw, VRes.no HN.out⟩
        · have HN : Hid (R = none) := RN.out (k + 1) (by omega) (A.out.nodot (by omega) (fun h => absurd h (by rw [HS.out]; exact hil)))
          have hil' : (s.size : Int) ≤ (i : Int) := by omega
          clear hil hk0
          go_wp2
          go_ret3
          exact ⟨_, _, _, rfl, hbw, VRes.no HN.out⟩
    · have hk3' : (3 : Int) ≤ (k : Int) := by omega
      have hke : k = 3 := by omega
      have AS : Pv.scan 3 s.data.toList.tail = some (ns, s.data.toList.drop i) := by have := A.out.1; rw [hke] at this; exact this
      have hn3 : ns.length = 3 := by have := A.out.2.2.2; omega
      have NO := numOf_owns hown (by omega)
      have hsh : ∃ ad n c, u5 = .slice ad n c := by
        obtain ⟨b, c, h, _⟩ := NO
        exact ⟨_, _, _, h⟩
      obtain ⟨ad, n, c, hu5⟩ := hsh
      rw [hu5] at NO ⊢
      have NH : Hid (NumOf wr (.slice ad n c) ns) := NO
      have HN3 : Hid (ns.length = 3) := hn3
      clear hu5 NO hown hke hn3 A
      by_cases hil : i < s.size
      · have HE : Hid (s.data.toList[i]'(by rw [HS.out]; exact hil) = s[i]) := rfl
        rw [List.drop_eq_getElem_cons (by rw [HS.out]; exact hil), HE.out] at AS
        have hie : ((i : Int) == (s.size : Int)) = false := beq_eq_false_iff_ne.2 (by omega)
        have hil' : (i : Int) < (s.size : Int) := by omega
        by_cases h45 : (s[i].toNat : Int) = 45
        · have e45 : s[i] = 45 := UInt8.toNat.inj (by simpa using (by omega : s[i].toNat = 45))
          rw [e45] at AS
          have HR := R3.out ns _ AS
          have hb45 : ((s[i].toNat : Int) != 45) = false := by rw [h45]; rfl
          clear h45 e45 AS HE RN R1 R2 R3
          have kid := fun W => identifiers_any (s.extract (i + 1) s.size) W (by simp; omega)
          have hex : (s.extract (i + 1) s.size).data.toList = s.data.toList.drop (i + 1) := by
            rw [Lib.extract_data]
            exact List.take_of_length_le (by rw [List.length_drop, HS.out]; omega)
          rw [hex] at kid
          clear hex
          generalize s.data.toList.drop (i + 1) = b at kid HR
          unfold Pv.refI at HR
          generalize Pv.identGo [] [] b = G at kid HR
          have HRR : Hid (R = Option.map (fun i => (ns, i)) (match G with | none => none | some l => if l.length ≤ 4 then some l else none)) := HR
          clear HR
          go_wp2_with (go_at_call 104; fail)
          refine (kid _).mono ?_
          rintro e w1 ⟨v, ok, rfl, hb1, hres⟩
          go_wp2
          go_ret3
          refine ⟨_, _, _, rfl, hbw.trans (hb1.mono hbw.size), ?_⟩
          exact vres_id hres HRR.out (NH.out.below hb1) HN3.out
        · have HN : Hid (R = none) := R2.out ns _ _ AS (fun e => h45 (by rw [e]; rfl))
          have hb45 : ((s[i].toNat : Int) != 45) = true := by simpa using h45
          clear h45 AS HE
          go_wp2
          go_ret3
          exact ⟨_, _, _, rfl, hbw, VRes.no HN.out⟩
      · rw [List.drop_of_length_le (by rw [HS.out]; omega)] at AS
        have HR : Hid (R = some (ns, [])) := R1.out ns AS
        have hie : ((i : Int) == (s.size : Int)) = true := beq_iff_eq.2 (by omega)
        clear hil AS
        go_wp2
        go_ret3
        refine ⟨_, _, _, rfl, hbw, ?_⟩
        rw [HR.out]
        exact ⟨rfl, NH.out, HN3.out, [], rfl, by simp, Or.inl ⟨rfl, rfl⟩⟩

end Go.Proofs.YtiamomiafekihaaGreatDoor
