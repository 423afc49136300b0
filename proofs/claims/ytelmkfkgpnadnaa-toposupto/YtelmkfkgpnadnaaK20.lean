/-
  The document's answer, an order: both move.
-/
import Derived.Test.YtelmkfkgpnadnaaK19
namespace Go.Proofs.Ytelmkfkgpnadnaa
open Go.RowKit

variable {w w' : World} {n : Nat} {A Pl : Nat → Nat} {E : Nat → Nat → Bool}

def lF (T : Nat → Bool) (A : Nat → Nat) (i : Nat) : List Nat := ((List.range i).filter fun p => T (A p)).map A
def lP (S T : Nat → Bool) (A : Nat → Nat) (i : Nat) : List Nat := (List.range i).filter fun p => T (A p) || S (A p)

theorem lF_next (T : Nat → Bool) (A : Nat → Nat) (i : Nat) : lF T A (i + 1) = lF T A i ++ (if T (A i) then [A i] else []) := by
  unfold lF; rw [List.range_succ, List.filter_append, List.map_append]; cases h : T (A i) <;> simp [h]

theorem lP_next (S T : Nat → Bool) (A : Nat → Nat) (i : Nat) : lP S T A (i + 1) = lP S T A i ++ (if T (A i) || S (A i) then [i] else []) := by
  unfold lP; rw [List.range_succ, List.filter_append]; cases h : T (A i) <;> cases h' : S (A i) <;> simp [h, h']

theorem lF_le (T : Nat → Bool) (A : Nat → Nat) (i : Nat) : (lF T A i).length ≤ i := by
  unfold lF; rw [List.length_map]; exact Nat.le_trans (List.length_filter_le _ _) (by simp)

theorem lP_le (S T : Nat → Bool) (A : Nat → Nat) (i : Nat) : (lP S T A i).length ≤ i := by
  unfold lP; exact Nat.le_trans (List.length_filter_le _ _) (by simp)

theorem RefAt.node {tb nb eb cn ce p a : Nat} {rb : Nat → Nat} (h : RefAt w tb nb eb cn ce n rb A E) (hp : p < n) : RefAt (w.setCell ⟨nb, p, none⟩ (.int .i64 a)) tb nb eb cn ce n rb (Kp.upd A p a) E := by
  have hs : (w.setCell ⟨nb, p, none⟩ (.int .i64 (a : Int))).heap.size = w.heap.size := by simp [World.setCell]
  have ho : ∀ k, k ≠ nb → (w.setCell ⟨nb, p, none⟩ (.int .i64 (a : Int))).heap[k]? = w.heap[k]? := fun k hk => Below.heap_setCell _ _ _ _ hk
  have hot : ∀ o, (w.setCell ⟨nb, p, none⟩ (.int .i64 (a : Int))).cell? ⟨tb, o, none⟩ = w.cell? ⟨tb, o, none⟩ := fun o => World.cell?_of_block (w := w) (a := ⟨tb, o, none⟩) (ho tb h.d1.1)
  refine ⟨by rw [hot]; exact h.nodes, by rw [hot]; exact h.edges, (h.nv.set hp _).ext fun j _ => ?_, h.ed.of_blocks (by rw [hs]; exact Nat.le_refl _) (ho eb (fun e => h.d1.2.2 e.symm)) (fun u hu => ho (rb u) (h.d2 u hu).2), by rw [hs]; exact h.nlt, h.d1, h.d2⟩
  unfold Kp.upd; by_cases e : j = p <;> simp [e]

theorem lP_nodup (S T : Nat → Bool) (A : Nat → Nat) (i : Nat) : (lP S T A i).Nodup := List.Nodup.sublist List.filter_sublist List.nodup_range

theorem lQ_facts (O : Kp.Ok n A Pl E) (S T : Nat → Bool) (hap : ∀ v, S v = true → T v = true → False) : (lF S A n ++ lF T A n).Nodup ∧ (lF S A n ++ lF T A n).length = (lP S T A n).length ∧ (∀ a, a ∈ lF S A n ++ lF T A n → a < n) ∧ ∀ p, p ∈ lP S T A n → p < n := by
  have inj : ∀ p q, p ∈ List.range n → q ∈ List.range n → A p = A q → p = q := fun p q hp hq e => by
    rw [← O.plAt p (List.mem_range.1 hp), ← O.plAt q (List.mem_range.1 hq), e]
  have nd : ∀ (g : Nat → Bool), (lF g A n).Nodup := fun g => by
    have hu : ((List.range n).filter fun p => g (A p)).Nodup := List.Nodup.sublist List.filter_sublist List.nodup_range
    unfold lF
    rw [List.Nodup, List.pairwise_map]
    refine List.Pairwise.imp_of_mem ?_ hu
    intro p q hp hq hne e
    exact hne (inj p q (List.mem_filter.1 hp).1 (List.mem_filter.1 hq).1 e)
  have mem : ∀ (g : Nat → Bool) (a : Nat), a ∈ lF g A n → a < n ∧ g a = true := fun g a ha => by
    unfold lF at ha
    obtain ⟨p, hp, rfl⟩ := List.mem_map.1 ha
    have := List.mem_filter.1 hp
    exact ⟨O.atLt p (List.mem_range.1 this.1), this.2⟩
  refine ⟨?_, ?_, ?_, ?_⟩
  · rw [List.nodup_append]
    refine ⟨nd S, nd T, fun a ha b hb e => ?_⟩
    subst e
    exact hap a (mem S a ha).2 (mem T a hb).2
  · unfold lF lP
    rw [List.length_append, List.length_map, List.length_map]
    have h1 := Kp.filter_split (fun p => T (A p)) (fun p => S (A p)) (List.range n)
    have h2 : (fun p => !T (A p) && S (A p)) = fun p => S (A p) := by
      funext p
      cases hs : S (A p) <;> cases ht : T (A p) <;> simp
      exact hap (A p) hs ht
    rw [h2] at h1
    omega
  · intro a ha
    rcases List.mem_append.1 ha with h | h
    · exact (mem S a h).1
    · exact (mem T a h).1
  · intro p hp
    unfold lP at hp
    exact List.mem_range.1 (List.mem_filter.1 hp).1

/-- All but two blocks of those before lie as they lay. -/
structure Two (p q : Nat) (w w' : World) : Prop where
  os : w'.os = w.os
  tape : w'.tape = w.tape
  output : w'.output = w.output
  size : w.heap.size ≤ w'.heap.size
  block : ∀ k, k < w.heap.size → k ≠ p → k ≠ q → w'.heap[k]? = w.heap[k]?

set_option maxRecDepth 100000 in
set_option maxHeartbeats 4000000 in
theorem refAdd_move (x y tb nb eb cn ce : Nat) (rb : Nat → Nat) (w : World) (h : RefAt w tb nb eb cn ce n rb A E) (O : Kp.Ok n A Pl E) (hn : n ≤ 40) (hx : x < n) (hy : y < n) (hle : Pl y ≤ Pl x) (hno : ¬ (Kp.Way E y x ∨ x = y)) (S T : Nat → Bool) (hS : S = Kp.dG E Pl n x y) (hT : T = Kp.dF E Pl n x y) :
    Calls Try.prog 22 #[.pointer (some ⟨tb, 0, none⟩), .int .i64 x, .int .i64 y] w fun e w' => e = .returned (.int .i64 0) ∧ ∃ A' Pl', RefAt w' tb nb eb cn ce n rb A' (Kp.edge E x y true) ∧ Kp.Put (lP S T A n) (lF S A n ++ lF T A n) (lP S T A n).length A Pl A' Pl' ∧ Two nb (rb x) w w' := by
  obtain ⟨i0, hi1, hi2, hi3, hi4⟩ := info3
  have HI : Hid (Try.prog.info? 3 = some i0 ∧ i0.zero = some (.int .i64 0) ∧ i0.size = 1 ∧ i0.bytes = 8) := ⟨hi1, hi2, hi3, hi4⟩
  clear hi1 hi2 hi3 hi4
  have kx := is_yes x tb cn _ w h.nodes hx
  have ky := is_yes y tb cn _ w h.nodes hy
  have kl := refLeads_any tb nb eb cn ce rb w h hn (by omega)
  have HR : Hid (RefAt w tb nb eb cn ce n rb A E) := h
  have HO : Hid (Kp.Ok n A Pl E) := O
  have HNO : Hid (¬ (Kp.Way E y x ∨ x = y)) := hno
  have HS : Hid (S = Kp.dG E Pl n x y ∧ T = Kp.dF E Pl n x y) := ⟨hS, hT⟩
  clear h O hno hS hT
  go_enter Try.func22, Try.ntmps22
  go_wp2_with (go_at_call 33; fail)
  go_at_call 33
  refine kx.mono ?_
  intro e w1 hq
  rw [hq.1, hq.2]
  go_wp2_with (go_at_call 33; fail)
  go_at_call 33
  refine ky.mono ?_
  intro e w2 hq
  rw [hq.1, hq.2]
  clear kx ky hq
  go_wp2_with (go_at_call 34; fail)
  go_at_call 34
  refine kl.mono ?_
  rintro e w3 ⟨he, hE, hb⟩
  rw [he]
  have hxy : x ≠ y := fun e => HNO.out (Or.inr e)
  have hq : (((x : Nat) : Int) == (y : Int)) = false := by simp; omega
  have r1 := hE.row y hy
  have r2 := (hE.cell y hy).at' x hx
  have e2 : Kp.WK E n y x = false := by
    cases hz : Kp.WK E n y x with
    | false => rfl
    | true => exact absurd (Or.inl ((Kp.wk_iff HO.out.dom y x).1 hz)) HNO.out
  rw [e2] at r2
  have HR3 : Hid (RefAt w3 tb nb eb cn ce n rb A E) := HR.out.below hb
  have kpx := place_any x tb nb cn w3 HR3.out.nodes HR3.out.nv HO.out hn hx
  have kpy := place_any y tb nb cn w3 HR3.out.nodes HR3.out.nv HO.out hn hy
  have s1 := HR3.out.edges
  have s2 := HR3.out.ed.row x hx
  have s3 := (HR3.out.ed.cell x hx).at' y hy
  have s4 := (HR3.out.ed.cell x hx).fr y hy
  have hltI : decide ((Pl x : Int) < (Pl y : Int)) = false := by simp; omega
  have hltE : ((Pl x : Int) < (Pl y : Int)) = False := by simp; omega
  have HW : Hid (RefAt (w3.setCell ⟨rb x, y, none⟩ (.bool true)) tb nb eb cn ce n rb A (Kp.edge E x y true)) := HR3.out.edge hx hy
  have hrbx := HR.out.ed.lt.2 x hx
  have HL : Hid (EdgesAt (w3.setCell ⟨rb x, y, none⟩ (.bool true)) w.heap.size n (fun u => w.heap.size + 1 + u) (Kp.WK E n)) :=
    hE.of_blocks (by simp [World.setCell]) (Below.heap_setCell _ _ _ _ (by show w.heap.size ≠ rb x; omega)) (fun u _ => Below.heap_setCell _ _ _ _ (by show w.heap.size + 1 + u ≠ rb x; omega))
  have HFW : Hid (Two nb (rb x) w (w3.setCell ⟨rb x, y, none⟩ (.bool true))) := by
    refine ⟨?_, ?_, ?_, ?_, fun k hk _ hx => ?_⟩
    · rw [← hb.os]; simp [World.setCell]
    · rw [← hb.tape]; simp [World.setCell]
    · rw [← hb.output]; simp [World.setCell]
    · have := hb.size; simpa [World.setCell] using this
    · rw [Below.heap_setCell _ _ _ _ hx]; exact hb.block k hk
  have hBz : ∃ B, B = (w3.setCell ⟨rb x, y, none⟩ (.bool true)).heap.size := ⟨_, rfl⟩
  clear kl he hxy e2 hE
  go_wp2_with (go_at_call 35; fail)
  go_at_call 35
  refine kpx.mono ?_
  intro e w4 hq4
  rw [hq4.1, hq4.2]
  clear kpx hq4 r1 r2
  go_wp2_with (go_at_call 35; fail)
  go_at_call 35
  refine kpy.mono ?_
  intro e w5 hq5
  rw [hq5.1, hq5.2]
  clear kpy hq5
  go_upto_region 13 with fail
  generalize w3.setCell ⟨rb x, y, none⟩ (.bool true) = W at *
  obtain ⟨B, hB'⟩ := hBz
  have HB : Hid (B = W.heap.size) := hB'
  clear hB'
  clear s1 s2 s3 s4 HR3
  go_wp2
  go_loopg [12, 13, 14, 15] n (fun gg vf vg vp s wr => ∃ i : Nat, i ≤ n ∧ n - i ≤ gg ∧ s = .int .i64 i ∧ Hid (Tri wr B vf vg vp (lF T A i) (lF S A i) (lP S T A i)) ∧ Below B W wr)
  case atStart => exact ⟨0, by omega, by omega, rfl, ⟨World.ownsRow_nil _ _ _ _, World.ownsRow_nil _ _ _ _, World.ownsRow_nil _ _ _ _, Or.inl rfl, Or.inl rfl, Or.inl rfl⟩, Below.refl _ _⟩
  case round =>
    obtain ⟨i, hi, hg, h15, HTr, hbw⟩ := hrel
    rw [h15]
    clear h15
    have HWr : Hid (RefAt wr tb nb eb cn ce n rb A (Kp.edge E x y true)) := HW.out.below (by rw [← HB.out]; exact hbw)
    have HLr : Hid (EdgesAt wr w.heap.size n (fun u => w.heap.size + 1 + u) (Kp.WK E n)) := HL.out.below (by rw [← HB.out]; exact hbw)
    have hsz : B ≤ wr.heap.size := by have := hbw.size; have := HB.out; omega
    have hnd := HWr.out.nodes
    by_cases hlt : i < n
    · have hA := HO.out.atLt i hlt
      have hPA := HO.out.plAt i hlt
      have hat := HWr.out.nv.at' i hlt
      have r1 := HLr.out.row y hy
      have r2 := (HLr.out.cell y hy).at' (A i) hA
      have r3 := HLr.out.row (A i) hA
      have r4 := (HLr.out.cell (A i) hA).at' x hx
      go_upto_region 20 with fail
      go_cut [17] (fun s wx => s = .bool (T (A i)) ∧ wx = wr)
      case first =>
        have HTe : Hid (T (A i) = (A i == y || (decide (i < Pl x) && Kp.WK E n y (A i)))) := by
          show _ = _
          rw [HS.out.2]; unfold Kp.dF; rw [hPA]
        by_cases h1 : A i = y
        · have q1 : (((A i : Nat) : Int) == (y : Int)) = true := by simp [h1]
          have HH : Hid ((A i == y || (decide (i < Pl x) && Kp.WK E n y (A i))) = true) := by show _ = _; simp [h1]
          clear h1
          go_wp2_with fail
          go_meet
          exact ⟨by rw [HTe.out, HH.out], rfl⟩
        · have q1 : (((A i : Nat) : Int) == (y : Int)) = false := by simp; omega
          by_cases h2 : i < Pl x
          · have q2 : (i : Int) < (Pl x : Int) := by omega
            have HH : Hid ((A i == y || (decide (i < Pl x) && Kp.WK E n y (A i))) = Kp.WK E n y (A i)) := by show _ = _; simp [h1, h2]
            clear h1
            go_wp2_with fail
            go_meet
            exact ⟨by rw [HTe.out, HH.out], rfl⟩
          · have q2 : decide ((i : Int) < (Pl x : Int)) = false := by simp; omega
            have q2e : ((i : Int) < (Pl x : Int)) = False := by simp; omega
            have HH : Hid ((A i == y || (decide (i < Pl x) && Kp.WK E n y (A i))) = false) := by show _ = _; simp [h1, h2]
            clear h1
            go_wp2_with fail
            go_meet
            exact ⟨by rw [HTe.out, HH.out], rfl⟩
      case rest =>
        obtain ⟨h17, hwx⟩ := hcut
        rw [h17, hwx]
        clear h17 hwx
        go_upto_region 21 with fail
        go_cut [18] (fun s wx => s = .bool (S (A i)) ∧ wx = wr)
        case first =>
          have HTe : Hid (S (A i) = (A i == x || (decide (Pl y < i) && Kp.WK E n (A i) x))) := by
            show _ = _
            rw [HS.out.1]; unfold Kp.dG; rw [hPA]
          by_cases h1 : A i = x
          · have q1 : (((A i : Nat) : Int) == (x : Int)) = true := by simp [h1]
            have HH : Hid ((A i == x || (decide (Pl y < i) && Kp.WK E n (A i) x)) = true) := by show _ = _; simp [h1]
            clear h1
            go_wp2_with fail
            go_meet
            exact ⟨by rw [HTe.out, HH.out], rfl⟩
          · have q1 : (((A i : Nat) : Int) == (x : Int)) = false := by simp; omega
            by_cases h2 : Pl y < i
            · have q2 : (Pl y : Int) < (i : Int) := by omega
              have HH : Hid ((A i == x || (decide (Pl y < i) && Kp.WK E n (A i) x)) = Kp.WK E n (A i) x) := by show _ = _; simp [h1, h2]
              clear h1
              go_wp2_with fail
              go_meet
              exact ⟨by rw [HTe.out, HH.out], rfl⟩
            · have q2 : decide ((Pl y : Int) < (i : Int)) = false := by simp; omega
              have q2e : ((Pl y : Int) < (i : Int)) = False := by simp; omega
              have HH : Hid ((A i == x || (decide (Pl y < i) && Kp.WK E n (A i) x)) = false) := by show _ = _; simp [h1, h2]
              clear h1
              go_wp2_with fail
              go_meet
              exact ⟨by rw [HTe.out, HH.out], rfl⟩
        case rest =>
          obtain ⟨h18, hwx⟩ := hcut
          rw [h18, hwx]
          have e1 := lF_next T A i
          have e2 := lF_next S A i
          have e3 := lP_next S T A i
          have l1 := lF_le T A i
          have l2 := lF_le S A i
          have l3 := lP_le S T A i
          have hap : ¬ (S (A i) = true ∧ T (A i) = true) := fun ⟨a, b⟩ => Kp.dFG_apart HO.out HNO.out (A i) (by rw [← HS.out.1]; exact a) (by rw [← HS.out.2]; exact b)
          clear h18 hwx r1 r2 r3 r4
          cases hTv : T (A i)
          · cases hSv : S (A i)
            · rw [hTv] at e1 e3
              rw [hSv] at e2 e3
              have HN : Hid (Tri wr B u12 u13 u14 (lF T A (i + 1)) (lF S A (i + 1)) (lP S T A (i + 1))) := by
                show Tri _ _ _ _ _ _ _ _
                rw [e1, e2, e3]; simpa using HTr.out
              clear e1 e2 e3 hTv hSv hap
              go_wp2
              go_roundg (n - (i + 1))
              case measure => omega
              case rel => exact ⟨i + 1, by omega, by omega, by go_num, HN, hbw⟩
            · rw [hTv] at e1 e3
              rw [hSv] at e2 e3
              have HE : Hid (lF T A (i + 1) = lF T A i ∧ lF S A (i + 1) = lF S A i ++ [A i] ∧ lP S T A (i + 1) = lP S T A i ++ [i]) := ⟨by simpa using e1, by simpa using e2, by simpa using e3⟩
              clear e1 e2 e3 hTv hSv hap
              go_wp2_with (at_builtin; refine wpList_append_own_at _ rfl _ _ 34 rfl B 3 i0 (.int .i64 0) 1 8 Try.underlying34 HI.out.1 HI.out.2.1 HI.out.2.2.1 HI.out.2.2.2 rfl (by decide) _ _ _ rfl (HTr.out.ov.alloc _) ⟨wr.heap.size, 0, none⟩ 1 1 [.int .i64 (A i)] rfl rfl ?_ ?_ ?_ ?_ ?_ ?_)
              all_goals first
                | exact cell_one_new _ _ _
                | (show ∀ u ∈ [Value.int .i64 ((A i) : Int)], u.oneCell' = true; intro u hu; simp at hu; subst hu; rfl)
                | (show (lF S A i).length + 1 ≤ maxLen; unfold maxLen; omega)
                | (show ((lF S A i).length + 1) * 8 ≤ 140737488355328; omega)
                | (show B ≤ (wr.alloc _).heap.size; simp; omega)
                | (show B ≤ wr.heap.size + 1; omega)
                | skip
              intro v' w1 hown' hgrow _ hloc
              have HT1 : Hid (Tri w1 B u12 v' u14 (lF T A i) (lF S A i ++ [A i]) (lP S T A i)) := (HTr.out.rot.app hown' hgrow hloc).rot.rot
              have hbw1 : Below B W w1 := (hbw.alloc hsz _).grown hgrow (by simp; omega) HTr.out.rot.base
              have hsz1 : B ≤ w1.heap.size := by have := hbw1.size; have := HB.out; omega
              clear hown' hgrow hloc HTr hbw hsz
              go_wp2_with (at_builtin; refine wpList_append_own_at _ rfl _ _ 34 rfl B 3 i0 (.int .i64 0) 1 8 Try.underlying34 HI.out.1 HI.out.2.1 HI.out.2.2.1 HI.out.2.2.2 rfl (by decide) _ _ _ rfl (HT1.out.oz.alloc _) ⟨w1.heap.size, 0, none⟩ 1 1 [.int .i64 i] rfl rfl ?_ ?_ ?_ ?_ ?_ ?_)
              all_goals first
                | exact cell_one_new _ _ _
                | (show ∀ u ∈ [Value.int .i64 (i : Int)], u.oneCell' = true; intro u hu; simp at hu; subst hu; rfl)
                | (show (lP S T A i).length + 1 ≤ maxLen; unfold maxLen; omega)
                | (show ((lP S T A i).length + 1) * 8 ≤ 140737488355328; omega)
                | (show B ≤ (w1.alloc _).heap.size; simp; omega)
                | (show B ≤ w1.heap.size + 1; omega)
                | skip
              intro v2 w2' hown' hgrow _ hloc
              have HT2 : Hid (Tri w2' B u12 v' v2 (lF T A i) (lF S A i ++ [A i]) (lP S T A i ++ [i])) := (HT1.out.rot.rot.app hown' hgrow hloc).rot
              have hbw2 : Below B W w2' := (hbw1.alloc hsz1 _).grown hgrow (by simp; omega) HT1.out.rot.rot.base
              clear hown' hgrow hloc HT1 hbw1 hsz1
              rw [← HE.out.2.1, ← HE.out.2.2, ← HE.out.1] at HT2
              go_wp2
              go_roundg (n - (i + 1))
              case measure => omega
              case rel => exact ⟨i + 1, by omega, by omega, by go_num, HT2, hbw2⟩
          · have hSv : S (A i) = false := by
              cases hq : S (A i) with
              | false => rfl
              | true => exact absurd ⟨hq, hTv⟩ hap
            rw [hTv] at e1 e3
            rw [hSv] at e2 e3
            have HE : Hid (lF T A (i + 1) = lF T A i ++ [A i] ∧ lF S A (i + 1) = lF S A i ∧ lP S T A (i + 1) = lP S T A i ++ [i]) := ⟨by simpa using e1, by simpa using e2, by simpa using e3⟩
            rw [hSv]
            clear e1 e2 e3 hTv hSv hap
            go_wp2_with (at_builtin; refine wpList_append_own_at _ rfl _ _ 34 rfl B 3 i0 (.int .i64 0) 1 8 Try.underlying34 HI.out.1 HI.out.2.1 HI.out.2.2.1 HI.out.2.2.2 rfl (by decide) _ _ _ rfl (HTr.out.ou.alloc _) ⟨wr.heap.size, 0, none⟩ 1 1 [.int .i64 (A i)] rfl rfl ?_ ?_ ?_ ?_ ?_ ?_)
            all_goals first
              | exact cell_one_new _ _ _
              | (show ∀ u ∈ [Value.int .i64 ((A i) : Int)], u.oneCell' = true; intro u hu; simp at hu; subst hu; rfl)
              | (show (lF T A i).length + 1 ≤ maxLen; unfold maxLen; omega)
              | (show ((lF T A i).length + 1) * 8 ≤ 140737488355328; omega)
              | (show B ≤ (wr.alloc _).heap.size; simp; omega)
              | (show B ≤ wr.heap.size + 1; omega)
              | skip
            intro v' w1 hown' hgrow _ hloc
            have HT1 : Hid (Tri w1 B v' u13 u14 (lF T A i ++ [A i]) (lF S A i) (lP S T A i)) := HTr.out.app hown' hgrow hloc
            have hbw1 : Below B W w1 := (hbw.alloc hsz _).grown hgrow (by simp; omega) HTr.out.base
            have hsz1 : B ≤ w1.heap.size := by have := hbw1.size; have := HB.out; omega
            clear hown' hgrow hloc HTr hbw hsz
            go_wp2_with (at_builtin; refine wpList_append_own_at _ rfl _ _ 34 rfl B 3 i0 (.int .i64 0) 1 8 Try.underlying34 HI.out.1 HI.out.2.1 HI.out.2.2.1 HI.out.2.2.2 rfl (by decide) _ _ _ rfl (HT1.out.oz.alloc _) ⟨w1.heap.size, 0, none⟩ 1 1 [.int .i64 i] rfl rfl ?_ ?_ ?_ ?_ ?_ ?_)
            all_goals first
              | exact cell_one_new _ _ _
              | (show ∀ u ∈ [Value.int .i64 (i : Int)], u.oneCell' = true; intro u hu; simp at hu; subst hu; rfl)
              | (show (lP S T A i).length + 1 ≤ maxLen; unfold maxLen; omega)
              | (show ((lP S T A i).length + 1) * 8 ≤ 140737488355328; omega)
              | (show B ≤ (w1.alloc _).heap.size; simp; omega)
              | (show B ≤ w1.heap.size + 1; omega)
              | skip
            intro v2 w2' hown' hgrow _ hloc
            have HT2 : Hid (Tri w2' B v' u13 v2 (lF T A i ++ [A i]) (lF S A i) (lP S T A i ++ [i])) := (HT1.out.rot.rot.app hown' hgrow hloc).rot
            have hbw2 : Below B W w2' := (hbw1.alloc hsz1 _).grown hgrow (by simp; omega) HT1.out.rot.rot.base
            clear hown' hgrow hloc HT1 hbw1 hsz1
            rw [← HE.out.2.2, ← HE.out.1, ← HE.out.2.1] at HT2
            go_wp2
            go_roundg (n - (i + 1))
            case measure => omega
            case rel => exact ⟨i + 1, by omega, by omega, by go_num, HT2, hbw2⟩
    · have hi' : n = i := by omega
      subst hi'
      have hap : ∀ v, S v = true → T v = true → False := fun v a b => Kp.dFG_apart HO.out HNO.out v (by rw [← HS.out.1]; exact a) (by rw [← HS.out.2]; exact b)
      obtain ⟨f1, f2, f3, f4⟩ := lQ_facts HO.out S T hap
      have hTy : T y = true := by rw [HS.out.2, Kp.dF_iff HO.out]; exact Or.inl rfl
      have hlf : 0 < (lF T A n).length := by
        apply List.length_pos_of_mem (a := y)
        unfold lF
        refine List.mem_map.2 ⟨Pl y, List.mem_filter.2 ⟨List.mem_range.2 (HO.out.plLt y hy), ?_⟩, HO.out.atPl y hy⟩
        rw [HO.out.atPl y hy]; exact hTy
      have l3 := lP_le S T A n
      have hsum : (lF S A n).length + (lF T A n).length = (lP S T A n).length := by rw [← f2, List.length_append]
      have HF : Hid ((lF S A n ++ lF T A n).Nodup ∧ (lP S T A n).Nodup ∧ (∀ a, a ∈ lF S A n ++ lF T A n → a < n) ∧ ∀ p, p ∈ lP S T A n → p < n) := ⟨f1, lP_nodup S T A n, f3, f4⟩
      have hlq : (lF S A n ++ lF T A n).length = (lP S T A n).length := f2
      have hltb : tb < B := by rw [HB.out]; exact World.block_lt_of_cell? W _ HW.out.nodes
      have hlnb : nb < B := by rw [HB.out]; exact HW.out.nlt
      clear f1 f2 f3 f4 hTy hap
      obtain ⟨LF, eF⟩ : ∃ L, lF T A n = L := ⟨_, rfl⟩
      obtain ⟨LG, eG⟩ : ∃ L, lF S A n = L := ⟨_, rfl⟩
      obtain ⟨LP, eP⟩ : ∃ L, lP S T A n = L := ⟨_, rfl⟩
      have HQ : Hid (lP S T A n = LP ∧ lF S A n = LG ∧ lF T A n = LF) := ⟨eP, eG, eF⟩
      rw [eF, eG, eP] at HTr HF
      rw [eF] at hlf
      rw [eP] at l3
      rw [eF, eG, eP] at hsum hlq
      clear eF eG eP
      obtain ⟨g2, c2, hu12, hg2, hg2'⟩ := own_shape HTr.out.ou hlf
      rw [hu12] at HTr ⊢
      have hcl : ∀ j u, (ints LF)[j]? = some u → wr.cell? ⟨g2, j, none⟩ = some u := fun j u hu => by
        have := HTr.out.ou.cells rfl j u hu
        rwa [Addr.add_mid, Nat.zero_add] at this
      clear hu12
      go_wp2_with (at_builtin; refine wpList_append_own_at _ rfl _ _ 34 rfl B 3 i0 (.int .i64 0) 1 8 Try.underlying34 HI.out.1 HI.out.2.1 HI.out.2.2.1 HI.out.2.2.2 rfl (by decide) _ _ _ rfl HTr.out.ov ⟨g2, 0, none⟩ LF.length c2 (ints LF) rfl ?_ ?_ ?_ ?_ ?_ ?_ ?_)
      all_goals first
        | (show (ints LF).length = _; simp [ints]; done)
        | exact hcl
        | exact fun j u hu => by (rw [Addr.add_mid, Nat.zero_add]; exact hcl j u hu)
        | exact fun u hu => by (unfold ints at hu; obtain ⟨k, _, rfl⟩ := List.mem_map.1 hu; rfl)
        | (show LP.length ≤ maxLen; unfold maxLen; omega)
        | (show LG.length + LF.length ≤ maxLen; unfold maxLen; omega)
        | omega
        | skip
      intro v' w1' hown' hgrow _ hloc
      try rw [hsum] at hown'
      have hown3 : w1'.ownsRow B 3 1 v' LP.length (ints (LG ++ LF)) := by
        have : ints (LG ++ LF) = ints LG ++ ints LF := by simp [ints]
        rw [this]; exact hown'
      have hou := HTr.out.oz.kept hgrow HTr.out.vz.ne
      have hbw1 : Below B W w1' := hbw.grown hgrow hsz HTr.out.rot.base
      obtain ⟨g3, c3, hv3, hg3, hg3'⟩ := own_shape hown3 (by omega)
      obtain ⟨g1, c1, hv1, hg1, hg1'⟩ := own_shape hou (by omega)
      rw [hv3] at hown3 ⊢
      rw [hv1] at hou ⊢
      have HC3 : Hid (∀ j v, (ints (LG ++ LF))[j]? = some v → w1'.cell? ((⟨g3, 0, none⟩ : Addr).add j) = some v) := hown3.cells rfl
      have HC1 : Hid (∀ j v, (ints LP)[j]? = some v → w1'.cell? ((⟨g1, 0, none⟩ : Addr).add j) = some v) := hou.cells rfl
      have HW1 : Hid (RefAt w1' tb nb eb cn ce n rb A (Kp.edge E x y true)) := HW.out.below (by rw [← HB.out]; exact hbw1)
      clear hown' hgrow hloc hown3 hou HTr hcl hv3 hv1 HWr HLr hnd
      go_wp2
      go_loopg [19] LP.length (fun gg s wx => ∃ (i : Nat) (A' Pl' : Nat → Nat), i ≤ LP.length ∧ LP.length - i ≤ gg ∧ s = .int .i64 i ∧ Hid (RefAt wx tb nb eb cn ce n rb A' (Kp.edge E x y true)) ∧ Hid (Kp.Put LP (LG ++ LF) i A Pl A' Pl') ∧ Hid (w1'.grownBy wx (some nb)))
      case atStart => exact ⟨0, A, Pl, by omega, by omega, rfl, HW1, Kp.put_start _ _ _ _, grown_refl _ _⟩
      case round =>
        obtain ⟨i, A', Pl', hi, hgi, h19, HR', HP, HG⟩ := hrel
        rw [h19]
        clear h19
        by_cases hlt2 : i < LP.length
        · have hiQ : i < (LG ++ LF).length := by omega
          have h3 := HG.out.cell (HC3.out i _ (ints_get _ i hiQ)) (by rw [Addr.add_mid]; show some g3 ≠ some nb; simp; omega)
          have h1 := HG.out.cell (HC1.out i _ (ints_get _ i hlt2)) (by rw [Addr.add_mid]; show some g1 ≠ some nb; simp; omega)
          rw [Addr.add_mid, Nat.zero_add] at h3 h1
          have hr := HF.out.2.2.2 _ (List.getElem_mem hlt2)
          have HN : Hid (Kp.Put LP (LG ++ LF) (i + 1) A Pl (Kp.upd A' LP[i] (LG ++ LF)[i]) (Kp.upd Pl' (LG ++ LF)[i] LP[i])) := Kp.put_step HF.out.2.1 HF.out.1 HP.out (List.getElem?_eq_getElem hiQ) (List.getElem?_eq_getElem hlt2)
          generalize (LG ++ LF)[i] = q at h3 HN
          generalize LP[i] = r at h1 hr HN
          have hnd := HR'.out.nodes
          have hst := HR'.out.nv.at' r hr
          have hsf := HR'.out.nv.fr r hr
          have HR2 : Hid (RefAt (wr.setCell ⟨nb, r, none⟩ (.int .i64 q)).drew tb nb eb cn ce n rb (Kp.upd A' r q) (Kp.edge E x y true)) := (HR'.out.node hr).below (Below.refl _ _).drew
          have HG2 : Hid (w1'.grownBy (wr.setCell ⟨nb, r, none⟩ (.int .i64 q)).drew (some nb)) := by
            have := HG.out.trans (grown_one wr nb r (.int .i64 q))
            exact ⟨this.os, this.tape, this.output, this.size, this.block⟩
          go_upto_region 32 with fail
          go_region
          go_wp2
          go_roundg (LP.length - (i + 1))
          case measure => omega
          case rel => exact ⟨i + 1, _, _, by omega, by omega, by go_num, HR2, HN, HG2⟩
        · have hi' : i = LP.length := by omega
          subst hi'
          go_wp2
          go_ret
          refine ⟨rfl, A', Pl', HR'.out, by rw [HQ.out.1, HQ.out.2.1, HQ.out.2.2]; exact HP.out, ?_⟩
          have f := HFW.out
          have b0 := HB.out
          refine ⟨HG.out.os.trans (hbw1.os.trans f.os), HG.out.tape.trans (hbw1.tape.trans f.tape), HG.out.output.trans (hbw1.output.trans f.output), Nat.le_trans f.size (Nat.le_trans hbw1.size HG.out.size), fun k hk h1 h2 => ?_⟩
          have hkB : k < B := by have := f.size; omega
          rw [HG.out.block k (by have := hbw1.size; omega) (fun e => h1 (Option.some.inj e)), hbw1.block k hkB]
          exact f.block k hk h1 h2

end Go.Proofs.Ytelmkfkgpnadnaa
