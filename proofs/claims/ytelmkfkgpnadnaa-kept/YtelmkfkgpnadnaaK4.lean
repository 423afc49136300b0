/-
  Both move.
-/
import Derived.Test.YtelmkfkgpnadnaaK3
namespace Go.Proofs.Ytelmkfkgpnadnaa
open Go.RowKit

def ints (l : List Nat) : List Value := l.map fun (p : Nat) => Value.int .i64 (p : Int)

theorem ints_snoc (l : List Nat) (p : Nat) : ints (l ++ [p]) = ints l ++ [.int .i64 p] := by simp [ints]

theorem ints_get (l : List Nat) (j : Nat) (h : j < l.length) : (ints l)[j]? = some (.int .i64 l[j]) := by simp [ints, h]

variable {w w' : World} {b n : Nat} {A Pl : Nat → Nat} {E : Nat → Nat → Bool}

def apart (u v : Value) : Prop := u.ownBlock = none ∨ v.ownBlock = none ∨ u.ownBlock ≠ v.ownBlock

theorem apart.symm {u v : Value} (h : apart u v) : apart v u := by
  rcases h with h | h | h
  · exact Or.inr (Or.inl h)
  · exact Or.inl h
  · exact Or.inr (Or.inr (fun e => h e.symm))

theorem apart.ne {u v : Value} (h : apart u v) : v.ownBlock = none ∨ v.ownBlock ≠ u.ownBlock := by
  rcases h with h | h | h
  · rw [h]; cases v.ownBlock <;> simp
  · exact Or.inl h
  · exact Or.inr (fun e => h e.symm)

/-- Three lists of numbers, each in a row of its own. -/
structure Tri (w : World) (B : Nat) (u v z : Value) (lu lv lz : List Nat) : Prop where
  ou : w.ownsRow B 3 1 u lu.length (ints lu)
  ov : w.ownsRow B 3 1 v lv.length (ints lv)
  oz : w.ownsRow B 3 1 z lz.length (ints lz)
  uv : apart u v
  vz : apart v z
  zu : apart z u

theorem Tri.rot {B : Nat} {u v z : Value} {lu lv lz : List Nat} (h : Tri w B u v z lu lv lz) : Tri w B v z u lv lz lu := ⟨h.ov, h.oz, h.ou, h.vz, h.zu, h.uv⟩

theorem Tri.app {B : Nat} {u v z u' : Value} {lu lv lz : List Nat} {p : Nat} {w1 : World} {o : Obj} (h : Tri w B u v z lu lv lz)
    (ho : w1.ownsRow B 3 1 u' (lu.length + 1) (ints lu ++ [.int .i64 p])) (hg : (w.alloc o).grownBy w1 u.ownBlock) (hl : u'.ownBlock = u.ownBlock ∨ u'.ownBlock = some (w.heap.size + 1)) :
    Tri w1 B u' v z (lu ++ [p]) lv lz := by
  have new : ∀ {x : Value} {lx : List Nat}, w.ownsRow B 3 1 x lx.length (ints lx) → apart u x → apart u' x := fun {x lx} hx ha => by
    rcases hl with e | e
    · unfold apart; rw [e]; exact ha
    · cases hk : x.ownBlock with
      | none => exact Or.inr (Or.inl hk)
      | some k =>
        have := (hx.lt k hk).2
        refine Or.inr (Or.inr ?_)
        rw [e, hk]
        simp only [ne_eq, Option.some.injEq]
        omega
  refine ⟨by rw [List.length_append, ints_snoc]; exact ho, (h.ov.alloc o).kept hg h.uv.ne, (h.oz.alloc o).kept hg h.zu.symm.ne, new h.ov h.uv, h.vz, (new h.oz h.zu.symm).symm⟩

theorem Tri.base {B : Nat} {u v z : Value} {lu lv lz : List Nat} (h : Tri w B u v z lu lv lz) : ∀ k, u.ownBlock = some k → B ≤ k := fun k hk => (h.ou.lt k hk).1

theorem own_shape {B m : Nat} {u : Value} {xs : List Value} (h : w.ownsRow B 3 1 u m xs) (hm : 0 < m) : ∃ g cap, u = .slice (some ⟨g, 0, none⟩) m cap ∧ B ≤ g ∧ g < w.heap.size := by
  rcases h.2 with ⟨_, h0⟩ | ⟨g, cap, cur, hu, hb, hg, _⟩
  · omega
  · exact ⟨g, cap, hu, hb, (Array.getElem?_eq_some_iff.1 hg).1⟩

theorem sq_lt (O : Kp.Ok n A Pl E) (S T : Nat → Bool) {f l a : Nat} (hl : l < n) (h : a ∈ Kp.sq S T A (Kp.reg f l)) : a < n := by
  unfold Kp.sq Kp.PF Kp.PB at h
  rcases List.mem_append.1 h with h | h
  all_goals
    obtain ⟨q, hq, rfl⟩ := List.mem_map.1 h
    have h4 := (Kp.reg_mem _ _ q).1 (List.mem_filter.1 hq).1
    exact O.atLt q (by omega)

theorem info3 : ∃ i, Try.prog.info? 3 = some i ∧ i.zero = some (.int .i64 0) ∧ i.size = 1 ∧ i.bytes = 8 := by
  have h : (Try.prog.info? 3).map (fun i => (i.zero, i.size, i.bytes)) = some (some (.int .i64 0), 1, 8) := by kernel_rfl
  rw [Option.map_eq_some_iff] at h
  obtain ⟨i, h1, h2⟩ := h
  simp only [Prod.mk.injEq] at h2
  exact ⟨i, h1, h2.1, h2.2.1, h2.2.2⟩

/-- Two blocks of forty truths. -/
theorem two_boxes (w : World) (S T : Nat → Bool) : BoolsAt ((w.alloc (.cells (blist S).toArray 56)).alloc (.cells (blist T).toArray 56)) w.heap.size S
    ∧ BoolsAt ((w.alloc (.cells (blist S).toArray 56)).alloc (.cells (blist T).toArray 56)) (w.heap.size + 1) T := by
  have h1 : ((w.alloc (.cells (blist S).toArray 56)).alloc (.cells (blist T).toArray 56)).heap[w.heap.size]? = some (.cells (blist S).toArray 56) := by
    rw [Below.heap_alloc _ _ _ (by simp)]
    show (w.heap.push _)[w.heap.size]? = _
    simp
  have h2 : ((w.alloc (.cells (blist S).toArray 56)).alloc (.cells (blist T).toArray 56)).heap[w.heap.size + 1]? = some (.cells (blist T).toArray 56) := by
    show ((w.heap.push _).push _)[w.heap.size + 1]? = _
    rw [Array.getElem?_push, if_pos (by simp)]
  refine ⟨⟨fun v hv => ?_, fun v hv => ?_⟩, ⟨fun v hv => ?_, fun v hv => ?_⟩⟩
  · simp only [World.cell?, h1]; simp [hv, blist]
  · simp only [World.frozen?, h1]; simp
  · simp only [World.cell?, h2]; simp [hv, blist]
  · simp only [World.frozen?, h2]; simp

theorem reg_snoc (f p : Nat) (h : f ≤ p) : List.range' f (p + 1 - f) = List.range' f (p - f) ++ [p] := by
  rw [show p + 1 - f = (p - f) + 1 by omega, List.range'_1_concat, show f + (p - f) = p by omega]

set_option maxRecDepth 100000 in
set_option maxHeartbeats 8000000 in
theorem move_any (S T : Nat → Bool) (f l : Nat) (h : RowAt w b n A Pl E) (O : Kp.Ok n A Pl E) (hn : n ≤ 40) (hfl : f ≤ l) (hl : l < n) (hne : Kp.PB S T A (Kp.reg f l) ≠ []) :
    Calls Try.prog 31 #[.pointer (some ⟨b, 0, none⟩), .agg (blist S).toArray, .agg (blist T).toArray, .int .i64 f, .int .i64 l] w fun e w' => e = .returned (.tuple #[]) ∧
      ∃ A' Pl', RowAt w' b n A' Pl' E ∧ Kp.Put (Kp.PR S T A (Kp.reg f l)) (Kp.sq S T A (Kp.reg f l)) (Kp.PR S T A (Kp.reg f l)).length A Pl A' Pl' ∧ w.grownBy w' (some b) := by
  obtain ⟨i0, hi1, hi2, hi3, hi4⟩ := info3
  have HI : Hid (Try.prog.info? 3 = some i0 ∧ i0.zero = some (.int .i64 0) ∧ i0.size = 1 ∧ i0.bytes = 8) := ⟨hi1, hi2, hi3, hi4⟩
  clear hi1 hi2 hi3 hi4
  have HH : Hid (RowAt w b n A Pl E) := h
  have HO : Hid (Kp.Ok n A Pl E) := O
  have hbl := h.lt
  have HNE : Hid (Kp.PB S T A (Kp.reg f l) ≠ []) := hne
  clear h O hne
  go_enter Try.func31, Try.ntmps31
  go_upto_region 1 with fail
  generalize hW : World.alloc (World.alloc w _) _ = W
  have hB : Below w.heap.size w W := by
    rw [← hW]; exact ((Below.refl _ _).alloc (Nat.le_refl _) _).alloc (by simp) _
  have hWs : W.heap.size = w.heap.size + 2 := by rw [← hW]; simp
  have hb2 := two_boxes w S T
  rw [hW] at hb2
  clear hW
  have HR : Hid (RowAt W b n A Pl E) := HH.out.below hB
  have HS : Hid (BoolsAt W w.heap.size S) := hb2.1
  have HT : Hid (BoolsAt W (w.heap.size + 1) T) := hb2.2
  clear hb2 HH
  go_wp2
  go_loopg [10, 11, 12, 13] (l + 1 - f) (fun gg u v z s wr => ∃ p : Nat, f ≤ p ∧ p ≤ l + 1 ∧ l + 1 - p ≤ gg ∧ s = .int .i64 p ∧
    Hid (Tri wr (w.heap.size + 2) u v z (Kp.PR S T A (List.range' f (p - f))) ((Kp.PF S A (List.range' f (p - f))).map A) ((Kp.PB S T A (List.range' f (p - f))).map A)) ∧ Below (w.heap.size + 2) W wr)
  case atStart => exact ⟨f, Nat.le_refl _, by omega, Nat.le_refl _, rfl, by rw [Nat.sub_self]; exact ⟨World.ownsRow_nil _ _ _ _, World.ownsRow_nil _ _ _ _, World.ownsRow_nil _ _ _ _, Or.inl rfl, Or.inl rfl, Or.inl rfl⟩, Below.refl _ _⟩
  case round =>
    obtain ⟨p, hfp, hpl, hg, rfl, HTr, hbw⟩ := hrel
    by_cases hlt : p ≤ l
    · have hp40 : p < 40 := by omega
      have hpn : p < n := by omega
      have hA := HO.out.atLt p hpn
      have hA40 : A p < 40 := by omega
      have hat := (HR.out.of_block (hbw.block b (by omega))).at' p hp40
      have hsA := (HS.out.of_block (hbw.block _ (by omega))).at' (A p) hA40
      have htA := (HT.out.of_block (hbw.block _ (by omega))).at' (A p) hA40
      have hsz : w.heap.size + 2 ≤ wr.heap.size := by have := hbw.size; omega
      have hlr : (Kp.PR S T A (List.range' f (p - f))).length ≤ 40 := by
        have : (Kp.PR S T A (List.range' f (p - f))).length ≤ (List.range' f (p - f)).length := List.length_filter_le _ _
        rw [List.length_range'] at this; omega
      have hlf : ((Kp.PF S A (List.range' f (p - f))).map A).length ≤ 40 := by
        have : (Kp.PF S A (List.range' f (p - f))).length ≤ (List.range' f (p - f)).length := List.length_filter_le _ _
        rw [List.length_range'] at this; rw [List.length_map]; omega
      have hlb : ((Kp.PB S T A (List.range' f (p - f))).map A).length ≤ 40 := by
        have : (Kp.PB S T A (List.range' f (p - f))).length ≤ (List.range' f (p - f)).length := List.length_filter_le _ _
        rw [List.length_range'] at this; rw [List.length_map]; omega
      have er := reg_snoc f p hfp
      cases hs : S (A p)
      · cases ht : T (A p)
        · rw [hs] at hsA
          rw [ht] at htA
          have HN : Hid (Tri wr (w.heap.size + 2) u10 u11 u12 (Kp.PR S T A (List.range' f (p + 1 - f))) ((Kp.PF S A (List.range' f (p + 1 - f))).map A) ((Kp.PB S T A (List.range' f (p + 1 - f))).map A)) := by
            have := HTr.out
            show Tri _ _ _ _ _ _ _ _
            rw [er]
            simp only [Kp.PR, Kp.PF, Kp.PB, List.filter_append, List.filter_cons, hs, ht] at this ⊢
            simpa using this
          clear er hs ht
          go_wp2
          go_roundg (l + 1 - (p + 1))
          case measure => omega
          case rel => exact ⟨p + 1, by omega, by omega, by omega, by go_num, HN, hbw⟩
        · rw [hs] at hsA
          rw [ht] at htA
          have e1 : Kp.PR S T A (List.range' f (p + 1 - f)) = Kp.PR S T A (List.range' f (p - f)) ++ [p] := by
            rw [er]; simp [Kp.PR, List.filter_append, hs, ht]
          have e2 : (Kp.PF S A (List.range' f (p + 1 - f))).map A = (Kp.PF S A (List.range' f (p - f))).map A := by
            rw [er]; simp [Kp.PF, List.filter_append, hs]
          have e3 : (Kp.PB S T A (List.range' f (p + 1 - f))).map A = (Kp.PB S T A (List.range' f (p - f))).map A ++ [A p] := by
            rw [er]; simp [Kp.PB, List.filter_append, hs, ht]
          have HE : Hid (Kp.PR S T A (List.range' f (p + 1 - f)) = Kp.PR S T A (List.range' f (p - f)) ++ [p] ∧ (Kp.PF S A (List.range' f (p + 1 - f))).map A = (Kp.PF S A (List.range' f (p - f))).map A ∧ (Kp.PB S T A (List.range' f (p + 1 - f))).map A = (Kp.PB S T A (List.range' f (p - f))).map A ++ [A p]) := ⟨e1, e2, e3⟩
          clear er hs ht e1 e2 e3
          generalize Kp.PR S T A (List.range' f (p - f)) = LR at HTr HE hlr
          generalize (Kp.PF S A (List.range' f (p - f))).map A = LF at HTr HE hlf
          generalize (Kp.PB S T A (List.range' f (p - f))).map A = LB at HTr HE hlb
          go_wp2_with (at_builtin; refine wpList_append_own_at _ rfl _ _ 34 rfl (w.heap.size + 2) 3 i0 (.int .i64 0) 1 8 Try.underlying34 HI.out.1 HI.out.2.1 HI.out.2.2.1 HI.out.2.2.2 rfl (by decide) _ _ _ rfl (HTr.out.oz.alloc _) ⟨wr.heap.size, 0, none⟩ 1 1 [.int .i64 (A p)] rfl rfl ?_ ?_ ?_ ?_ ?_ ?_)
          all_goals first
            | exact cell_one_new _ _ _
            | (show ∀ u ∈ [Value.int .i64 ((A p) : Int)], u.oneCell' = true; intro u hu; simp at hu; subst hu; rfl)
            | (show LB.length + 1 ≤ maxLen; unfold maxLen; omega)
            | (show (LB.length + 1) * 8 ≤ 140737488355328; omega)
            | (show w.heap.size + 2 ≤ (wr.alloc _).heap.size; simp; omega)
            | (show w.heap.size + 2 ≤ wr.heap.size + 1; omega)
            | skip
          intro v' w1 hown' hgrow _ hloc
          have HT1 : Hid (Tri w1 (w.heap.size + 2) u10 u11 v' LR LF (LB ++ [A p])) := (HTr.out.rot.rot.app hown' hgrow hloc).rot
          have hbw1 : Below (w.heap.size + 2) W w1 := (hbw.alloc hsz _).grown hgrow (by simp; omega) HTr.out.rot.rot.base
          have hsz1 : w.heap.size + 2 ≤ w1.heap.size := by have := hbw1.size; omega
          clear hown' hgrow hloc HTr hbw hsz
          go_wp2_with (at_builtin; refine wpList_append_own_at _ rfl _ _ 34 rfl (w.heap.size + 2) 3 i0 (.int .i64 0) 1 8 Try.underlying34 HI.out.1 HI.out.2.1 HI.out.2.2.1 HI.out.2.2.2 rfl (by decide) _ _ _ rfl (HT1.out.ou.alloc _) ⟨w1.heap.size, 0, none⟩ 1 1 [.int .i64 p] rfl rfl ?_ ?_ ?_ ?_ ?_ ?_)
          all_goals first
            | exact cell_one_new _ _ _
            | (show ∀ u ∈ [Value.int .i64 (p : Int)], u.oneCell' = true; intro u hu; simp at hu; subst hu; rfl)
            | (show LR.length + 1 ≤ maxLen; unfold maxLen; omega)
            | (show (LR.length + 1) * 8 ≤ 140737488355328; omega)
            | (show w.heap.size + 2 ≤ (w1.alloc _).heap.size; simp; omega)
            | (show w.heap.size + 2 ≤ w1.heap.size + 1; omega)
            | skip
          intro v2 w2 hown' hgrow _ hloc
          have HT2 : Hid (Tri w2 (w.heap.size + 2) v2 u11 v' (LR ++ [p]) LF (LB ++ [A p])) := HT1.out.app hown' hgrow hloc
          have hbw2 : Below (w.heap.size + 2) W w2 := (hbw1.alloc hsz1 _).grown hgrow (by simp; omega) HT1.out.base
          clear hown' hgrow hloc HT1 hbw1 hsz1
          rw [← HE.out.1, ← HE.out.2.1, ← HE.out.2.2] at HT2
          go_wp2
          go_roundg (l + 1 - (p + 1))
          case measure => omega
          case rel => exact ⟨p + 1, by omega, by omega, by omega, by go_num, HT2, hbw2⟩
      · rw [hs] at hsA
        have e1 : Kp.PR S T A (List.range' f (p + 1 - f)) = Kp.PR S T A (List.range' f (p - f)) ++ [p] := by
          rw [er]; simp [Kp.PR, List.filter_append, hs]
        have e2 : (Kp.PF S A (List.range' f (p + 1 - f))).map A = (Kp.PF S A (List.range' f (p - f))).map A ++ [A p] := by
          rw [er]; simp [Kp.PF, List.filter_append, hs]
        have e3 : (Kp.PB S T A (List.range' f (p + 1 - f))).map A = (Kp.PB S T A (List.range' f (p - f))).map A := by
          rw [er]; simp [Kp.PB, List.filter_append, hs]
        have HE : Hid (Kp.PR S T A (List.range' f (p + 1 - f)) = Kp.PR S T A (List.range' f (p - f)) ++ [p] ∧ (Kp.PF S A (List.range' f (p + 1 - f))).map A = (Kp.PF S A (List.range' f (p - f))).map A ++ [A p] ∧ (Kp.PB S T A (List.range' f (p + 1 - f))).map A = (Kp.PB S T A (List.range' f (p - f))).map A) := ⟨e1, e2, e3⟩
        clear er hs e1 e2 e3
        generalize Kp.PR S T A (List.range' f (p - f)) = LR at HTr HE hlr
        generalize (Kp.PF S A (List.range' f (p - f))).map A = LF at HTr HE hlf
        generalize (Kp.PB S T A (List.range' f (p - f))).map A = LB at HTr HE hlb
        go_wp2_with (at_builtin; refine wpList_append_own_at _ rfl _ _ 34 rfl (w.heap.size + 2) 3 i0 (.int .i64 0) 1 8 Try.underlying34 HI.out.1 HI.out.2.1 HI.out.2.2.1 HI.out.2.2.2 rfl (by decide) _ _ _ rfl (HTr.out.ov.alloc _) ⟨wr.heap.size, 0, none⟩ 1 1 [.int .i64 (A p)] rfl rfl ?_ ?_ ?_ ?_ ?_ ?_)
        all_goals first
          | exact cell_one_new _ _ _
          | (show ∀ u ∈ [Value.int .i64 ((A p) : Int)], u.oneCell' = true; intro u hu; simp at hu; subst hu; rfl)
          | (show LF.length + 1 ≤ maxLen; unfold maxLen; omega)
          | (show (LF.length + 1) * 8 ≤ 140737488355328; omega)
          | (show w.heap.size + 2 ≤ (wr.alloc _).heap.size; simp; omega)
          | (show w.heap.size + 2 ≤ wr.heap.size + 1; omega)
          | skip
        intro v' w1 hown' hgrow _ hloc
        have HT1 : Hid (Tri w1 (w.heap.size + 2) u10 v' u12 LR (LF ++ [A p]) LB) := (HTr.out.rot.app hown' hgrow hloc).rot.rot
        have hbw1 : Below (w.heap.size + 2) W w1 := (hbw.alloc hsz _).grown hgrow (by simp; omega) HTr.out.rot.base
        have hsz1 : w.heap.size + 2 ≤ w1.heap.size := by have := hbw1.size; omega
        clear hown' hgrow hloc HTr hbw hsz
        go_wp2_with (at_builtin; refine wpList_append_own_at _ rfl _ _ 34 rfl (w.heap.size + 2) 3 i0 (.int .i64 0) 1 8 Try.underlying34 HI.out.1 HI.out.2.1 HI.out.2.2.1 HI.out.2.2.2 rfl (by decide) _ _ _ rfl (HT1.out.ou.alloc _) ⟨w1.heap.size, 0, none⟩ 1 1 [.int .i64 p] rfl rfl ?_ ?_ ?_ ?_ ?_ ?_)
        all_goals first
          | exact cell_one_new _ _ _
          | (show ∀ u ∈ [Value.int .i64 (p : Int)], u.oneCell' = true; intro u hu; simp at hu; subst hu; rfl)
          | (show LR.length + 1 ≤ maxLen; unfold maxLen; omega)
          | (show (LR.length + 1) * 8 ≤ 140737488355328; omega)
          | (show w.heap.size + 2 ≤ (w1.alloc _).heap.size; simp; omega)
          | (show w.heap.size + 2 ≤ w1.heap.size + 1; omega)
          | skip
        intro v2 w2 hown' hgrow _ hloc
        have HT2 : Hid (Tri w2 (w.heap.size + 2) v2 v' u12 (LR ++ [p]) (LF ++ [A p]) LB) := HT1.out.app hown' hgrow hloc
        have hbw2 : Below (w.heap.size + 2) W w2 := (hbw1.alloc hsz1 _).grown hgrow (by simp; omega) HT1.out.base
        clear hown' hgrow hloc HT1 hbw1 hsz1
        rw [← HE.out.1, ← HE.out.2.1, ← HE.out.2.2] at HT2
        go_wp2
        go_roundg (l + 1 - (p + 1))
        case measure => omega
        case rel => exact ⟨p + 1, by omega, by omega, by omega, by go_num, HT2, hbw2⟩
    · have hpl' : p = l + 1 := by omega
      subst hpl'
      have hbR := HR.out.of_block (hbw.block b (by omega))
      have hsz : w.heap.size + 2 ≤ wr.heap.size := by have := hbw.size; omega
      have HTr2 : Hid (Tri wr (w.heap.size + 2) u10 u11 u12 (Kp.PR S T A (Kp.reg f l)) ((Kp.PF S A (Kp.reg f l)).map A) ((Kp.PB S T A (Kp.reg f l)).map A)) := HTr.out
      clear HTr
      have hqn : ∀ a, a ∈ Kp.sq S T A (Kp.reg f l) → a < n := fun a => sq_lt HO.out S T hl
      have hrn : ∀ a, a ∈ Kp.PR S T A (Kp.reg f l) → a < n := fun a ha => by
        have := (Kp.reg_mem _ _ a).1 ((Kp.PR_mem S T A _ _).1 ha).1; omega
      have hnR : (Kp.PR S T A (Kp.reg f l)).Nodup := Kp.up_nodup (Kp.PR_up S T A f l)
      have hnQ : (Kp.sq S T A (Kp.reg f l)).Nodup := Kp.sq_nodup HO.out S T f l hl
      have hlen : (Kp.sq S T A (Kp.reg f l)).length = (Kp.PR S T A (Kp.reg f l)).length := Kp.sq_length S T A _
      have hlb : 0 < ((Kp.PB S T A (Kp.reg f l)).map A).length := by rw [List.length_map]; exact List.length_pos_iff.2 HNE.out
      have hl40 : (Kp.PR S T A (Kp.reg f l)).length ≤ 40 := by
        have := Kp.nodup_le n _ hnR hrn; omega
      obtain ⟨LR, eR⟩ : ∃ L, Kp.PR S T A (Kp.reg f l) = L := ⟨_, rfl⟩
      obtain ⟨LF, eF⟩ : ∃ L, (Kp.PF S A (Kp.reg f l)).map A = L := ⟨_, rfl⟩
      obtain ⟨LB, eB⟩ : ∃ L, (Kp.PB S T A (Kp.reg f l)).map A = L := ⟨_, rfl⟩
      have eQ : Kp.sq S T A (Kp.reg f l) = LF ++ LB := by unfold Kp.sq; rw [eF, eB]
      rw [eQ] at hqn hnQ hlen
      rw [eR] at hrn hnR hlen hl40 HTr2
      rw [eF, eB] at HTr2
      rw [eB] at hlb
      have HQ : Hid (Kp.PR S T A (Kp.reg f l) = LR ∧ Kp.sq S T A (Kp.reg f l) = LF ++ LB) := ⟨eR, eQ⟩
      clear eR eF eB eQ
      have hsum : LF.length + LB.length = LR.length := by rw [← hlen, List.length_append]
      have HL : Hid ((∀ a, a ∈ LF ++ LB → a < n) ∧ (∀ a, a ∈ LR → a < n) ∧ LR.Nodup ∧ (LF ++ LB).Nodup) := ⟨hqn, hrn, hnR, hnQ⟩
      have HRw : Hid (RowAt wr b n A Pl E) := hbR
      clear hqn hrn hnR hnQ hbR
      obtain ⟨g2, c2, rfl, hg2, hg2'⟩ := own_shape HTr2.out.oz hlb
      have hcl : ∀ j u, (ints LB)[j]? = some u → wr.cell? ⟨g2, j, none⟩ = some u := fun j u hu => by
        have := HTr2.out.oz.cells rfl j u hu
        rwa [Addr.add_mid, Nat.zero_add] at this
      go_wp2_with (at_builtin; refine wpList_append_own_at _ rfl _ _ 34 rfl (w.heap.size + 2) 3 i0 (.int .i64 0) 1 8 Try.underlying34 HI.out.1 HI.out.2.1 HI.out.2.2.1 HI.out.2.2.2 rfl (by decide) _ _ _ rfl HTr2.out.ov ⟨g2, 0, none⟩ LB.length c2 (ints LB) rfl ?_ ?_ ?_ ?_ ?_ ?_ ?_)
      all_goals first
        | (show (ints LB).length = _; simp [ints]; done)
        | exact hcl
        | exact fun j u hu => by (rw [Addr.add_mid, Nat.zero_add]; exact hcl j u hu)
        | exact fun u hu => by (unfold ints at hu; obtain ⟨k, _, rfl⟩ := List.mem_map.1 hu; rfl)
        | (show LR.length ≤ maxLen; unfold maxLen; omega)
        | (show LF.length + LB.length ≤ maxLen; unfold maxLen; omega)
        | omega
        | skip
      intro v' w1 hown' hgrow _ hloc
      try rw [hsum] at hown'
      have hown3 : w1.ownsRow (w.heap.size + 2) 3 1 v' LR.length (ints (LF ++ LB)) := by
        have : ints (LF ++ LB) = ints LF ++ ints LB := by simp [ints]
        rw [this]; exact hown'
      have hou := HTr2.out.ou.kept hgrow HTr2.out.uv.symm.ne
      have HR1 : Hid (RowAt w1 b n A Pl E) := HRw.out.of_block (hgrow.block b (by have := HRw.out.lt; omega) (fun e => by have := (HTr2.out.ov.lt b e.symm).1; omega))
      have hbw1 : Below (w.heap.size + 2) W w1 := hbw.grown hgrow hsz HTr2.out.rot.base
      obtain ⟨g3, c3, rfl, hg3, hg3'⟩ := own_shape hown3 (by omega)
      obtain ⟨g1, c1, rfl, hg1, hg1'⟩ := own_shape hou (by omega)
      have HC3 : Hid (∀ j v, (ints (LF ++ LB))[j]? = some v → w1.cell? ((⟨g3, 0, none⟩ : Addr).add j) = some v) := hown3.cells rfl
      have HC1 : Hid (∀ j v, (ints LR)[j]? = some v → w1.cell? ((⟨g1, 0, none⟩ : Addr).add j) = some v) := hou.cells rfl
      clear hown' hgrow hloc hown3 hou HTr2 HRw hcl
      go_wp2
      go_loopg [53] LR.length (fun gg s wx => ∃ (i : Nat) (A' Pl' : Nat → Nat), i ≤ LR.length ∧ LR.length - i ≤ gg ∧ s = .int .i64 i ∧ Hid (RowAt wx b n A' Pl' E) ∧ Hid (Kp.Put LR (LF ++ LB) i A Pl A' Pl') ∧ Hid (w1.grownBy wx (some b)))
      case atStart => exact ⟨0, A, Pl, by omega, by omega, rfl, HR1, Kp.put_start _ _ _ _, ⟨rfl, rfl, rfl, Nat.le_refl _, fun _ _ _ => rfl⟩⟩
      case round =>
        obtain ⟨i, A', Pl', hi, hgi, rfl, HR', HP, HG⟩ := hrel
        by_cases hlt2 : i < LR.length
        · have hiQ : i < (LF ++ LB).length := by omega
          have h3 := HG.out.cell (HC3.out i _ (ints_get _ i hiQ)) (by rw [Addr.add_mid]; show some g3 ≠ some b; simp; omega)
          have h1 := HG.out.cell (HC1.out i _ (ints_get _ i hlt2)) (by rw [Addr.add_mid]; show some g1 ≠ some b; simp; omega)
          rw [Addr.add_mid, Nat.zero_add] at h3 h1
          have hq := HL.out.1 _ (List.getElem_mem hiQ)
          have hr := HL.out.2.1 _ (List.getElem_mem hlt2)
          have HN : Hid (Kp.Put LR (LF ++ LB) (i + 1) A Pl (Kp.upd A' LR[i] (LF ++ LB)[i]) (Kp.upd Pl' (LF ++ LB)[i] LR[i])) := Kp.put_step HL.out.2.2.1 HL.out.2.2.2 HP.out (List.getElem?_eq_getElem hiQ) (List.getElem?_eq_getElem hlt2)
          generalize (LF ++ LB)[i] = q at h3 hq HN
          generalize LR[i] = r at h1 hr HN
          have kp := put_any q r HR'.out (by omega) (by omega)
          go_wp2_with (go_at_call 27; fail)
          go_at_call 27
          refine kp.mono ?_
          rintro e w' ⟨rfl, hR2, hg2⟩
          have HG2 : Hid (w1.grownBy w' (some b)) := HG.out.trans hg2
          have HR2 : Hid (RowAt w' b n (Kp.upd A' r q) (Kp.upd Pl' q r) E) := hR2
          clear kp hR2 hg2
          go_wp2
          go_roundg (LR.length - (i + 1))
          case measure => omega
          case rel => exact ⟨i + 1, _, _, by omega, by omega, by go_num, HR2, HN, HG2⟩
        · have hi' : i = LR.length := by omega
          subst hi'
          go_wp2
          go_end0
          refine ⟨rfl, A', Pl', HR'.out, by rw [HQ.out.1, HQ.out.2]; exact HP.out, ?_⟩
          have hbw2 : Below w.heap.size w w1 := hB.trans (hbw1.mono (by omega))
          exact ⟨HG.out.os.trans hbw2.os, HG.out.tape.trans hbw2.tape, HG.out.output.trans hbw2.output, Nat.le_trans hbw2.size HG.out.size, fun k hk hne => (HG.out.block k (Nat.lt_of_lt_of_le hk hbw2.size) hne).trans (hbw2.block k hk)⟩

end Go.Proofs.Ytelmkfkgpnadnaa
