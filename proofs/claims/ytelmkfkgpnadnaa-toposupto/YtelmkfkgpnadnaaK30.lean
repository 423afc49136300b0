/-
  The document's NewTopo.
-/
import Derived.Test.YtelmkfkgpnadnaaK27
import Derived.Test.YtelmkfkgpnadnaaK29
import Derived.Test.YtelmkfkgpnadnaaK31
import Derived.Deep.OwnRows
import Derived.Deep.RegionLaw
namespace Go.Proofs.Ytelmkfkgpnadnaa
open Go.RowKit

variable {w w' : World} {n : Nat}

theorem info33 : ∃ i, Try.prog.info? 33 = some i ∧ i.zero = some (.slice none 0 0) ∧ i.size = 1 ∧ i.bytes = 24 := by
  have h := info33'
  cases hi : Try.prog.info? 33 with
  | none => rw [hi] at h; cases h
  | some i =>
    rw [hi] at h
    simp only [Option.map_some, Option.some.injEq, Prod.mk.injEq] at h
    exact ⟨i, rfl, h.1, h.2.1, h.2.2⟩

set_option maxHeartbeats 400000 in
theorem refNew_bad (c : Int) (w : World) (hc : ¬ (0 ≤ c ∧ c ≤ 40)) :
    Calls Try.prog 20 #[.int .i64 c] w fun e w' => e = .returned (.tuple #[.pointer none, .int .i64 1]) ∧ w' = w := by
  by_cases h0 : c < 0
  · go_enter Try.func20, Try.ntmps20
    go_wp2
    go_ret2
    exact ⟨rfl, rfl⟩
  · have h1 : 40 < c := by omega
    go_enter Try.func20, Try.ntmps20
    go_wp2
    go_ret2
    exact ⟨rfl, rfl⟩

theorem newUp_start (w : World) (n : Nat) (t : TypeId) : NewUp w w.heap.size n 0 0 (fun _ => 0) (.slice none 0 0) (.slice none 0 0) (fun _ => 0) (w.alloc (.cells #[.slice none 0 0, .slice none 0 0] t)) := by
  have h1 : (w.alloc (.cells #[.slice none 0 0, .slice none 0 0] t)).heap[w.heap.size]? = some (.cells #[.slice none 0 0, .slice none 0 0] t) := by
    show (w.heap.push _)[w.heap.size]? = _
    simp
  refine ⟨⟨fun j hj => ?_, fun j hj => ?_⟩, rfl, World.ownsRow_nil _ _ _ _, fun k hk => (by cases hk), World.ownsRow_nil _ _ _ _, fun k hk => (by cases hk), fun u hu => (by omega), (Below.refl _ _).alloc (Nat.le_refl _) _, ⟨Nat.le_refl _, by simp⟩⟩
  · simp only [World.cell?, h1]
    rcases (by omega : j = 0 ∨ j = 1) with e | e <;> simp [e]
  · simp only [World.frozen?, h1]; simp

/-- A field that may be read and written. -/
def Fld (W : World) (b o : Nat) (v : Value) : Prop := W.cell? ⟨b, o, none⟩ = some v ∧ W.frozen? ⟨b, o, none⟩ = false

theorem Fld.alloc {W : World} {b o : Nat} {v : Value} (h : Fld W b o v) (x : Obj) : Fld (W.alloc x) b o v := by
  have hl : b < W.heap.size := World.block_lt_of_cell? W _ h.1
  exact ⟨by rw [World.cell?_of_block (w := W) (a := ⟨b, o, none⟩) (Below.heap_alloc _ _ _ hl)]; exact h.1, by rw [World.frozen?_of_block (w := W) (a := ⟨b, o, none⟩) (Below.heap_alloc _ _ _ hl)]; exact h.2⟩

theorem Fld.grown {W W' : World} {b o : Nat} {v : Value} {row : Option Nat} (h : Fld W b o v) (hg : W.grownBy W' row) (hne : some b ≠ row) : Fld W' b o v := by
  have hl : b < W.heap.size := World.block_lt_of_cell? W _ h.1
  exact ⟨by rw [World.cell?_of_block (w := W) (a := ⟨b, o, none⟩) (hg.block b hl hne)]; exact h.1, by rw [World.frozen?_of_block (w := W) (a := ⟨b, o, none⟩) (hg.block b hl hne)]; exact h.2⟩

set_option maxRecDepth 100000 in
set_option maxHeartbeats 4000000 in
theorem refNew_any (w : World) (n : Nat) (hn : n ≤ 40) :
    Calls Try.prog 20 #[.int .i64 n] w fun e w' => ∃ tb, e = .returned (.tuple #[.pointer (some ⟨tb, 0, none⟩), .int .i64 0]) ∧ RefAny w' (fun b => w.heap.size ≤ b) tb n id noE ∧ Below w.heap.size w w' := by
  obtain ⟨i0, hi1, hi2, hi3, hi4⟩ := info3
  have HI : Hid (Try.prog.info? 3 = some i0 ∧ i0.zero = some (.int .i64 0) ∧ i0.size = 1 ∧ i0.bytes = 8) := ⟨hi1, hi2, hi3, hi4⟩
  clear hi1 hi2 hi3 hi4
  obtain ⟨i1, hi1, hi2, hi3, hi4⟩ := info33
  have HJ : Hid (Try.prog.info? 33 = some i1 ∧ i1.zero = some (.slice none 0 0) ∧ i1.size = 1 ∧ i1.bytes = 24) := ⟨hi1, hi2, hi3, hi4⟩
  clear hi1 hi2 hi3 hi4
  have HS : Hid (∀ t, NewUp w w.heap.size n 0 0 (fun _ => 0) (.slice none 0 0) (.slice none 0 0) (fun _ => 0) (w.alloc (.cells #[.slice none 0 0, .slice none 0 0] t))) := fun t => newUp_start w n t
  have hn0 : ¬ ((n : Int) < 0) := by omega
  have hn4 : ¬ ((n : Int) > 40) := by omega
  go_enter Try.func20, Try.ntmps20
  go_wp2
  go_loopg [5] n (fun gg s wr => ∃ (i : Nat) (T : Nat → Nat) (nv ev : Value) (rb : Nat → Nat), i ≤ n ∧ n - i ≤ gg ∧ s = .int .i64 i ∧ Hid (NewUp w w.heap.size n i i T nv ev rb wr))
  case atStart => exact ⟨0, _, _, _, _, by omega, by omega, rfl, HS.out _⟩
  case round =>
    obtain ⟨i, T, nv, ev, rb, hi, hg, rfl, HU⟩ := hrel
    by_cases hlt : i < n
    · have hltI : (i : Int) < (n : Int) := by omega
      have c0 := HU.out.obj.at' 0 (by omega)
      have f0 := HU.out.obj.fr 0 (by omega)
      simp only [if_pos] at c0
      have hbs := HU.out.old.size
      go_wp2_with (at_builtin; refine wpList_append_own_at _ rfl _ _ 34 rfl w.heap.size 3 i0 (.int .i64 0) 1 8 Try.underlying34 HI.out.1 HI.out.2.1 HI.out.2.2.1 HI.out.2.2.2 rfl (by decide) _ _ _ rfl (HU.out.on.alloc _) ⟨wr.heap.size, 0, none⟩ 1 1 [.int .i64 i] rfl rfl ?_ ?_ ?_ ?_ ?_ ?_)
      all_goals first
        | exact cell_one_new _ _ _
        | (show ∀ u ∈ [Value.int .i64 (i : Int)], u.oneCell' = true; intro u hu; simp at hu; subst hu; rfl)
        | (show i + 1 ≤ maxLen; unfold maxLen; omega)
        | (show (i + 1) * 8 ≤ 140737488355328; omega)
        | (show w.heap.size ≤ (wr.alloc _).heap.size; simp; omega)
        | (show w.heap.size ≤ wr.heap.size + 1; omega)
        | skip
      intro nv' w1 hown' hgrow _ hloc
      obtain ⟨gN, cN, rfl⟩ := own_some hown' (by omega)
      have hne : some w.heap.size ≠ nv.ownBlock := fun e => by
        have h1 := HU.out.t1 _ e.symm
        rw [HU.out.t0] at h1
        cases h1
      have hF0 : Fld w1 w.heap.size 0 nv := (Fld.alloc ⟨c0, f0⟩ _).grown hgrow hne
      have c0' := hF0.1
      have f0' := hF0.2
      obtain ⟨T1, hU1⟩ := HU.out.node _ (by simpa using hown') hgrow (by
        rcases hloc with e | e
        · exact Or.inl e
        · exact Or.inr (by rw [e]; simp))
      have HU1 : Hid (NewUp w w.heap.size n (i + 1) i T1 (.slice (some ⟨gN, 0, none⟩) (i + 1) cN) ev rb (w1.setCell ⟨w.heap.size, 0, none⟩ (.slice (some ⟨gN, 0, none⟩) (i + 1) cN))) := hU1
      clear hown' hgrow hloc hne hF0 hU1 HU c0 f0 hbs
      go_upto_region 8 with fail
      clear c0' f0'
      generalize w1.setCell ⟨w.heap.size, 0, none⟩ (.slice (some ⟨gN, 0, none⟩) (i + 1) cN) = W1 at HU1 ⊢
      have hF1 : Fld W1.drew w.heap.size 1 ev := ⟨HU1.out.obj.at' 1 (by omega), HU1.out.obj.fr 1 (by omega)⟩
      have HNE : Hid (some w.heap.size ≠ ev.ownBlock) := fun e => by
        have h1 := HU1.out.t2 _ e.symm
        rw [HU1.out.t0] at h1
        cases h1
      have hmk := run_make_row' (P := Try.prog) 33 4 (.bool false) 1 Try.underlying33 info4' rfl .i64 .i64 n (by omega) (by omega)
      have hsz1 : (W1.alloc (.cells (madeCells #[.bool false] n) 4)).heap.size = W1.heap.size + 1 := by simp
      have hsz2 : ((W1.alloc (.cells (madeCells #[.bool false] n) 4)).alloc (.cells #[.slice (some ⟨W1.heap.size, 0, none⟩) n n] 33)).heap.size = W1.heap.size + 2 := by simp
      have hoe : (((W1.alloc (.cells (madeCells #[.bool false] n) 4)).alloc (.cells #[.slice (some ⟨W1.heap.size, 0, none⟩) n n] 33)).drew).ownsRow w.heap.size 33 1 ev i ((List.range i).map fun u => .slice (some ⟨rb u, 0, none⟩) n n) := own_of_block ((HU1.out.oe.alloc _).alloc _) (fun _ _ => rfl)
      have hnw : ∀ j u, [(Value.slice (some ⟨W1.heap.size, 0, none⟩) n n)][j]? = some u → (((W1.alloc (.cells (madeCells #[.bool false] n) 4)).alloc (.cells #[.slice (some ⟨W1.heap.size, 0, none⟩) n n] 33)).drew).cell? ((⟨W1.heap.size + 1, 0, none⟩ : Addr).add j) = some u := fun j u hj => by
        have h := cell_one_new (W1.alloc (.cells (madeCells #[.bool false] n) 4)) (.slice (some ⟨W1.heap.size, 0, none⟩) n n) 33 j u hj
        rw [hsz1] at h
        exact h
      have hF2 : Fld (((W1.alloc (.cells (madeCells #[.bool false] n) 4)).alloc (.cells #[.slice (some ⟨W1.heap.size, 0, none⟩) n n] 33)).drew) w.heap.size 1 ev := (hF1.alloc (.cells (madeCells #[.bool false] n) 4)).alloc (.cells #[.slice (some ⟨W1.heap.size, 0, none⟩) n n] 33)
      have hbs : w.heap.size ≤ W1.heap.size := HU1.out.old.size
      have c1 : W1.cell? ⟨w.heap.size, 1, none⟩ = some ev := hF1.1
      have c1a : (W1.alloc (.cells (madeCells #[.bool false] n) 4)).cell? ⟨w.heap.size, 1, none⟩ = some ev := (hF1.alloc (.cells (madeCells #[.bool false] n) 4)).1
      have c1b : ((W1.alloc (.cells (madeCells #[.bool false] n) 4)).alloc (.cells #[.slice (some ⟨W1.heap.size, 0, none⟩) n n] 33)).cell? ⟨w.heap.size, 1, none⟩ = some ev := hF2.1
      have HF2 : Hid (Fld (((W1.alloc (.cells (madeCells #[.bool false] n) 4)).alloc (.cells #[.slice (some ⟨W1.heap.size, 0, none⟩) n n] 33)).drew) w.heap.size 1 ev) := hF2
      clear hF1 hF2
      go_region_law
        (first | (refine step_append_lies _ rfl (.tmp 33) (.tmp 36) 32 rfl w.heap.size 33 i1 (.slice none 0 0) 1 24 Try.underlying32 HJ.out.1 HJ.out.2.1 HJ.out.2.2.1 HJ.out.2.2.2 rfl (by decide) ev i _ rfl hoe ⟨W1.heap.size + 1, 0, none⟩ 1 1 [.slice (some ⟨W1.heap.size, 0, none⟩) n n] rfl rfl hnw (fun u hu => by simp at hu; subst hu; rfl) (by decide) (by unfold maxLen; omega) (by omega) (by show w.heap.size ≤ ((W1.alloc _).alloc _).heap.size; omega) _ rfl ?_; intro g cap w2 hown hgrow hat hlt2; have c3 : w2.cell? ⟨w.heap.size, 1, none⟩ = some ev := (HF2.out.grown hgrow HNE.out).1; have f3 : w2.frozen? ⟨w.heap.size, 1, none⟩ = false := (HF2.out.grown hgrow HNE.out).2))
      all_goals
        have hg2 : ((W1.alloc (.cells (madeCells #[.bool false] n) 4)).alloc (.cells #[.slice (some ⟨W1.heap.size, 0, none⟩) n n] 33)).grownBy w2 ev.ownBlock := ⟨hgrow.os, hgrow.tape, hgrow.output, hgrow.size, hgrow.block⟩
        obtain ⟨T2, rb2, hU2⟩ := HU1.out.edge (w' := w2) (ev' := .slice (some ⟨g, 0, none⟩) (i + 1) cap) 4 (.cells #[.slice (some ⟨W1.heap.size, 0, none⟩) n n] 33) hown hg2 (by
          rcases hat with e | e
          · exact Or.inl e.symm
          · exact Or.inr (by rw [e]; rfl))
        have HU2 : Hid (NewUp w w.heap.size n (i + 1) (i + 1) T2 (.slice (some ⟨gN, 0, none⟩) (i + 1) cN) (.slice (some ⟨g, 0, none⟩) (i + 1) cap) rb2 (w2.setCell ⟨w.heap.size, 1, none⟩ (.slice (some ⟨g, 0, none⟩) (i + 1) cap))) := hU2
        clear hown hgrow hat hlt2 hg2 hU2 c3 f3 c1 c1a c1b hnw hoe HF2 HU1 hmk
        go_wp2
        go_roundg (n - (i + 1))
        case measure => omega
        case rel => exact ⟨i + 1, _, _, _, _, by omega, by omega, by go_num, HU2⟩
    · have hltI : ((i : Int) < (n : Int)) = False := by simp; omega
      have hin : i = n := by omega
      subst hin
      go_wp2
      go_ret2
      refine ⟨w.heap.size, rfl, ⟨Nat.le_refl _, ?_⟩, HU.out.old⟩
      by_cases h0 : i = 0
      · refine Or.inl ⟨h0, ?_⟩
        subst h0
        have h1 := HU.out.obj.at' 0 (by omega)
        rcases HU.out.on.2 with ⟨e, _⟩ | ⟨g, cap, _, e, _⟩
        · rw [e] at h1; exact ⟨_, _, h1⟩
        · rw [e] at h1; exact ⟨_, _, h1⟩
      · obtain ⟨nb, eb, cn, ce, hR, h1, h2⟩ := HU.out.done (by omega)
        exact Or.inr ⟨by omega, nb, eb, cn, ce, rb, hR, h1, h2, fun u hu => (HU.out.cells u hu).2.2.2⟩

end Go.Proofs.Ytelmkfkgpnadnaa
