/-
  The program's reading of an index: what lies in memory between two lines.
  The program's reading of an index: the walk over its lines.
-/
import Derived.Test.YtelmkfkgpnadnaaGreatDoorKJA
import Derived.WalkMore
namespace Go.Proofs.YtelmkfkgpnadnaaGreatDoor
open Go.RowKit

variable {w w' : World}

namespace Tx

theorem toks_le : ∀ (t : List UInt8) (i : Nat), (∀ x ∈ toks i none t, x.1 + x.2.length ≤ i + t.length) ∧ ∀ a u, a + u.length ≤ i → ∀ x ∈ toks i (some (a, u)) t, x.1 + x.2.length ≤ i + t.length
  | [], i => ⟨by intro x hx; simp [toks] at hx, by
    intro a u h x hx
    simp [toks] at hx
    rw [hx]
    show a + u.length ≤ _
    omega⟩
  | c :: t, i => by
    have ih := toks_le t (i + 1)
    refine ⟨fun x hx => ?_, fun a u h x hx => ?_⟩
    · rw [toks] at hx
      simp only [List.length_cons]
      split at hx
      · have := ih.2 i [c] (by simp) x hx; omega
      · have := ih.1 x hx; omega
    · rw [toks] at hx
      simp only [List.length_cons]
      split at hx
      · have := ih.2 a (u ++ [c]) (by simp; omega) x hx; omega
      · rcases List.mem_cons.1 hx with e | e
        · rw [e]; show a + u.length ≤ _; omega
        · have := ih.1 x e; omega

theorem words_le {line : List UInt8} {x : Nat × List UInt8} (h : x ∈ words line) : x.1 + x.2.length ≤ line.length := by
  have h1 := (toks_le (Pv.cutc 35 line).1 0).1 x h
  have h2 := (cutc_len 35 line).1
  omega

end Tx

theorem wtoks_le {acc : List (Nat × ByteArray)} {s : ByteArray} (h : wtoks acc = Tx.words s.data.toList) : ∀ x ∈ acc, x.1 ≤ s.size ∧ x.2.size ≤ s.size := by
  intro x hx
  have hm : (x.1, x.2.data.toList) ∈ Tx.words s.data.toList := by rw [← h]; exact List.mem_map_of_mem (f := fun x : Nat × ByteArray => (x.1, x.2.data.toList)) hx
  have h1 : x.1 + x.2.data.toList.length ≤ s.data.toList.length := Tx.words_le hm
  rw [← Lib.size_eq, ← Lib.size_eq] at h1
  omega

/-- The words of a line, in new memory. -/
theorem wordsOf_ml (s : ByteArray) (w : World) (h : Ml w) (hs : s.size ≤ 4000) :
    Calls Tryz.prog 123 #[.string s] w fun e w' => ∃ v acc, e = .returned v ∧ wtoks acc = Tx.words s.data.toList ∧ w'.ownsRow w.heap.size 274 2 v acc.length (wcells acc) ∧ Below w.heap.size w w' := by
  have e35 : (⟨#[35]⟩ : ByteArray).data.toList = [35] := rfl
  obtain ⟨m, hm⟩ := h
  have kc := Tryz.strings_Cut s ⟨#[35]⟩ m w (by omega) hm
  rw [e35, Pv.cut_cutc 35 s.data.toList] at kc
  have hle : (Pv.cutc 35 s.data.toList).1.length ≤ s.size := by
    have := congrArg List.length (Pv.cutc_join 35 s.data.toList)
    rw [List.length_append] at this
    rw [Lib.size_eq]; omega
  have k := wordsOf_cut s ⟨(Pv.cutc 35 s.data.toList).1.toArray⟩ w (by show (Pv.cutc 35 s.data.toList).1.toArray.size ≤ 4000; simp; omega) (kc.mono (by
    rintro e w' ⟨rfl, n, rfl⟩
    exact ⟨_, _, rfl, ⟨rfl, rfl, rfl, Nat.le_refl _, fun _ _ => rfl⟩⟩))
  simpa [Tx.words] using k

/-- What Split lays, at a newline. -/
theorem split_lines (s : ByteArray) (hs : s.size < 4294967281) : ∃ l : List ByteArray, l.map (·.data.toList) = Pv.spl 10 s.data.toList ∧ (∀ x ∈ l, x.size ≤ s.size) ∧
    ∀ w : World, Ml w → Calls Tryz.prog 122 #[.string s, .string ⟨#[10]⟩] w fun e w' => e = .returned (.slice (some ⟨w.heap.size, 0, none⟩) l.length l.length) ∧ w' = w.alloc (.cells (l.map Value.string).toArray 9) := by
  have h1 : 1 ≤ (⟨#[10]⟩ : ByteArray).size := by decide
  refine ⟨Lib.splitB ⟨#[10]⟩ 0 (Lib.countB s ⟨#[10]⟩) s, Pv.splitB_spl s ⟨#[10]⟩ 10 rfl, ?_, ?_⟩
  · intro x hx
    have hm : x.data.toList ∈ Pv.spl 10 s.data.toList := by
      rw [← Pv.splitB_spl s ⟨#[10]⟩ 10 rfl]; exact List.mem_map_of_mem hx
    have := spl_len 10 _ _ hm
    rw [← Lib.size_eq, ← Lib.size_eq] at this
    exact this
  · rintro w ⟨m, hm⟩
    have k := Tryz.strings_Split s ⟨#[10]⟩ m w hs hm h1
    rw [Lib.splitB_all ⟨#[10]⟩ h1 0 _ s rfl]
    exact k

theorem wcells_get : ∀ (l : List (Nat × ByteArray)) (j : Nat) (h : j < l.length), (wcells l)[j * 2]? = some (.int .i64 l[j].1) ∧ (wcells l)[j * 2 + 1]? = some (.string l[j].2)
  | x :: r, 0, _ => ⟨rfl, rfl⟩
  | x :: r, j + 1, h => by
    have e : wcells (x :: r) = .int .i64 x.1 :: .string x.2 :: wcells r := rfl
    have ih := wcells_get r j (by simpa using h)
    rw [e]
    refine ⟨?_, ?_⟩
    · rw [show (j + 1) * 2 = j * 2 + 1 + 1 by omega]; simpa using ih.1
    · rw [show (j + 1) * 2 + 1 = j * 2 + 1 + 1 + 1 by omega]; simpa using ih.2

theorem wat_own {B g c : Nat} {acc : List (Nat × ByteArray)} (h : w.ownsRow B 274 2 (.slice (some ⟨g, 0, none⟩) acc.length c) acc.length (wcells acc)) : WAt w g 0 acc ∧ acc.length ≤ c := by
  refine ⟨⟨(h.lt g rfl).2, fun j hj => ?_⟩, ?_⟩
  · have hg := wcells_get acc j hj
    exact ⟨by rw [Nat.zero_add, h.cellAt _ (by omega)]; exact hg.1, by rw [Nat.zero_add, h.cellAt _ (by omega)]; exact hg.2⟩
  · rcases h.2 with hn' | ⟨g', cap, cur, hv, _, _, hle, _⟩
    · simp at hn'
    · injection hv with _ _ e3
      rw [e3]; exact hle

variable {W0 wr : World} {rp mb sp : Nat} {sv lv sv' lv' : Value} {vs : List ByteArray} {slips : List (Nat × Nat × Nat)}

end Go.Proofs.YtelmkfkgpnadnaaGreatDoor

namespace Go.Proofs.YtelmkfkgpnadnaaGreatDoor
open Go.RowKit

variable {w w' : World}

set_option maxRecDepth 100000 in
set_option maxHeartbeats 4000000 in
theorem read_long (s : ByteArray) (rp : Nat) (w : World) (hs : 2000 < s.size) :
    Calls Tryz.prog 86 #[.pointer (some ⟨rp, 0, none⟩), .string s] w fun e w' => ∃ sv, e = .returned (.tuple #[.slice none 0 0, sv]) ∧ w'.ownsRow w.heap.size 45 3 sv 1 (scells [(0, 0, 1)]) ∧ Below w.heap.size w w' := by
  have hsI : ((s.size : Int) > 2000) := by omega
  go_enter Tryz.func86, Tryz.ntmps86
  go_wp2
  go_step3
  go_wp2
  (try rw [Exit.noGoto_ret])
  go_ret2
  exact ⟨_, rfl, own_one_slip w 0 0 1, (Below.refl _ _).alloc (Nat.le_refl _) _⟩

theorem new_block' (w : World) (o : Obj) : (w.alloc o).heap[w.heap.size]? = some o := block_new w o

variable {R : Tx.Got} {l : List ByteArray} {k sp : Nat} {good : List OLn} {slips : List (Nat × Nat × Nat)}

end Go.Proofs.YtelmkfkgpnadnaaGreatDoor
