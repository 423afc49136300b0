/-
  The program's sorting of versions: what the row holds then.
-/
import Derived.Test.YtelmkfkgpnadnaaGreatDoorKX1
import Derived.Test.YtelmkfkgpnadnaaGreatDoorKShelf2
import Derived.Shelf.SlSortCmp.NoneTotal
namespace Go.Proofs.YtelmkfkgpnadnaaGreatDoor
open Go.RowKit

variable {w w' : World}

def encV (x : Ver) : Value := .string x.val

theorem sort_other (w : World) (g n : Nat) (d : Array Ver) (os : Array Obj) (b : Nat) (hb : b < w.heap.size) (hne : b ≠ g) : (sortWorld encV w g 0 n d os).heap[b]? = w.heap[b]? := by
  unfold sortWorld
  rw [Go.Sort.heap_grow_old _ _ (by rw [size_putRow]; exact hb)]
  unfold Go.Sort.putRow Go.Sort.mapBlock
  show (w.heap.modify g _)[b]? = _
  rw [Array.getElem?_modify, if_neg (fun e => hne e.symm)]

theorem sort_own (w : World) (g n : Nat) (d : Array Ver) (os : Array Obj) (cur : Array Value) (e : TypeId) (h : w.heap[g]? = some (.cells cur e (0, 0))) : (sortWorld encV w g 0 n d os).heap[g]? = some (.cells (Go.Sort.putCells encV 0 d cur) e (0, 0)) := by
  have hb : g < w.heap.size := (Array.getElem?_eq_some_iff.1 h).1
  unfold sortWorld
  rw [Go.Sort.heap_grow_old _ _ (by rw [size_putRow]; exact hb)]
  unfold Go.Sort.putRow Go.Sort.mapBlock
  show (w.heap.modify g _)[g]? = _
  rw [Array.getElem?_modify, if_pos rfl, h]
  rfl

theorem put_take (d : Array Ver) (cur : Array Value) (hn : d.size ≤ cur.size) : (Go.Sort.putCells encV 0 d cur).toList.take (d.size * 1) = (d.toList.map Ver.val).map .string := by
  apply List.ext_getElem?
  intro j
  rw [Nat.mul_one]
  by_cases hj : j < d.size
  · have h1 : j < cur.size := by omega
    rw [List.getElem?_take_of_lt hj, Array.getElem?_toList]
    unfold Go.Sort.putCells
    rw [Array.getElem?_mapIdx, Array.getElem?_eq_getElem h1]
    simp only [Option.map_some, Nat.zero_le, Nat.zero_add, true_and, if_pos hj, Nat.sub_zero, List.getElem?_map, Array.getElem?_toList, Array.getElem?_eq_getElem hj]
    rw [getElem!_pos d j hj]
    rfl
  · rw [List.getElem?_eq_none (by rw [List.length_take]; omega), List.getElem?_eq_none (by simp; omega)]

theorem ver_list : ∀ (L : List ByteArray), (∀ x ∈ L, IsV x) → ∃ D : List Ver, D.map Ver.val = L
  | [], _ => ⟨[], rfl⟩
  | x :: t, h => by
    obtain ⟨D, e⟩ := ver_list t (fun y hy => h y (by simp [hy]))
    exact ⟨⟨x, h x (by simp)⟩ :: D, by simp [e]⟩

theorem enters167 : ∀ args w, (callFunc 167 args).run Tryz.prog w = .ok (.enter 167 args) w := fun _ _ => by kernel_rfl

theorem sorting (B g cap : Nat) (L : List ByteArray) (w : World) (hL : ∀ x ∈ L, IsV x) (hm : Ml w) (hg0 : g ≠ 0) (h : w.ownsRow B 9 1 (.slice (some ⟨g, 0, none⟩) L.length cap) L.length (L.map .string)) (hl : L.length ≤ 100000) :
    Calls Tryz.prog 166 #[.slice (some ⟨g, 0, none⟩) L.length cap, .func (.func 167) #[] #[]] w fun e w' => e = .returned (.tuple #[]) ∧ ∃ M : List ByteArray, M.Perm L ∧ (∀ K : List ByteArray, K.Perm L → Srt K → K = M) ∧ w'.ownsRow B 9 1 (.slice (some ⟨g, 0, none⟩) L.length cap) L.length (M.map .string) ∧ Turn (fun b => b = g) w w' := by
  obtain ⟨D, hD⟩ := ver_list L hL
  have hDl : D.length = L.length := by rw [← hD]; simp
  have hgl := (h.lt g rfl).2
  have hH : Go.Sort.Holds encV w g 0 D.toArray := fun j hj => by
    have hj' : j < D.length := by simpa using hj
    have hjL : j < L.length := by omega
    refine ⟨?_, by rw [Nat.zero_add]; exact h.frozenAt j⟩
    rw [Nat.zero_add, h.cellAt j (by omega), List.getElem?_map, List.getElem?_eq_getElem hjL, getElem!_pos _ j hj]
    have : L[j] = (D[j]).val := by
      have e := List.getElem_map Ver.val (l := D) (i := j) (h := by simpa using hj')
      rw [← e]
      congr 1
      exact hD.symm
    simp only [Option.map_some, List.getElem_toArray]
    rw [this]; rfl
  have hcmp : CmpLays1 Tryz.prog 167 #[] encV cfV g 0 D.toArray.size w := fun m os dk hs x y => by
    have hml : Dr.Ml (sortWorld encV w g 0 m dk os) := by
      obtain ⟨q, e⟩ := hm
      have h0 := World.block_lt_of_cell? w _ e
      exact ⟨q, by rw [World.cell?_of_block (w := w) (a := ⟨0, 0, none⟩) (sort_other w g m dk os 0 h0 (fun e => hg0 e.symm))]; exact e⟩
    refine (Dr.compareWords_any x.val y.val _ hml x.ok y.ok).mono ?_
    rintro e w' ⟨rfl, hb⟩
    exact ⟨rfl, hb.grow⟩
  have k := Tryz.slices_SortFunc encV (fun _ => rfl) cfV swoV 167 #[] g 0 cap D.toArray w enters167 hcmp hH hgl (by simp; omega)
  have hsz : D.toArray.size = L.length := by simpa using hDl
  rw [hsz] at k
  refine k.mono ?_
  rintro e w' ⟨rfl, d', n, os, hP, hS, rfl⟩
  have hP' := hP
  rw [← hsz] at hP hS
  have hd' : d'.size = L.length := by rw [hP.1, hsz]
  have hperm : (d'.toList.map Ver.val).Perm L := by
    have h1 := hP.2.2
    have e1 : d'.extract 0 D.toArray.size = d' := by rw [← hP.1]; exact Array.extract_size
    have e2 : D.toArray.extract 0 D.toArray.size = D.toArray := Array.extract_size
    rw [e1, e2] at h1
    have h2 := h1.map Ver.val
    simpa [hD] using h2
  refine ⟨rfl, d'.toList.map Ver.val, hperm, fun K hK hKs => ?_, ?_, ?_⟩
  · exact (sorted_one D.toArray d' K hP hS (by simpa [hD] using hK) hKs).symm
  · rcases h.2 with ⟨hn, _⟩ | ⟨g', cap', cur, hv, hB, hh, hle, hcm, hcs, _⟩
    · cases hn
    · injection hv with e1 _ e3
      have eg : g = g' := by injection e1 with e1; injection e1
      subst eg
      subst e3
      refine ⟨by simp [hd'], .inr ⟨g, cap, _, rfl, hB, sort_own w g n d' os cur 9 hh, hle, hcm, ?_, ?_⟩⟩
      · rw [← hcs]; simp [Go.Sort.putCells]
      · have := put_take d' cur (by rw [hd', hcs]; omega)
        rw [hd'] at this
        exact this
  · refine ⟨rfl, rfl, rfl, ?_, fun b hb hne => sort_other w g n d' os b hb hne⟩
    unfold sortWorld
    rw [Go.Sort.size_grow, size_putRow]
    exact Nat.le_add_right _ _

theorem sorting_none (fv : Value) (w : World) : Calls Tryz.prog 166 #[.slice none 0 0, fv] w fun e w' => e = .returned (.tuple #[]) ∧ w' = w := AnyF.slices_SortFunc_none { Tryz.laysSlF6_f166 with } none 0 fv w

end Go.Proofs.YtelmkfkgpnadnaaGreatDoor
