/-
  Paths: what the program and the document's answer take for one. (The mathematics.)
  Paths: the program's IsPath and the document's.
-/
import Derived.Test.YtelmkfkgpnadnaaGreatDoorKPure
import Derived.Test.YtelmkfkgpnadnaaGreatDoorKWB
namespace Go.Proofs.YtelmkfkgpnadnaaGreatDoor
namespace Pv

def sd (c : UInt8) : Bool := sm c || dg c
/-- An element of a path. -/
def el (p : List UInt8) : Bool := decide (1 ≤ p.length) && decide (p.length ≤ 8) && p.all sd
def isPath (s : List UInt8) : Bool := decide ((spl 47 s).length ≤ 3) && (spl 47 s).all el

theorem spl_cons_ne (c b : UInt8) (l : List UInt8) (h : b ≠ c) : ∃ p ps, spl c l = p :: ps ∧ spl c (b :: l) = (b :: p) :: ps := by
  cases hs : spl c l with
  | nil => exact absurd hs (spl_ne c l)
  | cons p ps => exact ⟨p, ps, rfl, by rw [spl, if_neg h, hs]⟩

theorem spl_length (c : UInt8) : ∀ s : List UInt8, (spl c s).length = s.count c + 1
  | [] => rfl
  | b :: l => by
    have ih := spl_length c l
    by_cases h : b = c
    · rw [spl, if_pos h, List.length_cons, ih, h, List.count_cons_self]
    · obtain ⟨p, ps, h1, h2⟩ := spl_cons_ne c b l h
      rw [h2, List.length_cons, List.count_cons_of_ne h, ← ih, h1, List.length_cons]

theorem splitK_length (c : UInt8) : ∀ (k : Nat) (s : List UInt8), k ≤ s.count c → (Lib.splitK [c] 0 k s).length = k + 1
  | 0, s, _ => rfl
  | k + 1, s, h => by
    unfold Lib.splitK
    rcases index_one c s with ⟨e, hm⟩ | ⟨p, q, rfl, hp, e⟩
    · rw [List.count_eq_zero.2 hm] at h; omega
    · rw [e, if_neg (by simp)]
      have hc : (p ++ c :: q).count c = q.count c + 1 := by
        rw [List.count_append, List.count_cons_self, List.count_eq_zero.2 hp]; omega
      rw [List.length_cons]
      have hd : (p ++ c :: q).drop (((p.length : Int)).toNat + [c].length) = q := by simp
      rw [hd, splitK_length c k q (by omega)]

/-- The program's way: at most four pieces are cut. -/
theorem splitK_path (s : List UInt8) : (decide ((Lib.splitK [47] 0 (min 4 (s.length + 1) - 1) s).length ≤ 3) && (Lib.splitK [47] 0 (min 4 (s.length + 1) - 1) s).all el) = isPath s := by
  by_cases h : s.count 47 ≤ min 4 (s.length + 1) - 1
  · rw [splitK_spl 47 _ s h]; rfl
  · have hle : s.count 47 ≤ s.length := List.count_le_length
    have h3 : min 4 (s.length + 1) - 1 = 3 := by omega
    rw [h3] at h ⊢
    have h1 := splitK_length 47 3 s (by omega)
    have h2 := spl_length 47 s
    unfold isPath
    rw [h1, decide_eq_false (by omega : ¬ (spl 47 s).length ≤ 3)]
    simp

end Pv
end Go.Proofs.YtelmkfkgpnadnaaGreatDoor

namespace Go.Proofs.YtelmkfkgpnadnaaGreatDoor
open Go.RowKit

theorem enters227 : ∀ args w, (callFunc 227 args).run Tryz.prog w = .ok (.enter 227 args) w := fun _ _ => by kernel_rfl
theorem enters191 : ∀ args w, (callFunc 191 args).run Tryz.prog w = .ok (.enter 191 args) w := fun _ _ => by kernel_rfl

theorem el_w1 (s : ByteArray) (h : s.size < 1) : Pv.el s.data.toList = false := by
  unfold Pv.el; rw [← Lib.size_eq]; rw [decide_eq_false (by omega : ¬ 1 ≤ s.size)]; rfl
theorem el_w2 (s : ByteArray) (h : 8 < s.size) : Pv.el s.data.toList = false := by
  unfold Pv.el; rw [← Lib.size_eq]; rw [decide_eq_false (by omega : ¬ s.size ≤ 8)]; simp
theorem el_w3 (s : ByteArray) (h1 : 1 ≤ s.size) (h8 : s.size ≤ 8) : Pv.el s.data.toList = s.data.toList.all Pv.sd := by
  unfold Pv.el; rw [← Lib.size_eq]; rw [decide_eq_true h1, decide_eq_true h8]; rfl

set_option maxHeartbeats 600000 in
theorem isNoElement_any (s : ByteArray) (w : World) (hs : s.size ≤ maxLen) :
    Calls Tryz.prog 191 #[.string s] w fun e w' => e = .returned (.bool (!Pv.el s.data.toList)) ∧ w' = w := by
  have k1 := allOf_any 227 Pv.sd enters227 isSmallOrDigit_any s w hs
  generalize ha : s.data.toList.all Pv.sd = a at k1
  have HA : Hid (s.data.toList.all Pv.sd = a) := ha
  clear ha
  generalize hr : Pv.el s.data.toList = r
  have HR : Hid (Pv.el s.data.toList = r) := hr
  clear hr
  unfold maxLen at hs
  by_cases h1 : s.size < 1
  · go_enter Tryz.func191, Tryz.ntmps191
    go_wp2
    go_ret
    exact ⟨ret_bool (by rw [← HR.out, el_w1 s h1]; rfl), rfl⟩
  · by_cases h2 : 8 < s.size
    · go_enter Tryz.func191, Tryz.ntmps191
      go_wp2
      go_ret
      exact ⟨ret_bool (by rw [← HR.out, el_w2 s h2]; rfl), rfl⟩
    · have HF : Hid (a = r) := by
        show a = r
        rw [← HR.out, el_w3 s (by omega) (by omega), HA.out]
      go_enter Tryz.func191, Tryz.ntmps191
      go_wp2_with (go_at_call 226; refine k1.mono ?_; rintro e w' ⟨rfl, rfl⟩)
      go_ret
      exact ⟨ret_bool (by rw [HF.out, decide_eq_false (by omega : ¬ (s.size : Int) < 1), decide_eq_false (by omega : ¬ (8 : Int) < (s.size : Int))]; rfl), rfl⟩

/-- A text as a machine can hold it. -/
structure Wide where
  val : ByteArray
  property : val.size ≤ maxLen

theorem wide_list : ∀ (l : List ByteArray), (∀ x ∈ l, x.size ≤ maxLen) → ∃ z : List Wide, z.map Wide.val = l
  | [], _ => ⟨[], rfl⟩
  | x :: t, h => by
    obtain ⟨z, hz⟩ := wide_list t (fun y hy => h y (by simp [hy]))
    exact ⟨⟨x, h x (by simp)⟩ :: z, by simp [hz]⟩

theorem containsElement_any (l : List ByteArray) (hl : ∀ x ∈ l, x.size ≤ maxLen) (hn : l.length ≤ 40) (b c : Nat) (W : World) (hc : ∀ j, j < l.length → W.cell? ⟨b, j, none⟩ = some (.string l[j]!)) :
    Calls Tryz.prog 190 #[.slice (some ⟨b, 0, none⟩) l.length c, .func (.func 191) #[] #[]] W fun e w' => e = .returned (.bool (!(l.map (·.data.toList)).all Pv.el)) ∧ ∃ q, w' = W.drewN q := by
  letI : Inhabited Wide := ⟨⟨ByteArray.empty, by decide⟩⟩
  obtain ⟨z, rfl⟩ := wide_list l hl
  have hp : PredAt Tryz.prog 191 #[] (fun x : Wide => Value.string x.val) (fun x => !Pv.el x.val.data.toList) W := by
    intro W' x _
    refine (isNoElement_any x.val W' x.property).mono ?_
    rintro e w' ⟨rfl, rfl⟩
    exact ⟨rfl, 0, rfl⟩
  have k := Tryz.slices_ContainsFunc (fun x : Wide => Value.string x.val) (fun x => !Pv.el x.val.data.toList) 191 #[] enters191 b 0 z.length c z W hp (Nat.le_refl _) (by simp at hn; omega) (by
    intro j hj
    have := hc j (by simpa using hj)
    rw [Nat.zero_add, this, getElem!_pos _ j (by simpa using hj), getElem!_pos z j hj]
    simp)
  rw [List.take_length] at k
  have e : (!((z.map Wide.val).map (·.data.toList)).all Pv.el) = z.any (fun x => !Pv.el x.val.data.toList) := by
    rw [List.map_map, List.all_map, List.not_all_eq_any_not]
    rfl
  rw [List.length_map, e]
  exact k

theorem splitB_sizes (sep : ByteArray) : ∀ (k : Nat) (s x : ByteArray), x ∈ Lib.splitB sep 0 k s → x.size ≤ s.size
  | 0, s, x, h => by
    rw [Lib.splitB, List.mem_singleton] at h
    rw [h]; exact Nat.le_refl _
  | k + 1, s, x, h => by
    rw [Lib.splitB] at h
    split at h
    · rw [List.mem_singleton.1 h]; exact Nat.le_refl _
    · rcases List.mem_cons.1 h with e | e
      · rw [e, ByteArray.size_extract]; omega
      · have := splitB_sizes sep k _ x e
        rw [ByteArray.size_extract] at this
        omega

theorem splitB_count (sep : ByteArray) : ∀ (k : Nat) (s : ByteArray), (Lib.splitB sep 0 k s).length ≤ k + 1
  | 0, s => by rw [Lib.splitB]; simp
  | k + 1, s => by
    rw [Lib.splitB]
    split
    · simp
    · rw [List.length_cons]
      have := splitB_count sep k (s.extract ((Lib.indexB s sep).toNat + sep.size) s.size)
      omega

theorem cellsOf_get (l : List ByteArray) (n j : Nat) (hj : j < l.length) : (Lib.cellsOf l n)[j]? = some (.string l[j]!) := by
  unfold Lib.cellsOf
  rw [List.getElem?_toArray, List.getElem?_append_left (by simpa using hj), List.getElem?_map, List.getElem?_eq_getElem hj, getElem!_pos l j hj]
  rfl

set_option maxRecDepth 100000 in
set_option maxHeartbeats 1000000 in
/-- The program's IsPath. -/
theorem isPath_prog (s : ByteArray) (w : World) (hm : Ml w) (hs : s.size < 4294967281) :
    Calls Tryz.prog 147 #[.string s] w fun e w' => e = .returned (.bool (Pv.isPath s.data.toList)) ∧ Below w.heap.size w w' := by
  obtain ⟨m, hmm⟩ := hm
  have k1 := Tryz.strings_SplitN s ⟨#[47]⟩ 4 m w hs hmm (by decide) (by decide) (by decide)
  have hP := Pv.splitK_path s.data.toList
  rw [← Lib.size_eq] at hP
  have hd : (Lib.splitB ⟨#[47]⟩ 0 (min 4 (s.size + 1) - 1) s).map (·.data.toList) = Lib.splitK [47] 0 (min 4 (s.size + 1) - 1) s.data.toList := Lib.splitB_data _ _ _ _
  rw [← hd, List.length_map] at hP
  have hsz : ∀ x ∈ Lib.splitB ⟨#[47]⟩ 0 (min 4 (s.size + 1) - 1) s, x.size ≤ maxLen := fun x hx => by
    have h1 := splitB_sizes ⟨#[47]⟩ (min 4 (s.size + 1) - 1) s x hx
    unfold maxLen
    omega
  have hln : (Lib.splitB ⟨#[47]⟩ 0 (min 4 (s.size + 1) - 1) s).length ≤ 4 := by
    have h1 := splitB_count ⟨#[47]⟩ (min 4 (s.size + 1) - 1) s
    omega
  generalize Lib.splitB ⟨#[47]⟩ 0 (min 4 (s.size + 1) - 1) s = l at *
  generalize min 4 (s.size + 1) = cp at *
  have hc : ∀ j, j < l.length → (w.alloc (.cells (Lib.cellsOf l cp) 9)).cell? ⟨w.heap.size, j, none⟩ = some (.string l[j]!) := fun j hj => by
    have b0 : (w.alloc (.cells (Lib.cellsOf l cp) 9)).heap[w.heap.size]? = some (.cells (Lib.cellsOf l cp) 9) := by
      show (w.heap.push _)[w.heap.size]? = _
      simp
    simp only [World.cell?, b0]
    exact cellsOf_get l cp j hj
  have k2 := containsElement_any l hsz (by omega) w.heap.size cp (w.alloc (.cells (Lib.cellsOf l cp) 9)) hc
  generalize hr : Pv.isPath s.data.toList = r at *
  generalize ha : (l.map (·.data.toList)).all Pv.el = a at *
  have HR : Hid ((decide (l.length ≤ 3) && a) = r) := hP
  have HB : Hid (Below w.heap.size w (w.alloc (.cells (Lib.cellsOf l cp) 9))) := (Below.refl _ _).alloc (Nat.le_refl _) _
  clear hP hr ha hd hsz hc hmm
  go_enter Tryz.func147, Tryz.ntmps147
  go_wp2_with (go_at_call 189; fail)
  go_at_call 189
  refine k1.mono ?_
  rintro e w1 ⟨rfl, rfl⟩
  generalize w.alloc (.cells (Lib.cellsOf l cp) 9) = W1 at *
  clear k1
  by_cases h3 : l.length ≤ 3
  · have h3I : (l.length : Int) ≤ 3 := by omega
    have HF : Hid (a = r) := by
      have := HR.out
      rw [decide_eq_true h3] at this
      exact this
    go_wp2_with (go_at_call 190; refine k2.mono ?_; rintro e w2 ⟨rfl, q, hq⟩)
    go_ret
    exact ⟨ret_bool HF.out, below_drewN' HB.out q⟩
  · have h3I : ¬ ((l.length : Int) ≤ 3) := by omega
    have HF : Hid (false = r) := by
      have := HR.out
      rw [decide_eq_false h3] at this
      exact this
    go_wp2
    go_ret
    exact ⟨ret_bool HF.out, HB.out⟩

end Go.Proofs.YtelmkfkgpnadnaaGreatDoor
