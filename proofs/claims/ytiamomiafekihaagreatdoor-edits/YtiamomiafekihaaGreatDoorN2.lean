/-
  Paths: the program's IsPath and the document's.
-/
import Derived.Test.YtiamomiafekihaaGreatDoorN1
import Derived.Test.YtiamomiafekihaaGreatDoorW11
import Derived.Test.YtiamomiafekihaaGreatDoorNS
namespace Go.Proofs.YtiamomiafekihaaGreatDoor
open Go.RowKit

theorem enters227 : ∀ args w, (callFunc 108 args).run Tryz.prog w = .ok (.enter 108 args) w := fun _ _ => by kernel_rfl
theorem enters191 : ∀ args w, (callFunc 77 args).run Tryz.prog w = .ok (.enter 77 args) w := fun _ _ => by kernel_rfl

theorem el_w1 (s : ByteArray) (h : s.size < 1) : Pv.el s.data.toList = false := by
  unfold Pv.el; rw [← Lib.size_eq]; rw [decide_eq_false (by omega : ¬ 1 ≤ s.size)]; rfl
theorem el_w2 (s : ByteArray) (h : 8 < s.size) : Pv.el s.data.toList = false := by
  unfold Pv.el; rw [← Lib.size_eq]; rw [decide_eq_false (by omega : ¬ s.size ≤ 8)]; simp
theorem el_w3 (s : ByteArray) (h1 : 1 ≤ s.size) (h8 : s.size ≤ 8) : Pv.el s.data.toList = s.data.toList.all Pv.sd := by
  unfold Pv.el; rw [← Lib.size_eq]; rw [decide_eq_true h1, decide_eq_true h8]; rfl

set_option maxHeartbeats 600000 in
theorem isNoElement_any (s : ByteArray) (w : World) (hs : s.size ≤ maxLen) :
    Calls Tryz.prog 77 #[.string s] w fun e w' => e = .returned (.bool (!Pv.el s.data.toList)) ∧ w' = w := by
  have k1 := allOf_any 108 Pv.sd enters227 isSmallOrDigit_any s w hs
  generalize ha : s.data.toList.all Pv.sd = a at k1
  have HA : Hid (s.data.toList.all Pv.sd = a) := ha
  clear ha
  generalize hr : Pv.el s.data.toList = r
  have HR : Hid (Pv.el s.data.toList = r) := hr
  clear hr
  unfold maxLen at hs
  by_cases h1 : s.size < 1
  · go_enter Tryz.func77, Tryz.ntmps77
    go_wp2
    go_ret
    exact ⟨ret_bool (by rw [← HR.out, el_w1 s h1]; rfl), rfl⟩
  · by_cases h2 : 8 < s.size
    · go_enter Tryz.func77, Tryz.ntmps77
      go_wp2
      go_ret
      exact ⟨ret_bool (by rw [← HR.out, el_w2 s h2]; rfl), rfl⟩
    · have HF : Hid (a = r) := by
        show a = r
        rw [← HR.out, el_w3 s (by omega) (by omega), HA.out]
      go_enter Tryz.func77, Tryz.ntmps77
      go_wp2_with (go_at_call 107; refine k1.mono ?_; rintro e w' ⟨rfl, rfl⟩)
      go_ret
      exact ⟨ret_bool (by rw [HF.out, decide_eq_false (by omega : ¬ (s.size : Int) < 1), decide_eq_false (by omega : ¬ (8 : Int) < (s.size : Int))]; rfl), rfl⟩

/-- A text as a machine can hold it. -/
structure Wide where
  val : ByteArray
  property : val.size ≤ maxLen

theorem wide_list : ∀ (l : List ByteArray), (∀ x ∈ l, x.size ≤ maxLen) → ∃ z : List Wide, z.map Wide.val = l
  | [], _ => ⟨[], rfl⟩
  | x :: t, h => by
    obtain ⟨z, hz⟩ := wide_list t (fun y hy => h y (by simp [hy]))
    exact ⟨⟨x, h x (by simp)⟩ :: z, by simp [hz]⟩

theorem containsElement_any (l : List ByteArray) (hl : ∀ x ∈ l, x.size ≤ maxLen) (hn : l.length ≤ 40) (b c : Nat) (W : World) (hc : ∀ j, j < l.length → W.cell? ⟨b, j, none⟩ = some (.string l[j]!)) :
    Calls Tryz.prog 76 #[.slice (some ⟨b, 0, none⟩) l.length c, .func (.func 77) #[] #[]] W fun e w' => e = .returned (.bool (!(l.map (·.data.toList)).all Pv.el)) ∧ ∃ q, w' = W.drewN q := by
  letI : Inhabited Wide := ⟨⟨ByteArray.empty, by decide⟩⟩
  obtain ⟨z, rfl⟩ := wide_list l hl
  have hp : PredAt Tryz.prog 77 #[] (fun x : Wide => Value.string x.val) (fun x => !Pv.el x.val.data.toList) W := by
    intro W' x _
    refine (isNoElement_any x.val W' x.property).mono ?_
    rintro e w' ⟨rfl, rfl⟩
    exact ⟨rfl, 0, rfl⟩
  have k := Tryz.slices_ContainsFunc (fun x : Wide => Value.string x.val) (fun x => !Pv.el x.val.data.toList) 77 #[] enters191 b 0 z.length c z W hp (Nat.le_refl _) (by simp at hn; omega) (by
    intro j hj
    have := hc j (by simpa using hj)
    rw [Nat.zero_add, this, getElem!_pos _ j (by simpa using hj), getElem!_pos z j hj]
    simp)
  rw [List.take_length] at k
  have e : (!((z.map Wide.val).map (·.data.toList)).all Pv.el) = z.any (fun x => !Pv.el x.val.data.toList) := by
    rw [List.map_map, List.all_map, List.not_all_eq_any_not]
    rfl
  rw [List.length_map, e]
  exact k

theorem splitB_sizes (sep : ByteArray) : ∀ (k : Nat) (s x : ByteArray), x ∈ Lib.splitB sep 0 k s → x.size ≤ s.size
  | 0, s, x, h => by
    rw [Lib.splitB, List.mem_singleton] at h
    rw [h]; exact Nat.le_refl _
  | k + 1, s, x, h => by
    rw [Lib.splitB] at h
    split at h
    · rw [List.mem_singleton.1 h]; exact Nat.le_refl _
    · rcases List.mem_cons.1 h with e | e
      · rw [e, ByteArray.size_extract]; omega
      · have := splitB_sizes sep k _ x e
        rw [ByteArray.size_extract] at this
        omega

theorem splitB_count (sep : ByteArray) : ∀ (k : Nat) (s : ByteArray), (Lib.splitB sep 0 k s).length ≤ k + 1
  | 0, s => by rw [Lib.splitB]; simp
  | k + 1, s => by
    rw [Lib.splitB]
    split
    · simp
    · rw [List.length_cons]
      have := splitB_count sep k (s.extract ((Lib.indexB s sep).toNat + sep.size) s.size)
      omega

theorem cellsOf_get (l : List ByteArray) (n j : Nat) (hj : j < l.length) : (Lib.cellsOf l n)[j]? = some (.string l[j]!) := by
  unfold Lib.cellsOf
  rw [List.getElem?_toArray, List.getElem?_append_left (by simpa using hj), List.getElem?_map, List.getElem?_eq_getElem hj, getElem!_pos l j hj]
  rfl

set_option maxRecDepth 100000 in
set_option maxHeartbeats 1000000 in
/-- The program's IsPath. -/
theorem isPath_prog (s : ByteArray) (w : World) (_hm : Ml w) (hs : s.size < 281474976710656) :
    Calls Tryz.prog 58 #[.string s] w fun e w' => e = .returned (.bool (Pv.isPath s.data.toList)) ∧ Below w.heap.size w w' := by
  have k1 := splitN_slash s w hs
  have hP := Pv.splitK_path s.data.toList
  rw [← Lib.size_eq] at hP
  have hd : (Lib.splitB ⟨#[47]⟩ 0 (min 4 (s.size + 1) - 1) s).map (·.data.toList) = Lib.splitK [47] 0 (min 4 (s.size + 1) - 1) s.data.toList := Lib.splitB_data _ _ _ _
  rw [← hd, List.length_map] at hP
  have hsz : ∀ x ∈ Lib.splitB ⟨#[47]⟩ 0 (min 4 (s.size + 1) - 1) s, x.size ≤ maxLen := fun x hx => by
    have h1 := splitB_sizes ⟨#[47]⟩ (min 4 (s.size + 1) - 1) s x hx
    unfold maxLen
    omega
  have hln : (Lib.splitB ⟨#[47]⟩ 0 (min 4 (s.size + 1) - 1) s).length ≤ 4 := by
    have h1 := splitB_count ⟨#[47]⟩ (min 4 (s.size + 1) - 1) s
    omega
  generalize Lib.splitB ⟨#[47]⟩ 0 (min 4 (s.size + 1) - 1) s = l at *
  generalize min 4 (s.size + 1) = cp at *
  have hc : ∀ j, j < l.length → (w.alloc (.cells (Lib.cellsOf l cp) 9)).cell? ⟨w.heap.size, j, none⟩ = some (.string l[j]!) := fun j hj => by
    have b0 : (w.alloc (.cells (Lib.cellsOf l cp) 9)).heap[w.heap.size]? = some (.cells (Lib.cellsOf l cp) 9) := by
      show (w.heap.push _)[w.heap.size]? = _
      simp
    simp only [World.cell?, b0]
    exact cellsOf_get l cp j hj
  have k2 := containsElement_any l hsz (by omega) w.heap.size cp (w.alloc (.cells (Lib.cellsOf l cp) 9)) hc
  generalize hr : Pv.isPath s.data.toList = r at *
  generalize ha : (l.map (·.data.toList)).all Pv.el = a at *
  have HR : Hid ((decide (l.length ≤ 3) && a) = r) := hP
  have HB : Hid (Below w.heap.size w (w.alloc (.cells (Lib.cellsOf l cp) 9))) := (Below.refl _ _).alloc (Nat.le_refl _) _
  clear hP hr ha hd hsz hc
  go_enter Tryz.func58, Tryz.ntmps58
  go_wp2_with (go_at_call 75; fail)
  go_at_call 75
  refine k1.mono ?_
  rintro e w1 ⟨rfl, rfl⟩
  generalize w.alloc (.cells (Lib.cellsOf l cp) 9) = W1 at *
  clear k1
  by_cases h3 : l.length ≤ 3
  · have h3I : (l.length : Int) ≤ 3 := by omega
    have HF : Hid (a = r) := by
      have := HR.out
      rw [decide_eq_true h3] at this
      exact this
    go_wp2_with (go_at_call 76; refine k2.mono ?_; rintro e w2 ⟨rfl, q, hq⟩)
    go_ret
    exact ⟨ret_bool HF.out, below_drewN' HB.out q⟩
  · have h3I : ¬ ((l.length : Int) ≤ 3) := by omega
    have HF : Hid (false = r) := by
      have := HR.out
      rw [decide_eq_false h3] at this
      exact this
    go_wp2
    go_ret
    exact ⟨ret_bool HF.out, HB.out⟩

end Go.Proofs.YtiamomiafekihaaGreatDoor
