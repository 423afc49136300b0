/-
  Paths: what the program and the document's answer take for one. (The mathematics.)
  Paths: the program's IsPath and the document's.
  Paths: the document's IsPath.
-/
import Derived.Test.YtelmkfkgpnadnaaGreatDoorKPure
import Derived.Test.YtelmkfkgpnadnaaGreatDoorKWB
namespace Go.Proofs.YtelmkfkgpnadnaaGreatDoor
namespace Pv

def sd (c : UInt8) : Bool := sm c || dg c
/-- An element of a path. -/
def el (p : List UInt8) : Bool := decide (1 ≤ p.length) && decide (p.length ≤ 8) && p.all sd
def isPath (s : List UInt8) : Bool := decide ((spl 47 s).length ≤ 3) && (spl 47 s).all el

theorem sd47 : sd 47 = false := by decide

/-- The document's way: elements so far, bytes of the one that is open. -/
def pathGo : Nat → Nat → List UInt8 → Bool
  | e, n, [] => decide (0 < n) && decide (e ≤ 3)
  | e, n, c :: t => if sd c then (if 8 < n + 1 then false else pathGo e (n + 1) t) else if c = 47 ∧ 0 < n then (if 8 < 0 then false else pathGo (e + 1) 0 t) else false

theorem spl_cons_ne (c b : UInt8) (l : List UInt8) (h : b ≠ c) : ∃ p ps, spl c l = p :: ps ∧ spl c (b :: l) = (b :: p) :: ps := by
  cases hs : spl c l with
  | nil => exact absurd hs (spl_ne c l)
  | cons p ps => exact ⟨p, ps, rfl, by rw [spl, if_neg h, hs]⟩

theorem pathGo_eq : ∀ (t : List UInt8) (e n : Nat) (q : List UInt8), q.length = n → q.all sd = true → n ≤ 8 → 1 ≤ e →
    pathGo e n t = match spl 47 t with
      | [] => false
      | p :: ps => el (q ++ p) && ps.all el && decide (e + ps.length ≤ 3)
  | [], e, n, q, hq, ha, hn, he => by
    simp only [pathGo, spl, List.append_nil, List.all_nil, List.length_nil, Nat.add_zero, Bool.and_true]
    unfold el
    rw [ha, hq]
    have e1 : decide (1 ≤ n) = decide (0 < n) := rfl
    rw [e1, decide_eq_true hn]
    simp
  | c :: t, e, n, q, hq, ha, hn, he => by
    by_cases hc : sd c = true
    · have h47 : c ≠ 47 := fun e => by rw [e, sd47] at hc; cases hc
      obtain ⟨p, ps, h1, h2⟩ := spl_cons_ne 47 c t h47
      rw [pathGo, if_pos hc, h2]
      by_cases h8 : 8 < n + 1
      · rw [if_pos h8]
        have : el (q ++ c :: p) = false := by
          unfold el
          have : decide ((q ++ c :: p).length ≤ 8) = false := by rw [decide_eq_false_iff_not]; simp; omega
          rw [this]; simp
        simp only [this, Bool.false_and]
      · rw [if_neg h8, pathGo_eq t e (n + 1) (q ++ [c]) (by simp [hq]) (by rw [List.all_append, ha]; simp [hc]) (by omega) he, h1]
        simp
    · rw [pathGo, if_neg hc]
      by_cases h47 : c = 47
      · by_cases h0 : 0 < n
        · have hq1 : el q = true := by
            unfold el
            rw [ha, hq]
            simp [hn]; omega
          rw [if_pos ⟨h47, h0⟩, if_neg (by decide), pathGo_eq t (e + 1) 0 [] rfl rfl (by omega) (by omega), spl, if_pos h47]
          cases hs : spl 47 t with
          | nil => exact absurd hs (spl_ne 47 t)
          | cons p ps =>
            simp only [List.append_nil, List.nil_append, hq1, Bool.true_and, List.all_cons, List.length_cons]
            congr 1
            simp only [decide_eq_decide]
            omega
        · rw [if_neg (fun h => h0 h.2), spl, if_pos h47]
          have : el (q ++ []) = false := by
            unfold el
            have : n = 0 := by omega
            simp [hq, this]
          simp only [this, Bool.false_and]
      · obtain ⟨p, ps, h1, h2⟩ := spl_cons_ne 47 c t h47
        rw [if_neg (fun h => h47 h.1), h2]
        have hcf : sd c = false := by simpa using hc
        have : el (q ++ c :: p) = false := by
          unfold el
          have : (q ++ c :: p).all sd = false := by rw [List.all_append, List.all_cons, hcf]; simp
          rw [this]; simp
        simp only [this, Bool.false_and]

theorem pathGo_isPath (s : List UInt8) : pathGo 1 0 s = isPath s := by
  rw [pathGo_eq s 1 0 [] rfl rfl (by omega) (by omega)]
  unfold isPath
  cases hs : spl 47 s with
  | nil => exact absurd hs (spl_ne 47 s)
  | cons p ps =>
    simp only [List.nil_append, List.all_cons, List.length_cons]
    rw [Bool.and_comm (decide _)]
    congr 1
    simp only [decide_eq_decide]
    omega

theorem spl_length (c : UInt8) : ∀ s : List UInt8, (spl c s).length = s.count c + 1
  | [] => rfl
  | b :: l => by
    have ih := spl_length c l
    by_cases h : b = c
    · rw [spl, if_pos h, List.length_cons, ih, h, List.count_cons_self]
    · obtain ⟨p, ps, h1, h2⟩ := spl_cons_ne c b l h
      rw [h2, List.length_cons, List.count_cons_of_ne h, ← ih, h1, List.length_cons]

theorem splitK_length (c : UInt8) : ∀ (k : Nat) (s : List UInt8), k ≤ s.count c → (Lib.splitK [c] 0 k s).length = k + 1
  | 0, s, _ => rfl
  | k + 1, s, h => by
    unfold Lib.splitK
    rcases index_one c s with ⟨e, hm⟩ | ⟨p, q, rfl, hp, e⟩
    · rw [List.count_eq_zero.2 hm] at h; omega
    · rw [e, if_neg (by simp)]
      have hc : (p ++ c :: q).count c = q.count c + 1 := by
        rw [List.count_append, List.count_cons_self, List.count_eq_zero.2 hp]; omega
      rw [List.length_cons]
      have hd : (p ++ c :: q).drop (((p.length : Int)).toNat + [c].length) = q := by simp
      rw [hd, splitK_length c k q (by omega)]

/-- The program's way: at most four pieces are cut. -/
theorem splitK_path (s : List UInt8) : (decide ((Lib.splitK [47] 0 (min 4 (s.length + 1) - 1) s).length ≤ 3) && (Lib.splitK [47] 0 (min 4 (s.length + 1) - 1) s).all el) = isPath s := by
  by_cases h : s.count 47 ≤ min 4 (s.length + 1) - 1
  · rw [splitK_spl 47 _ s h]; rfl
  · have hle : s.count 47 ≤ s.length := List.count_le_length
    have h3 : min 4 (s.length + 1) - 1 = 3 := by omega
    rw [h3] at h ⊢
    have h1 := splitK_length 47 3 s (by omega)
    have h2 := spl_length 47 s
    unfold isPath
    rw [h1, decide_eq_false (by omega : ¬ (spl 47 s).length ≤ 3)]
    simp

end Pv
end Go.Proofs.YtelmkfkgpnadnaaGreatDoor

namespace Go.Proofs.YtelmkfkgpnadnaaGreatDoor
open Go.RowKit

theorem enters227 : ∀ args w, (callFunc 227 args).run Tryz.prog w = .ok (.enter 227 args) w := fun _ _ => by kernel_rfl
theorem enters191 : ∀ args w, (callFunc 191 args).run Tryz.prog w = .ok (.enter 191 args) w := fun _ _ => by kernel_rfl

theorem el_w1 (s : ByteArray) (h : s.size < 1) : Pv.el s.data.toList = false := by
  unfold Pv.el; rw [← Lib.size_eq]; rw [decide_eq_false (by omega : ¬ 1 ≤ s.size)]; rfl
theorem el_w2 (s : ByteArray) (h : 8 < s.size) : Pv.el s.data.toList = false := by
  unfold Pv.el; rw [← Lib.size_eq]; rw [decide_eq_false (by omega : ¬ s.size ≤ 8)]; simp
theorem el_w3 (s : ByteArray) (h1 : 1 ≤ s.size) (h8 : s.size ≤ 8) : Pv.el s.data.toList = s.data.toList.all Pv.sd := by
  unfold Pv.el; rw [← Lib.size_eq]; rw [decide_eq_true h1, decide_eq_true h8]; rfl

set_option maxHeartbeats 600000 in
theorem isNoElement_any (s : ByteArray) (w : World) (hs : s.size ≤ maxLen) :
    Calls Tryz.prog 191 #[.string s] w fun e w' => e = .returned (.bool (!Pv.el s.data.toList)) ∧ w' = w := by
  have k1 := allOf_any 227 Pv.sd enters227 isSmallOrDigit_any s w hs
  generalize ha : s.data.toList.all Pv.sd = a at k1
  have HA : Hid (s.data.toList.all Pv.sd = a) := ha
  clear ha
  generalize hr : Pv.el s.data.toList = r
  have HR : Hid (Pv.el s.data.toList = r) := hr
  clear hr
  unfold maxLen at hs
  by_cases h1 : s.size < 1
  · go_enter Tryz.func191, Tryz.ntmps191
    go_wp2
    go_ret
    exact ⟨ret_bool (by rw [← HR.out, el_w1 s h1]; rfl), rfl⟩
  · by_cases h2 : 8 < s.size
    · go_enter Tryz.func191, Tryz.ntmps191
      go_wp2
      go_ret
      exact ⟨ret_bool (by rw [← HR.out, el_w2 s h2]; rfl), rfl⟩
    · have HF : Hid (a = r) := by
        show a = r
        rw [← HR.out, el_w3 s (by omega) (by omega), HA.out]
      go_enter Tryz.func191, Tryz.ntmps191
      go_wp2_with (go_at_call 226; refine k1.mono ?_; rintro e w' ⟨rfl, rfl⟩)
      go_ret
      exact ⟨ret_bool (by rw [HF.out, decide_eq_false (by omega : ¬ (s.size : Int) < 1), decide_eq_false (by omega : ¬ (8 : Int) < (s.size : Int))]; rfl), rfl⟩

/-- A text as a machine can hold it. -/
structure Wide where
  val : ByteArray
  property : val.size ≤ maxLen

theorem wide_list : ∀ (l : List ByteArray), (∀ x ∈ l, x.size ≤ maxLen) → ∃ z : List Wide, z.map Wide.val = l
  | [], _ => ⟨[], rfl⟩
  | x :: t, h => by
    obtain ⟨z, hz⟩ := wide_list t (fun y hy => h y (by simp [hy]))
    exact ⟨⟨x, h x (by simp)⟩ :: z, by simp [hz]⟩

theorem containsElement_any (l : List ByteArray) (hl : ∀ x ∈ l, x.size ≤ maxLen) (hn : l.length ≤ 40) (b c : Nat) (W : World) (hc : ∀ j, j < l.length → W.cell? ⟨b, j, none⟩ = some (.string l[j]!)) :
    Calls Tryz.prog 190 #[.slice (some ⟨b, 0, none⟩) l.length c, .func (.func 191) #[] #[]] W fun e w' => e = .returned (.bool (!(l.map (·.data.toList)).all Pv.el)) ∧ ∃ q, w' = W.drewN q := by
  letI : Inhabited Wide := ⟨⟨ByteArray.empty, by decide⟩⟩
  obtain ⟨z, rfl⟩ := wide_list l hl
  have hp : PredAt Tryz.prog 191 #[] (fun x : Wide => Value.string x.val) (fun x => !Pv.el x.val.data.toList) W := by
    intro W' x _
    refine (isNoElement_any x.val W' x.property).mono ?_
    rintro e w' ⟨rfl, rfl⟩
    exact ⟨rfl, 0, rfl⟩
  have k := Tryz.slices_ContainsFunc (fun x : Wide => Value.string x.val) (fun x => !Pv.el x.val.data.toList) 191 #[] enters191 b 0 z.length c z W hp (Nat.le_refl _) (by simp at hn; omega) (by
    intro j hj
    have := hc j (by simpa using hj)
    rw [Nat.zero_add, this, getElem!_pos _ j (by simpa using hj), getElem!_pos z j hj]
    simp)
  rw [List.take_length] at k
  have e : (!((z.map Wide.val).map (·.data.toList)).all Pv.el) = z.any (fun x => !Pv.el x.val.data.toList) := by
    rw [List.map_map, List.all_map, List.not_all_eq_any_not]
    rfl
  rw [List.length_map, e]
  exact k

theorem splitB_sizes (sep : ByteArray) : ∀ (k : Nat) (s x : ByteArray), x ∈ Lib.splitB sep 0 k s → x.size ≤ s.size
  | 0, s, x, h => by
    rw [Lib.splitB, List.mem_singleton] at h
    rw [h]; exact Nat.le_refl _
  | k + 1, s, x, h => by
    rw [Lib.splitB] at h
    split at h
    · rw [List.mem_singleton.1 h]; exact Nat.le_refl _
    · rcases List.mem_cons.1 h with e | e
      · rw [e, ByteArray.size_extract]; omega
      · have := splitB_sizes sep k _ x e
        rw [ByteArray.size_extract] at this
        omega

theorem splitB_count (sep : ByteArray) : ∀ (k : Nat) (s : ByteArray), (Lib.splitB sep 0 k s).length ≤ k + 1
  | 0, s => by rw [Lib.splitB]; simp
  | k + 1, s => by
    rw [Lib.splitB]
    split
    · simp
    · rw [List.length_cons]
      have := splitB_count sep k (s.extract ((Lib.indexB s sep).toNat + sep.size) s.size)
      omega

theorem cellsOf_get (l : List ByteArray) (n j : Nat) (hj : j < l.length) : (Lib.cellsOf l n)[j]? = some (.string l[j]!) := by
  unfold Lib.cellsOf
  rw [List.getElem?_toArray, List.getElem?_append_left (by simpa using hj), List.getElem?_map, List.getElem?_eq_getElem hj, getElem!_pos l j hj]
  rfl

set_option maxRecDepth 100000 in
set_option maxHeartbeats 1000000 in
/-- The program's IsPath. -/
theorem isPath_prog (s : ByteArray) (w : World) (hm : Ml w) (hs : s.size < 4294967281) :
    Calls Tryz.prog 147 #[.string s] w fun e w' => e = .returned (.bool (Pv.isPath s.data.toList)) ∧ Below w.heap.size w w' := by
  obtain ⟨m, hmm⟩ := hm
  have k1 := Tryz.strings_SplitN s ⟨#[47]⟩ 4 m w hs hmm (by decide) (by decide) (by decide)
  have hP := Pv.splitK_path s.data.toList
  rw [← Lib.size_eq] at hP
  have hd : (Lib.splitB ⟨#[47]⟩ 0 (min 4 (s.size + 1) - 1) s).map (·.data.toList) = Lib.splitK [47] 0 (min 4 (s.size + 1) - 1) s.data.toList := Lib.splitB_data _ _ _ _
  rw [← hd, List.length_map] at hP
  have hsz : ∀ x ∈ Lib.splitB ⟨#[47]⟩ 0 (min 4 (s.size + 1) - 1) s, x.size ≤ maxLen := fun x hx => by
    have h1 := splitB_sizes ⟨#[47]⟩ (min 4 (s.size + 1) - 1) s x hx
    unfold maxLen
    omega
  have hln : (Lib.splitB ⟨#[47]⟩ 0 (min 4 (s.size + 1) - 1) s).length ≤ 4 := by
    have h1 := splitB_count ⟨#[47]⟩ (min 4 (s.size + 1) - 1) s
    omega
  generalize Lib.splitB ⟨#[47]⟩ 0 (min 4 (s.size + 1) - 1) s = l at *
  generalize min 4 (s.size + 1) = cp at *
  have hc : ∀ j, j < l.length → (w.alloc (.cells (Lib.cellsOf l cp) 9)).cell? ⟨w.heap.size, j, none⟩ = some (.string l[j]!) := fun j hj => by
    have b0 : (w.alloc (.cells (Lib.cellsOf l cp) 9)).heap[w.heap.size]? = some (.cells (Lib.cellsOf l cp) 9) := by
      show (w.heap.push _)[w.heap.size]? = _
      simp
    simp only [World.cell?, b0]
    exact cellsOf_get l cp j hj
  have k2 := containsElement_any l hsz (by omega) w.heap.size cp (w.alloc (.cells (Lib.cellsOf l cp) 9)) hc
  generalize hr : Pv.isPath s.data.toList = r at *
  generalize ha : (l.map (·.data.toList)).all Pv.el = a at *
  have HR : Hid ((decide (l.length ≤ 3) && a) = r) := hP
  have HB : Hid (Below w.heap.size w (w.alloc (.cells (Lib.cellsOf l cp) 9))) := (Below.refl _ _).alloc (Nat.le_refl _) _
  clear hP hr ha hd hsz hc hmm
  go_enter Tryz.func147, Tryz.ntmps147
  go_wp2_with (go_at_call 189; fail)
  go_at_call 189
  refine k1.mono ?_
  rintro e w1 ⟨rfl, rfl⟩
  generalize w.alloc (.cells (Lib.cellsOf l cp) 9) = W1 at *
  clear k1
  by_cases h3 : l.length ≤ 3
  · have h3I : (l.length : Int) ≤ 3 := by omega
    have HF : Hid (a = r) := by
      have := HR.out
      rw [decide_eq_true h3] at this
      exact this
    go_wp2_with (go_at_call 190; refine k2.mono ?_; rintro e w2 ⟨rfl, q, hq⟩)
    go_ret
    exact ⟨ret_bool HF.out, below_drewN' HB.out q⟩
  · have h3I : ¬ ((l.length : Int) ≤ 3) := by omega
    have HF : Hid (false = r) := by
      have := HR.out
      rw [decide_eq_false h3] at this
      exact this
    go_wp2
    go_ret
    exact ⟨ret_bool HF.out, HB.out⟩

end Go.Proofs.YtelmkfkgpnadnaaGreatDoor

namespace Go.Proofs.YtelmkfkgpnadnaaGreatDoor
open Go.RowKit

theorem pathGo_step (S : List UInt8) (i e n : Nat) (h : i < S.length) : Pv.pathGo e n (S.drop i) = if Pv.sd S[i] then (if 8 < n + 1 then false else Pv.pathGo e (n + 1) (S.drop (i + 1))) else if S[i] = 47 ∧ 0 < n then Pv.pathGo (e + 1) 0 (S.drop (i + 1)) else false := by
  rw [List.drop_eq_getElem_cons h, Pv.pathGo]
  rfl

theorem none_of {m d : Bool} (h : ¬ (m || d) = true) : d = false ∧ m = false := by
  cases d <;> cases m <;> simp_all

theorem eq47 (c : UInt8) : (c = 47) = ((c.toNat : Int) = 47) := by
  apply propext
  constructor
  · intro h; rw [h]; rfl
  · intro h
    apply UInt8.toNat.inj
    have : (47 : UInt8).toNat = 47 := rfl
    omega

set_option maxRecDepth 100000 in
set_option maxHeartbeats 800000 in
/-- The document's IsPath. -/
theorem isPath_doc (s : ByteArray) (w : World) (hs : s.size ≤ 4611686018427387904) :
    Calls Tryz.prog 138 #[.string s] w fun e w' => e = .returned (.bool (Pv.isPath s.data.toList)) ∧ w' = w := by
  have hG : Pv.pathGo 1 0 (s.data.toList.drop 0) = Pv.isPath s.data.toList := by rw [List.drop_zero]; exact Pv.pathGo_isPath _
  generalize Pv.isPath s.data.toList = r at *
  have HS : Hid (s.data.toList.length = s.size) := (Lib.size_eq s).symm
  have HG : Hid (Pv.pathGo 1 0 (s.data.toList.drop 0) = r) := hG
  clear hG
  go_enter Tryz.func138, Tryz.ntmps138
  go_wp2
  go_loopg [3, 4, 5] s.size (fun gg ev nv iv wr => ∃ e n i : Nat, ev = .int .i64 e ∧ nv = .int .i64 n ∧ iv = .int .i64 i ∧ i ≤ s.size ∧ s.size - i ≤ gg ∧ n ≤ 8 ∧ e ≤ i + 1 ∧ wr = w ∧ Hid (Pv.pathGo e n (s.data.toList.drop i) = r))
  case atStart => exact ⟨1, 0, 0, rfl, rfl, rfl, by omega, by omega, by omega, by omega, rfl, HG⟩
  case round =>
    obtain ⟨e, n, i, rfl, rfl, rfl, hi, hg, hn, he, hw, HR⟩ := hrel
    subst hw
    by_cases hlt : i < s.size
    · have hltI : (i : Int) < (s.size : Int) := by omega
      have hlt' : i < s.data.toList.length := by rw [HS.out]; exact hlt
      have hge : s.data.toList[i] = s[i] := rfl
      have HR2 := HR.out
      rw [pathGo_step _ i e n hlt', hge] at HR2
      have kd := fun W => refDigit_any s[i] W
      have ksm := fun W => refSmall_any s[i] W
      have hsd : Pv.sd s[i] = (Pv.sm s[i] || Pv.dg s[i]) := rfl
      rw [hsd] at HR2
      clear hge hsd HR
      have HE := eq47 s[i]
      generalize hcc : (s[i].toNat : Int) = cc at *
      generalize Pv.dg s[i] = d at *
      generalize Pv.sm s[i] = m at *
      by_cases hmd : (m || d) = true
      · rw [if_pos hmd] at HR2
        by_cases h8 : n < 8
        · rw [if_neg (by omega)] at HR2
          have HRn : Hid (Pv.pathGo e (n + 1) (s.data.toList.drop (i + 1)) = r) := HR2
          have h8I : ¬ ((n : Int) + 1 > 8) := by omega
          clear HR2 HE
          cases d <;> cases m
          · cases hmd
          all_goals
            clear hmd
            go_wp2_with (go_at_call 182; fail)
            go_at_call 182
            refine (kd _).mono ?_
            intro e1 w1 h1
            rw [h1.1, h1.2]
            clear h1 kd
            go_wp2_with (go_at_call 183; fail)
            go_at_call 183
            refine (ksm _).mono ?_
            intro e2 w2 h2
            rw [h2.1, h2.2]
            clear h2 ksm
            go_wp2
            go_roundg (s.size - (i + 1))
            case measure => omega
            case rel => exact ⟨e, n + 1, i + 1, rfl, by go_num, by go_num, by omega, by omega, by omega, by omega, rfl, HRn⟩
        · rw [if_pos (by omega)] at HR2
          have HRn : Hid (false = r) := HR2
          obtain rfl : n = 8 := by omega
          clear hn h8
          clear HR2 HE
          cases d <;> cases m
          · cases hmd
          all_goals
            clear hmd
            go_wp2_with (go_at_call 182; fail)
            go_at_call 182
            refine (kd _).mono ?_
            intro e1 w1 h1
            rw [h1.1, h1.2]
            clear h1 kd
            go_wp2_with (go_at_call 183; fail)
            go_at_call 183
            refine (ksm _).mono ?_
            intro e2 w2 h2
            rw [h2.1, h2.2]
            clear h2 ksm
            go_wp2
            go_ret
            exact ⟨ret_bool HRn.out, rfl⟩
      · rw [if_neg hmd] at HR2
        obtain ⟨hd0, hm0⟩ := none_of hmd
        subst hd0 hm0
        clear hmd
        by_cases h47' : s[i] = 47
        · have h47 : cc = 47 := by rw [HE] at h47'; exact h47'
          by_cases h0 : 0 < n
          · rw [if_pos ⟨h47', h0⟩] at HR2
            have HRn : Hid (Pv.pathGo (e + 1) 0 (s.data.toList.drop (i + 1)) = r) := HR2
            have h0I : (0 : Int) < (n : Int) := by omega
            have hq : (cc == 47) = true := by rw [h47]; rfl
            clear HR2 HE h47' h47
            go_wp2_with (go_at_call 182; fail)
            go_at_call 182
            refine (kd _).mono ?_
            intro e1 w1 h1
            rw [h1.1, h1.2]
            clear h1 kd
            go_wp2_with (go_at_call 183; fail)
            go_at_call 183
            refine (ksm _).mono ?_
            intro e2 w2 h2
            rw [h2.1, h2.2]
            clear h2 ksm
            go_wp2
            go_roundg (s.size - (i + 1))
            case measure => omega
            case rel => exact ⟨e + 1, 0, i + 1, by go_num, rfl, by go_num, by omega, by omega, by omega, by omega, rfl, HRn⟩
          · rw [if_neg (fun h => h0 h.2)] at HR2
            have HRn : Hid (false = r) := HR2
            have h0I : ¬ ((0 : Int) < (n : Int)) := by omega
            have hq : (cc == 47) = true := by rw [h47]; rfl
            clear HR2 HE h47' h47
            go_wp2_with (go_at_call 182; fail)
            go_at_call 182
            refine (kd _).mono ?_
            intro e1 w1 h1
            rw [h1.1, h1.2]
            clear h1 kd
            go_wp2_with (go_at_call 183; fail)
            go_at_call 183
            refine (ksm _).mono ?_
            intro e2 w2 h2
            rw [h2.1, h2.2]
            clear h2 ksm
            go_wp2
            go_ret
            exact ⟨ret_bool HRn.out, rfl⟩
        · have h47 : ¬ cc = 47 := by rw [HE] at h47'; exact h47'
          rw [if_neg (fun h => h47' h.1)] at HR2
          have HRn : Hid (false = r) := HR2
          have hq : (cc == 47) = false := by rw [beq_eq_false_iff_ne]; exact h47
          clear HR2 HE h47' h47
          go_wp2_with (go_at_call 182; fail)
          go_at_call 182
          refine (kd _).mono ?_
          intro e1 w1 h1
          rw [h1.1, h1.2]
          clear h1 kd
          go_wp2_with (go_at_call 183; fail)
          go_at_call 183
          refine (ksm _).mono ?_
          intro e2 w2 h2
          rw [h2.1, h2.2]
          clear h2 ksm
          go_wp2
          go_ret
          exact ⟨ret_bool HRn.out, rfl⟩
    · have hltI : ¬ ((i : Int) < (s.size : Int)) := by omega
      have HRn : Hid ((decide (0 < n) && decide (e ≤ 3)) = r) := by
        have h := HR.out
        rw [List.drop_of_length_le (by rw [HS.out]; omega)] at h
        exact h
      clear HR
      by_cases h0 : 0 < n
      · by_cases h3 : e ≤ 3
        · have h0I : (0 : Int) < (n : Int) := by omega
          have h3I : (e : Int) ≤ 3 := by omega
          have HF : Hid (true = r) := by have := HRn.out; rw [decide_eq_true h0, decide_eq_true h3] at this; exact this
          clear HRn
          go_wp2
          go_ret
          exact ⟨ret_bool HF.out, rfl⟩
        · have h0I : (0 : Int) < (n : Int) := by omega
          have h3I : ¬ ((e : Int) ≤ 3) := by omega
          have HF : Hid (false = r) := by have := HRn.out; rw [decide_eq_true h0, decide_eq_false h3] at this; exact this
          clear HRn
          go_wp2
          go_ret
          exact ⟨ret_bool HF.out, rfl⟩
      · have h0I : ¬ ((0 : Int) < (n : Int)) := by omega
        have HF : Hid (false = r) := by have := HRn.out; rw [decide_eq_false h0] at this; exact this
        clear HRn
        go_wp2
        go_ret
        exact ⟨ret_bool HF.out, rfl⟩

end Go.Proofs.YtelmkfkgpnadnaaGreatDoor
