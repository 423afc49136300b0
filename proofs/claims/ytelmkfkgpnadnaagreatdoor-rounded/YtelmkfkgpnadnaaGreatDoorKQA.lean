/-
  The program's reading of a line of a manifest: the small questions.
  The program's reading of a line of a manifest: what a line says.
  The plain mathematics of a manifest's line: where it has a slip of a kind; what it says; what of it may be said once.
-/
import Derived.Test.YtelmkfkgpnadnaaGreatDoorKIA
import Derived.Test.YtelmkfkgpnadnaaGreatDoorKNA
import Derived.Test.YtelmkfkgpnadnaaGreatDoorKJA
namespace Go.Proofs.YtelmkfkgpnadnaaGreatDoor
open Go.RowKit

variable {w w' : World}

/-- The kinds of a first word's places, in memory. -/
def kcells (ks : List Nat) : Array Value := (ks.map fun k : Nat => Value.int .i64 (k : Int)).toArray

abbrev bMod : ByteArray := ⟨#[109, 111, 100, 117, 108, 101]⟩
abbrev bReq : ByteArray := ⟨#[114, 101, 113, 117, 105, 114, 101]⟩
abbrev bExc : ByteArray := ⟨#[101, 120, 99, 108, 117, 100, 101]⟩
abbrev bRep : ByteArray := ⟨#[114, 101, 112, 108, 97, 99, 101]⟩

theorem ba_list {x : ByteArray} {l : List UInt8} (h : x.data.toList = l) : x = ⟨l.toArray⟩ := by
  cases x with
  | mk d => rw [← h]

theorem list_ne {x : ByteArray} {l : List UInt8} (h : x.data.toList ≠ l) : (x.toList == l) = false := by
  rw [beq_eq_false_iff_ne, Lib.toList_data]
  exact h

set_option maxHeartbeats 1000000 in
theorem manShape_some (x : ByteArray) (ks : List Nat) (h : Tx.shape false x.data.toList = some ks) (w : World) :
    Calls Tryz.prog 85 #[.string x] w fun e w' => e = .returned (.tuple #[.slice (some ⟨w.heap.size, 0, none⟩) ks.length ks.length, .bool true]) ∧ w' = w.alloc (.cells (kcells ks) 3) := by
  unfold Tx.shape at h
  simp only [Bool.false_eq_true, if_false] at h
  by_cases hM : x.data.toList = Tx.wM
  · rw [if_pos hM] at h
    obtain rfl := Option.some.inj h
    obtain rfl : x = bMod := ba_list hM
    clear h hM
    go_enter Tryz.func85, Tryz.ntmps85
    go_wp2
    go_ret2
    exact ⟨rfl, rfl⟩
  rw [if_neg hM] at h
  by_cases hR : x.data.toList = Tx.wR
  · rw [if_pos (Or.inl hR)] at h
    obtain rfl := Option.some.inj h
    obtain rfl : x = bReq := ba_list hR
    clear h hM hR
    go_enter Tryz.func85, Tryz.ntmps85
    go_wp2
    go_ret2
    exact ⟨rfl, rfl⟩
  by_cases hE : x.data.toList = Tx.wE
  · rw [if_pos (Or.inr hE)] at h
    obtain rfl := Option.some.inj h
    obtain rfl : x = bExc := ba_list hE
    clear h hM hE hR
    go_enter Tryz.func85, Tryz.ntmps85
    go_wp2
    go_ret2
    exact ⟨rfl, rfl⟩
  rw [if_neg (fun hh => hh.elim hR hE)] at h
  by_cases hP : x.data.toList = Tx.wP
  · rw [if_pos hP] at h
    obtain rfl := Option.some.inj h
    obtain rfl : x = bRep := ba_list hP
    clear h hM hE hR hP
    go_enter Tryz.func85, Tryz.ntmps85
    go_wp2
    go_ret2
    exact ⟨rfl, rfl⟩
  · rw [if_neg hP] at h
    cases h

set_option maxHeartbeats 1000000 in
theorem manShape_none (x : ByteArray) (h : Tx.shape false x.data.toList = none) (w : World) :
    Calls Tryz.prog 85 #[.string x] w fun e w' => e = .returned (.tuple #[.slice none 0 0, .bool false]) ∧ w' = w := by
  unfold Tx.shape at h
  simp only [Bool.false_eq_true, if_false] at h
  have hM : x.data.toList ≠ Tx.wM := fun e => by rw [if_pos e] at h; cases h
  rw [if_neg hM] at h
  have hRE : ¬ (x.data.toList = Tx.wR ∨ x.data.toList = Tx.wE) := fun e => by rw [if_pos e] at h; cases h
  rw [if_neg hRE] at h
  have hP : x.data.toList ≠ Tx.wP := fun e => by rw [if_pos e] at h; cases h
  have h1 := list_ne hM
  have h2 := list_ne (fun e => hRE (Or.inl e))
  have h3 := list_ne (fun e => hRE (Or.inr e))
  have h4 := list_ne hP
  unfold Tx.wM at h1
  unfold Tx.wR at h2
  unfold Tx.wE at h3
  unfold Tx.wP at h4
  clear h hM hRE hP
  go_enter Tryz.func85, Tryz.ntmps85
  go_wp2
  go_ret2
  exact ⟨rfl, rfl⟩

set_option maxHeartbeats 400000 in
theorem fits_path (x : ByteArray) (w : World) (hm : Ml w) (hs : x.size ≤ 4000) :
    Calls Tryz.prog 216 #[.int .i64 5, .string x] w fun e w' => e = .returned (.bool (Tx.fit Pv.isPath 5 x.data.toList)) ∧ Below w.heap.size w w' := by
  have hfit : Tx.fit Pv.isPath 5 x.data.toList = Pv.isPath x.data.toList := rfl
  rw [hfit]
  have k := isPath_prog x w hm (by omega)
  generalize Pv.isPath x.data.toList = r at k
  go_enter Tryz.func216, Tryz.ntmps216
  go_wp2_with (go_at_call 147; fail)
  go_at_call 147
  refine k.mono ?_
  rintro e w' ⟨rfl, hb⟩
  clear k
  go_wp2
  go_ret
  exact ⟨rfl, hb⟩

theorem fits_all (x : ByteArray) (k : Nat) (w : World) (hm : Ml w) (hs : x.size ≤ 4000) (hk : k = 5 ∨ k = 6 ∨ k = 7) :
    Calls Tryz.prog 216 #[.int .i64 k, .string x] w fun e w' => e = .returned (.bool (Tx.fit Pv.isPath k x.data.toList)) ∧ Below w.heap.size w w' := by
  rcases hk with rfl | rfl | rfl
  · exact fits_path x w hm hs
  · exact fits_version Pv.isPath x w hm
  · have h := fits_arrow x w
    have e : Tx.fit Pv.isPath 7 x.data.toList = (x.toList == [61, 62]) := by rw [Lib.toList_data]; rfl
    rw [e]
    exact h

end Go.Proofs.YtelmkfkgpnadnaaGreatDoor

namespace Go.Proofs.YtelmkfkgpnadnaaGreatDoor
open Go.RowKit

variable {w w' : World}

set_option maxRecDepth 100000 in
set_option maxHeartbeats 4000000 in
theorem statement_p (p b n c : Nat) (f v : ByteArray) (w : World) (hn : 2 ≤ n) (hn4 : n ≤ 4000) (hp : p < w.heap.size) (hb : b < w.heap.size) (hk : w.cell? ⟨p, 0, none⟩ = some (.int .i64 5)) (h1 : w.cell? ⟨b, 1, none⟩ = some (.string f)) (h3 : w.cell? ⟨b, 3, none⟩ = some (.string v)) :
    Calls Tryz.prog 173 #[.slice (some ⟨p, 0, none⟩) 1 1, .slice (some ⟨b, 0, none⟩) n c] w fun e w' => e = .returned (.agg #[.string f, .string v, .string ⟨#[]⟩, .string ⟨#[]⟩]) ∧ Below w.heap.size w w' := by
  have hal : ∀ ob : Obj, (w.alloc ob).cell? ⟨b, 0 + 1, none⟩ = some (.string f) := fun ob => by
    rw [((Below.refl w.heap.size w).alloc (Nat.le_refl _) ob).cell (p := ⟨b, 0 + 1, none⟩) hb]; exact h1
  have hB : ∀ ob ob' : Obj, Below w.heap.size w ((w.alloc ob).alloc ob') := fun ob ob' => ((Below.refl w.heap.size w).alloc (Nat.le_refl _) ob).alloc (by simp) ob'
  have hk2 : ∀ ob ob' : Obj, ((w.alloc ob).alloc ob').cell? ⟨p, 0, none⟩ = some (.int .i64 5) := fun ob ob' => by rw [(hB ob ob').cell (p := ⟨p, 0, none⟩) hp]; exact hk
  have h32 : ∀ ob ob' : Obj, ((w.alloc ob).alloc ob').cell? ⟨b, 0 + (1 + 0) * 2 + 1, none⟩ = some (.string v) := fun ob ob' => by rw [(hB ob ob').cell (p := ⟨b, 0 + (1 + 0) * 2 + 1, none⟩) hb]; exact h3
  go_enter Tryz.func173, Tryz.ntmps173
  go_wp2_with (rw [hal])
  refine wp_loop_rounds 2 ?_
  rw [rounds_succ]
  go_wp2
  rw [rounds_succ]
  go_wp2
  exact bodyPost_ret (v := .agg #[.string f, .string v, .string ⟨#[]⟩, .string ⟨#[]⟩]) (by simp [results, Tryz.results173, go_sem]) rfl ⟨rfl, hB _ _⟩

set_option maxRecDepth 100000 in
set_option maxHeartbeats 4000000 in
theorem statement_pv (p b n c : Nat) (f v u : ByteArray) (w : World) (hn : 3 ≤ n) (hn4 : n ≤ 4000) (hp : p < w.heap.size) (hb : b < w.heap.size) (hk0 : w.cell? ⟨p, 0, none⟩ = some (.int .i64 5)) (hk1 : w.cell? ⟨p, 1, none⟩ = some (.int .i64 6)) (h1 : w.cell? ⟨b, 1, none⟩ = some (.string f)) (h3 : w.cell? ⟨b, 3, none⟩ = some (.string v)) (h5 : w.cell? ⟨b, 5, none⟩ = some (.string u)) :
    Calls Tryz.prog 173 #[.slice (some ⟨p, 0, none⟩) 2 2, .slice (some ⟨b, 0, none⟩) n c] w fun e w' => e = .returned (.agg #[.string f, .string v, .string u, .string ⟨#[]⟩]) ∧ Below w.heap.size w w' := by
  have hal : ∀ ob : Obj, (w.alloc ob).cell? ⟨b, 0 + 1, none⟩ = some (.string f) := fun ob => by
    rw [((Below.refl w.heap.size w).alloc (Nat.le_refl _) ob).cell (p := ⟨b, 0 + 1, none⟩) hb]; exact h1
  have hB : ∀ ob ob' : Obj, Below w.heap.size w ((w.alloc ob).alloc ob') := fun ob ob' => ((Below.refl w.heap.size w).alloc (Nat.le_refl _) ob).alloc (by simp) ob'
  go_enter Tryz.func173, Tryz.ntmps173
  go_wp2_with (rw [hal])
  refine wp_loop_rounds 3 ?_
  rw [rounds_succ]
  go_wp2
  rw [rounds_succ]
  go_wp2
  rw [rounds_succ]
  go_wp2
  exact bodyPost_ret (v := .agg #[.string f, .string v, .string u, .string ⟨#[]⟩]) (by simp [results, Tryz.results173, go_sem]) rfl ⟨rfl, hB _ _⟩

set_option maxRecDepth 100000 in
set_option maxHeartbeats 4000000 in
theorem statement_rep (p b n c : Nat) (f v u a y : ByteArray) (w : World) (hn : 5 ≤ n) (hn4 : n ≤ 4000) (hp : p < w.heap.size) (hb : b < w.heap.size) (hu : (u.toList == []) = false) (hk0 : w.cell? ⟨p, 0, none⟩ = some (.int .i64 5)) (hk1 : w.cell? ⟨p, 1, none⟩ = some (.int .i64 6)) (hk2 : w.cell? ⟨p, 2, none⟩ = some (.int .i64 7)) (hk3 : w.cell? ⟨p, 3, none⟩ = some (.int .i64 6))
    (h1 : w.cell? ⟨b, 1, none⟩ = some (.string f)) (h3 : w.cell? ⟨b, 3, none⟩ = some (.string v)) (h5 : w.cell? ⟨b, 5, none⟩ = some (.string u)) (h7 : w.cell? ⟨b, 7, none⟩ = some (.string a)) (h9 : w.cell? ⟨b, 9, none⟩ = some (.string y)) :
    Calls Tryz.prog 173 #[.slice (some ⟨p, 0, none⟩) 4 4, .slice (some ⟨b, 0, none⟩) n c] w fun e w' => e = .returned (.agg #[.string f, .string v, .string u, .string y]) ∧ Below w.heap.size w w' := by
  have hal : ∀ ob : Obj, (w.alloc ob).cell? ⟨b, 0 + 1, none⟩ = some (.string f) := fun ob => by
    rw [((Below.refl w.heap.size w).alloc (Nat.le_refl _) ob).cell (p := ⟨b, 0 + 1, none⟩) hb]; exact h1
  have hB : ∀ ob ob' : Obj, Below w.heap.size w ((w.alloc ob).alloc ob') := fun ob ob' => ((Below.refl w.heap.size w).alloc (Nat.le_refl _) ob).alloc (by simp) ob'
  go_enter Tryz.func173, Tryz.ntmps173
  go_wp2_with (rw [hal])
  refine wp_loop_rounds 5 ?_
  rw [rounds_succ]
  go_wp2
  rw [rounds_succ]
  go_wp2
  rw [rounds_succ]
  go_wp2
  rw [rounds_succ]
  go_wp2
  rw [rounds_succ]
  go_wp2
  exact bodyPost_ret (v := .agg #[.string f, .string v, .string u, .string y]) (by simp [results, Tryz.results173, go_sem]) rfl ⟨rfl, hB _ _⟩

end Go.Proofs.YtelmkfkgpnadnaaGreatDoor

namespace Go.Proofs.YtelmkfkgpnadnaaGreatDoor
open Go.RowKit

abbrev Wl := List (Nat × ByteArray)
abbrev Sm4 := ByteArray × ByteArray × ByteArray × ByteArray
abbrev Cl := ByteArray × ByteArray × ByteArray

def wd (l : Wl) (j : Nat) : ByteArray := (l.getD j pad).2
def stOf (l : Wl) : Sm4 := (wd l 0, wd l 1, wd l 2, wd l 4)
def clSt (s : Sm4) : Cl := (s.1, s.2.1, if s.1 = bReq then ⟨#[]⟩ else s.2.2.1)
def clOf (l : Wl) : Cl := clSt (stOf l)

/-- A line has the words that its first one asks. -/
structure Ok (l : Wl) (ks : List Nat) : Prop where
  sh : Tx.shape false (wd l 0).data.toList = some ks
  len : l.length = ks.length + 1
  m5 : Tx.misfit Pv.isPath 5 ks (wtoks l).tail = none
  m6 : Tx.misfit Pv.isPath 6 ks (wtoks l).tail = none
  m7 : Tx.misfit Pv.isPath 7 ks (wtoks l).tail = none

def cnt (ks : List Nat) (l : Wl) : Int :=
  if ks.length + 1 < l.length then ((l.getD (ks.length + 1) pad).1 : Int) else if l.length < ks.length + 1 then ((l.getD (l.length - 1) pad).1 : Int) + ((l.getD (l.length - 1) pad).2.size : Int) else -1

/-- Where a line of a manifest has a slip of a kind, if it has none of a lower one. -/
def lineM (l : Wl) (lead dup many : Bool) (k : Nat) : Int :=
  if k = 2 then (if ((wd l 0).data.toList == Tx.wM) ≠ lead then ((l.getD 0 pad).1 : Int) else -1)
  else match Tx.shape false (wd l 0).data.toList with
    | none => ((l.getD 0 pad).1 : Int)
    | some ks => if k = 3 then -1 else if k = 4 then cnt ks l else if k = 8 then (if dup then ((l.getD 0 pad).1 : Int) else -1)
      else if k = 9 then (if (wd l 0).data.toList = Tx.wR ∧ many = true then ((l.getD 0 pad).1 : Int) else -1) else atOr (Tx.misfit Pv.isPath k ks (wtoks l).tail)

theorem hd_wd {l : Wl} (h : l ≠ []) : Tx.hd (wtoks l) = ((l.getD 0 pad).1, (wd l 0).data.toList) := by
  cases l with
  | nil => exact absurd rfl h
  | cons x r => rfl

theorem wtoks_len (l : Wl) : (wtoks l).length = l.length := by simp [wtoks]

theorem wtoks_getD (l : Wl) (j : Nat) : ((wtoks l).getD j (0, [])) = ((l.getD j pad).1, (l.getD j pad).2.data.toList) := by
  unfold wtoks
  simp only [List.getD, List.getElem?_map]
  cases l[j]? with
  | none => rfl
  | some x => rfl

theorem nth_wd (l : Wl) (j : Nat) : Tx.nth (wtoks l) j = (wd l j).data.toList := by
  unfold Tx.nth
  rw [wtoks_getD]
  rfl

theorem fin_wd {l : Wl} (h : l ≠ []) : Tx.fin (wtoks l) = (l.getD (l.length - 1) pad).1 + (l.getD (l.length - 1) pad).2.size := by
  have hl : 0 < l.length := List.length_pos_iff.2 h
  have e : (wtoks l).getLastD (0, []) = ((l.getD (l.length - 1) pad).1, (l.getD (l.length - 1) pad).2.data.toList) := by
    rw [← wtoks_getD, List.getLastD_eq_getLast?, List.getLast?_eq_getElem?, wtoks_len]
    rfl
  unfold Tx.fin
  rw [e, ← Lib.size_eq]

theorem line_slipM (l : Wl) (hne : l ≠ []) (lead dup many : Bool) :
    (Tx.slip false Pv.isPath lead dup many (wtoks l) = none ∧ (∀ k, 2 ≤ k → k ≤ 9 → lineM l lead dup many k = -1) ∧ (∃ ks, Ok l ks) ∧ dup = false) ∨
    (∃ a k : Nat, Tx.slip false Pv.isPath lead dup many (wtoks l) = some (a, k) ∧ 2 ≤ k ∧ k ≤ 9 ∧ lineM l lead dup many k = (a : Int) ∧ ∀ j, 2 ≤ j → j < k → lineM l lead dup many j = -1) := by
  unfold Tx.slip Tx.own
  rw [hd_wd hne]
  simp only [true_and, wtoks_len, fin_wd hne, wtoks_getD]
  by_cases h2 : ((wd l 0).data.toList == Tx.wM) ≠ lead
  · rw [if_pos h2]
    right
    refine ⟨_, 2, rfl, by omega, by omega, ?_, fun j h1 h3 => by omega⟩
    unfold lineM
    rw [if_pos rfl, if_pos h2]
  rw [if_neg h2]
  have l2 : lineM l lead dup many 2 = -1 := by
    unfold lineM
    rw [if_pos rfl, if_neg h2]
  cases hs : Tx.shape false (wd l 0).data.toList with
  | none =>
    right
    refine ⟨_, 3, rfl, by omega, by omega, ?_, fun j h1 h3 => by rw [show j = 2 by omega]; exact l2⟩
    unfold lineM
    rw [if_neg (by decide), hs]
  | some ks =>
    have l3 : lineM l lead dup many 3 = -1 := by
      unfold lineM
      rw [if_neg (by decide), hs]
      rfl
    have l4 : lineM l lead dup many 4 = cnt ks l := by
      unfold lineM
      rw [if_neg (by decide), hs]
      rfl
    have lk : ∀ k, k = 5 ∨ k = 6 ∨ k = 7 → lineM l lead dup many k = atOr (Tx.misfit Pv.isPath k ks (wtoks l).tail) := fun k hk => by
      unfold lineM
      rw [if_neg (by omega), hs]
      simp only
      rw [if_neg (by omega), if_neg (by omega), if_neg (by omega), if_neg (by omega)]
    have l8 : lineM l lead dup many 8 = if dup then ((l.getD 0 pad).1 : Int) else -1 := by
      unfold lineM
      rw [if_neg (by decide), hs]
      rfl
    have l9 : lineM l lead dup many 9 = if (wd l 0).data.toList = Tx.wR ∧ many = true then ((l.getD 0 pad).1 : Int) else -1 := by
      unfold lineM
      rw [if_neg (by decide), hs]
      rfl
    simp only
    by_cases hm : ks.length + 1 < l.length
    · rw [if_pos hm]
      right
      refine ⟨_, 4, rfl, by omega, by omega, ?_, fun j h1 h3 => ?_⟩
      · rw [l4]; unfold cnt; rw [if_pos hm]
      · rcases (by omega : j = 2 ∨ j = 3) with rfl | rfl <;> assumption
    rw [if_neg hm]
    by_cases hf : l.length < ks.length + 1
    · rw [if_pos hf]
      right
      refine ⟨_, 4, rfl, by omega, by omega, ?_, fun j h1 h3 => ?_⟩
      · rw [l4]; unfold cnt; rw [if_neg hm, if_pos hf]; simp
      · rcases (by omega : j = 2 ∨ j = 3) with rfl | rfl <;> assumption
    rw [if_neg hf]
    have l4' : lineM l lead dup many 4 = -1 := by rw [l4]; unfold cnt; rw [if_neg hm, if_neg hf]
    have l5 := lk 5 (by omega)
    have l6 := lk 6 (by omega)
    have l7 := lk 7 (by omega)
    cases m5 : Tx.misfit Pv.isPath 5 ks (wtoks l).tail with
    | some a =>
      right
      refine ⟨a, 5, rfl, by omega, by omega, by rw [l5, m5]; rfl, fun j h1 h3 => ?_⟩
      rcases (by omega : j = 2 ∨ j = 3 ∨ j = 4) with rfl | rfl | rfl <;> assumption
    | none =>
      rw [m5] at l5
      cases m6 : Tx.misfit Pv.isPath 6 ks (wtoks l).tail with
      | some a =>
        right
        refine ⟨a, 6, rfl, by omega, by omega, by rw [l6, m6]; rfl, fun j h1 h3 => ?_⟩
        rcases (by omega : j = 2 ∨ j = 3 ∨ j = 4 ∨ j = 5) with rfl | rfl | rfl | rfl <;> assumption
      | none =>
        rw [m6] at l6
        cases m7 : Tx.misfit Pv.isPath 7 ks (wtoks l).tail with
        | some a =>
          right
          refine ⟨a, 7, rfl, by omega, by omega, by rw [l7, m7]; rfl, fun j h1 h3 => ?_⟩
          rcases (by omega : j = 2 ∨ j = 3 ∨ j = 4 ∨ j = 5 ∨ j = 6) with rfl | rfl | rfl | rfl | rfl <;> assumption
        | none =>
          rw [m7] at l7
          simp only
          cases dup with
          | true =>
            right
            refine ⟨_, 8, rfl, by omega, by omega, by rw [l8]; rfl, fun j h1 h3 => ?_⟩
            rcases (by omega : j = 2 ∨ j = 3 ∨ j = 4 ∨ j = 5 ∨ j = 6 ∨ j = 7) with rfl | rfl | rfl | rfl | rfl | rfl <;> assumption
          | false =>
            rw [if_neg (by decide)]
            have l8' : lineM l lead false many 8 = -1 := by rw [l8]; rfl
            by_cases h9 : (wd l 0).data.toList = Tx.wR ∧ many = true
            · rw [if_pos h9]
              right
              refine ⟨_, 9, rfl, by omega, by omega, by rw [l9, if_pos h9], fun j h1 h3 => ?_⟩
              rcases (by omega : j = 2 ∨ j = 3 ∨ j = 4 ∨ j = 5 ∨ j = 6 ∨ j = 7 ∨ j = 8) with rfl | rfl | rfl | rfl | rfl | rfl | rfl <;> assumption
            · rw [if_neg h9]
              left
              refine ⟨rfl, fun k k2 k9 => ?_, ⟨ks, hs, by omega, m5, m6, m7⟩, rfl⟩
              have l9' : lineM l lead false many 9 = -1 := by rw [l9, if_neg h9]
              rcases (by omega : k = 2 ∨ k = 3 ∨ k = 4 ∨ k = 5 ∨ k = 6 ∨ k = 7 ∨ k = 8 ∨ k = 9) with rfl | rfl | rfl | rfl | rfl | rfl | rfl | rfl <;> assumption

theorem ba_eq (x y : ByteArray) : x = y ↔ x.data.toList = y.data.toList := ⟨fun h => by rw [h], fun h => ByteArray.ext (Array.toList_inj.1 h)⟩

/-- The three shapes. -/
theorem shape_cases {f : List UInt8} {ks : List Nat} (h : Tx.shape false f = some ks) : (f = Tx.wM ∧ ks = [5]) ∨ ((f = Tx.wR ∨ f = Tx.wE) ∧ ks = [5, 6]) ∨ (f = Tx.wP ∧ ks = [5, 6, 7, 6]) := by
  unfold Tx.shape at h
  simp only [Bool.false_eq_true, if_false] at h
  split at h
  · exact Or.inl ⟨by assumption, (Option.some.inj h).symm⟩
  · split at h
    · exact Or.inr (Or.inl ⟨by assumption, (Option.some.inj h).symm⟩)
    · split at h
      · exact Or.inr (Or.inr ⟨by assumption, (Option.some.inj h).symm⟩)
      · cases h

/-- What may be said once, of a line with the words that it wants: both ways. -/
theorem claim_cl {l : Wl} {ks : List Nat} (h : Ok l ks) : Tx.claim (wtoks l) = ((clOf l).1.data.toList, (clOf l).2.1.data.toList, (clOf l).2.2.data.toList) := by
  have hne : l ≠ [] := fun e => by have := h.len; rw [e] at this; simp at this
  unfold Tx.claim
  rw [hd_wd hne, nth_wd, nth_wd]
  show _ = ((wd l 0).data.toList, (wd l 1).data.toList, (if wd l 0 = bReq then (⟨#[]⟩ : ByteArray) else wd l 2).data.toList)
  simp only
  have hR : wd l 0 = bReq ↔ (wd l 0).data.toList = Tx.wR := ba_eq _ bReq
  rcases shape_cases h.sh with ⟨e, hk⟩ | ⟨e, hk⟩ | ⟨e, hk⟩
  · have hlen : l.length = 2 := by have := h.len; rw [hk] at this; exact this
    have h2 : wd l 2 = ⟨#[]⟩ := by
      unfold wd
      rw [List.getD, List.getElem?_eq_none (by omega)]
      rfl
    have n1 : ¬ (wd l 0 = bReq) := fun hh => by rw [hR, e] at hh; exact absurd hh (by decide)
    rw [if_neg (by rw [e]; decide), if_pos (Or.inr e), if_neg n1, h2]
  · rcases e with e | e
    · rw [if_neg (by rw [e]; decide), if_pos (Or.inl e), if_pos (hR.2 e)]
    · have n1 : ¬ (wd l 0 = bReq) := fun hh => by rw [hR, e] at hh; exact absurd hh (by decide)
      rw [if_neg (by rw [e]; decide), if_neg (by rw [e]; decide), if_neg n1]
  · have n1 : ¬ (wd l 0 = bReq) := fun hh => by rw [hR, e] at hh; exact absurd hh (by decide)
    rw [if_neg (by rw [e]; decide), if_neg (by rw [e]; decide), if_neg n1]

theorem again_cl {l g : Wl} {ks js : List Nat} (h : Ok l ks) (hg : Ok g js) : Tx.again (wtoks l) (wtoks g) = decide (clOf g = clOf l) := by
  rw [← Tx.claim_again, claim_cl h, claim_cl hg, Bool.eq_iff_iff]
  simp only [decide_eq_true_eq, Prod.ext_iff, ba_eq]

/-- Was it said? -/
def dupM (good : List OLn) (l : Wl) : Bool := good.any fun g => decide (clOf g.2 = clOf l)

theorem slip_dupM (good : List OLn) (l : Wl) (hne : l ≠ []) (hg : ∀ g ∈ good, ∃ ks, Ok g.2 ks) (lead many : Bool) :
    Tx.slip false Pv.isPath lead ((olns good).any fun x => Tx.again (wtoks l) x.2) many (wtoks l) = Tx.slip false Pv.isPath lead (dupM good l) many (wtoks l) := by
  have key : ∀ ks, Ok l ks → ((olns good).any fun x => Tx.again (wtoks l) x.2) = dupM good l := fun ks hk => by
    unfold dupM olns
    rw [List.any_map]
    rw [Bool.eq_iff_iff]
    simp only [List.any_eq_true, Function.comp]
    constructor
    · rintro ⟨g, h1, h2⟩
      obtain ⟨js, hj⟩ := hg g h1
      exact ⟨g, h1, by rw [again_cl hk hj] at h2; exact h2⟩
    · rintro ⟨g, h1, h2⟩
      obtain ⟨js, hj⟩ := hg g h1
      exact ⟨g, h1, by rw [again_cl hk hj]; exact h2⟩
  rcases line_slipM l hne lead false many with ⟨h1, _, ⟨ks, hk⟩, _⟩ | ⟨a, k, h1, _, _, _, _⟩
  · rw [key ks hk]
  · by_cases hk : ∃ ks, Ok l ks
    · obtain ⟨ks, hk⟩ := hk
      rw [key ks hk]
    · have hb : ∀ d, Tx.slip false Pv.isPath lead d many (wtoks l) = some (a, k) := fun d => by
        cases d with
        | false => exact h1
        | true =>
          rcases line_slipM l hne lead true many with ⟨_, _, hh, _⟩ | _
          · exact absurd hh hk
          · unfold Tx.slip at h1 ⊢
            split
            · rename_i hc
              rw [if_pos hc] at h1
              exact h1
            · rename_i hc
              rw [if_neg hc] at h1
              cases ho : Tx.own false Pv.isPath (wtoks l) with
              | some x => rw [ho] at h1; exact h1
              | none =>
                exfalso
                apply hk
                unfold Tx.own at ho
                rw [hd_wd hne] at ho
                split at ho
                · simp at ho
                · rename_i ks hks
                  rw [wtoks_len] at ho
                  split at ho
                  · simp at ho
                  · split at ho
                    · simp at ho
                    · split at ho
                      · simp at ho
                      · split at ho
                        · simp at ho
                        · split at ho
                          · simp at ho
                          · rename_i h2 h3 _ h4 _ h5 _ h6
                            exact ⟨ks, hks, by omega, h4, h5, h6⟩
      rw [hb, hb]

end Go.Proofs.YtelmkfkgpnadnaaGreatDoor
