/-
  The program's reading of a line of an index: which kind of slip is the first; what a line without one says.
  The program's reading of a line of an index: one kind of slip behind the other.
  The program's reading of an index: what lies in memory between two lines.
-/
import Derived.Test.YtelmkfkgpnadnaaGreatDoorJ7
namespace Go.Proofs.YtelmkfkgpnadnaaGreatDoor
open Go.RowKit

variable {w w' : World}

/-- Where a line of an index has a slip of a kind, if it has none of a lower one. -/
def lineAt (l : List (Nat × ByteArray)) (dup : Bool) (k : Nat) : Int :=
  if (l.getD 0 pad).2 = bVer then (if k = 8 then (if dup then ((l.getD 0 pad).1 : Int) else -1) else ownAt l k) else (if k = 2 then -1 else ((l.getD 0 pad).1 : Int))

theorem bVer_list (x : ByteArray) : x = bVer ↔ x.data.toList = Tx.wV := by
  constructor
  · intro h; rw [h]; rfl
  · intro h
    cases x with
    | mk d =>
      have : d = (Tx.wV).toArray := by rw [← h]
      rw [this]; rfl

theorem slip_ix (lead dup many : Bool) (ws : List (Nat × List UInt8)) :
    Tx.slip true ipF lead dup many ws = match Tx.own true ipF ws with
      | some x => some x
      | none => if dup then some ((Tx.hd ws).1, 8) else if (Tx.hd ws).2 = Tx.wR ∧ many = true then some ((Tx.hd ws).1, 9) else none := by
  unfold Tx.slip
  rw [if_neg (by simp)]
  rfl

theorem own_no {ws : List (Nat × List UInt8)} (h : (Tx.hd ws).2 ≠ Tx.wV) : Tx.own true ipF ws = some ((Tx.hd ws).1, 3) := by
  unfold Tx.own Tx.shape
  simp only [if_true, if_neg h]

theorem own_yes {ws : List (Nat × List UInt8)} (h : (Tx.hd ws).2 = Tx.wV) : Tx.own true ipF ws = if 2 < ws.length then some ((ws.getD 2 (0, [])).1, 4) else if ws.length < 2 then some (Tx.fin ws, 4) else match Tx.misfit ipF 6 [6] ws.tail with
    | some a => some (a, 6)
    | none => none := by
  have h5 : ∀ t, Tx.misfit ipF 5 [6] t = none := fun t => by cases t <;> simp [Tx.misfit]
  have h7 : ∀ t, Tx.misfit ipF 7 [6] t = none := fun t => by cases t <;> simp [Tx.misfit]
  unfold Tx.own Tx.shape
  simp only [if_true, h, h5, h7, List.length_cons, List.length_nil]
  rfl

theorem hd_wtoks (x : Nat × ByteArray) (r : List (Nat × ByteArray)) : Tx.hd (wtoks (x :: r)) = (x.1, x.2.data.toList) := rfl

theorem line_slip (l : List (Nat × ByteArray)) (hne : l ≠ []) (lead dup many : Bool) :
    (Tx.slip true ipF lead dup many (wtoks l) = none ∧ (∀ k, 2 ≤ k → k ≤ 9 → lineAt l dup k = -1) ∧ l.length = 2 ∧ (l.getD 0 pad).2 = bVer ∧ (Pv.parse (l.getD 1 pad).2.data.toList).isSome = true ∧ dup = false) ∨
    (∃ a k : Nat, Tx.slip true ipF lead dup many (wtoks l) = some (a, k) ∧ 2 ≤ k ∧ k ≤ 9 ∧ lineAt l dup k = (a : Int) ∧ ∀ j, 2 ≤ j → j < k → lineAt l dup j = -1) := by
  cases l with
  | nil => exact absurd rfl hne
  | cons x r =>
    have hg0 : (x :: r).getD 0 pad = x := rfl
    by_cases hV : x.2 = bVer
    · have hV' : (Tx.hd (wtoks (x :: r))).2 = Tx.wV := by rw [hd_wtoks]; exact (bVer_list _).1 hV
      have hR : ¬ ((Tx.hd (wtoks (x :: r))).2 = Tx.wR ∧ many = true) := by rw [hV']; intro h; exact absurd h.1 (by decide)
      have hla : ∀ k, lineAt (x :: r) dup k = if k = 8 then (if dup then (x.1 : Int) else -1) else ownAt (x :: r) k := fun k => by unfold lineAt; rw [hg0, if_pos hV]
      have hoff : ∀ k, k ≠ 4 → k ≠ 6 → ownAt (x :: r) k = -1 := fun k h4 h6 => by unfold ownAt; rw [if_neg h4, if_neg h6]
      rw [slip_ix, own_yes hV']
      cases r with
      | nil =>
        right
        refine ⟨x.1 + x.2.size, 4, ?_, by omega, by omega, ?_, ?_⟩
        · have : Tx.fin (wtoks [x]) = x.1 + x.2.size := by
            show x.1 + x.2.data.toList.length = _
            rw [← Lib.size_eq]
          rw [this]; rfl
        · rw [hla]; simp [ownAt]
        · intro j h2 hj; rw [hla, if_neg (by omega), hoff j (by omega) (by omega)]
      | cons y t =>
        cases t with
        | nil =>
          have hm : Tx.misfit ipF 6 [6] (wtoks [x, y]).tail = if (Pv.parse y.2.data.toList).isSome = false then some y.1 else none := by
            show (if (6 : Nat) = 6 ∧ Tx.fit ipF 6 y.2.data.toList = false then some y.1 else Tx.misfit ipF 6 [] []) = _
            have hf : Tx.fit ipF 6 y.2.data.toList = (Pv.parse y.2.data.toList).isSome := rfl
            rw [hf]
            simp [Tx.misfit]
          have hlen : (wtoks [x, y]).length = 2 := rfl
          rw [hm, hlen, if_neg (by omega), if_neg (by omega)]
          have h4 : ownAt [x, y] 4 = -1 := by simp [ownAt]
          cases hp : (Pv.parse y.2.data.toList).isSome with
          | false =>
            right
            refine ⟨y.1, 6, rfl, by omega, by omega, ?_, ?_⟩
            · rw [hla]; simp [ownAt, hp]
            · intro j h2 hj
              rw [hla, if_neg (by omega)]
              by_cases e : j = 4
              · rw [e]; exact h4
              · exact hoff j e (by omega)
          | true =>
            have h6 : ownAt [x, y] 6 = -1 := by simp [ownAt, hp]
            simp only [Bool.true_eq_false, if_false]
            cases dup with
            | false =>
              left
              rw [if_neg (by decide), if_neg hR]
              refine ⟨rfl, ?_, rfl, hV, hp, rfl⟩
              intro k _ _
              rw [hla]
              by_cases e8 : k = 8
              · rw [if_pos e8]; rfl
              · rw [if_neg e8]
                by_cases e4 : k = 4
                · rw [e4]; exact h4
                · by_cases e6 : k = 6
                  · rw [e6]; exact h6
                  · exact hoff k e4 e6
            | true =>
              right
              refine ⟨x.1, 8, rfl, by omega, by omega, ?_, ?_⟩
              · rw [hla]; simp
              · intro j h2 hj
                rw [hla, if_neg (by omega)]
                by_cases e4 : j = 4
                · rw [e4]; exact h4
                · by_cases e6 : j = 6
                  · rw [e6]; exact h6
                  · exact hoff j e4 e6
        | cons z u =>
          right
          refine ⟨z.1, 4, ?_, by omega, by omega, ?_, ?_⟩
          · rw [if_pos (by simp [wtoks])]; rfl
          · rw [hla]; simp [ownAt]
          · intro j h2 hj; rw [hla, if_neg (by omega), hoff j (by omega) (by omega)]
    · have hV' : (Tx.hd (wtoks (x :: r))).2 ≠ Tx.wV := by rw [hd_wtoks]; exact fun h => hV ((bVer_list _).2 h)
      right
      refine ⟨x.1, 3, ?_, by omega, by omega, ?_, ?_⟩
      · rw [slip_ix, own_no hV']; rfl
      · unfold lineAt; rw [hg0, if_neg hV]; rfl
      · intro j h2 hj
        have : j = 2 := by omega
        subst this
        unfold lineAt; rw [hg0, if_neg hV]; rfl

end Go.Proofs.YtelmkfkgpnadnaaGreatDoor

namespace Go.Proofs.YtelmkfkgpnadnaaGreatDoor
open Go.RowKit

variable {w w' : World}

theorem own_count {l : List (Nat × ByteArray)} (h : ownAt l 4 = -1) : l.length = 2 := by
  unfold ownAt at h
  rw [if_pos rfl] at h
  split at h
  · omega
  · split at h
    · omega
    · omega

/-- Was it said? -/
def dupOf (us : List ByteArray) (l : List (Nat × ByteArray)) : Bool := us.any fun x => decide (x = (l.getD 1 pad).2)

theorem slipAt_line (rp sp wb wc mb B k : Nat) (sv : Value) (vs us : List ByteArray) (l : List (Nat × ByteArray)) (w : World) (hm : Ml w) (hr : Rd w rp mb B sp sv vs us) (hW : WAt w wb 0 l) (hne : l ≠ []) (hc : l.length ≤ wc)
    (hz : ∀ x ∈ l, x.1 ≤ 4000 ∧ x.2.size ≤ 2000) (h2 : 2 ≤ k) (h9 : k ≤ 9) (hlow : ∀ j, 2 ≤ j → j < k → lineAt l (dupOf us l) j = -1) :
    Calls Tryz.prog 124 #[.pointer (some ⟨rp, 0, none⟩), .int .i64 k, .slice (some ⟨wb, 0, none⟩) l.length wc] w fun e w' => e = .returned (.int .i64 (lineAt l (dupOf us l) k)) ∧ Below w.heap.size w w' := by
  have hn : 0 < l.length := List.length_pos_iff.2 hne
  have hg0 : l.getD 0 pad = l[0] := getD_at hn
  have hb0 : BoxAt w wb l[0].1 l[0].2 := by
    have h := hW.2 0 hn
    exact ⟨by simpa using h.1, by simpa using h.2⟩
  by_cases hV : (l.getD 0 pad).2 = bVer
  · have hla : ∀ k, lineAt l (dupOf us l) k = if k = 8 then (if dupOf us l then ((l.getD 0 pad).1 : Int) else -1) else ownAt l k := fun k => by unfold lineAt; rw [if_pos hV]
    have hbv : BoxAt w wb l[0].1 ⟨#[118, 101, 114, 115, 105, 111, 110]⟩ := by
      rw [hg0] at hV
      rw [hV] at hb0
      exact hb0
    have h4 : 4 < k → l.length = 2 := fun h => own_count (by
      have := hlow 4 (by omega) h
      rw [hla, if_neg (by decide)] at this
      exact this)
    by_cases e8 : k = 8
    · subst e8
      have hl2 := h4 (by omega)
      have h1 : 1 < l.length := by omega
      have hg1 : l.getD 1 pad = l[1] := getD_at h1
      have hc3 : w.cell? ⟨wb, 3, none⟩ = some (.string l[1].2) := by
        have h := (hW.2 1 h1).2
        simpa using h
      have k8 := slipAt_twice rp sp wb wc l[0].1 mb us.length l[1].2 us w (hz _ (List.getElem_mem h1)).2 hr.fm hr.said hc3 hr.rd hbv
      rw [hla, if_pos rfl, hl2]
      unfold dupOf
      rw [hg0, hg1]
      exact k8
    · rw [hla, if_neg e8]
      have hs : ∀ x ∈ l, x.1 ≤ 4000 ∧ x.2.size ≤ 4000 := fun x hx => ⟨(hz x hx).1, by have := (hz x hx).2; omega⟩
      refine slipAt_known rp sp wb l.length wc k l[0].1 _ w hn hr.rd hbv ?_
      rcases (by omega : k = 2 ∨ k = 3 ∨ k = 4 ∨ k = 5 ∨ k = 6 ∨ k = 7 ∨ k = 9) with rfl | rfl | rfl | rfl | rfl | rfl | rfl
      · exact Or.inl ⟨rfl, rfl⟩
      · exact Or.inr (Or.inl ⟨rfl, rfl⟩)
      · exact asks_count hW hn hs
      · exact asks_misfit hm hW (h4 (by omega)) (by have := h4 (by omega); omega) (by omega)
      · exact asks_misfit hm hW (h4 (by omega)) (by have := h4 (by omega); omega) (by omega)
      · exact asks_misfit hm hW (h4 (by omega)) (by have := h4 (by omega); omega) (by omega)
      · exact Or.inr (Or.inr (Or.inl ⟨rfl, rfl⟩))
  · have hla : ∀ k, lineAt l (dupOf us l) k = if k = 2 then -1 else ((l.getD 0 pad).1 : Int) := fun k => by unfold lineAt; rw [if_neg hV]
    have hk3 : k = 2 ∨ k = 3 := by
      apply Classical.byContradiction
      intro h
      have := hlow 3 (by omega) (by omega)
      rw [hla, if_neg (by decide)] at this
      omega
    have hx : (l[0].2.toList == [118, 101, 114, 115, 105, 111, 110]) = false := by
      rw [hg0] at hV
      rw [beq_eq_false_iff_ne]
      intro h
      exact hV ((bVer_list _).2 (by rw [← Lib.toList_data]; exact h))
    rw [hla, hg0]
    exact slipAt_word rp sp wb l.length wc k l[0].1 l[0].2 w hn hr.rd hb0 hx hk3

end Go.Proofs.YtelmkfkgpnadnaaGreatDoor

namespace Go.Proofs.YtelmkfkgpnadnaaGreatDoor
open Go.RowKit

variable {w w' : World}

namespace Tx

theorem toks_le : ∀ (t : List UInt8) (i : Nat), (∀ x ∈ toks i none t, x.1 + x.2.length ≤ i + t.length) ∧ ∀ a u, a + u.length ≤ i → ∀ x ∈ toks i (some (a, u)) t, x.1 + x.2.length ≤ i + t.length
  | [], i => ⟨by intro x hx; simp [toks] at hx, by
    intro a u h x hx
    simp [toks] at hx
    rw [hx]
    show a + u.length ≤ _
    omega⟩
  | c :: t, i => by
    have ih := toks_le t (i + 1)
    refine ⟨fun x hx => ?_, fun a u h x hx => ?_⟩
    · rw [toks] at hx
      simp only [List.length_cons]
      split at hx
      · have := ih.2 i [c] (by simp) x hx; omega
      · have := ih.1 x hx; omega
    · rw [toks] at hx
      simp only [List.length_cons]
      split at hx
      · have := ih.2 a (u ++ [c]) (by simp; omega) x hx; omega
      · rcases List.mem_cons.1 hx with e | e
        · rw [e]; show a + u.length ≤ _; omega
        · have := ih.1 x e; omega

theorem words_le {line : List UInt8} {x : Nat × List UInt8} (h : x ∈ words line) : x.1 + x.2.length ≤ line.length := by
  have h1 := (toks_le (Pv.cutc 35 line).1 0).1 x h
  have h2 := (cutc_len 35 line).1
  omega

end Tx

theorem wtoks_le {acc : List (Nat × ByteArray)} {s : ByteArray} (h : wtoks acc = Tx.words s.data.toList) : ∀ x ∈ acc, x.1 ≤ s.size ∧ x.2.size ≤ s.size := by
  intro x hx
  have hm : (x.1, x.2.data.toList) ∈ Tx.words s.data.toList := by rw [← h]; exact List.mem_map_of_mem (f := fun x : Nat × ByteArray => (x.1, x.2.data.toList)) hx
  have h1 : x.1 + x.2.data.toList.length ≤ s.data.toList.length := Tx.words_le hm
  rw [← Lib.size_eq, ← Lib.size_eq] at h1
  omega

/-- The words of a line, in new memory. -/
theorem wordsOf_ml (s : ByteArray) (w : World) (h : Ml w) (hs : s.size ≤ 4000) :
    Calls Tryz.prog 123 #[.string s] w fun e w' => ∃ v acc, e = .returned v ∧ wtoks acc = Tx.words s.data.toList ∧ w'.ownsRow w.heap.size 274 2 v acc.length (wcells acc) ∧ Below w.heap.size w w' := by
  have e35 : (⟨#[35]⟩ : ByteArray).data.toList = [35] := rfl
  obtain ⟨m, hm⟩ := h
  have kc := Tryz.strings_Cut s ⟨#[35]⟩ m w (by omega) hm
  rw [e35, Pv.cut_cutc 35 s.data.toList] at kc
  have hle : (Pv.cutc 35 s.data.toList).1.length ≤ s.size := by
    have := congrArg List.length (Pv.cutc_join 35 s.data.toList)
    rw [List.length_append] at this
    rw [Lib.size_eq]; omega
  have k := wordsOf_cut s ⟨(Pv.cutc 35 s.data.toList).1.toArray⟩ w (by show (Pv.cutc 35 s.data.toList).1.toArray.size ≤ 4000; simp; omega) (kc.mono (by
    rintro e w' ⟨rfl, n, rfl⟩
    exact ⟨_, _, rfl, ⟨rfl, rfl, rfl, Nat.le_refl _, fun _ _ => rfl⟩⟩))
  simpa [Tx.words] using k

/-- What Split lays, at a newline. -/
theorem split_lines (s : ByteArray) (hs : s.size < 4294967281) : ∃ l : List ByteArray, l.map (·.data.toList) = Pv.spl 10 s.data.toList ∧ (∀ x ∈ l, x.size ≤ s.size) ∧
    ∀ w : World, Ml w → Calls Tryz.prog 122 #[.string s, .string ⟨#[10]⟩] w fun e w' => e = .returned (.slice (some ⟨w.heap.size, 0, none⟩) l.length l.length) ∧ w' = w.alloc (.cells (l.map Value.string).toArray 9) := by
  have h1 : 1 ≤ (⟨#[10]⟩ : ByteArray).size := by decide
  refine ⟨Lib.splitB ⟨#[10]⟩ 0 (Lib.countB s ⟨#[10]⟩) s, Pv.splitB_spl s ⟨#[10]⟩ 10 rfl, ?_, ?_⟩
  · intro x hx
    have hm : x.data.toList ∈ Pv.spl 10 s.data.toList := by
      rw [← Pv.splitB_spl s ⟨#[10]⟩ 10 rfl]; exact List.mem_map_of_mem hx
    have := spl_len 10 _ _ hm
    rw [← Lib.size_eq, ← Lib.size_eq] at this
    exact this
  · rintro w ⟨m, hm⟩
    have k := Tryz.strings_Split s ⟨#[10]⟩ m w hs hm h1
    rw [Lib.splitB_all ⟨#[10]⟩ h1 0 _ s rfl]
    exact k

theorem wcells_get : ∀ (l : List (Nat × ByteArray)) (j : Nat) (h : j < l.length), (wcells l)[j * 2]? = some (.int .i64 l[j].1) ∧ (wcells l)[j * 2 + 1]? = some (.string l[j].2)
  | x :: r, 0, _ => ⟨rfl, rfl⟩
  | x :: r, j + 1, h => by
    have e : wcells (x :: r) = .int .i64 x.1 :: .string x.2 :: wcells r := rfl
    have ih := wcells_get r j (by simpa using h)
    rw [e]
    refine ⟨?_, ?_⟩
    · rw [show (j + 1) * 2 = j * 2 + 1 + 1 by omega]; simpa using ih.1
    · rw [show (j + 1) * 2 + 1 = j * 2 + 1 + 1 + 1 by omega]; simpa using ih.2

theorem wat_own {B g c : Nat} {acc : List (Nat × ByteArray)} (h : w.ownsRow B 274 2 (.slice (some ⟨g, 0, none⟩) acc.length c) acc.length (wcells acc)) : WAt w g 0 acc ∧ acc.length ≤ c := by
  refine ⟨⟨(h.lt g rfl).2, fun j hj => ?_⟩, ?_⟩
  · have hg := wcells_get acc j hj
    exact ⟨by rw [Nat.zero_add, h.cellAt _ (by omega)]; exact hg.1, by rw [Nat.zero_add, h.cellAt _ (by omega)]; exact hg.2⟩
  · rcases h.2 with hn' | ⟨g', cap, cur, hv, _, _, hle, _⟩
    · simp at hn'
    · injection hv with _ _ e3
      rw [e3]; exact hle

theorem slip_dup (good : List OLn) (l : OLn) (hne : l.2 ≠ []) (hg : ∀ g ∈ good, TwoV g) (lead many : Bool) :
    Tx.slip true ipF lead ((olns good).any fun x => Tx.again (wtoks l.2) x.2) many (wtoks l.2) = Tx.slip true ipF lead (dupOf (good.map word1) l.2) many (wtoks l.2) := by
  rw [slip_index ipF lead many good l hne hg, slip_ix]
  cases ho : Tx.own true ipF (wtoks l.2) with
  | some x => rfl
  | none =>
    have hl := own_none hne ho
    have hd2 : (Tx.hd (wtoks l.2)).2 = Tx.wV := twoV_hd hl
    have hd1 : (Tx.hd (wtoks l.2)).1 = (l.2.getD 0 pad).1 := by
      obtain ⟨n, ws⟩ := l
      match ws, hl.1 with
      | [a, b], _ => rfl
    have e : dupOf (good.map word1) l.2 = good.any (fun g => (g.2.getD 1 pad).2.toList == (l.2.getD 1 pad).2.toList) := by
      unfold dupOf
      rw [List.any_map]
      congr 1
      funext g
      show decide (word1 g = (l.2.getD 1 pad).2) = _
      unfold word1
      rw [Bool.eq_iff_iff]
      simp only [decide_eq_true_eq, beq_iff_eq, Lib.toList_data]
      exact ⟨fun h => by rw [h], fun h => ByteArray.ext (Array.toList_inj.1 h)⟩
    simp only [e, hd1]
    have hw : ¬ ((Tx.hd (wtoks l.2)).2 = Tx.wR ∧ many = true) := by rw [hd2]; intro h; exact absurd h.1 (by decide)
    rw [if_neg hw]

/-- The reader and its slips between two lines. -/
structure Rs (W0 : World) (rp mb : Nat) (sv lv : Value) (vs : List ByteArray) (slips : List (Nat × Nat × Nat)) (sp : Nat) (wr : World) : Prop where
  rd : Rd wr rp mb W0.heap.size sp sv vs vs
  os : wr.ownsRow W0.heap.size 45 3 lv slips.length (scells slips)
  ne : ∀ b, sv.ownBlock = some b → lv.ownBlock ≠ some b
  fr : Fr (fun b => b = rp ∨ b = mb) W0 wr

variable {W0 wr : World} {rp mb sp : Nat} {sv lv sv' lv' : Value} {vs : List ByteArray} {slips : List (Nat × Nat × Nat)}

theorem Rs.below (h : Rs W0 rp mb sv lv vs slips sp wr) (hb : Below wr.heap.size wr w') : Rs W0 rp mb sv lv vs slips sp w' :=
  ⟨h.rd.of_block hb.size (hb.block rp (Nat.lt_of_lt_of_le h.rd.lt.1 h.rd.lt.2.2.1)) (hb.block mb (Nat.lt_of_lt_of_le h.rd.lt.2.1 h.rd.lt.2.2.1)) (fun b e => hb.block b (h.rd.own.lt b e).2),
    own_of_block h.os (fun b e => hb.block b (h.os.lt b e).2), h.ne, h.fr.trans (Fr.of_below hb)⟩

theorem Rs.ml (h : Rs W0 rp mb sv lv vs slips sp wr) (hm : Ml W0) (h0 : rp ≠ 0 ∧ mb ≠ 0) : Ml wr := by
  obtain ⟨m, e⟩ := hm
  have hl := World.block_lt_of_cell? W0 _ e
  refine ⟨m, ?_⟩
  rw [World.cell?_of_block (w := W0) (a := ⟨0, 0, none⟩) (h.fr.block 0 hl (fun e => by rcases e with e | e; exact h0.1 e.symm; exact h0.2 e.symm))]
  exact e

theorem Rs.old (h : Rs W0 rp mb sv lv vs slips sp wr) {b o : Nat} {v : Value} (hc : W0.cell? ⟨b, o, none⟩ = some v) (h0 : b ≠ rp ∧ b ≠ mb) : wr.cell? ⟨b, o, none⟩ = some v := by
  have hl := World.block_lt_of_cell? W0 _ hc
  rw [World.cell?_of_block (w := W0) (a := ⟨b, o, none⟩) (h.fr.block b hl (fun e => by rcases e with e | e; exact h0.1 e; exact h0.2 e))]
  exact hc

/-- One line more says something. -/
theorem Rs.speak (h : Rs W0 rp mb sv lv vs slips sp wr) : Rs W0 rp mb sv lv vs slips (sp + 1) (wr.setCell ⟨rp, 2, none⟩ (.int .i64 ((sp + 1 : Nat) : Int))) := by
  have hne : ∀ j, j ≠ 2 → (⟨rp, 2, none⟩ : Addr) ≠ ⟨rp, j, none⟩ := fun j hj e => by injection e with _ e; exact hj e.symm
  have hk : ∀ k, k ≠ rp → (wr.setCell ⟨rp, 2, none⟩ (.int .i64 ((sp + 1 : Nat) : Int))).heap[k]? = wr.heap[k]? := fun k hk => Below.heap_setCell _ _ _ _ hk
  have hsz : (wr.setCell ⟨rp, 2, none⟩ (.int .i64 ((sp + 1 : Nat) : Int))).heap.size = wr.heap.size := by simp [World.setCell]
  have r := h.rd
  refine ⟨⟨⟨?_, ?_, ?_, ?_⟩, ?_, ?_, ⟨?_, ?_⟩, ⟨r.lt.1, r.lt.2.1, ?_, r.lt.2.2.2⟩, ?_, ?_⟩, ?_, h.ne, ?_⟩
  · rw [World.cell?_setCell_other _ _ _ _ (hne 0 (by decide))]; exact r.rd.1
  · rw [World.cell?_setCell_other _ _ _ _ (hne 1 (by decide))]; exact r.rd.2.1
  · exact World.cell?_setCell_same _ _ _ r.rd.2.2.1
  · rw [World.cell?_setCell_other _ _ _ _ (hne 3 (by decide))]; exact r.rd.2.2.2
  · rw [World.frozen?_setCell]; exact r.f2
  · rw [World.cell?_setCell_other _ _ _ _ (hne 4 (by decide))]; exact r.fm
  · rw [World.cell?_setCell_other _ _ _ _ (hne 5 (by decide))]; exact r.fs.1
  · rw [World.frozen?_setCell]; exact r.fs.2
  · rw [hsz]; exact r.lt.2.2.1
  · exact own_of_block r.own (fun b e => hk b (fun e2 => by have h1 := (r.own.lt b e).1; have h2 := r.lt.1; omega))
  · exact r.said.of_block (hk mb (fun e => r.lt.2.2.2 e.symm))
  · exact own_of_block h.os (fun b e => hk b (fun e2 => by have h1 := (h.os.lt b e).1; have h2 := r.lt.1; omega))
  · exact h.fr.trans (Fr.of_set wr rp 2 _ (Or.inl rfl))

/-- One slip more. -/
theorem Rs.slip (h : Rs W0 rp mb sv lv vs slips sp wr) (o : Obj) (x : Nat × Nat × Nat) (hown : w'.ownsRow W0.heap.size 45 3 lv' (slips.length + 1) (scells slips ++ [.int .i64 x.1, .int .i64 x.2.1, .int .i64 x.2.2])) (hg : (wr.alloc o).grownBy w' lv.ownBlock) (hat : lv'.ownBlock = lv.ownBlock ∨ lv'.ownBlock = some (wr.alloc o).heap.size) :
    Rs W0 rp mb sv lv' vs (slips ++ [x]) sp w' := by
  have hal : (wr.alloc o).heap.size = wr.heap.size + 1 := by simp
  have hs' : wr.heap.size + 1 ≤ w'.heap.size := by rw [← hal]; exact hg.size
  have hk : ∀ k, k < wr.heap.size → lv.ownBlock ≠ some k → w'.heap[k]? = wr.heap[k]? := fun k hk h1 => by
    rw [hg.block k (by omega) (fun e => h1 e.symm), Below.heap_alloc _ _ _ hk]
  have hlv : ∀ k, lv.ownBlock = some k → W0.heap.size ≤ k := fun k e => (h.os.lt k e).1
  have hB := h.rd.lt.2.2.1
  refine ⟨h.rd.of_block (by omega) (hk rp (Nat.lt_of_lt_of_le h.rd.lt.1 hB) (fun e => by have := hlv rp e; have := h.rd.lt.1; omega)) (hk mb (Nat.lt_of_lt_of_le h.rd.lt.2.1 hB) (fun e => by have := hlv mb e; have := h.rd.lt.2.1; omega)) (fun b e => hk b (h.rd.own.lt b e).2 (h.ne b e)), ?_, ?_, ?_⟩
  · rw [scells_snoc, List.length_append]; exact hown
  · intro b e e2
    rcases hat with e3 | e3
    · rw [e3] at e2; exact h.ne b e e2
    · rw [e3] at e2
      injection e2 with e2
      have := (h.rd.own.lt b e).2
      omega
  · refine ⟨hg.os.trans h.fr.os, hg.tape.trans h.fr.tape, hg.output.trans h.fr.output, Nat.le_trans h.fr.size (by omega), fun k hk1 hx => ?_⟩
    rw [hk k (Nat.lt_of_lt_of_le hk1 hB) (fun e => by have := hlv k e; omega)]
    exact h.fr.block k hk1 hx

/-- One line more is kept. -/
theorem Rs.keep {v : ByteArray} (h : Rs W0 rp mb sv lv vs slips sp wr) (hr : Rd w' rp mb W0.heap.size sp sv' (vs ++ [v]) (vs ++ [v])) (hf : Fr (Mine rp mb sv) wr w') (hat : ∀ b, sv'.ownBlock = some b → sv.ownBlock = some b ∨ wr.heap.size ≤ b) :
    Rs W0 rp mb sv' lv (vs ++ [v]) slips sp w' := by
  have hB := h.rd.lt.2.2.1
  have hl := h.rd.lt
  refine ⟨hr, ?_, ?_, ?_⟩
  · refine own_of_block h.os (fun b e => hf.block b (h.os.lt b e).2 ?_)
    rintro (e2 | e2 | e2)
    · have := (h.os.lt b e).1; omega
    · have := (h.os.lt b e).1; omega
    · exact h.ne b e2 e
  · intro b e e2
    rcases hat b e with e3 | e3
    · exact h.ne b e3 e2
    · have := (h.os.lt b e2).2; omega
  · refine ⟨hf.os.trans h.fr.os, hf.tape.trans h.fr.tape, hf.output.trans h.fr.output, Nat.le_trans h.fr.size hf.size, fun k hk1 hx => ?_⟩
    rw [hf.block k (Nat.lt_of_lt_of_le hk1 hB) ?_]
    · exact h.fr.block k hk1 hx
    · rintro (e2 | e2 | e2)
      · exact hx (Or.inl e2)
      · exact hx (Or.inr e2)
      · have := (h.rd.own.lt k e2).1; omega

end Go.Proofs.YtelmkfkgpnadnaaGreatDoor
