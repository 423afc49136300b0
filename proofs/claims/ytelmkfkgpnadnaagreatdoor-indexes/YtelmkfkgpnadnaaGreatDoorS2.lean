/-
  The document's answer, of an index: the lines without a slip, and the slips: the walk.
-/
import Derived.Test.YtelmkfkgpnadnaaGreatDoorS1
namespace Go.Proofs.YtelmkfkgpnadnaaGreatDoor
open Go.RowKit

variable {w w' : World}

def bV : ByteArray := ⟨#[118, 101, 114, 115, 105, 111, 110]⟩

theorem info45 : ∃ i, Tryz.prog.info? 45 = some i ∧ i.zero = some (.agg #[.int .i64 0, .int .i64 0, .int .i64 0]) ∧ i.size = 3 ∧ i.bytes = 24 := by
  have h : (Tryz.prog.info? 45).map (fun i => (i.zero, i.size, i.bytes)) = some (some (.agg #[.int .i64 0, .int .i64 0, .int .i64 0]), 3, 24) := by kernel_rfl
  rw [Option.map_eq_some_iff] at h
  obtain ⟨i, h1, h2⟩ := h
  simp only [Prod.mk.injEq] at h2
  exact ⟨i, h1, h2.1, h2.2.1, h2.2.2⟩

theorem cell_three_new (w : World) (a b c : Value) (t : TypeId) : ∀ j u, [a, b, c][j]? = some u → (w.alloc (.cells #[a, b, c] t)).cell? ((⟨w.heap.size, 0, none⟩ : Addr).add j) = some u := by
  intro j u h
  match j, h with
  | 0, h => simp at h; subst h; simp [Addr.add]
  | 1, h => simp at h; subst h; simp [Addr.add]
  | 2, h => simp at h; subst h; simp [Addr.add]

/-- A line of an index without a slip of its own. -/
def TwoV (l : OLn) : Prop := l.2.length = 2 ∧ (l.2.getD 0 pad).2 = bV ∧ (Pv.parse (l.2.getD 1 pad).2.data.toList).isSome = true

theorem own_none {ip : List UInt8 → Bool} {l : OLn} (hne : l.2 ≠ []) (h : Tx.own true ip (wtoks l.2) = none) : TwoV l := by
  obtain ⟨n, ws⟩ := l
  match ws, hne with
  | x0 :: rest, _ =>
    rcases own_cases ip (x0 :: rest) x0 rest rfl with ⟨_, h2⟩ | ⟨h1, h2⟩
    · rw [h] at h2; cases h2
    · rcases h2 with ⟨_, h4⟩ | ⟨_, h4⟩ | ⟨h3, h5⟩
      · rw [h] at h4; cases h4
      · rw [h] at h4; cases h4
      · refine ⟨h3, ?_, ?_⟩
        · show x0.2 = bV
          have : x0.2.data.toList = bV.data.toList := h1
          exact ByteArray.ext (Array.toList_inj.1 this)
        · rw [h] at h5
          cases hp : (Pv.parse ((x0 :: rest).getD 1 pad).2.data.toList).isSome with
          | true => rfl
          | false => rw [hp] at h5; simp at h5

/-- The slip of a line behind others. -/
theorem slip_index (ip : List UInt8 → Bool) (lead many : Bool) (good : List OLn) (l : OLn) (hne : l.2 ≠ []) (hg : ∀ g ∈ good, TwoV g) :
    Tx.slip true ip lead ((olns good).any fun x => Tx.again (wtoks l.2) x.2) many (wtoks l.2) =
      match Tx.own true ip (wtoks l.2) with
      | some x => some x
      | none => if (good.any fun g => (g.2.getD 1 pad).2.toList == (l.2.getD 1 pad).2.toList) then some ((l.2.getD 0 pad).1, 8) else none := by
  unfold Tx.slip
  rw [if_neg (by simp)]
  cases ho : Tx.own true ip (wtoks l.2) with
  | some x => rfl
  | none =>
    have hl := own_none hne ho
    have hhd : Tx.hd (wtoks l.2) = ((l.2.getD 0 pad).1, bV.data.toList) := by
      obtain ⟨n, ws⟩ := l
      match ws, hl.1 with
      | [a, b], _ =>
        have h2 : a.2 = bV := hl.2.1
        show (a.1, a.2.data.toList) = (a.1, bV.data.toList)
        rw [h2]
    have hany : ((olns good).any fun x => Tx.again (wtoks l.2) x.2) = (good.any fun g => (g.2.getD 1 pad).2.toList == (l.2.getD 1 pad).2.toList) := by
      unfold olns
      rw [List.any_map, Bool.eq_iff_iff, List.any_eq_true, List.any_eq_true]
      have key : ∀ g ∈ good, Tx.again (wtoks l.2) (wtoks g.2) = ((g.2.getD 1 pad).2.toList == (l.2.getD 1 pad).2.toList) := fun g hgm => by
        have hgt := hg g hgm
        have hgh : (Tx.hd (wtoks g.2)).2 = bV.data.toList := by
          obtain ⟨n, ws⟩ := g
          match ws, hgt.1 with
          | [a, b], _ =>
            have h2 : a.2 = bV := hgt.2.1
            show a.2.data.toList = bV.data.toList
            rw [h2]
        have hn : ∀ o : OLn, o.2.length = 2 → Tx.nth (wtoks o.2) 1 = (o.2.getD 1 pad).2.data.toList := fun o ho => by
          obtain ⟨n, ws⟩ := o
          match ws, ho with
          | [a, b], _ => rfl
        unfold Tx.again
        rw [hgh, hhd, hn g hgt.1, hn l hl.1, Lib.toList_data, Lib.toList_data]
        simp [bV, Tx.wR, Tx.wV, Tx.wM]
      constructor
      · rintro ⟨g, h1, h2⟩
        exact ⟨g, h1, by rw [← key g h1]; exact h2⟩
      · rintro ⟨g, h1, h2⟩
        exact ⟨g, h1, by show Tx.again _ _ = true; rw [key g h1]; exact h2⟩
    rw [hany, hhd]
    cases (good.any fun g => (g.2.getD 1 pad).2.toList == (l.2.getD 1 pad).2.toList) <;> simp [bV, Tx.wR]

end Go.Proofs.YtelmkfkgpnadnaaGreatDoor
