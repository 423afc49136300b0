/-
  The document's answer, of an index: the slip of a line's words, whatever they are.
-/
import Derived.Test.YtelmkfkgpnadnaaGreatDoorF1
namespace Go.Proofs.YtelmkfkgpnadnaaGreatDoor
open Go.RowKit

variable {w w' : World}

def slipV (n : Nat) (r : Option (Nat × Nat)) : Value :=
  match r with
  | some (a, k) => .agg #[.int .i64 n, .int .i64 a, .int .i64 k]
  | none => .agg #[.int .i64 n, .int .i64 0, .int .i64 0]

/-- What must stand behind a first word, in an index. -/
def formX (x : ByteArray) : ByteArray := if x.data.toList = Tx.wV then ⟨#[118]⟩ else ⟨#[]⟩

theorem formX_any (x : ByteArray) (w : World) : Calls Tryz.prog 162 #[.string x, .bool true] w fun e w' => e = .returned (.string (formX x)) ∧ w' = w := by
  unfold formX
  by_cases h : x.data.toList = Tx.wV
  · rw [if_pos h]
    exact form_yes x w (by rw [Lib.toList_data, h]; rfl)
  · rw [if_neg h]
    exact form_no x w (by rw [Lib.toList_data]; simpa [Tx.wV] using h)

theorem own_cases (ip : List UInt8 → Bool) (ws : List (Nat × ByteArray)) (x0 : Nat × ByteArray) (rest : List (Nat × ByteArray)) (e : ws = x0 :: rest) :
    (x0.2.data.toList ≠ Tx.wV ∧ Tx.own true ip (wtoks ws) = some (x0.1, 3)) ∨
    (x0.2.data.toList = Tx.wV ∧ ((2 < ws.length ∧ Tx.own true ip (wtoks ws) = some ((ws.getD 2 pad).1, 4)) ∨ (ws.length = 1 ∧ Tx.own true ip (wtoks ws) = some (Tx.fin (wtoks ws), 4)) ∨
      (ws.length = 2 ∧ Tx.own true ip (wtoks ws) = if (Pv.parse (ws.getD 1 pad).2.data.toList).isSome then none else some ((ws.getD 1 pad).1, 6)))) := by
  subst e
  have hhd : (Tx.hd (wtoks (x0 :: rest))) = (x0.1, x0.2.data.toList) := rfl
  unfold Tx.own
  rw [hhd]
  by_cases h : x0.2.data.toList = Tx.wV
  · refine Or.inr ⟨h, ?_⟩
    have hs : Tx.shape true x0.2.data.toList = some [6] := by unfold Tx.shape; rw [h]; rfl
    simp only [hs]
    match rest with
    | [] =>
      refine Or.inr (Or.inl ⟨rfl, ?_⟩)
      simp [wtoks]
    | [y] =>
      refine Or.inr (Or.inr ⟨rfl, ?_⟩)
      simp only [wtoks, List.map_cons, List.map_nil, List.length_cons, List.length_nil, List.tail_cons, Tx.misfit, Tx.fit, List.getD_cons_succ, List.getD_cons_zero]
      cases hp : (Pv.parse y.2.data.toList).isSome <;> simp
    | y :: z :: r =>
      refine Or.inl ⟨by simp, ?_⟩
      simp [wtoks, List.getD]
  · refine Or.inl ⟨h, ?_⟩
    have hs : Tx.shape true x0.2.data.toList = none := by unfold Tx.shape; simp [h]
    simp only [hs]

theorem wrong_any (ip : List UInt8 → Bool) {B : Nat → Prop} {l : OLn} {cs : List Value} (h : LineLies w B l cs) (x0 : Nat × ByteArray) (rest : List (Nat × ByteArray)) (e : l.2 = x0 :: rest) :
    Calls Tryz.prog 161 #[.agg cs.toArray, .string (formX x0.2)] w fun e w' => e = .returned (slipV l.1 (Tx.own true ip (wtoks l.2))) ∧ Below w.heap.size w w' := by
  obtain ⟨gw, cw, ga, ca, rfl, hne, hw, ha, hgw, hga, _, _⟩ := h
  unfold formX
  rcases own_cases ip l.2 x0 rest e with ⟨h1, h2⟩ | ⟨h1, h2⟩
  · rw [if_neg h1, h2]
    have h0 := ha.at' 0 (by rw [e]; simp)
    rw [e] at h0
    have := wrong_word l.1 gw ga l.2.length cw ca x0.1 (Tx.fin (wtoks l.2)) w (by rw [e]; simp) h0
    exact this
  · rw [if_pos h1]
    rcases h2 with ⟨h3, h4⟩ | ⟨h3, h4⟩ | ⟨h3, h4⟩
    · rw [h4]
      exact wrong_many l.1 gw ga l.2.length cw ca (l.2.getD 2 pad).1 (Tx.fin (wtoks l.2)) w h3 (ha.at' 2 h3)
    · rw [h4, h3]
      exact wrong_few l.1 gw ga cw ca (Tx.fin (wtoks l.2)) w
    · rw [h4, h3]
      rw [h3] at hw ha
      cases hp : (Pv.parse (l.2.getD 1 pad).2.data.toList).isSome
      · exact wrong_none l.1 gw ga cw ca (l.2.getD 1 pad).1 (Tx.fin (wtoks l.2)) (l.2.getD 1 pad).2 w (ha.at' 1 (by omega)) (hw.at' 1 (by omega)) hp
      · exact wrong_version l.1 gw ga cw ca (l.2.getD 1 pad).1 (Tx.fin (wtoks l.2)) (l.2.getD 1 pad).2 w (ha.at' 1 (by omega)) (hw.at' 1 (by omega)) hp

end Go.Proofs.YtelmkfkgpnadnaaGreatDoor
