/-
  The program's reading of a line of an index: where it has a slip of its own words.
-/
import Derived.Test.YtelmkfkgpnadnaaGreatDoorJ1
namespace Go.Proofs.YtelmkfkgpnadnaaGreatDoor
open Go.RowKit

variable {w w' : World}

set_option maxRecDepth 100000 in
set_option maxHeartbeats 2000000 in
theorem misfit_off (p k : Nat) (wv : Value) (w : World) (hk : k = 5 ∨ k = 7) (hP : w.cell? ⟨p, 0, none⟩ = some (.int .i64 6)) :
    Calls Tryz.prog 172 #[.int .i64 k, .slice (some ⟨p, 0, none⟩) 1 1, wv] w fun e w' => e = .returned (.int .i64 (-1)) ∧ Below w.heap.size w w' := by
  have hz : ∀ q : Nat, (((6 : Nat) : Int) == (k : Int)) = false := fun _ => by rcases hk with rfl | rfl <;> rfl
  have hz1 : ((6 : Int) == (k : Int)) = false := hz 0
  clear hz
  go_enter Tryz.func172, Tryz.ntmps172
  go_wp2
  go_loopg [11] 1 (fun gg f wr => ∃ j : Nat, j ≤ 1 ∧ 1 - j ≤ gg ∧ f = .int .i64 j ∧ wr = w)
  case atStart => exact ⟨0, by omega, by omega, rfl, rfl⟩
  case round =>
    obtain ⟨j, hj, hg, rfl, hw⟩ := hrel
    subst hw
    rcases (by omega : j = 0 ∨ j = 1) with rfl | rfl
    · go_wp2
      go_roundg 0
      case measure => omega
      case rel => exact ⟨1, by omega, by omega, rfl, rfl⟩
    · go_wp2
      go_ret
      exact ⟨rfl, Below.refl _ _⟩

theorem getD_at {l : List (Nat × ByteArray)} {j : Nat} (h : j < l.length) : l.getD j pad = l[j] := by
  simp [List.getD, List.getElem?_eq_getElem h]

/-- Where a line of an index whose first word is 'version' has a slip of a kind, by its own words. -/
def ownAt (l : List (Nat × ByteArray)) (k : Nat) : Int :=
  if k = 4 then (if 2 < l.length then ((l.getD 2 pad).1 : Int) else if l.length < 2 then ((l.getD 0 pad).1 : Int) + ((l.getD 0 pad).2.size : Int) else -1)
  else if k = 6 then (if (Pv.parse (l.getD 1 pad).2.data.toList).isSome then -1 else ((l.getD 1 pad).1 : Int))
  else -1

theorem asks_count {wb wc : Nat} {l : List (Nat × ByteArray)} (hW : WAt w wb 0 l) (hne : 0 < l.length) (hs : ∀ x ∈ l, x.1 ≤ 4000 ∧ x.2.size ≤ 4000) : Asks w wb l.length wc 4 (ownAt l 4) := by
  refine Or.inr (Or.inr (Or.inr (Or.inl ⟨rfl, fun W p hb => ?_⟩)))
  have hW' := hW.below hb
  unfold ownAt
  rw [if_pos rfl]
  by_cases h2 : 2 < l.length
  · rw [if_pos h2]
    refine (miscount_many (some ⟨p, 0, none⟩) wb 0 1 1 l.length wc ((l.getD 2 pad).1 : Int) W (by omega) (by omega) ?_).mono ?_
    · have h := (hW'.2 2 h2).1
      rw [getD_at h2]
      exact h
    · rintro e w' ⟨rfl, rfl⟩
      exact ⟨rfl, Below.refl _ _⟩
  · rw [if_neg h2]
    by_cases h1 : l.length < 2
    · rw [if_pos h1]
      have hx := hs _ (List.getElem_mem hne)
      have hg : l.getD 0 pad = l[0] := getD_at hne
      rw [hg]
      have h0 : l.length - 1 = 0 := by omega
      refine (miscount_few (some ⟨p, 0, none⟩) wb 0 1 1 l.length wc l[0].1 l[0].2 W (by omega) (by omega) (by omega) hx.1 hx.2 ?_ ?_).mono ?_
      · rw [h0]; exact (hW'.2 0 hne).1
      · rw [h0]; exact (hW'.2 0 hne).2
      · rintro e w' ⟨rfl, h⟩
        exact ⟨rfl, h⟩
    · rw [if_neg h1]
      have h0 : l.length = 1 + 1 := by omega
      rw [h0]
      refine (miscount_none (some ⟨p, 0, none⟩) (some ⟨wb, 0, none⟩) 1 1 wc W (by omega)).mono ?_
      rintro e w' ⟨rfl, rfl⟩
      exact ⟨rfl, Below.refl _ _⟩

theorem asks_misfit {wb wc k : Nat} {l : List (Nat × ByteArray)} (hm : Ml w) (hW : WAt w wb 0 l) (h2 : l.length = 2) (hc : 2 ≤ wc) (hk : k = 5 ∨ k = 6 ∨ k = 7) : Asks w wb l.length wc k (ownAt l k) := by
  refine Or.inr (Or.inr (Or.inr (Or.inr ⟨hk, h2, hc, fun W p hb hP => ?_⟩)))
  have hoff : ∀ k : Nat, k = 5 ∨ k = 7 → Calls Tryz.prog 172 #[.int .i64 k, .slice (some ⟨p, 0, none⟩) 1 1, .slice (some ⟨wb, 2, none⟩) 1 (wc - 1)] W fun e w' => e = .returned (.int .i64 (ownAt l k)) ∧ Below W.heap.size W w' := fun k hk => by
    have e : ownAt l k = -1 := by rcases hk with rfl | rfl <;> rfl
    rw [e]
    exact misfit_off p k _ W hk (hP.2 0 (by simp))
  rcases hk with rfl | rfl | rfl
  · exact hoff 5 (Or.inl rfl)
  · have hW' := hW.below hb
    have h1 : 1 < l.length := by omega
    have hW1 : WAt W wb 2 [l[1]] := ⟨hW'.1, fun j hj => by
      have e : j = 0 := by simp at hj; exact hj
      subst e
      exact hW'.2 1 h1⟩
    refine (misfit_any ipF 6 p wb 2 1 1 1 (wc - 1) [6] [l[1]] W (by omega) rfl rfl (by omega) (by omega) hP hW1 ?_).mono ?_
    · intro j hj W' hb'
      exact fits_version ipF _ W' ((hm.below hb).below hb')
    · rintro e w' ⟨rfl, h⟩
      refine ⟨?_, h⟩
      have hg : l.getD 1 pad = l[1] := getD_at h1
      unfold ownAt
      rw [if_neg (by decide), if_pos rfl, hg]
      have hfit : Tx.fit ipF 6 l[1].2.data.toList = (Pv.parse l[1].2.data.toList).isSome := rfl
      simp only [wtoks, List.map_cons, List.map_nil, Tx.misfit, hfit]
      cases (Pv.parse l[1].2.data.toList).isSome <;> simp [atOr]
  · exact hoff 7 (Or.inr rfl)

end Go.Proofs.YtelmkfkgpnadnaaGreatDoor
