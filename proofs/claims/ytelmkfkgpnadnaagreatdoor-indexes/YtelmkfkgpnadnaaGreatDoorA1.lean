/-
  The document's answer: a version in its place.
-/
import Derived.Test.YtelmkfkgpnadnaaGreatDoorVA
import Derived.Test.YtelmkfkgpnadnaaGreatDoorS3
namespace Go.Proofs.YtelmkfkgpnadnaaGreatDoor
open Go.RowKit

variable {w w' : World}

/-- Does a version go ahead of another? -/
def vlt (a b : ByteArray) : Bool :=
  match Pv.parse a.data.toList, Pv.parse b.data.toList with
  | some x, some y => decide (Pv.cmpV x y < 0)
  | _, _ => false

def IsV (a : ByteArray) : Prop := (Pv.parse a.data.toList).isSome = true

set_option maxRecDepth 100000 in
set_option maxHeartbeats 1000000 in
theorem ahead_any (a b : ByteArray) (w : World) (ha : IsV a) (hb : IsV b) :
    Calls Tryz.prog 120 #[.agg #[.string ⟨#[]⟩, .string a], .agg #[.string ⟨#[]⟩, .string b], .bool true] w fun e w' => e = .returned (.bool (vlt a b)) ∧ Below w.heap.size w w' := by
  obtain ⟨va, hva⟩ := Option.isSome_iff_exists.1 ha
  obtain ⟨vb, hvb⟩ := Option.isSome_iff_exists.1 hb
  have kw := fun W => words_any a b W va vb hva hvb
  have hr : vlt a b = decide (Pv.cmpV va vb < 0) := by unfold vlt; rw [hva, hvb]
  rw [hr]
  generalize Pv.cmpV va vb = r at *
  clear hva hvb ha hb hr
  have HB : Hid (∀ o1 o2, Below w.heap.size w ((w.alloc o1).alloc o2)) := fun o1 o2 => ((Below.refl _ _).alloc (Nat.le_refl _) _).alloc (by simp) _
  go_enter Tryz.func120, Tryz.ntmps120
  go_wp2_with (go_at_call 164; fail)
  go_at_call 164
  refine (kw _).mono ?_
  rintro e w1 ⟨rfl, hb1⟩
  have hb : Below w.heap.size w w1 := (HB.out _ _).trans (hb1.mono (by simp; omega))
  clear hb1 kw
  go_wp2
  go_ret
  exact ⟨rfl, hb⟩

def insV (v : ByteArray) (L : List ByteArray) : List ByteArray := (L.reverse.dropWhile (vlt v)).reverse ++ [v] ++ (L.reverse.takeWhile (vlt v)).reverse

theorem insV_front {v : ByteArray} {post : List ByteArray} (h : ∀ y ∈ post, vlt v y = true) : insV v post = v :: post := by
  have h' : ∀ y ∈ post.reverse, vlt v y = true := fun y hy => h y (List.mem_reverse.1 hy)
  have e1 : post.reverse.takeWhile (vlt v) = post.reverse := by
    have := List.takeWhile_append_of_pos (l₂ := []) h'
    simpa using this
  have e2 : post.reverse.dropWhile (vlt v) = [] := by
    have := List.dropWhile_append_of_pos (l₂ := []) h'
    simpa using this
  unfold insV
  rw [e1, e2]
  simp

theorem insV_mid {v y : ByteArray} {p post : List ByteArray} (h : ∀ z ∈ post, vlt v z = true) (hy : vlt v y = false) : insV v (p ++ [y] ++ post) = p ++ [y] ++ [v] ++ post := by
  have h' : ∀ z ∈ post.reverse, vlt v z = true := fun z hz => h z (List.mem_reverse.1 hz)
  have er : (p ++ [y] ++ post).reverse = post.reverse ++ (y :: p.reverse) := by simp
  unfold insV
  rw [er, List.takeWhile_append_of_pos h', List.dropWhile_append_of_pos h', List.takeWhile_cons, List.dropWhile_cons, hy]
  simp

def mcells (L : List ByteArray) : List Value := L.flatMap fun v => [.string ⟨#[]⟩, .string v]

theorem mcells_append (L M : List ByteArray) : mcells (L ++ M) = mcells L ++ mcells M := by simp [mcells]
theorem mcells_len (L : List ByteArray) : (mcells L).length = L.length * 2 := by
  induction L with
  | nil => rfl
  | cons a r ih => show (_ :: _ :: mcells r).length = _; simp [ih]; omega

theorem set4 (A C : List Value) (a b c d a' b' c' d' : Value) (n : Nat) (h : A.length = n) : ((((A ++ [a, b, c, d] ++ C).set (n + 2) c').set (n + 3) d').set n a').set (n + 1) b' = A ++ [a', b', c', d'] ++ C := by
  subst h
  simp

theorem mcells_swap (p post : List ByteArray) (y v : ByteArray) (n : Nat) (h : p.length = n) :
    ((((mcells (p ++ [y] ++ [v] ++ post)).set ((n + 1) * 2) (.string ⟨#[]⟩)).set ((n + 1) * 2 + 1) (.string y)).set (n * 2) (.string ⟨#[]⟩)).set (n * 2 + 1) (.string v) = mcells (p ++ [v] ++ ([y] ++ post)) := by
  have e : mcells (p ++ [y] ++ [v] ++ post) = mcells p ++ [.string ⟨#[]⟩, .string y, .string ⟨#[]⟩, .string v] ++ mcells post := by simp [mcells]
  have e2 : mcells (p ++ [v] ++ ([y] ++ post)) = mcells p ++ [.string ⟨#[]⟩, .string v, .string ⟨#[]⟩, .string y] ++ mcells post := by simp [mcells]
  rw [e, e2, show (n + 1) * 2 = n * 2 + 2 by omega]
  exact set4 (mcells p) (mcells post) _ _ _ _ _ _ _ _ (n * 2) (by rw [mcells_len, h])

theorem mcells_at (p post : List ByteArray) (v : ByteArray) : (mcells (p ++ [v] ++ post))[p.length * 2]? = some (.string ⟨#[]⟩) ∧ (mcells (p ++ [v] ++ post))[p.length * 2 + 1]? = some (.string v) := by
  have e : mcells (p ++ [v] ++ post) = mcells p ++ (.string ⟨#[]⟩ :: .string v :: mcells post) := by simp [mcells]
  rw [e]
  constructor
  · rw [List.getElem?_append_right (by rw [mcells_len]; omega), mcells_len, Nat.sub_self]; rfl
  · rw [List.getElem?_append_right (by rw [mcells_len]; omega), mcells_len, show p.length * 2 + 1 - p.length * 2 = 1 by omega]; rfl

theorem info29 : ∃ i, Tryz.prog.info? 29 = some i ∧ i.zero = some (.agg #[.string ⟨#[]⟩, .string ⟨#[]⟩]) ∧ i.size = 2 ∧ i.bytes = 32 := by
  have h : (Tryz.prog.info? 29).map (fun i => (i.zero, i.size, i.bytes)) = some (some (.agg #[.string ⟨#[]⟩, .string ⟨#[]⟩]), 2, 32) := by kernel_rfl
  rw [Option.map_eq_some_iff] at h
  obtain ⟨i, h1, h2⟩ := h
  simp only [Prod.mk.injEq] at h2
  exact ⟨i, h1, h2.1, h2.2.1, h2.2.2⟩

end Go.Proofs.YtelmkfkgpnadnaaGreatDoor
