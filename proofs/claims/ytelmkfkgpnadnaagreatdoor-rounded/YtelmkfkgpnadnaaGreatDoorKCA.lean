/-
  The plain mathematics of the orders of modules and of replacements.
  A stable sort, plain: it is what putting each into its place answers.
  A row of cells of the call's own ahead of a sort and behind it.
-/
import Derived.Test.YtelmkfkgpnadnaaGreatDoorKUA
import Derived.Sort.LotA
import Derived.Shelf.SlSortCmp.Insertion
import Derived.Test.YtelmkfkgpnadnaaGreatDoorKSSA
import Derived.Test.YtelmkfkgpnadnaaGreatDoorKGA
import Derived.Shelf.SlSortCmp.KitK
namespace Go.Proofs.YtelmkfkgpnadnaaGreatDoor
namespace Pv

/-- Two words that should be versions. -/
def cmpW (a b : List UInt8) : Int :=
  match parse a, parse b with
  | some x, some y => cmpV x y
  | some _, none => 1
  | none, some _ => -1
  | none, none => Lib.compareBytes a b

theorem cmpW_ss {a b : List UInt8} {x y : List (List UInt8) × List (List UInt8)} (ha : parse a = some x) (hb : parse b = some y) : cmpW a b = cmpV x y := by unfold cmpW; rw [ha, hb]
theorem cmpW_sn {a b : List UInt8} {x : List (List UInt8) × List (List UInt8)} (ha : parse a = some x) (hb : parse b = none) : cmpW a b = 1 := by unfold cmpW; rw [ha, hb]
theorem cmpW_ns {a b : List UInt8} {y : List (List UInt8) × List (List UInt8)} (ha : parse a = none) (hb : parse b = some y) : cmpW a b = -1 := by unfold cmpW; rw [ha, hb]
theorem cmpW_nn {a b : List UInt8} (ha : parse a = none) (hb : parse b = none) : cmpW a b = Lib.compareBytes a b := by unfold cmpW; rw [ha, hb]

theorem cmp_w : Cmp (fun _ : List UInt8 => True) cmpW := by
  refine ⟨fun a b _ _ => ?_, fun a b _ _ h => ?_, fun a b c _ _ _ h1 h2 => ?_⟩
  · cases ha : parse a with
    | none =>
      cases hb : parse b with
      | none => rw [cmpW_nn ha hb, cmpW_nn hb ha]; exact cmp_bytes.anti a b trivial trivial
      | some y => rw [cmpW_ns ha hb, cmpW_sn hb ha]; rfl
    | some x =>
      cases hb : parse b with
      | none => rw [cmpW_sn ha hb, cmpW_ns hb ha]
      | some y => rw [cmpW_ss ha hb, cmpW_ss hb ha]; exact cmp_v.anti x y (parse_form ha).2 (parse_form hb).2
  · cases ha : parse a with
    | none =>
      cases hb : parse b with
      | none => rw [cmpW_nn ha hb] at h; exact cmp_bytes.zero a b trivial trivial h
      | some y => rw [cmpW_ns ha hb] at h; exact absurd h (by decide)
    | some x =>
      cases hb : parse b with
      | none => rw [cmpW_sn ha hb] at h; exact absurd h (by decide)
      | some y =>
        rw [cmpW_ss ha hb] at h
        have e := cmp_v.zero x y (parse_form ha).2 (parse_form hb).2 h
        subst e
        exact parse_inj ha hb
  · cases ha : parse a with
    | none =>
      cases hc : parse c with
      | some z => rw [cmpW_ns ha hc]; decide
      | none =>
        cases hb : parse b with
        | none => rw [cmpW_nn ha hb] at h1; rw [cmpW_nn hb hc] at h2; rw [cmpW_nn ha hc]; exact cmp_bytes.trans a b c trivial trivial trivial h1 h2
        | some y => rw [cmpW_sn hb hc] at h2; exact absurd h2 (by decide)
    | some x =>
      cases hb : parse b with
      | none => rw [cmpW_sn ha hb] at h1; exact absurd h1 (by decide)
      | some y =>
        cases hc : parse c with
        | none => rw [cmpW_sn hb hc] at h2; exact absurd h2 (by decide)
        | some z =>
          rw [cmpW_ss ha hb] at h1
          rw [cmpW_ss hb hc] at h2
          rw [cmpW_ss ha hc]
          exact cmp_v.trans x y z (parse_form ha).2 (parse_form hb).2 (parse_form hc).2 h1 h2

/-- By f, and of one by g. -/
def lex {α β : Type} (f : α → α → Int) (g : β → β → Int) (x y : α × β) : Int := if f x.1 y.1 = 0 then g x.2 y.2 else f x.1 y.1

theorem cmp_lex {α β : Type} {f : α → α → Int} {g : β → β → Int} (hf : Cmp (fun _ : α => True) f) (hg : Cmp (fun _ : β => True) g) : Cmp (fun _ : α × β => True) (lex f g) := by
  refine ⟨fun a b _ _ => ?_, fun a b _ _ h => ?_, fun a b c _ _ _ h1 h2 => ?_⟩
  · have h1 := hf.anti a.1 b.1 trivial trivial
    unfold lex
    by_cases e : f a.1 b.1 = 0
    · rw [if_pos e, if_pos (by omega)]; exact hg.anti _ _ trivial trivial
    · rw [if_neg e, if_neg (by omega)]; exact h1
  · unfold lex at h
    by_cases e : f a.1 b.1 = 0
    · rw [if_pos e] at h
      exact Prod.ext (hf.zero _ _ trivial trivial e) (hg.zero _ _ trivial trivial h)
    · rw [if_neg e] at h; exact absurd h e
  · unfold lex at h1 h2 ⊢
    by_cases e1 : f a.1 b.1 = 0
    · have e := hf.zero _ _ trivial trivial e1
      rw [if_pos e1] at h1
      rw [e]
      by_cases e2 : f b.1 c.1 = 0
      · rw [if_pos e2] at h2 ⊢
        exact hg.trans _ _ _ trivial trivial trivial h1 h2
      · rw [if_neg e2] at h2 ⊢; exact h2
    · rw [if_neg e1] at h1
      by_cases e2 : f b.1 c.1 = 0
      · have e := hf.zero _ _ trivial trivial e2
        rw [← e, if_neg e1]; exact h1
      · rw [if_neg e2] at h2
        have h3 := hf.lt_trans trivial trivial trivial (show f a.1 b.1 < 0 by omega) (show f b.1 c.1 < 0 by omega)
        rw [if_neg (by omega)]; omega

/-- What a comparison by a key orders. -/
theorem swo_of {α β : Type} (key : α → β) {f : β → β → Int} (h : Cmp (fun _ : β => True) f) : Sort.SWO (Go.Proofs.ltOf fun x y : α => f (key x) (key y)) := by
  refine ⟨fun x => ?_, fun x y z h1 h2 => ?_, fun x y z h1 h2 => ?_⟩
  · have h0 := h.self (a := key x) trivial
    exact decide_eq_false (by show ¬ f (key x) (key x) < 0; omega)
  · have h1 : f (key x) (key y) < 0 := of_decide_eq_true h1
    have h2 : f (key y) (key z) < 0 := of_decide_eq_true h2
    exact decide_eq_true (h.lt_trans trivial trivial trivial h1 h2)
  · have h1 : ¬ f (key x) (key y) < 0 := of_decide_eq_false h1
    have h2 : ¬ f (key y) (key z) < 0 := of_decide_eq_false h2
    refine decide_eq_false ?_
    show ¬ f (key x) (key z) < 0
    have a1 := h.anti (key x) (key y) trivial trivial
    have a2 := h.anti (key y) (key z) trivial trivial
    have a3 := h.anti (key x) (key z) trivial trivial
    have := h.trans (key z) (key y) (key x) trivial trivial trivial (by omega) (by omega)
    omega

end Pv

/-- Paths, byte by byte. -/
def cmpPath (a b : ByteArray) : Int := Lib.compareBytes a.data.toList b.data.toList
/-- Words that should be versions. -/
def cmpWord (a b : ByteArray) : Int := Pv.cmpW a.data.toList b.data.toList
/-- Modules: by path, and of one path by version. -/
def cmpMod (a b : ByteArray × ByteArray) : Int := if cmpPath a.1 b.1 = 0 then cmpWord a.2 b.2 else cmpPath a.1 b.1

theorem cmp_data {f : List UInt8 → List UInt8 → Int} (h : Pv.Cmp (fun _ => True) f) : Pv.Cmp (fun _ : ByteArray => True) fun a b => f a.data.toList b.data.toList :=
  ⟨fun _ _ _ _ => h.anti _ _ trivial trivial, fun _ _ _ _ e => ByteArray.ext (Array.toList_inj.1 (h.zero _ _ trivial trivial e)), fun _ _ _ _ _ _ h1 h2 => h.trans _ _ _ trivial trivial trivial h1 h2⟩

theorem cmp_path : Pv.Cmp (fun _ => True) cmpPath := cmp_data Pv.cmp_bytes
theorem cmp_word : Pv.Cmp (fun _ => True) cmpWord := cmp_data Pv.cmp_w
theorem cmp_mod : Pv.Cmp (fun _ => True) cmpMod := Pv.cmp_lex cmp_path cmp_word

end Go.Proofs.YtelmkfkgpnadnaaGreatDoor

namespace Go.Proofs.YtelmkfkgpnadnaaGreatDoor
open Go.Sort
namespace Ss
section
variable {α β : Type} {lt : α → α → Bool} {tag : α → Nat}

/-- One in its place: behind all that it is not ahead of. -/
def ins (lt : α → α → Bool) (v : α) (L : List α) : List α := (L.reverse.dropWhile (lt v)).reverse ++ [v] ++ (L.reverse.takeWhile (lt v)).reverse

def insAll (lt : α → α → Bool) (L : List α) : List α := L.foldl (fun M x => ins lt x M) []

theorem insAll_snoc (L : List α) (x : α) : insAll lt (L ++ [x]) = ins lt x (insAll lt L) := by simp [insAll, List.foldl_append]

theorem ins_len (v : α) (L : List α) : (ins lt v L).length = L.length + 1 := by
  have h : L = (L.reverse.dropWhile (lt v)).reverse ++ (L.reverse.takeWhile (lt v)).reverse := by
    rw [← List.reverse_append, List.takeWhile_append_dropWhile, List.reverse_reverse]
  have h2 := congrArg List.length h
  unfold ins
  simp only [List.length_append, List.length_reverse, List.length_singleton] at h2 ⊢
  omega

theorem insAll_len (L : List α) : (insAll lt L).length = L.length := by
  rw [← List.reverse_reverse L]
  induction L.reverse with
  | nil => rfl
  | cons a r ih => rw [List.reverse_cons, insAll_snoc, ins_len, ih]; simp

theorem ins_map (f : α → β) (lt0 : β → β → Bool) (hl : ∀ x y, lt x y = lt0 (f x) (f y)) (v : α) (L : List α) : (ins lt v L).map f = ins lt0 (f v) (L.map f) := by
  have e : lt v = lt0 (f v) ∘ f := funext fun y => hl v y
  unfold ins
  have er : (L.map f).reverse = L.reverse.map f := List.map_reverse.symm
  rw [er, List.takeWhile_map, List.dropWhile_map, e]
  simp

theorem insAll_map (f : α → β) (lt0 : β → β → Bool) (hl : ∀ x y, lt x y = lt0 (f x) (f y)) (L : List α) : (insAll lt L).map f = insAll lt0 (L.map f) := by
  rw [← List.reverse_reverse L]
  induction L.reverse with
  | nil => rfl
  | cons a r ih => rw [List.reverse_cons, insAll_snoc, ins_map f lt0 hl, ih, List.map_append, List.map_singleton, insAll_snoc]

theorem ins_perm (v : α) (L : List α) : (ins lt v L).Perm (v :: L) := by
  have h : L = (L.reverse.dropWhile (lt v)).reverse ++ (L.reverse.takeWhile (lt v)).reverse := by
    rw [← List.reverse_append, List.takeWhile_append_dropWhile, List.reverse_reverse]
  unfold ins
  conv => rhs; rw [h]
  rw [List.append_assoc]
  exact List.perm_middle

theorem insAll_perm (L : List α) : (insAll lt L).Perm L := by
  rw [← List.reverse_reverse L]
  induction L.reverse with
  | nil => exact List.Perm.refl _
  | cons a r ih =>
    rw [List.reverse_cons, insAll_snoc]
    refine (ins_perm _ _).trans ?_
    refine (List.Perm.cons _ ih).trans ?_
    exact (List.perm_append_comm (l₁ := [a]) (l₂ := r.reverse))

/-- In order, equal ones by their tags. -/
abbrev SrtT (lt : α → α → Bool) (tag : α → Nat) (L : List α) : Prop := L.Pairwise fun a b => rl lt tag b a = false

theorem ins_sorted (hS : SWO lt) {v : α} {L : List α} (ht : ∀ y ∈ L, tag y < tag v) (hs : SrtT lt tag L) : SrtT lt tag (ins lt v L) := by
  have e : L = (L.reverse.dropWhile (lt v)).reverse ++ (L.reverse.takeWhile (lt v)).reverse := by
    rw [← List.reverse_append, List.takeWhile_append_dropWhile, List.reverse_reverse]
  have hT : ∀ y ∈ L.reverse.takeWhile (lt v), lt v y = true := fun y hy => by
    have := List.all_takeWhile (p := lt v) (l := L.reverse)
    exact List.all_eq_true.1 this y hy
  have hDm : ∀ y ∈ L.reverse.dropWhile (lt v), y ∈ L := fun y hy => List.mem_reverse.1 ((List.dropWhile_sublist _).subset hy)
  have hh : ∀ a r, L.reverse.dropWhile (lt v) = a :: r → lt v a = false := fun a r hr => by
    have := List.head?_dropWhile_not (lt v) L.reverse
    rw [hr] at this
    simpa using this
  unfold SrtT at hs ⊢
  rw [e] at hs
  unfold ins
  generalize L.reverse.takeWhile (lt v) = T at *
  generalize L.reverse.dropWhile (lt v) = D at *
  rw [List.pairwise_append] at hs
  obtain ⟨s1, s2, s3⟩ := hs
  have hD : ∀ x ∈ D, lt v x = false := fun x hx => by
    cases D with
    | nil => cases hx
    | cons a r =>
      have h1 := hh a r rfl
      rcases List.mem_cons.1 hx with e2 | hx'
      · rw [e2]; exact h1
      · have h2 : rl lt tag a x = false := by
          rw [List.reverse_cons, List.pairwise_append] at s1
          exact s1.2.2 x (by simpa using hx') a (by simp)
        exact hS.ntrans _ _ _ h1 ((rl_false _ _).1 h2).1
  rw [List.append_assoc, List.pairwise_append]
  refine ⟨s1, ?_, ?_⟩
  · rw [List.singleton_append, List.pairwise_cons]
    refine ⟨fun y hy => ?_, s2⟩
    have h1 := hT y (List.mem_reverse.1 hy)
    have h2 : lt y v = false := by
      cases hq : lt y v with
      | false => rfl
      | true => exact absurd (hS.trans _ _ _ h1 hq) (by rw [hS.irrefl]; decide)
    exact (rl_false _ _).2 ⟨h2, Or.inl h1⟩
  · intro x hx y hy
    rcases List.mem_append.1 hy with hy | hy
    · rw [List.mem_singleton.1 hy]
      have hx' := List.mem_reverse.1 hx
      exact (rl_false _ _).2 ⟨hD x hx', Or.inr (Nat.le_of_lt (ht x (hDm x hx')))⟩
    · exact s3 x hx y hy

theorem insAll_sorted (hS : SWO lt) : ∀ L : List α, L.Pairwise (fun a b => tag a < tag b) → SrtT lt tag (insAll lt L) := by
  intro L
  rw [← List.reverse_reverse L]
  induction L.reverse with
  | nil => intro _; exact List.Pairwise.nil
  | cons a r ih =>
    intro h
    rw [List.reverse_cons] at h ⊢
    rw [insAll_snoc]
    rw [List.pairwise_append] at h
    exact ins_sorted hS (fun y hy => h.2.2 y ((insAll_perm _).mem_iff.1 hy) a (by simp)) (ih h.1)

/-- There is one list in order. -/
theorem one_list : ∀ (A B : List α), A.Perm B → SrtT lt tag A → SrtT lt tag B → (∀ x ∈ A, ∀ y ∈ A, rl lt tag x y = false → rl lt tag y x = false → x = y) → A = B
  | [], B, hp, _, _, _ => (List.nil_perm.1 hp).symm
  | a :: A, [], hp, _, _, _ => by have := hp.length_eq; simp at this
  | a :: A, b :: B, hp, hA, hB, hu => by
    have e : a = b := by
      have ha : a ∈ b :: B := hp.mem_iff.1 (by simp)
      have hb : b ∈ a :: A := hp.mem_iff.2 (by simp)
      rcases List.mem_cons.1 ha with e | ha
      · exact e
      · rcases List.mem_cons.1 hb with e | hb
        · exact e.symm
        · exact hu a (by simp) b (by simp [hb]) ((List.pairwise_cons.1 hB).1 a ha) ((List.pairwise_cons.1 hA).1 b hb)
    subst e
    rw [one_list A B (List.perm_cons a |>.1 hp) (List.pairwise_cons.1 hA).2 (List.pairwise_cons.1 hB).2 (fun x hx y hy => hu x (by simp [hx]) y (by simp [hy]))]

end
section
variable {α : Type} [Inhabited α] {lt : α → α → Bool} {tag : α → Nat}

theorem tag_pair {d : Array α} (h : TagInc tag 0 d.size d) : d.toList.Pairwise (fun a b => tag a < tag b) := by
  rw [List.pairwise_iff_getElem]
  intro i j hi hj hij
  have hi' : i < d.size := by simpa using hi
  have hj' : j < d.size := by simpa using hj
  have := h i j (Nat.zero_le _) hij hj'
  rw [getElem!_pos d i hi', getElem!_pos d j hj'] at this
  simpa using this

theorem tag_one {d : Array α} (h : TagInc tag 0 d.size d) {x y : α} (hx : x ∈ d.toList) (hy : y ∈ d.toList) (he : tag x = tag y) : x = y := by
  obtain ⟨i, hi, rfl⟩ := List.getElem_of_mem hx
  obtain ⟨j, hj, rfl⟩ := List.getElem_of_mem hy
  have hp := List.pairwise_iff_getElem.1 (tag_pair h)
  rcases Nat.lt_trichotomy i j with h1 | h1 | h1
  · have := hp i j hi hj h1; omega
  · subst h1; rfl
  · have := hp j i hj hi h1; omega

/-- A stable sort's answer is what insertion answers. -/
theorem stable_is (hS : SWO lt) {d e : Array α} (ht : TagInc tag 0 d.size d) (h : MPost lt tag 0 d.size d e) : e.toList = insAll lt d.toList := by
  have hp : e.toList.Perm d.toList := by
    have h1 := h.1.2.2
    have e1 : e.extract 0 d.size = e := by rw [← h.1.1]; exact Array.extract_size
    have e2 : d.extract 0 d.size = d := Array.extract_size
    rw [e1, e2] at h1
    exact h1
  refine one_list (lt := lt) (tag := tag) _ _ (hp.trans (insAll_perm _).symm) ?_ (insAll_sorted hS _ (tag_pair ht)) ?_
  · unfold SrtT
    rw [List.pairwise_iff_getElem]
    intro i j hi hj hij
    have hi' : i < e.size := by simpa using hi
    have hj' : j < e.size := by simpa using hj
    have := h.2 i j (Nat.zero_le _) hij (by rw [← h.1.1]; exact hj')
    rw [getElem!_pos e i hi', getElem!_pos e j hj'] at this
    simpa using this
  · intro x hx y hy h1 h2
    have h1 := (rl_false _ _).1 h1
    have h2 := (rl_false _ _).1 h2
    refine tag_one ht (hp.mem_iff.1 hx) (hp.mem_iff.1 hy) ?_
    rcases h1.2 with k1 | k1
    · rw [h2.1] at k1; cases k1
    · rcases h2.2 with k2 | k2
      · rw [h1.1] at k2; cases k2
      · omega
end
end Ss
end Go.Proofs.YtelmkfkgpnadnaaGreatDoor

namespace Go.Proofs.YtelmkfkgpnadnaaGreatDoor
open Go.RowKit Go.Sort Go.Shelf Go.Lib
namespace Ss
variable {α : Type} [Inhabited α] {enc : α → List Value} {k : Nat} {w W : World}

theorem flat_get (hk : ∀ x, (enc x).length = k) (h0 : 0 < k) : ∀ (L : List α) (t : Nat), t < L.length * k → (L.flatMap enc)[t]? = (enc (L[t / k]!))[t % k]?
  | [], t, h => by simp at h
  | x :: L, t, h => by
    rw [List.flatMap_cons]
    by_cases ht : t < k
    · rw [List.getElem?_append_left (by rw [hk]; exact ht), Nat.div_eq_of_lt ht, Nat.mod_eq_of_lt ht]
      rfl
    · have ht' : k ≤ t := by omega
      rw [List.getElem?_append_right (by rw [hk]; exact ht'), hk]
      have h2 : t - k < L.length * k := by
        rw [List.length_cons, Nat.add_mul, Nat.one_mul] at h
        omega
      rw [flat_get hk h0 L (t - k) h2]
      have e1 : t / k = (t - k) / k + 1 := by
        have : t = (t - k) + k := by omega
        conv => lhs; rw [this, Nat.add_div_right _ h0]
      have e2 : t % k = (t - k) % k := by
        have : t = (t - k) + k := by omega
        conv => lhs; rw [this, Nat.add_mod_right]
      rw [e1, e2]
      rfl

omit [Inhabited α] in
theorem flat_len (hk : ∀ x, (enc x).length = k) : ∀ L : List α, (L.flatMap enc).length = L.length * k
  | [] => by simp
  | x :: L => by rw [List.flatMap_cons, List.length_append, hk, flat_len hk L, List.length_cons, Nat.add_mul, Nat.one_mul, Nat.add_comm]

theorem flat_list (hk : ∀ x, (enc x).length = k) (h0 : 0 < k) (d : Array α) : (flatK enc k d).toList = d.toList.flatMap enc := by
  apply List.ext_getElem?
  intro t
  by_cases ht : t < d.size * k
  · rw [flat_get hk h0 d.toList t (by simpa using ht), Array.getElem?_toList, Array.getElem?_eq_getElem (by rw [size_flatK]; exact ht), ← getElem!_pos _ t (by rw [size_flatK]; exact ht), get_flatK enc k d t ht]
    have e : d.toList[t / k]! = d[t / k]! := by
      have hd : t / k < d.size := by rw [Nat.div_lt_iff_lt_mul h0]; exact ht
      rw [getElem!_pos d.toList (t / k) (by simpa using hd), getElem!_pos d (t / k) hd, Array.getElem_toList]
    rw [e]
    have hm : t % k < (enc d[t / k]!).length := by rw [hk]; exact Nat.mod_lt _ h0
    rw [List.getElem?_eq_getElem hm, getElem!_pos (enc d[t / k]!) (t % k) hm]
  · rw [List.getElem?_eq_none (by rw [Array.length_toList, size_flatK]; omega), List.getElem?_eq_none (by rw [flat_len hk, Array.length_toList]; omega)]

/-- A row of the call's own holds its elements. -/
theorem own_holds (hk : ∀ x, (enc x).length = k) (h0 : 0 < k) {B e g cap : Nat} {d : Array α} (h : w.ownsRow B e k (.slice (some ⟨g, 0, none⟩) d.size cap) d.size (d.toList.flatMap enc)) : HoldsK enc k w g 0 d := by
  intro j hj
  rw [size_flatK] at hj
  refine ⟨?_, by rw [Nat.zero_add]; exact h.frozenAt j⟩
  rw [Nat.zero_add, h.cellAt j hj, ← flat_list hk h0, Array.getElem?_toList, Array.getElem?_eq_getElem (by rw [size_flatK]; exact hj), ← getElem!_pos _ j (by rw [size_flatK]; exact hj)]
  rfl

theorem swk_other {g : Nat} {d : Array α} (S : SWK enc k w g 0 d W) (b : Nat) (hb : b < w.heap.size) (hne : b ≠ g) : W.heap[b]? = w.heap[b]? := by
  obtain ⟨n, os, rfl⟩ := S
  unfold sortWorldK
  rw [Go.Sort.heap_grow_old _ _ (by rw [size_putRowK]; exact hb)]
  unfold putRowK Go.Sort.putRow Go.Sort.mapBlock
  show (w.heap.modify g _)[b]? = _
  rw [Array.getElem?_modify, if_neg (fun e => hne e.symm)]

theorem swk_own {g : Nat} {d : Array α} (S : SWK enc k w g 0 d W) {cur : Array Value} {e : TypeId} (h : w.heap[g]? = some (.cells cur e (0, 0))) : W.heap[g]? = some (.cells (Go.Sort.putCells id 0 (flatK enc k d) cur) e (0, 0)) := by
  obtain ⟨n, os, rfl⟩ := S
  have hb : g < w.heap.size := (Array.getElem?_eq_some_iff.1 h).1
  unfold sortWorldK
  rw [Go.Sort.heap_grow_old _ _ (by rw [size_putRowK]; exact hb)]
  unfold putRowK Go.Sort.putRow Go.Sort.mapBlock
  show (w.heap.modify g _)[g]? = _
  rw [Array.getElem?_modify, if_pos rfl, h]
  rfl

theorem put_take (F cur : Array Value) (hn : F.size ≤ cur.size) : (Go.Sort.putCells id 0 F cur).toList.take F.size = F.toList := by
  apply List.ext_getElem?
  intro j
  by_cases hj : j < F.size
  · have h1 : j < cur.size := by omega
    rw [List.getElem?_take_of_lt hj, Array.getElem?_toList]
    unfold Go.Sort.putCells
    rw [Array.getElem?_mapIdx, Array.getElem?_eq_getElem h1]
    simp only [Option.map_some, Nat.zero_le, Nat.zero_add, true_and, if_pos hj, Nat.sub_zero, id]
    rw [getElem!_pos F j hj, Array.getElem?_toList, Array.getElem?_eq_getElem hj]
  · rw [List.getElem?_eq_none (by rw [List.length_take]; omega), List.getElem?_eq_none (by simp; omega)]

/-- Behind the sort it is a row of the call's own, of what is in order. -/
theorem own_sorted (hk : ∀ x, (enc x).length = k) (h0 : 0 < k) {B e g cap n : Nat} {d d' : Array α} (hd' : d'.size = n) (h : w.ownsRow B e k (.slice (some ⟨g, 0, none⟩) n cap) n (d.toList.flatMap enc)) (S : SWK enc k w g 0 d' W) :
    W.ownsRow B e k (.slice (some ⟨g, 0, none⟩) n cap) n (d'.toList.flatMap enc) ∧ Turn (fun b => b = g) w W := by
  have hgl := (h.lt g rfl).2
  refine ⟨?_, ?_⟩
  · rcases h.2 with ⟨hn, _⟩ | ⟨g', cap', cur, hv, hB, hh, hle, hcm, hcs, _⟩
    · cases hn
    · injection hv with e1 _ e3
      have eg : g = g' := by injection e1 with e1; injection e1
      subst eg
      subst e3
      refine ⟨by rw [flat_len hk, Array.length_toList, hd'], .inr ⟨g, cap, _, rfl, hB, swk_own S hh, hle, hcm, ?_, ?_⟩⟩
      · rw [← hcs]; simp [Go.Sort.putCells]
      · have := put_take (flatK enc k d') cur (by rw [size_flatK, hd', hcs]; exact Nat.mul_le_mul_right k hle)
        rw [size_flatK, hd'] at this
        rw [this, flat_list hk h0]
  · have hle := S.le
    have ho := fun b hb hne => swk_other S b hb hne
    obtain ⟨m, os, rfl⟩ := S
    exact ⟨rfl, rfl, rfl, hle, ho⟩

end Ss
end Go.Proofs.YtelmkfkgpnadnaaGreatDoor
