/-
  The document's answer: a version in its place.
  The document's answer: a version is put in its place: the walk.
  The document's answer: an index.
-/
import Derived.Test.YtelmkfkgpnadnaaGreatDoorKVA
import Derived.Test.YtelmkfkgpnadnaaGreatDoorKSA
import Derived.Deep.RegionHeld3
namespace Go.Proofs.YtelmkfkgpnadnaaGreatDoor
open Go.RowKit

variable {w w' : World}

/-- Does a version go ahead of another? -/
def vlt (a b : ByteArray) : Bool :=
  match Pv.parse a.data.toList, Pv.parse b.data.toList with
  | some x, some y => decide (Pv.cmpV x y < 0)
  | _, _ => false

def IsV (a : ByteArray) : Prop := (Pv.parse a.data.toList).isSome = true

set_option maxRecDepth 100000 in
set_option maxHeartbeats 1000000 in
theorem ahead_any (a b : ByteArray) (w : World) (ha : IsV a) (hb : IsV b) :
    Calls Tryz.prog 120 #[.agg #[.string ⟨#[]⟩, .string a], .agg #[.string ⟨#[]⟩, .string b], .bool true] w fun e w' => e = .returned (.bool (vlt a b)) ∧ Below w.heap.size w w' := by
  obtain ⟨va, hva⟩ := Option.isSome_iff_exists.1 ha
  obtain ⟨vb, hvb⟩ := Option.isSome_iff_exists.1 hb
  have kw := fun W => words_any a b W va vb hva hvb
  have hr : vlt a b = decide (Pv.cmpV va vb < 0) := by unfold vlt; rw [hva, hvb]
  rw [hr]
  generalize Pv.cmpV va vb = r at *
  clear hva hvb ha hb hr
  have HB : Hid (∀ o1 o2, Below w.heap.size w ((w.alloc o1).alloc o2)) := fun o1 o2 => ((Below.refl _ _).alloc (Nat.le_refl _) _).alloc (by simp) _
  go_enter Tryz.func120, Tryz.ntmps120
  go_wp2_with (go_at_call 164; fail)
  go_at_call 164
  refine (kw _).mono ?_
  rintro e w1 ⟨rfl, hb1⟩
  have hb : Below w.heap.size w w1 := (HB.out _ _).trans (hb1.mono (by simp; omega))
  clear hb1 kw
  go_wp2
  go_ret
  exact ⟨rfl, hb⟩

def insV (v : ByteArray) (L : List ByteArray) : List ByteArray := (L.reverse.dropWhile (vlt v)).reverse ++ [v] ++ (L.reverse.takeWhile (vlt v)).reverse

theorem insV_front {v : ByteArray} {post : List ByteArray} (h : ∀ y ∈ post, vlt v y = true) : insV v post = v :: post := by
  have h' : ∀ y ∈ post.reverse, vlt v y = true := fun y hy => h y (List.mem_reverse.1 hy)
  have e1 : post.reverse.takeWhile (vlt v) = post.reverse := by
    have := List.takeWhile_append_of_pos (l₂ := []) h'
    simpa using this
  have e2 : post.reverse.dropWhile (vlt v) = [] := by
    have := List.dropWhile_append_of_pos (l₂ := []) h'
    simpa using this
  unfold insV
  rw [e1, e2]
  simp

theorem insV_mid {v y : ByteArray} {p post : List ByteArray} (h : ∀ z ∈ post, vlt v z = true) (hy : vlt v y = false) : insV v (p ++ [y] ++ post) = p ++ [y] ++ [v] ++ post := by
  have h' : ∀ z ∈ post.reverse, vlt v z = true := fun z hz => h z (List.mem_reverse.1 hz)
  have er : (p ++ [y] ++ post).reverse = post.reverse ++ (y :: p.reverse) := by simp
  unfold insV
  rw [er, List.takeWhile_append_of_pos h', List.dropWhile_append_of_pos h', List.takeWhile_cons, List.dropWhile_cons, hy]
  simp

def mcells (L : List ByteArray) : List Value := L.flatMap fun v => [.string ⟨#[]⟩, .string v]

theorem mcells_append (L M : List ByteArray) : mcells (L ++ M) = mcells L ++ mcells M := by simp [mcells]
theorem mcells_len (L : List ByteArray) : (mcells L).length = L.length * 2 := by
  induction L with
  | nil => rfl
  | cons a r ih => show (_ :: _ :: mcells r).length = _; simp [ih]; omega

theorem set4 (A C : List Value) (a b c d a' b' c' d' : Value) (n : Nat) (h : A.length = n) : ((((A ++ [a, b, c, d] ++ C).set (n + 2) c').set (n + 3) d').set n a').set (n + 1) b' = A ++ [a', b', c', d'] ++ C := by
  subst h
  simp

theorem mcells_swap (p post : List ByteArray) (y v : ByteArray) (n : Nat) (h : p.length = n) :
    ((((mcells (p ++ [y] ++ [v] ++ post)).set ((n + 1) * 2) (.string ⟨#[]⟩)).set ((n + 1) * 2 + 1) (.string y)).set (n * 2) (.string ⟨#[]⟩)).set (n * 2 + 1) (.string v) = mcells (p ++ [v] ++ ([y] ++ post)) := by
  have e : mcells (p ++ [y] ++ [v] ++ post) = mcells p ++ [.string ⟨#[]⟩, .string y, .string ⟨#[]⟩, .string v] ++ mcells post := by simp [mcells]
  have e2 : mcells (p ++ [v] ++ ([y] ++ post)) = mcells p ++ [.string ⟨#[]⟩, .string v, .string ⟨#[]⟩, .string y] ++ mcells post := by simp [mcells]
  rw [e, e2, show (n + 1) * 2 = n * 2 + 2 by omega]
  exact set4 (mcells p) (mcells post) _ _ _ _ _ _ _ _ (n * 2) (by rw [mcells_len, h])

theorem mcells_at (p post : List ByteArray) (v : ByteArray) : (mcells (p ++ [v] ++ post))[p.length * 2]? = some (.string ⟨#[]⟩) ∧ (mcells (p ++ [v] ++ post))[p.length * 2 + 1]? = some (.string v) := by
  have e : mcells (p ++ [v] ++ post) = mcells p ++ (.string ⟨#[]⟩ :: .string v :: mcells post) := by simp [mcells]
  rw [e]
  constructor
  · rw [List.getElem?_append_right (by rw [mcells_len]; omega), mcells_len, Nat.sub_self]; rfl
  · rw [List.getElem?_append_right (by rw [mcells_len]; omega), mcells_len, show p.length * 2 + 1 - p.length * 2 = 1 by omega]; rfl

theorem info29 : ∃ i, Tryz.prog.info? 29 = some i ∧ i.zero = some (.agg #[.string ⟨#[]⟩, .string ⟨#[]⟩]) ∧ i.size = 2 ∧ i.bytes = 32 := by
  have h : (Tryz.prog.info? 29).map (fun i => (i.zero, i.size, i.bytes)) = some (some (.agg #[.string ⟨#[]⟩, .string ⟨#[]⟩]), 2, 32) := by kernel_rfl
  rw [Option.map_eq_some_iff] at h
  obtain ⟨i, h1, h2⟩ := h
  simp only [Prod.mk.injEq] at h2
  exact ⟨i, h1, h2.1, h2.2.1, h2.2.2⟩

end Go.Proofs.YtelmkfkgpnadnaaGreatDoor

namespace Go.Proofs.YtelmkfkgpnadnaaGreatDoor
open Go.RowKit

variable {w w' : World}

set_option maxRecDepth 100000 in
set_option maxHeartbeats 4000000 in
theorem put_any (v : ByteArray) (lv : Value) (L : List ByteArray) (w : World) (B : Nat) (hB : B ≤ w.heap.size) (ho : w.ownsRow B 29 2 lv L.length (mcells L)) (hl : L.length ≤ 2001) (hv : IsV v) (hL : ∀ x ∈ L, IsV x) :
    Calls Tryz.prog 79 #[lv, .agg #[.string ⟨#[]⟩, .string v], .bool true] w fun e w' => ∃ g c, e = .returned (.slice (some ⟨g, 0, none⟩) (L.length + 1) c) ∧ w'.ownsRow B 29 2 (.slice (some ⟨g, 0, none⟩) (L.length + 1) c) (L.length + 1) (mcells (insV v L)) ∧ Turn (fun b => lv.ownBlock = some b) w w' ∧ (lv.ownBlock = some g ∨ w.heap.size ≤ g) := by
  obtain ⟨i2, hi1, hi2, hi3, hi4⟩ := info29
  have HI : Hid (Tryz.prog.info? 29 = some i2 ∧ i2.zero = some (.agg #[.string ⟨#[]⟩, .string ⟨#[]⟩]) ∧ i2.size = 2 ∧ i2.bytes = 32) := ⟨hi1, hi2, hi3, hi4⟩
  clear hi1 hi2 hi3 hi4
  obtain ⟨la, lc, rfl⟩ := own_slice' ho
  have HO : Hid (w.ownsRow B 29 2 (.slice la L.length lc) L.length (mcells L)) := ho
  have HV : Hid (IsV v ∧ ∀ x ∈ L, IsV x) := ⟨hv, hL⟩
  have hsz : (w.alloc (.cells #[.string ⟨#[]⟩, .string v] 29)).heap.size = w.heap.size + 1 := by simp
  have HNW : Hid (∀ j u, [Value.string ⟨#[]⟩, Value.string v][j]? = some u → ((w.alloc (.cells #[.string ⟨#[]⟩, .string v] 29)).alloc (.cells #[.string ⟨#[]⟩, .string v] 29)).cell? ((⟨w.heap.size + 1, 0, none⟩ : Addr).add j) = some u) := by
    have h := cell_two_new (w.alloc (.cells #[.string ⟨#[]⟩, .string v] 29)) 29 (.string ⟨#[]⟩) (.string v)
    rw [hsz] at h
    exact h
  clear ho hv hL hsz
  go_enter Tryz.func79, Tryz.ntmps79
  go_wp2_with (at_builtin; refine wpList_append_own_at _ rfl _ _ 23 rfl B 29 i2 (.agg #[.string ⟨#[]⟩, .string ⟨#[]⟩]) 2 32 Tryz.underlying23 HI.out.1 HI.out.2.1 HI.out.2.2.1 HI.out.2.2.2 rfl (by decide) (.slice la L.length lc) L.length (mcells L) rfl ((HO.out.alloc _).alloc _) ⟨w.heap.size + 1, 0, none⟩ 1 1 [.string ⟨#[]⟩, .string v] rfl rfl HNW.out ?_ ?_ ?_ ?_ ?_)
  all_goals first
    | (show ∀ u ∈ [Value.string ⟨#[]⟩, Value.string v], u.oneCell' = true; intro u hu; simp at hu; rcases hu with rfl | rfl <;> rfl)
    | (show L.length + 1 ≤ maxLen; unfold maxLen; omega)
    | (show (L.length + 1) * 32 ≤ 140737488355328; omega)
    | (show B ≤ ((w.alloc _).alloc _).heap.size; simp; omega)
    | (show B ≤ w.heap.size + 1 + 1; omega)
    | skip
  intro lv' w1 hown' hgrow _ hloc
  obtain ⟨g, c, rfl⟩ := own_some hown' (by omega)
  have hg : (Value.slice la L.length lc).ownBlock = some g ∨ w.heap.size ≤ g := by
    rcases hloc with e | e
    · exact Or.inl e.symm
    · right
      have : g = w.heap.size + 1 + 1 := by simpa [Value.ownBlock] using e
      omega
  have ht1 : Turn (fun b => (Value.slice la L.length lc).ownBlock = some b) w w1 := (((Turn.refl _ w).alloc _).alloc _).grown hgrow (fun b _ e => e)
  have hm : mcells L ++ [.string ⟨#[]⟩, .string v] = mcells (L ++ [v] ++ []) := by simp [mcells]
  rw [hm] at hown'
  have HS : Hid (w1.ownsRow B 29 2 (.slice (some ⟨g, 0, none⟩) (L.length + 1) c) (L.length + 1) (mcells (L ++ [v] ++ [])) ∧ Turn (fun b => (Value.slice la L.length lc).ownBlock = some b) w w1) := ⟨hown', ht1⟩
  have HG : Hid ((Value.slice la L.length lc).ownBlock = some g ∨ w.heap.size ≤ g) := hg
  clear hown' hgrow hloc hg ht1 hm HNW HO
  go_wp2
  go_loopg [7] L.length (fun gg s wr => ∃ (p post : List ByteArray), s = .int .i64 p.length ∧ p.length ≤ gg ∧ p.length ≤ 2001 ∧ Hid (L = p ++ post) ∧ Hid (∀ z ∈ post, vlt v z = true) ∧ Hid (wr.ownsRow B 29 2 (.slice (some ⟨g, 0, none⟩) (L.length + 1) c) (L.length + 1) (mcells (p ++ [v] ++ post)) ∧ Turn (fun b => (Value.slice la L.length lc).ownBlock = some b) w wr))
  case atStart => exact ⟨L, [], rfl, by omega, by omega, (List.append_nil L).symm, (fun z hz => by cases hz), HS⟩
  case round =>
    clear HS
    obtain ⟨p, post, rfl, hgp, hpl, HP, HZ, HS⟩ := hrel
    rcases List.eq_nil_or_concat p with hp | ⟨p', y, hp⟩
    · subst hp
      have HE : Hid (insV v L = [] ++ [v] ++ post) := by
        have h := HP.out
        show _ = _
        rw [h, List.nil_append, insV_front HZ.out]; rfl
      go_wp2
      go_ret
      refine ⟨g, c, rfl, ?_, HS.out.2, HG.out⟩
      rw [HE.out]; exact HS.out.1
    · rw [List.concat_eq_append] at hp
      subst hp
      have hlen : L.length = p'.length + 1 + post.length := by have h := HP.out; rw [h]; simp; omega
      have hpn : (p' ++ [y]).length = p'.length + 1 := by simp
      have hq1 := mcells_at (p' ++ [y]) post v
      have hq2 := mcells_at p' ([v] ++ post) y
      have e2 : p' ++ [y] ++ ([v] ++ post) = p' ++ [y] ++ [v] ++ post := by simp
      rw [e2] at hq2
      rw [hpn] at hq1
      have c0 : wr.cell? ⟨g, (p'.length + 1) * 2, none⟩ = some (.string ⟨#[]⟩) := by rw [HS.out.1.cellAt _ (by omega)]; exact hq1.1
      have c1 : wr.cell? ⟨g, (p'.length + 1) * 2 + 1, none⟩ = some (.string v) := by rw [HS.out.1.cellAt _ (by omega)]; exact hq1.2
      have c2 : wr.cell? ⟨g, p'.length * 2, none⟩ = some (.string ⟨#[]⟩) := by rw [HS.out.1.cellAt _ (by omega)]; exact hq2.1
      have c3 : wr.cell? ⟨g, p'.length * 2 + 1, none⟩ = some (.string y) := by rw [HS.out.1.cellAt _ (by omega)]; exact hq2.2
      have hgl : g < wr.heap.size := (HS.out.1.lt g rfl).2
      have ka := ahead_any v y wr.drew HV.out.1 (HV.out.2 y (by rw [HP.out]; simp))
      have hnI : (p'.length : Int) + 1 - 1 = p'.length := by omega
      have hn1 : (p'.length : Int) < (L.length : Int) + 1 := by omega
      have hn2 : (p'.length : Int) + 1 < (L.length : Int) + 1 := by omega
      obtain ⟨d, hd⟩ : ∃ d, vlt v y = d := ⟨_, rfl⟩
      rw [hd] at ka
      have HD : Hid (vlt v y = d) := hd
      clear hq1 hq2 e2 hd
      simp only [hpn] at *
      generalize hm : p'.length = m at *
      have HM : Hid (p'.length = m) := hm
      clear hm
      rw [show ((m + 1 : Nat) : Int) = (m : Int) + 1 from by omega]
      have hp0 : (0 : Int) < (m : Int) + 1 := by omega
      go_upto_region 5 with fail
      have hm1 : m < L.length := by omega
      have hm2 : m ≤ L.length := by omega
      have hm3 : (m : Int) < (L.length : Int) := by omega
      have hm4 : (m : Int) ≤ (L.length : Int) := by omega
      have hm5 : (m : Int) < (L.length : Int) + 1 := by omega
      have hm6 : (m : Int) + 1 < (L.length : Int) + 1 := by omega
      have hz1 : (0 : Int) ≤ (m : Int) + 1 := by omega
      have hz2 : (0 : Int) ≤ (m : Int) := by omega
      have hz3 : m ≤ 3000 := by omega
      have hz4 : ((m + 1 : Nat) : Int) < ((L.length + 1 : Nat) : Int) := by omega
      have hz5 : m + 1 < L.length + 1 := by omega
      have hz6 : m < L.length + 1 := by omega
      have HLEN : Hid (L.length = m + 1 + post.length) := hlen
      clear hlen
      have hw3 : IntKind.i64.wrap (m : Int) = (m : Int) := by simp [IntKind.wrap, IntKind.bits, IntKind.signed]; omega
      clear hz4 hz5 hz6
      go_region_held3 (fun w' => w'.cell? ⟨g, (m + 1) * 2, none⟩ = some (.string ⟨#[]⟩) ∧ w'.cell? ⟨g, (m + 1) * 2 + 1, none⟩ = some (.string v) ∧ w'.cell? ⟨g, m * 2, none⟩ = some (.string ⟨#[]⟩) ∧ w'.cell? ⟨g, m * 2 + 1, none⟩ = some (.string y)) (first | exact ⟨c0, c1, c2, c3⟩ | (refine ⟨?_, ?_, ?_, ?_⟩ <;> assumption))
        (first | (go_at_call 120; refine ka.mono ?_; rintro e w2 ⟨rfl, hb⟩; have s0 : w2.cell? ⟨g, (m + 1) * 2, none⟩ = some (.string ⟨#[]⟩) := (hb.cell (p := ⟨g, (m + 1) * 2, none⟩) hgl).trans c0; have s1 : w2.cell? ⟨g, (m + 1) * 2 + 1, none⟩ = some (.string v) := (hb.cell (p := ⟨g, (m + 1) * 2 + 1, none⟩) hgl).trans c1; have s2 : w2.cell? ⟨g, m * 2, none⟩ = some (.string ⟨#[]⟩) := (hb.cell (p := ⟨g, m * 2, none⟩) hgl).trans c2; have s3 : w2.cell? ⟨g, m * 2 + 1, none⟩ = some (.string y) := (hb.cell (p := ⟨g, m * 2 + 1, none⟩) hgl).trans c3; have HB2 : Hid (Below wr.heap.size wr w2) := ((Below.refl wr.heap.size wr).drew).trans hb; clear hb))
      have hown2 : w2.ownsRow B 29 2 (.slice (some ⟨g, 0, none⟩) (L.length + 1) c) (L.length + 1) (mcells (p' ++ [y] ++ [v] ++ post)) := own_of_block HS.out.1 (fun b e => HB2.out.block b (HS.out.1.lt b e).2)
      have HS2 : Hid (w2.ownsRow B 29 2 (.slice (some ⟨g, 0, none⟩) (L.length + 1) c) (L.length + 1) (mcells (p' ++ [y] ++ [v] ++ post)) ∧ Turn (fun b => (Value.slice la L.length lc).ownBlock = some b) w w2) := ⟨hown2, HS.out.2.more HB2.out⟩
      clear hown2 HS HB2 ka c0 c1 c2 c3
      cases d
      · have HE : Hid (insV v L = p' ++ [y] ++ [v] ++ post) := by
          have h := HP.out
          show _ = _
          rw [h]
          exact insV_mid HZ.out HD.out
        go_wp2
        go_ret
        refine ⟨g, c, rfl, ?_, HS2.out.2, HG.out⟩
        rw [HE.out]; exact HS2.out.1
      · have f0 := HS2.out.1.frozenAt ((m + 1) * 2)
        have f1 := HS2.out.1.frozenAt ((m + 1) * 2 + 1)
        have f2 := HS2.out.1.frozenAt (m * 2)
        have f3 := HS2.out.1.frozenAt (m * 2 + 1)
        have hg2 : g < w2.heap.size := (HS2.out.1.lt g rfl).2
        have hgn : g ≠ w2.heap.size := by omega
        have hgt : g < w.heap.size → (Value.slice la L.length lc).ownBlock = some g := fun h => by
          rcases HG.out with e | e
          · exact e
          · omega
        have HS3 : Hid (∀ o, (((((w2.setCell ⟨g, (m + 1) * 2, none⟩ (.string ⟨#[]⟩)).setCell ⟨g, (m + 1) * 2 + 1, none⟩ (.string y)).setCell ⟨g, m * 2, none⟩ (.string ⟨#[]⟩)).setCell ⟨g, m * 2 + 1, none⟩ (.string v)).alloc o).ownsRow B 29 2 (.slice (some ⟨g, 0, none⟩) (L.length + 1) c) (L.length + 1) (mcells (p' ++ [v] ++ ([y] ++ post))) ∧ Turn (fun b => (Value.slice la L.length lc).ownBlock = some b) w (((((w2.setCell ⟨g, (m + 1) * 2, none⟩ (.string ⟨#[]⟩)).setCell ⟨g, (m + 1) * 2 + 1, none⟩ (.string y)).setCell ⟨g, m * 2, none⟩ (.string ⟨#[]⟩)).setCell ⟨g, m * 2 + 1, none⟩ (.string v)).alloc o)) := fun o => by
          have h4 := (((((((HS2.out.1.stored ((m + 1) * 2) (.string ⟨#[]⟩)).1).stored ((m + 1) * 2 + 1) (.string y)).1).stored (m * 2) (.string ⟨#[]⟩)).1).stored (m * 2 + 1) (.string v)).1
          rw [mcells_swap p' post y v m HM.out] at h4
          exact ⟨h4.alloc o, ((((HS2.out.2.set hgt _).set hgt _).set hgt _).set hgt _).alloc o⟩
        have HZ2 : Hid (∀ z ∈ [y] ++ post, vlt v z = true) := fun z hz => by
          rcases List.mem_append.1 hz with h | h
          · have e : z = y := by simpa using h
            rw [e]; exact HD.out
          · exact HZ.out z h
        have HP2 : Hid (L = p' ++ ([y] ++ post)) := by
          have h := HP.out
          show L = _
          rw [h]; simp
        go_wp2
        go_roundg m
        case measure => omega
        case rel => exact ⟨p', [y] ++ post, by rw [HM.out], by have := HM.out; omega, by have := HM.out; omega, HP2, HZ2, HS3.out _⟩

end Go.Proofs.YtelmkfkgpnadnaaGreatDoor

namespace Go.Proofs.YtelmkfkgpnadnaaGreatDoor
open Go.RowKit

variable {w w' : World}

def word1 (g : OLn) : ByteArray := (g.2.getD 1 pad).2
def insAll (L : List OLn) : List ByteArray := L.foldl (fun M g => insV (word1 g) M) []
def vcells (M : List ByteArray) : List Value := M.map .string

theorem insV_len (v : ByteArray) (L : List ByteArray) : (insV v L).length = L.length + 1 := by
  unfold insV
  have h := congrArg List.length (List.takeWhile_append_dropWhile (p := vlt v) (l := L.reverse))
  rw [List.length_append, List.length_reverse] at h
  simp only [List.length_append, List.length_reverse, List.length_cons, List.length_nil]
  omega

theorem insV_mem {v x : ByteArray} {L : List ByteArray} (h : x ∈ insV v L) : x = v ∨ x ∈ L := by
  unfold insV at h
  simp only [List.mem_append, List.mem_reverse, List.mem_singleton] at h
  rcases h with (h | h) | h
  · exact Or.inr (List.mem_reverse.1 ((List.dropWhile_sublist _).subset h))
  · exact Or.inl h
  · exact Or.inr (List.mem_reverse.1 ((List.takeWhile_sublist _).subset h))

theorem insAll_snoc (L : List OLn) (g : OLn) : insAll (L ++ [g]) = insV (word1 g) (insAll L) := by simp [insAll, List.foldl_append]

theorem insAll_len (L : List OLn) : (insAll L).length = L.length := by
  rw [← List.reverse_reverse L]
  induction L.reverse with
  | nil => rfl
  | cons a r ih => rw [List.reverse_cons, insAll_snoc, insV_len, ih]; simp

theorem insAll_isV {L : List OLn} (h : ∀ g ∈ L, TwoV g) : ∀ x ∈ insAll L, IsV x := by
  rw [← List.reverse_reverse L] at h ⊢
  revert h
  induction L.reverse with
  | nil => intro _ x hx; cases hx
  | cons a r ih =>
    intro h x hx
    rw [List.reverse_cons] at h hx
    rw [insAll_snoc] at hx
    rcases insV_mem hx with e | e
    · rw [e]; exact (h a (by simp)).2.2
    · exact ih (fun g hg => h g (by simp at hg ⊢; exact Or.inl hg)) x e

theorem mcells_get (M : List ByteArray) (j : Nat) (hj : j < M.length) : (mcells M)[j * 2 + 1]? = some (.string M[j]) := by
  have e : M = M.take j ++ [M[j]] ++ M.drop (j + 1) := by
    rw [List.append_assoc]
    have : [M[j]] ++ M.drop (j + 1) = M.drop j := by rw [List.drop_eq_getElem_cons hj]; rfl
    rw [this, List.take_append_drop]
  have h := (mcells_at (M.take j) (M.drop (j + 1)) M[j]).2
  rw [← e, List.length_take, Nat.min_eq_left (by omega)] at h
  exact h

set_option maxRecDepth 100000 in
set_option maxHeartbeats 4000000 in
theorem refIndex_any (s : ByteArray) (w : World) (hs : s.size ≤ 2000) :
    Calls Tryz.prog 82 #[.string s] w fun e w' => ∃ (good : List OLn) (slips : List (Nat × Nat × Nat)) (m : Nat) (ov sv : Value), e = .returned (.tuple #[ov, sv]) ∧ (Tx.docLines [] 1 [] false false 0 s.data.toList).foldl (Tx.stepDoc true ipF 20) got0 = ⟨olns good, slips, m, 0⟩ ∧ (∀ g ∈ good, TwoV g) ∧ good.length ≤ 2001 ∧ slips.length ≤ 2001 ∧ Below w.heap.size w w' ∧
      ((slips ≠ [] ∧ ov = .slice none 0 0 ∧ w'.ownsRow w.heap.size 45 3 sv slips.length (scells slips)) ∨ (slips = [] ∧ sv = .slice none 0 0 ∧ w'.ownsRow w.heap.size 9 1 ov good.length (vcells (insAll good)))) := by
  have kl := slipped_any s w hs
  generalize (Tx.docLines [] 1 [] false false 0 s.data.toList).foldl (Tx.stepDoc true ipF 20) got0 = D at *
  obtain ⟨i2, hi1, hi2, hi3, hi4⟩ := info9s
  have HJ : Hid (Tryz.prog.info? 9 = some i2 ∧ i2.zero = some (.string ByteArray.empty) ∧ i2.size = 1 ∧ i2.bytes = 16) := ⟨hi1, hi2, hi3, hi4⟩
  clear hi1 hi2 hi3 hi4
  go_enter Tryz.func82, Tryz.ntmps82
  go_wp2_with (go_at_call 117; fail)
  go_at_call 117
  refine kl.mono ?_
  rintro e w1 ⟨gv, sv, good, gxs, slips, Wl, m, rfl, hS, hb, hD, hT, hgl, hsl⟩
  clear kl
  obtain ⟨sa, sc, rfl⟩ := own_slice' hS.os
  obtain ⟨ga, gc, rfl⟩ := own_slice' hS.og
  have HS : Hid (Sl Wl (.slice ga good.length gc) (.slice sa slips.length sc) good gxs slips w1) := hS
  have HB : Hid (Below w.heap.size w w1) := hb.trans (hS.old.mono hb.size)
  have HWl : Hid (w.heap.size ≤ Wl.heap.size) := hb.size
  have HD : Hid (D = ⟨olns good, slips, m, 0⟩ ∧ ∀ g ∈ good, TwoV g) := ⟨hD, hT⟩
  clear hS hb hD hT
  by_cases h0 : slips = []
  · subst h0
    have hlt : ¬ ((([] : List (Nat × Nat × Nat)).length : Int) > 0) := by simp
    go_wp2
    go_loopg [6, 7] good.length (fun gg lv i wr => ∃ k : Nat, i = .int .i64 k ∧ k ≤ good.length ∧ good.length - k ≤ gg ∧ Hid (wr.ownsRow w1.heap.size 29 2 lv k (mcells (insAll (good.take k))) ∧ Below w1.heap.size w1 wr))
    case atStart => exact ⟨0, rfl, by omega, by omega, World.ownsRow_nil _ _ _ _, Below.refl _ _⟩
    case round =>
      obtain ⟨k, rfl, hk, hgk, HR⟩ := hrel
      by_cases hkl : k < good.length
      · obtain ⟨ob, hga⟩ : ∃ ob, ga = some ⟨ob, 0, none⟩ := by
          obtain ⟨g, c, e⟩ := own_some HS.out.og (by omega)
          injection e with e1
          exact ⟨g, e1⟩
        subst hga
        obtain ⟨gw, cw, _, _, _, a1, _, _, _, hv, hgw⟩ := lineCells HS.out.lie (own_base0 HS.out.og) k hkl
        have htk := HD.out.2 good[k] (List.getElem_mem hkl)
        rw [htk.1] at a1 hv
        have a2 := hv.at' 1 (by omega)
        have hobl := (HS.out.og.lt ob rfl).2
        have d1 : wr.cell? ⟨ob, k * 4 + 1, none⟩ = _ := (HR.out.2.cell (p := ⟨ob, k * 4 + 1, none⟩) hobl).trans a1
        have d2 : wr.cell? ⟨gw, 1, none⟩ = some (.string (word1 good[k])) := (HR.out.2.cell (p := ⟨gw, 1, none⟩) hgw).trans a2
        have hklI : (k : Int) < (good.length : Int) := by omega
        have hlen : (insAll (good.take k)).length = k := by rw [insAll_len, List.length_take]; omega
        have hown : wr.ownsRow w1.heap.size 29 2 u6 (insAll (good.take k)).length (mcells (insAll (good.take k))) := by rw [hlen]; exact HR.out.1
        have kp := put_any (word1 good[k]) u6 (insAll (good.take k)) wr w1.heap.size HR.out.2.size hown (by omega) htk.2.2 (insAll_isV fun g hg => HD.out.2 g (List.mem_of_mem_take hg))
        rw [hlen] at kp
        have HN : Hid (insV (word1 good[k]) (insAll (good.take k)) = insAll (good.take (k + 1))) := by
          show _ = _
          rw [← insAll_snoc, List.take_append_getElem hkl]
        rw [HN.out] at kp
        generalize word1 good[k] = v at *
        clear a1 a2 hv hown hlen htk HN
        go_wp2_with (go_at_call 79; fail)
        go_at_call 79
        refine kp.mono ?_
        rintro e w2 ⟨g, c, rfl, hown2, ht2, _⟩
        have HR2 : Hid (w2.ownsRow w1.heap.size 29 2 (.slice (some ⟨g, 0, none⟩) (k + 1) c) (k + 1) (mcells (insAll (good.take (k + 1)))) ∧ Below w1.heap.size w1 w2) := ⟨hown2, ⟨ht2.os.trans HR.out.2.os, ht2.tape.trans HR.out.2.tape, ht2.output.trans HR.out.2.output, Nat.le_trans HR.out.2.size ht2.size, fun b hb => (ht2.block b (Nat.lt_of_lt_of_le hb HR.out.2.size) (fun e => by have h := (HR.out.1.lt b e).1; omega)).trans (HR.out.2.block b hb)⟩⟩
        clear hown2 ht2 kp HR
        go_wp2
        go_roundg (good.length - (k + 1))
        case measure => omega
        case rel => exact ⟨k + 1, by go_num, by omega, by omega, HR2⟩
      · have hklI : ((k : Int) < (good.length : Int)) = False := by simp; omega
        have hke : k = good.length := by omega
        have hown : wr.ownsRow w1.heap.size 29 2 u6 good.length (mcells (insAll good)) := by
          have h := HR.out.1
          rw [hke, List.take_length] at h
          exact h
        obtain ⟨la, lc, hu⟩ := own_slice' hown
        subst hu
        have HM : Hid (wr.ownsRow w1.heap.size 29 2 (.slice la good.length lc) good.length (mcells (insAll good)) ∧ Below w1.heap.size w1 wr) := ⟨hown, HR.out.2⟩
        have HML : Hid ((insAll good).length = good.length) := insAll_len good
        clear hown HR hke
        rename World => w5
        go_wp2
        go_loopg [8, 9] good.length (fun gg ov i wx => ∃ j : Nat, i = .int .i64 j ∧ j ≤ good.length ∧ good.length - j ≤ gg ∧ Hid (wx.ownsRow w5.heap.size 9 1 ov j (vcells ((insAll good).take j)) ∧ Below w5.heap.size w5 wx))
        case atStart => exact ⟨0, rfl, by omega, by omega, World.ownsRow_nil _ _ _ _, Below.refl _ _⟩
        case round =>
          obtain ⟨j, rfl, hj, hgj, HR⟩ := hrel
          by_cases hjl : j < good.length
          · obtain ⟨lb, hla⟩ : ∃ lb, la = some ⟨lb, 0, none⟩ := by
              obtain ⟨g, c, e⟩ := own_some HM.out.1 (by omega)
              injection e with e1
              exact ⟨g, e1⟩
            subst hla
            have hjm : j < (insAll good).length := by rw [HML.out]; exact hjl
            have a1 : w5.cell? ⟨lb, j * 2 + 1, none⟩ = some (.string (insAll good)[j]) := by rw [HM.out.1.cellAt _ (by omega)]; exact mcells_get _ j hjm
            have hlbl := (HM.out.1.lt lb rfl).2
            have d1 : wr.cell? ⟨lb, j * 2 + 1, none⟩ = _ := (HR.out.2.cell (p := ⟨lb, j * 2 + 1, none⟩) hlbl).trans a1
            have hjI : (j : Int) < (good.length : Int) := by omega
            have HN : Hid (vcells ((insAll good).take j) ++ [.string (insAll good)[j]] = vcells ((insAll good).take (j + 1))) := by
              show _ = _
              have h := List.take_append_getElem hjm
              rw [← h]
              unfold vcells
              rw [List.map_append]
              rfl
            have hbs := HR.out.2.size
            generalize (insAll good)[j] = v at *
            clear a1
            go_wp2_with (at_builtin; refine wpList_append_own_at _ rfl _ _ 33 rfl w5.heap.size 9 i2 (.string ByteArray.empty) 1 16 Tryz.underlying33 HJ.out.1 HJ.out.2.1 HJ.out.2.2.1 HJ.out.2.2.2 rfl (by decide) _ _ _ rfl (HR.out.1.alloc _) ⟨wr.heap.size, 0, none⟩ 1 1 [.string v] rfl rfl ?_ ?_ ?_ ?_ ?_ ?_)
            all_goals first
              | exact cell_one_new _ _ _
              | (show ∀ u ∈ [Value.string v], u.oneCell' = true; intro u hu; simp at hu; subst hu; rfl)
              | (show j + 1 ≤ maxLen; unfold maxLen; omega)
              | (show (j + 1) * 16 ≤ 140737488355328; omega)
              | (show w5.heap.size ≤ (wr.alloc _).heap.size; simp; omega)
              | (show w5.heap.size ≤ wr.heap.size + 1; omega)
              | skip
            intro ov' w6 hown' hgrow _ _
            have HR2 : Hid (w6.ownsRow w5.heap.size 9 1 ov' (j + 1) (vcells ((insAll good).take (j + 1))) ∧ Below w5.heap.size w5 w6) := by
              rw [← HN.out]
              exact ⟨hown', (HR.out.2.alloc hbs _).grown hgrow (by simp; omega) (fun b e => (HR.out.1.lt b e).1)⟩
            clear hown' hgrow HR HN
            go_wp2
            go_roundg (good.length - (j + 1))
            case measure => omega
            case rel => exact ⟨j + 1, by go_num, by omega, by omega, HR2⟩
          · have hjI : ((j : Int) < (good.length : Int)) = False := by simp; omega
            have hje : j = good.length := by omega
            have hown : wr.ownsRow w5.heap.size 9 1 u8 good.length (vcells (insAll good)) := by
              have h := HR.out.1
              rw [hje, List.take_of_length_le (by rw [HML.out]; omega)] at h
              exact h
            have hbw : Below w.heap.size w wr := (HB.out.trans (HM.out.2.mono HB.out.size)).trans (HR.out.2.mono (Nat.le_trans HB.out.size HM.out.2.size))
            have HO : Hid (wr.ownsRow w.heap.size 9 1 u8 good.length (vcells (insAll good)) ∧ Below w.heap.size w wr) := by
              refine ⟨⟨hown.1, ?_⟩, hbw⟩
              rcases hown.2 with hn | ⟨g, cap, cur, hv, hg, rest⟩
              · exact .inl hn
              · exact .inr ⟨g, cap, cur, hv, Nat.le_trans (Nat.le_trans HB.out.size HM.out.2.size) hg, rest⟩
            clear hown hbw HR hje
            go_wp2
            go_ret2
            exact ⟨good, [], m, _, _, rfl, HD.out.1, HD.out.2, hgl, hsl, HO.out.2, Or.inr ⟨rfl, rfl, HO.out.1⟩⟩
  · have hlt : (0 : Int) < (slips.length : Int) := by have := List.length_pos_iff.2 h0; omega
    have hown : w1.ownsRow w.heap.size 45 3 (.slice sa slips.length sc) slips.length (scells slips) := by
      have h := HS.out.os
      refine ⟨h.1, ?_⟩
      rcases h.2 with hn | ⟨g, cap, cur, hv, hg, rest⟩
      · exact .inl hn
      · exact .inr ⟨g, cap, cur, hv, Nat.le_trans HWl.out hg, rest⟩
    have HO : Hid (w1.ownsRow w.heap.size 45 3 (.slice sa slips.length sc) slips.length (scells slips) ∧ slips ≠ []) := ⟨hown, h0⟩
    clear hown h0
    go_wp2
    go_ret2
    exact ⟨good, slips, m, _, _, rfl, HD.out.1, HD.out.2, hgl, hsl, HB.out, Or.inl ⟨HO.out.2, rfl, HO.out.1⟩⟩

end Go.Proofs.YtelmkfkgpnadnaaGreatDoor
