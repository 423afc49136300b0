/-
  The document's answer: words in order, and what stands ahead.
  The document's answer: what stands ahead.
  The document's answer: a module is put in its place.
  The document's answer: a replacement is put in its place.
-/
import Derived.Test.YtelmkfkgpnadnaaGreatDoorKCB
import Derived.Test.YtelmkfkgpnadnaaGreatDoorKCC
import Derived.Deep.RegionHeld3
namespace Go.Proofs.YtelmkfkgpnadnaaGreatDoor
open Go.RowKit

theorem ver_shape (s : ByteArray) (ok : Bool) (h : (Pv.parse s.data.toList).isSome = ok) (w : World) : Calls Tryz.prog 205 #[.string s] w fun e w' => ∃ a1 n1 k1 a2 n2 k2, e = .returned (.tuple #[.slice a1 n1 k1, .slice a2 n2 k2, .bool ok]) ∧ Below w.heap.size w w' := by
  refine (version_any s w).mono ?_
  rintro e w' ⟨v1, v2, ok', rfl, hb, hv⟩
  subst h
  cases hp : Pv.parse s.data.toList with
  | none =>
    rw [hp] at hv
    obtain ⟨rfl, ⟨a1, n1, k1, rfl⟩, a2, n2, k2, rfl⟩ := hv
    exact ⟨a1, n1, k1, a2, n2, k2, rfl, hb⟩
  | some x =>
    rw [hp] at hv
    obtain ⟨ns, ids⟩ := x
    obtain ⟨rfl, hN, _, l, _, _, hS⟩ := hv
    obtain ⟨a2, n2, k2, rfl⟩ : ∃ a n k, v2 = .slice a n k := by
      rcases hS with ⟨_, h⟩ | ⟨b, c, h, _⟩
      · exact ⟨_, _, _, h⟩
      · exact ⟨_, _, _, h⟩
    obtain ⟨a1, n1, k1, rfl⟩ : ∃ a n k, v1 = .slice a n k := by obtain ⟨b, c, h, _⟩ := hN; exact ⟨_, _, _, h⟩
    exact ⟨a1, n1, k1, a2, n2, k2, rfl, hb⟩

set_option maxHeartbeats 1000000 in
theorem words_split (a b : ByteArray) (oa ob : Bool) (r : Int) (w : World) (ha : (Pv.parse a.data.toList).isSome = oa) (hb : (Pv.parse b.data.toList).isSome = ob)
    (hr : (oa = true ∧ ob = false ∧ r = 1) ∨ (oa = false ∧ ob = true ∧ r = -1) ∨ (oa = false ∧ ob = false ∧ r = Lib.compareBytes a.data.toList b.data.toList)) :
    Calls Tryz.prog 164 #[.string a, .string b] w fun e w' => e = .returned (.int .i64 r) ∧ Below w.heap.size w w' := by
  have k1 := ver_shape a oa ha
  have k2 := ver_shape b ob hb
  have k5 := bytes_any a b
  clear ha hb
  go_enter Tryz.func164, Tryz.ntmps164
  go_wp2_with (go_at_call 205; fail)
  go_at_call 205
  refine (k1 _).mono ?_
  rintro e w1 ⟨a1, n1, c1, a2, n2, c2, rfl, hb1⟩
  go_wp2_with (go_at_call 205; fail)
  go_at_call 205
  refine (k2 _).mono ?_
  rintro e w2 ⟨a3, n3, c3, a4, n4, c4, rfl, hb2⟩
  have HB : Hid (Below w.heap.size w w2) := hb1.trans (hb2.mono hb1.size)
  clear hb1 hb2 k1 k2
  rcases hr with ⟨rfl, rfl, rfl⟩ | ⟨rfl, rfl, rfl⟩ | ⟨rfl, rfl, rfl⟩
  · go_wp2
    go_ret
    exact ⟨rfl, HB.out⟩
  · go_wp2
    go_ret
    exact ⟨rfl, HB.out⟩
  · go_wp2_with (go_at_call 206; refine (k5 _).mono ?_; rintro e w' ⟨rfl, rfl⟩)
    go_ret
    exact ⟨rfl, HB.out⟩

/-- Words, of any words. -/
theorem words_all (a b : ByteArray) (w : World) : Calls Tryz.prog 164 #[.string a, .string b] w fun e w' => e = .returned (.int .i64 (cmpWord a b)) ∧ Below w.heap.size w w' := by
  unfold cmpWord
  cases ha : Pv.parse a.data.toList with
  | none =>
    cases hb : Pv.parse b.data.toList with
    | none =>
      rw [Pv.cmpW_nn ha hb]
      exact words_split a b false false _ w (by rw [ha]; rfl) (by rw [hb]; rfl) (Or.inr (Or.inr ⟨rfl, rfl, rfl⟩))
    | some y =>
      rw [Pv.cmpW_ns ha hb]
      exact words_split a b false true _ w (by rw [ha]; rfl) (by rw [hb]; rfl) (Or.inr (Or.inl ⟨rfl, rfl, rfl⟩))
  | some x =>
    cases hb : Pv.parse b.data.toList with
    | none =>
      rw [Pv.cmpW_sn ha hb]
      exact words_split a b true false _ w (by rw [ha]; rfl) (by rw [hb]; rfl) (Or.inl ⟨rfl, rfl, rfl⟩)
    | some y =>
      rw [Pv.cmpW_ss ha hb]
      exact words_any a b w x y ha hb

end Go.Proofs.YtelmkfkgpnadnaaGreatDoor

namespace Go.Proofs.YtelmkfkgpnadnaaGreatDoor
open Go.RowKit

/-- Ahead: by path, then (if so asked) by version. -/
def aheadB (x y : Mo) (by_ : Bool) : Bool := if by_ then ltOf cmpMod x y else ltOf Sm.cmpP x y

theorem path_lt (a b : ByteArray) : decide (cmpPath a b < 0) = decide (a.data.toList < b.data.toList) := by
  unfold cmpPath
  rcases Pv.cmpB_cases a.data.toList b.data.toList with ⟨h1, h2⟩ | ⟨h1, h2⟩ | ⟨h1, h2, h3⟩
  · rw [h1, decide_eq_true h2]; decide
  · rw [h1, decide_eq_false (Pv.lt_asymm' h2)]; decide
  · rw [h1, decide_eq_false h2]; decide

theorem path_zero {a b : ByteArray} (h : a ≠ b) : cmpPath a b ≠ 0 := fun e => h (cmp_path.zero a b trivial trivial e)

set_option maxRecDepth 100000 in
set_option maxHeartbeats 1000000 in
theorem ahead_all (x y : Mo) (by_ : Bool) (w : World) :
    Calls Tryz.prog 120 #[.agg #[.string x.1, .string x.2], .agg #[.string y.1, .string y.2], .bool by_] w fun e w' => e = .returned (.bool (aheadB x y by_)) ∧ Below w.heap.size w w' := by
  obtain ⟨a, u⟩ := x
  obtain ⟨b, v⟩ := y
  have HB : Hid (∀ o1 o2, Below w.heap.size w ((w.alloc o1).alloc o2)) := fun o1 o2 => ((Below.refl _ _).alloc (Nat.le_refl _) _).alloc (by simp) _
  have kw := words_all u v
  by_cases hab : a = b
  · subst hab
    have hz : cmpPath a a = 0 := cmp_path.self trivial
    have hq : (!(a.toList == a.toList)) = false := by simp
    cases by_ with
    | false =>
      have hr : aheadB (a, u) (a, v) false = false := by
        unfold aheadB
        rw [if_neg (by decide)]
        exact decide_eq_false (by show ¬ cmpPath a a < 0; omega)
      rw [hr]
      clear kw hr hz
      go_enter Tryz.func120, Tryz.ntmps120
      go_wp2
      go_ret
      exact ⟨rfl, HB.out _ _⟩
    | true =>
      have hr : aheadB (a, u) (a, v) true = decide (cmpWord u v < 0) := by
        unfold aheadB
        rw [if_pos rfl]
        show decide (cmpMod (a, u) (a, v) < 0) = _
        unfold cmpMod
        rw [if_pos hz]
      rw [hr]
      generalize cmpWord u v = r at kw ⊢
      clear hr hz
      go_enter Tryz.func120, Tryz.ntmps120
      go_wp2_with (go_at_call 164; fail)
      go_at_call 164
      refine (kw _).mono ?_
      rintro e w1 ⟨rfl, hb1⟩
      have hb : Below w.heap.size w w1 := (HB.out _ _).trans (hb1.mono (by simp; omega))
      clear hb1 kw
      go_wp2
      go_ret
      exact ⟨rfl, hb⟩
  · have hz := path_zero hab
    have hr : aheadB (a, u) (b, v) by_ = decide (cmpPath a b < 0) := by
      unfold aheadB
      cases by_ with
      | false => rfl
      | true =>
        rw [if_pos rfl]
        show decide (cmpMod (a, u) (b, v) < 0) = _
        unfold cmpMod
        rw [if_neg hz]
    rw [hr, path_lt]
    have e1 := (bytes_eq a b).1
    have hne : a.data.toList ≠ b.data.toList := fun e => hab (ByteArray.ext (Array.toList_inj.1 e))
    have hq : (!(a.toList == b.toList)) = true := by
      rw [Lib.toList_data, Lib.toList_data, beq_eq_false_iff_ne.2 hne]; rfl
    clear kw hr hz hne
    generalize decide (a.data.toList < b.data.toList) = d at *
    go_enter Tryz.func120, Tryz.ntmps120
    go_wp2
    go_ret
    exact ⟨rfl, HB.out _ _⟩

end Go.Proofs.YtelmkfkgpnadnaaGreatDoor

namespace Go.Proofs.YtelmkfkgpnadnaaGreatDoor
open Go.RowKit

variable {w w' : World}

/-- The cells of modules. -/
abbrev mcs (L : List Mo) : List Value := L.flatMap Sm.mc

theorem mcs_swap (p post : List Mo) (y v : Mo) (n : Nat) (h : p.length = n) :
    (((((mcs (p ++ [y] ++ [v] ++ post)).set ((n + 1) * 2) (.string y.1)).set ((n + 1) * 2 + 1) (.string y.2)).set (n * 2) (.string v.1)).set (n * 2 + 1) (.string v.2)) = mcs (p ++ [v] ++ ([y] ++ post)) := by
  have e1 : mcs (p ++ [y] ++ [v] ++ post) = mcs p ++ [.string y.1, .string y.2, .string v.1, .string v.2] ++ mcs post := by simp [mcs, Sm.mc]
  have e2 : mcs (p ++ [v] ++ ([y] ++ post)) = mcs p ++ [.string v.1, .string v.2, .string y.1, .string y.2] ++ mcs post := by simp [mcs, Sm.mc]
  have hl : (mcs p).length = n * 2 := by rw [Sm.mc_len, h]
  rw [e1, e2, show (n + 1) * 2 = n * 2 + 2 by omega]
  exact set4 (mcs p) (mcs post) _ _ _ _ _ _ _ _ (n * 2) hl

theorem mcs_at (p post : List Mo) (v : Mo) : (mcs (p ++ [v] ++ post))[p.length * 2]? = some (.string v.1) ∧ (mcs (p ++ [v] ++ post))[p.length * 2 + 1]? = some (.string v.2) := by
  have h : (p ++ [v] ++ post)[p.length]! = v := by
    rw [getElem!_pos _ p.length (by simp)]
    simp
  have := mc_at (p ++ [v] ++ post) p.length (by simp)
  rw [h] at this
  exact this

set_option maxRecDepth 100000 in
set_option maxHeartbeats 4000000 in
theorem put_all (vp vv : ByteArray) (by_ : Bool) (lv : Value) (L : List Mo) (w : World) (B : Nat) (hB : B ≤ w.heap.size) (ho : w.ownsRow B 29 2 lv L.length (mcs L)) (hl : L.length ≤ 16777216) :
    Calls Tryz.prog 79 #[lv, .agg #[.string vp, .string vv], .bool by_] w fun e w' => ∃ g c, e = .returned (.slice (some ⟨g, 0, none⟩) (L.length + 1) c) ∧ w'.ownsRow B 29 2 (.slice (some ⟨g, 0, none⟩) (L.length + 1) c) (L.length + 1) (mcs (Ss.ins (fun a b => aheadB a b by_) (vp, vv) L)) ∧ Turn (fun b => lv.ownBlock = some b) w w' ∧ (lv.ownBlock = some g ∨ w.heap.size ≤ g) := by
  obtain ⟨i2, hi1, hi2, hi3, hi4⟩ := info29
  have HI : Hid (Tryz.prog.info? 29 = some i2 ∧ i2.zero = some (.agg #[.string ⟨#[]⟩, .string ⟨#[]⟩]) ∧ i2.size = 2 ∧ i2.bytes = 32) := ⟨hi1, hi2, hi3, hi4⟩
  clear hi1 hi2 hi3 hi4
  obtain ⟨la, lc, rfl⟩ := own_slice' ho
  have HO : Hid (w.ownsRow B 29 2 (.slice la L.length lc) L.length (mcs L)) := ho
  have hsz : (w.alloc (.cells #[.string vp, .string vv] 29)).heap.size = w.heap.size + 1 := by simp
  have HNW : Hid (∀ j u, [Value.string vp, Value.string vv][j]? = some u → ((w.alloc (.cells #[.string vp, .string vv] 29)).alloc (.cells #[.string vp, .string vv] 29)).cell? ((⟨w.heap.size + 1, 0, none⟩ : Addr).add j) = some u) := by
    have h := cell_two_new (w.alloc (.cells #[.string vp, .string vv] 29)) 29 (.string vp) (.string vv)
    rw [hsz] at h
    exact h
  clear ho hsz
  go_enter Tryz.func79, Tryz.ntmps79
  go_wp2_with (at_builtin; refine wpList_append_own_at _ rfl _ _ 23 rfl B 29 i2 (.agg #[.string ⟨#[]⟩, .string ⟨#[]⟩]) 2 32 Tryz.underlying23 HI.out.1 HI.out.2.1 HI.out.2.2.1 HI.out.2.2.2 rfl (by decide) (.slice la L.length lc) L.length (mcs L) rfl ((HO.out.alloc _).alloc _) ⟨w.heap.size + 1, 0, none⟩ 1 1 [.string vp, .string vv] rfl rfl HNW.out ?_ ?_ ?_ ?_ ?_)
  all_goals first
    | (show ∀ u ∈ [Value.string vp, Value.string vv], u.oneCell' = true; intro u hu; simp at hu; rcases hu with rfl | rfl <;> rfl)
    | (show L.length + 1 ≤ maxLen; unfold maxLen; omega)
    | (show (L.length + 1) * 32 ≤ 140737488355328; omega)
    | (show B ≤ ((w.alloc _).alloc _).heap.size; simp; omega)
    | (show B ≤ w.heap.size + 1 + 1; omega)
    | skip
  intro lv' w1 hown' hgrow _ hloc
  obtain ⟨g, c, rfl⟩ := own_some hown' (by omega)
  have hg : (Value.slice la L.length lc).ownBlock = some g ∨ w.heap.size ≤ g := by
    rcases hloc with e | e
    · exact Or.inl e.symm
    · right
      have : g = w.heap.size + 1 + 1 := by simpa [Value.ownBlock] using e
      omega
  have ht1 : Turn (fun b => (Value.slice la L.length lc).ownBlock = some b) w w1 := (((Turn.refl _ w).alloc _).alloc _).grown hgrow (fun b _ e => e)
  have hm : mcs L ++ [.string vp, .string vv] = mcs (L ++ [(vp, vv)] ++ []) := by simp [mcs, Sm.mc]
  rw [hm] at hown'
  have HS : Hid (w1.ownsRow B 29 2 (.slice (some ⟨g, 0, none⟩) (L.length + 1) c) (L.length + 1) (mcs (L ++ [(vp, vv)] ++ [])) ∧ Turn (fun b => (Value.slice la L.length lc).ownBlock = some b) w w1) := ⟨hown', ht1⟩
  have HG : Hid ((Value.slice la L.length lc).ownBlock = some g ∨ w.heap.size ≤ g) := hg
  clear hown' hgrow hloc hg ht1 hm HNW HO
  go_wp2
  go_loopg [7] L.length (fun gg s wr => ∃ (p post : List Mo), s = .int .i64 p.length ∧ p.length ≤ gg ∧ p.length ≤ 16777216 ∧ Hid (L = p ++ post) ∧ Hid (∀ z ∈ post, aheadB (vp, vv) z by_ = true) ∧ Hid (wr.ownsRow B 29 2 (.slice (some ⟨g, 0, none⟩) (L.length + 1) c) (L.length + 1) (mcs (p ++ [(vp, vv)] ++ post)) ∧ Turn (fun b => (Value.slice la L.length lc).ownBlock = some b) w wr))
  case atStart => exact ⟨L, [], rfl, by omega, by omega, (List.append_nil L).symm, (fun z hz => by cases hz), HS⟩
  case round =>
    clear HS
    obtain ⟨p, post, rfl, hgp, hpl, HP, HZ, HS⟩ := hrel
    rcases List.eq_nil_or_concat p with hp | ⟨p', ⟨yp, yv⟩, hp⟩
    · subst hp
      have HE : Hid (Ss.ins (fun a b => aheadB a b by_) (vp, vv) L = [] ++ [(vp, vv)] ++ post) := by
        have h := HP.out
        show _ = _
        rw [h, List.nil_append, Ss.ins_front (lt := fun a b => aheadB a b by_) HZ.out]; rfl
      go_wp2
      go_ret
      refine ⟨g, c, rfl, ?_, HS.out.2, HG.out⟩
      rw [HE.out]; exact HS.out.1
    · rw [List.concat_eq_append] at hp
      subst hp
      have hlen : L.length = p'.length + 1 + post.length := by have h := HP.out; rw [h]; simp; omega
      have hpn : (p' ++ [(yp, yv)]).length = p'.length + 1 := by simp
      have hq1 := mcs_at (p' ++ [(yp, yv)]) post (vp, vv)
      have hq2 := mcs_at p' ([(vp, vv)] ++ post) (yp, yv)
      have e2 : p' ++ [(yp, yv)] ++ ([(vp, vv)] ++ post) = p' ++ [(yp, yv)] ++ [(vp, vv)] ++ post := by simp
      rw [e2] at hq2
      rw [hpn] at hq1
      have c0 : wr.cell? ⟨g, (p'.length + 1) * 2, none⟩ = some (.string vp) := by rw [HS.out.1.cellAt _ (by omega)]; exact hq1.1
      have c1 : wr.cell? ⟨g, (p'.length + 1) * 2 + 1, none⟩ = some (.string vv) := by rw [HS.out.1.cellAt _ (by omega)]; exact hq1.2
      have c2 : wr.cell? ⟨g, p'.length * 2, none⟩ = some (.string yp) := by rw [HS.out.1.cellAt _ (by omega)]; exact hq2.1
      have c3 : wr.cell? ⟨g, p'.length * 2 + 1, none⟩ = some (.string yv) := by rw [HS.out.1.cellAt _ (by omega)]; exact hq2.2
      have hgl : g < wr.heap.size := (HS.out.1.lt g rfl).2
      have ka := ahead_all (vp, vv) (yp, yv) by_ wr.drew
      have hnI : (p'.length : Int) + 1 - 1 = p'.length := by omega
      have hn1 : (p'.length : Int) < (L.length : Int) + 1 := by omega
      have hn2 : (p'.length : Int) + 1 < (L.length : Int) + 1 := by omega
      obtain ⟨d, hd⟩ : ∃ d, aheadB (vp, vv) (yp, yv) by_ = d := ⟨_, rfl⟩
      rw [hd] at ka
      have HD : Hid (aheadB (vp, vv) (yp, yv) by_ = d) := hd
      clear hq1 hq2 e2 hd
      simp only [hpn] at *
      generalize hm : p'.length = m at *
      have HM : Hid (p'.length = m) := hm
      clear hm
      rw [show ((m + 1 : Nat) : Int) = (m : Int) + 1 from by omega]
      have hp0 : (0 : Int) < (m : Int) + 1 := by omega
      go_upto_region 5 with fail
      have hm1 : m < L.length := by omega
      have hm2 : m ≤ L.length := by omega
      have hm3 : (m : Int) < (L.length : Int) := by omega
      have hm4 : (m : Int) ≤ (L.length : Int) := by omega
      have hm5 : (m : Int) < (L.length : Int) + 1 := by omega
      have hm6 : (m : Int) + 1 < (L.length : Int) + 1 := by omega
      have hz1 : (0 : Int) ≤ (m : Int) + 1 := by omega
      have hz2 : (0 : Int) ≤ (m : Int) := by omega
      have hz3 : m ≤ 20000000 := by omega
      have hz4 : ((m + 1 : Nat) : Int) < ((L.length + 1 : Nat) : Int) := by omega
      have hz5 : m + 1 < L.length + 1 := by omega
      have hz6 : m < L.length + 1 := by omega
      have HLEN : Hid (L.length = m + 1 + post.length) := hlen
      clear hlen
      have hw3 : IntKind.i64.wrap (m : Int) = (m : Int) := by simp [IntKind.wrap, IntKind.bits, IntKind.signed]; omega
      clear hz4 hz5 hz6
      go_region_held3 (fun w' => w'.cell? ⟨g, (m + 1) * 2, none⟩ = some (.string vp) ∧ w'.cell? ⟨g, (m + 1) * 2 + 1, none⟩ = some (.string vv) ∧ w'.cell? ⟨g, m * 2, none⟩ = some (.string yp) ∧ w'.cell? ⟨g, m * 2 + 1, none⟩ = some (.string yv)) (first | exact ⟨c0, c1, c2, c3⟩ | (refine ⟨?_, ?_, ?_, ?_⟩ <;> assumption))
        (first | (go_at_call 120; refine ka.mono ?_; rintro e w2 ⟨rfl, hb⟩; have s0 : w2.cell? ⟨g, (m + 1) * 2, none⟩ = some (.string vp) := (hb.cell (p := ⟨g, (m + 1) * 2, none⟩) hgl).trans c0; have s1 : w2.cell? ⟨g, (m + 1) * 2 + 1, none⟩ = some (.string vv) := (hb.cell (p := ⟨g, (m + 1) * 2 + 1, none⟩) hgl).trans c1; have s2 : w2.cell? ⟨g, m * 2, none⟩ = some (.string yp) := (hb.cell (p := ⟨g, m * 2, none⟩) hgl).trans c2; have s3 : w2.cell? ⟨g, m * 2 + 1, none⟩ = some (.string yv) := (hb.cell (p := ⟨g, m * 2 + 1, none⟩) hgl).trans c3; have HB2 : Hid (Below wr.heap.size wr w2) := ((Below.refl wr.heap.size wr).drew).trans hb; clear hb))
      have hown2 : w2.ownsRow B 29 2 (.slice (some ⟨g, 0, none⟩) (L.length + 1) c) (L.length + 1) (mcs (p' ++ [(yp, yv)] ++ [(vp, vv)] ++ post)) := own_of_block HS.out.1 (fun b e => HB2.out.block b (HS.out.1.lt b e).2)
      have HS2 : Hid (w2.ownsRow B 29 2 (.slice (some ⟨g, 0, none⟩) (L.length + 1) c) (L.length + 1) (mcs (p' ++ [(yp, yv)] ++ [(vp, vv)] ++ post)) ∧ Turn (fun b => (Value.slice la L.length lc).ownBlock = some b) w w2) := ⟨hown2, HS.out.2.more HB2.out⟩
      clear hown2 HS HB2 ka c0 c1 c2 c3
      cases d
      · have HE : Hid (Ss.ins (fun a b => aheadB a b by_) (vp, vv) L = p' ++ [(yp, yv)] ++ [(vp, vv)] ++ post) := by
          have h := HP.out
          show _ = _
          rw [h]
          exact Ss.ins_mid (lt := fun a b => aheadB a b by_) HZ.out HD.out
        go_wp2
        go_ret
        refine ⟨g, c, rfl, ?_, HS2.out.2, HG.out⟩
        rw [HE.out]; exact HS2.out.1
      · have f0 := HS2.out.1.frozenAt ((m + 1) * 2)
        have f1 := HS2.out.1.frozenAt ((m + 1) * 2 + 1)
        have f2 := HS2.out.1.frozenAt (m * 2)
        have f3 := HS2.out.1.frozenAt (m * 2 + 1)
        have hg2 : g < w2.heap.size := (HS2.out.1.lt g rfl).2
        have hgn : g ≠ w2.heap.size := by omega
        have hgt : g < w.heap.size → (Value.slice la L.length lc).ownBlock = some g := fun h => by
          rcases HG.out with e | e
          · exact e
          · omega
        have HS3 : Hid (∀ o, (((((w2.setCell ⟨g, (m + 1) * 2, none⟩ (.string yp)).setCell ⟨g, (m + 1) * 2 + 1, none⟩ (.string yv)).setCell ⟨g, m * 2, none⟩ (.string vp)).setCell ⟨g, m * 2 + 1, none⟩ (.string vv)).alloc o).ownsRow B 29 2 (.slice (some ⟨g, 0, none⟩) (L.length + 1) c) (L.length + 1) (mcs (p' ++ [(vp, vv)] ++ ([(yp, yv)] ++ post))) ∧ Turn (fun b => (Value.slice la L.length lc).ownBlock = some b) w (((((w2.setCell ⟨g, (m + 1) * 2, none⟩ (.string yp)).setCell ⟨g, (m + 1) * 2 + 1, none⟩ (.string yv)).setCell ⟨g, m * 2, none⟩ (.string vp)).setCell ⟨g, m * 2 + 1, none⟩ (.string vv)).alloc o)) := fun o => by
          have h4 := (((((((HS2.out.1.stored ((m + 1) * 2) (.string yp)).1).stored ((m + 1) * 2 + 1) (.string yv)).1).stored (m * 2) (.string vp)).1).stored (m * 2 + 1) (.string vv)).1
          rw [mcs_swap p' post (yp, yv) (vp, vv) m HM.out] at h4
          exact ⟨h4.alloc o, ((((HS2.out.2.set hgt _).set hgt _).set hgt _).set hgt _).alloc o⟩
        have HZ2 : Hid (∀ z ∈ [(yp, yv)] ++ post, aheadB (vp, vv) z by_ = true) := fun z hz => by
          rcases List.mem_append.1 hz with h | h
          · have e : z = (yp, yv) := by simpa using h
            rw [e]; exact HD.out
          · exact HZ.out z h
        have HP2 : Hid (L = p' ++ ([(yp, yv)] ++ post)) := by
          have h := HP.out
          show L = _
          rw [h]; simp
        go_wp2
        go_roundg m
        case measure => omega
        case rel => exact ⟨p', [(yp, yv)] ++ post, by rw [HM.out], by have := HM.out; omega, by have := HM.out; omega, HP2, HZ2, HS3.out _⟩

end Go.Proofs.YtelmkfkgpnadnaaGreatDoor

namespace Go.Proofs.YtelmkfkgpnadnaaGreatDoor
open Go.RowKit

variable {w w' : World}

/-- The cells of replacements. -/
abbrev scs (L : List So) : List Value := L.flatMap Sw.mc

theorem set6 (A C : List Value) (a b c d e f a' b' c' d' e' f' : Value) (n : Nat) (h : A.length = n) : ((((((A ++ [a, b, c, d, e, f] ++ C).set (n + 3) d').set (n + 4) e').set (n + 5) f').set n a').set (n + 1) b').set (n + 2) c' = A ++ [a', b', c', d', e', f'] ++ C := by
  subst h
  simp

theorem scs_swap (p post : List So) (y v : So) (n : Nat) (h : p.length = n) :
    (((((((scs (p ++ [y] ++ [v] ++ post)).set ((n + 1) * 3) (.string y.1)).set ((n + 1) * 3 + 1) (.string y.2.1)).set ((n + 1) * 3 + 2) (.string y.2.2)).set (n * 3) (.string v.1)).set (n * 3 + 1) (.string v.2.1)).set (n * 3 + 2) (.string v.2.2)) = scs (p ++ [v] ++ ([y] ++ post)) := by
  have e1 : scs (p ++ [y] ++ [v] ++ post) = scs p ++ [.string y.1, .string y.2.1, .string y.2.2, .string v.1, .string v.2.1, .string v.2.2] ++ scs post := by simp [scs, Sw.mc]
  have e2 : scs (p ++ [v] ++ ([y] ++ post)) = scs p ++ [.string v.1, .string v.2.1, .string v.2.2, .string y.1, .string y.2.1, .string y.2.2] ++ scs post := by simp [scs, Sw.mc]
  have hl : (scs p).length = n * 3 := by rw [Sw.mc_len, h]
  rw [e1, e2, show (n + 1) * 3 = n * 3 + 3 by omega]
  exact set6 (scs p) (scs post) _ _ _ _ _ _ _ _ _ _ _ _ (n * 3) hl

theorem scs_at (p post : List So) (v : So) : (scs (p ++ [v] ++ post))[p.length * 3]? = some (.string v.1) ∧ (scs (p ++ [v] ++ post))[p.length * 3 + 1]? = some (.string v.2.1) ∧ (scs (p ++ [v] ++ post))[p.length * 3 + 2]? = some (.string v.2.2) := by
  have h : (p ++ [v] ++ post)[p.length]! = v := by
    rw [getElem!_pos _ p.length (by simp)]
    simp
  have := sc_at (p ++ [v] ++ post) p.length (by simp)
  rw [h] at this
  exact this

set_option maxRecDepth 100000 in
set_option maxHeartbeats 4000000 in
theorem putSwap_all (vp vv vb : ByteArray) (lv : Value) (L : List So) (w : World) (B : Nat) (hB : B ≤ w.heap.size) (ho : w.ownsRow B 137 3 lv L.length (scs L)) (hl : L.length ≤ 16777216) :
    Calls Tryz.prog 80 #[lv, .agg #[.string vp, .string vv, .string vb]] w fun e w' => ∃ g c, e = .returned (.slice (some ⟨g, 0, none⟩) (L.length + 1) c) ∧ w'.ownsRow B 137 3 (.slice (some ⟨g, 0, none⟩) (L.length + 1) c) (L.length + 1) (scs (Ss.ins (ltOf Sw.cmpS) (vp, vv, vb) L)) ∧ Turn (fun b => lv.ownBlock = some b) w w' ∧ (lv.ownBlock = some g ∨ w.heap.size ≤ g) := by
  obtain ⟨i2, hi1, hi2, hi3, hi4⟩ := Sw.info137
  have HI : Hid (Tryz.prog.info? 137 = some i2 ∧ i2.zero = some (.agg #[.string ⟨#[]⟩, .string ⟨#[]⟩, .string ⟨#[]⟩]) ∧ i2.size = 3 ∧ i2.bytes = 48) := ⟨hi1, hi2, hi3, hi4⟩
  clear hi1 hi2 hi3 hi4
  obtain ⟨la, lc, rfl⟩ := own_slice' ho
  have HO : Hid (w.ownsRow B 137 3 (.slice la L.length lc) L.length (scs L)) := ho
  have hsz : (w.alloc (.cells #[.string vp, .string vv, .string vb] 137)).heap.size = w.heap.size + 1 := by simp
  have HNW : Hid (∀ j u, [Value.string vp, Value.string vv, Value.string vb][j]? = some u → ((w.alloc (.cells #[.string vp, .string vv, .string vb] 137)).alloc (.cells #[.string vp, .string vv, .string vb] 137)).cell? ((⟨w.heap.size + 1, 0, none⟩ : Addr).add j) = some u) := by
    have h := cell_three_new (w.alloc (.cells #[.string vp, .string vv, .string vb] 137)) (.string vp) (.string vv) (.string vb) 137
    rw [hsz] at h
    exact h
  clear ho hsz
  go_enter Tryz.func80, Tryz.ntmps80
  go_wp2_with (at_builtin; refine wpList_append_own_at _ rfl _ _ 24 rfl B 137 i2 (.agg #[.string ⟨#[]⟩, .string ⟨#[]⟩, .string ⟨#[]⟩]) 3 48 Tryz.underlying24 HI.out.1 HI.out.2.1 HI.out.2.2.1 HI.out.2.2.2 rfl (by decide) (.slice la L.length lc) L.length (scs L) rfl ((HO.out.alloc _).alloc _) ⟨w.heap.size + 1, 0, none⟩ 1 1 [.string vp, .string vv, .string vb] rfl rfl HNW.out ?_ ?_ ?_ ?_ ?_)
  all_goals first
    | (show ∀ u ∈ [Value.string vp, Value.string vv, Value.string vb], u.oneCell' = true; intro u hu; simp at hu; rcases hu with rfl | rfl | rfl <;> rfl)
    | (show L.length + 1 ≤ maxLen; unfold maxLen; omega)
    | (show (L.length + 1) * 48 ≤ 140737488355328; omega)
    | (show B ≤ ((w.alloc _).alloc _).heap.size; simp; omega)
    | (show B ≤ w.heap.size + 1 + 1; omega)
    | skip
  intro lv' w1 hown' hgrow _ hloc
  obtain ⟨g, c, rfl⟩ := own_some hown' (by omega)
  have hg : (Value.slice la L.length lc).ownBlock = some g ∨ w.heap.size ≤ g := by
    rcases hloc with e | e
    · exact Or.inl e.symm
    · right
      have : g = w.heap.size + 1 + 1 := by simpa [Value.ownBlock] using e
      omega
  have ht1 : Turn (fun b => (Value.slice la L.length lc).ownBlock = some b) w w1 := (((Turn.refl _ w).alloc _).alloc _).grown hgrow (fun b _ e => e)
  have hm : scs L ++ [.string vp, .string vv, .string vb] = scs (L ++ [(vp, vv, vb)] ++ []) := by simp [scs, Sw.mc]
  rw [hm] at hown'
  have HS : Hid (w1.ownsRow B 137 3 (.slice (some ⟨g, 0, none⟩) (L.length + 1) c) (L.length + 1) (scs (L ++ [(vp, vv, vb)] ++ [])) ∧ Turn (fun b => (Value.slice la L.length lc).ownBlock = some b) w w1) := ⟨hown', ht1⟩
  have HG : Hid ((Value.slice la L.length lc).ownBlock = some g ∨ w.heap.size ≤ g) := hg
  clear hown' hgrow hloc hg ht1 hm HNW HO
  go_wp2
  go_loopg [5] L.length (fun gg s wr => ∃ (p post : List So), s = .int .i64 p.length ∧ p.length ≤ gg ∧ p.length ≤ 16777216 ∧ Hid (L = p ++ post) ∧ Hid (∀ z ∈ post, ltOf Sw.cmpS (vp, vv, vb) z = true) ∧ Hid (wr.ownsRow B 137 3 (.slice (some ⟨g, 0, none⟩) (L.length + 1) c) (L.length + 1) (scs (p ++ [(vp, vv, vb)] ++ post)) ∧ Turn (fun b => (Value.slice la L.length lc).ownBlock = some b) w wr))
  case atStart => exact ⟨L, [], rfl, by omega, by omega, (List.append_nil L).symm, (fun z hz => by cases hz), HS⟩
  case round =>
    clear HS
    obtain ⟨p, post, rfl, hgp, hpl, HP, HZ, HS⟩ := hrel
    rcases List.eq_nil_or_concat p with hp | ⟨p', ⟨yp, yv, yb⟩, hp⟩
    · subst hp
      have HE : Hid (Ss.ins (ltOf Sw.cmpS) (vp, vv, vb) L = [] ++ [(vp, vv, vb)] ++ post) := by
        have h := HP.out
        show _ = _
        rw [h, List.nil_append, Ss.ins_front (lt := ltOf Sw.cmpS) HZ.out]; rfl
      go_wp2
      go_ret
      refine ⟨g, c, rfl, ?_, HS.out.2, HG.out⟩
      rw [HE.out]; exact HS.out.1
    · rw [List.concat_eq_append] at hp
      subst hp
      have hlen : L.length = p'.length + 1 + post.length := by have h := HP.out; rw [h]; simp; omega
      have hpn : (p' ++ [(yp, yv, yb)]).length = p'.length + 1 := by simp
      have hq1 := scs_at (p' ++ [(yp, yv, yb)]) post (vp, vv, vb)
      have hq2 := scs_at p' ([(vp, vv, vb)] ++ post) (yp, yv, yb)
      have e2 : p' ++ [(yp, yv, yb)] ++ ([(vp, vv, vb)] ++ post) = p' ++ [(yp, yv, yb)] ++ [(vp, vv, vb)] ++ post := by simp
      rw [e2] at hq2
      rw [hpn] at hq1
      have c0 : wr.cell? ⟨g, (p'.length + 1) * 3, none⟩ = some (.string vp) := by rw [HS.out.1.cellAt _ (by omega)]; exact hq1.1
      have c1 : wr.cell? ⟨g, (p'.length + 1) * 3 + 1, none⟩ = some (.string vv) := by rw [HS.out.1.cellAt _ (by omega)]; exact hq1.2.1
      have c4 : wr.cell? ⟨g, (p'.length + 1) * 3 + 2, none⟩ = some (.string vb) := by rw [HS.out.1.cellAt _ (by omega)]; exact hq1.2.2
      have c2 : wr.cell? ⟨g, p'.length * 3, none⟩ = some (.string yp) := by rw [HS.out.1.cellAt _ (by omega)]; exact hq2.1
      have c3 : wr.cell? ⟨g, p'.length * 3 + 1, none⟩ = some (.string yv) := by rw [HS.out.1.cellAt _ (by omega)]; exact hq2.2.1
      have c5 : wr.cell? ⟨g, p'.length * 3 + 2, none⟩ = some (.string yb) := by rw [HS.out.1.cellAt _ (by omega)]; exact hq2.2.2
      have hgl : g < wr.heap.size := (HS.out.1.lt g rfl).2
      have ka : Calls Tryz.prog 120 #[.agg #[.string vp, .string vv], .agg #[.string yp, .string yv], .bool true] wr.drew fun e w' => e = .returned (.bool (ltOf Sw.cmpS (vp, vv, vb) (yp, yv, yb))) ∧ Below wr.drew.heap.size wr.drew w' := ahead_all (vp, vv) (yp, yv) true wr.drew
      have hnI : (p'.length : Int) + 1 - 1 = p'.length := by omega
      have hn1 : (p'.length : Int) < (L.length : Int) + 1 := by omega
      have hn2 : (p'.length : Int) + 1 < (L.length : Int) + 1 := by omega
      obtain ⟨d, hd⟩ : ∃ d, ltOf Sw.cmpS (vp, vv, vb) (yp, yv, yb) = d := ⟨_, rfl⟩
      rw [hd] at ka
      have HD : Hid (ltOf Sw.cmpS (vp, vv, vb) (yp, yv, yb) = d) := hd
      clear hq1 hq2 e2 hd
      simp only [hpn] at *
      generalize hm : p'.length = m at *
      have HM : Hid (p'.length = m) := hm
      clear hm
      rw [show ((m + 1 : Nat) : Int) = (m : Int) + 1 from by omega]
      have hp0 : (0 : Int) < (m : Int) + 1 := by omega
      go_upto_region 5 with fail
      have hm1 : m < L.length := by omega
      have hm2 : m ≤ L.length := by omega
      have hm3 : (m : Int) < (L.length : Int) := by omega
      have hm4 : (m : Int) ≤ (L.length : Int) := by omega
      have hm5 : (m : Int) < (L.length : Int) + 1 := by omega
      have hm6 : (m : Int) + 1 < (L.length : Int) + 1 := by omega
      have hz1 : (0 : Int) ≤ (m : Int) + 1 := by omega
      have hz2 : (0 : Int) ≤ (m : Int) := by omega
      have hz3 : m ≤ 20000000 := by omega
      have hz4 : ((m + 1 : Nat) : Int) < ((L.length + 1 : Nat) : Int) := by omega
      have hz5 : m + 1 < L.length + 1 := by omega
      have hz6 : m < L.length + 1 := by omega
      have HLEN : Hid (L.length = m + 1 + post.length) := hlen
      clear hlen
      have hw3 : IntKind.i64.wrap (m : Int) = (m : Int) := by simp [IntKind.wrap, IntKind.bits, IntKind.signed]; omega
      clear hz4 hz5 hz6
      go_region_held3 (fun w' => w'.cell? ⟨g, (m + 1) * 3, none⟩ = some (.string vp) ∧ w'.cell? ⟨g, (m + 1) * 3 + 1, none⟩ = some (.string vv) ∧ w'.cell? ⟨g, m * 3, none⟩ = some (.string yp) ∧ w'.cell? ⟨g, m * 3 + 1, none⟩ = some (.string yv) ∧ w'.cell? ⟨g, (m + 1) * 3 + 2, none⟩ = some (.string vb) ∧ w'.cell? ⟨g, m * 3 + 2, none⟩ = some (.string yb)) (first | exact ⟨c0, c1, c2, c3, c4, c5⟩ | (refine ⟨?_, ?_, ?_, ?_, ?_, ?_⟩ <;> assumption))
        (first | (go_at_call 120; refine ka.mono ?_; rintro e w2 ⟨rfl, hb⟩; have s0 : w2.cell? ⟨g, (m + 1) * 3, none⟩ = some (.string vp) := (hb.cell (p := ⟨g, (m + 1) * 3, none⟩) hgl).trans c0; have s1 : w2.cell? ⟨g, (m + 1) * 3 + 1, none⟩ = some (.string vv) := (hb.cell (p := ⟨g, (m + 1) * 3 + 1, none⟩) hgl).trans c1; have s2 : w2.cell? ⟨g, m * 3, none⟩ = some (.string yp) := (hb.cell (p := ⟨g, m * 3, none⟩) hgl).trans c2; have s3 : w2.cell? ⟨g, m * 3 + 1, none⟩ = some (.string yv) := (hb.cell (p := ⟨g, m * 3 + 1, none⟩) hgl).trans c3; have s4 : w2.cell? ⟨g, (m + 1) * 3 + 2, none⟩ = some (.string vb) := (hb.cell (p := ⟨g, (m + 1) * 3 + 2, none⟩) hgl).trans c4; have s5 : w2.cell? ⟨g, m * 3 + 2, none⟩ = some (.string yb) := (hb.cell (p := ⟨g, m * 3 + 2, none⟩) hgl).trans c5; have HB2 : Hid (Below wr.heap.size wr w2) := ((Below.refl wr.heap.size wr).drew).trans hb; clear hb))
      have hown2 : w2.ownsRow B 137 3 (.slice (some ⟨g, 0, none⟩) (L.length + 1) c) (L.length + 1) (scs (p' ++ [(yp, yv, yb)] ++ [(vp, vv, vb)] ++ post)) := own_of_block HS.out.1 (fun b e => HB2.out.block b (HS.out.1.lt b e).2)
      have HS2 : Hid (w2.ownsRow B 137 3 (.slice (some ⟨g, 0, none⟩) (L.length + 1) c) (L.length + 1) (scs (p' ++ [(yp, yv, yb)] ++ [(vp, vv, vb)] ++ post)) ∧ Turn (fun b => (Value.slice la L.length lc).ownBlock = some b) w w2) := ⟨hown2, HS.out.2.more HB2.out⟩
      clear hown2 HS HB2 ka c0 c1 c2 c3 c4 c5
      cases d
      · have HE : Hid (Ss.ins (ltOf Sw.cmpS) (vp, vv, vb) L = p' ++ [(yp, yv, yb)] ++ [(vp, vv, vb)] ++ post) := by
          have h := HP.out
          show _ = _
          rw [h]
          exact Ss.ins_mid (lt := ltOf Sw.cmpS) HZ.out HD.out
        go_wp2
        go_ret
        refine ⟨g, c, rfl, ?_, HS2.out.2, HG.out⟩
        rw [HE.out]; exact HS2.out.1
      · have f0 := HS2.out.1.frozenAt ((m + 1) * 3)
        have f1 := HS2.out.1.frozenAt ((m + 1) * 3 + 1)
        have f2 := HS2.out.1.frozenAt (m * 3)
        have f3 := HS2.out.1.frozenAt (m * 3 + 1)
        have f4 := HS2.out.1.frozenAt ((m + 1) * 3 + 2)
        have f5 := HS2.out.1.frozenAt (m * 3 + 2)
        have hg2 : g < w2.heap.size := (HS2.out.1.lt g rfl).2
        have hgn : g ≠ w2.heap.size := by omega
        have hgt : g < w.heap.size → (Value.slice la L.length lc).ownBlock = some g := fun h => by
          rcases HG.out with e | e
          · exact e
          · omega
        have HS3 : Hid (∀ o, (((((((w2.setCell ⟨g, (m + 1) * 3, none⟩ (.string yp)).setCell ⟨g, (m + 1) * 3 + 1, none⟩ (.string yv)).setCell ⟨g, (m + 1) * 3 + 2, none⟩ (.string yb)).setCell ⟨g, m * 3, none⟩ (.string vp)).setCell ⟨g, m * 3 + 1, none⟩ (.string vv)).setCell ⟨g, m * 3 + 2, none⟩ (.string vb)).alloc o).ownsRow B 137 3 (.slice (some ⟨g, 0, none⟩) (L.length + 1) c) (L.length + 1) (scs (p' ++ [(vp, vv, vb)] ++ ([(yp, yv, yb)] ++ post))) ∧ Turn (fun b => (Value.slice la L.length lc).ownBlock = some b) w (((((((w2.setCell ⟨g, (m + 1) * 3, none⟩ (.string yp)).setCell ⟨g, (m + 1) * 3 + 1, none⟩ (.string yv)).setCell ⟨g, (m + 1) * 3 + 2, none⟩ (.string yb)).setCell ⟨g, m * 3, none⟩ (.string vp)).setCell ⟨g, m * 3 + 1, none⟩ (.string vv)).setCell ⟨g, m * 3 + 2, none⟩ (.string vb)).alloc o)) := fun o => by
          have h1 := (HS2.out.1.stored ((m + 1) * 3) (.string yp)).1
          have h2 := (h1.stored ((m + 1) * 3 + 1) (.string yv)).1
          have h3 := (h2.stored ((m + 1) * 3 + 2) (.string yb)).1
          have h5 := (h3.stored (m * 3) (.string vp)).1
          have h6 := (h5.stored (m * 3 + 1) (.string vv)).1
          have h4 := (h6.stored (m * 3 + 2) (.string vb)).1
          rw [scs_swap p' post (yp, yv, yb) (vp, vv, vb) m HM.out] at h4
          exact ⟨h4.alloc o, ((((((HS2.out.2.set hgt _).set hgt _).set hgt _).set hgt _).set hgt _).set hgt _).alloc o⟩
        have HZ2 : Hid (∀ z ∈ [(yp, yv, yb)] ++ post, ltOf Sw.cmpS (vp, vv, vb) z = true) := fun z hz => by
          rcases List.mem_append.1 hz with h | h
          · have e : z = (yp, yv, yb) := by simpa using h
            rw [e]; exact HD.out
          · exact HZ.out z h
        have HP2 : Hid (L = p' ++ ([(yp, yv, yb)] ++ post)) := by
          have h := HP.out
          show L = _
          rw [h]; simp
        go_wp2
        go_roundg m
        case measure => omega
        case rel => exact ⟨p', [(yp, yv, yb)] ++ post, by rw [HM.out], by have := HM.out; omega, by have := HM.out; omega, HP2, HZ2, HS3.out _⟩

end Go.Proofs.YtelmkfkgpnadnaaGreatDoor
