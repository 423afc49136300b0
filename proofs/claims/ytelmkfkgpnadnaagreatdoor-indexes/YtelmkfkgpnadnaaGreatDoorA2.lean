/-
  The document's answer: a version is put in its place: the walk.
-/
import Derived.Test.YtelmkfkgpnadnaaGreatDoorA1
import Derived.Deep.RegionHeld3
namespace Go.Proofs.YtelmkfkgpnadnaaGreatDoor
open Go.RowKit

variable {w w' : World}

set_option maxRecDepth 100000 in
set_option maxHeartbeats 4000000 in
theorem put_any (v : ByteArray) (lv : Value) (L : List ByteArray) (w : World) (B : Nat) (hB : B ≤ w.heap.size) (ho : w.ownsRow B 29 2 lv L.length (mcells L)) (hl : L.length ≤ 2001) (hv : IsV v) (hL : ∀ x ∈ L, IsV x) :
    Calls Tryz.prog 79 #[lv, .agg #[.string ⟨#[]⟩, .string v], .bool true] w fun e w' => ∃ g c, e = .returned (.slice (some ⟨g, 0, none⟩) (L.length + 1) c) ∧ w'.ownsRow B 29 2 (.slice (some ⟨g, 0, none⟩) (L.length + 1) c) (L.length + 1) (mcells (insV v L)) ∧ Turn (fun b => lv.ownBlock = some b) w w' ∧ (lv.ownBlock = some g ∨ w.heap.size ≤ g) := by
  obtain ⟨i2, hi1, hi2, hi3, hi4⟩ := info29
  have HI : Hid (Tryz.prog.info? 29 = some i2 ∧ i2.zero = some (.agg #[.string ⟨#[]⟩, .string ⟨#[]⟩]) ∧ i2.size = 2 ∧ i2.bytes = 32) := ⟨hi1, hi2, hi3, hi4⟩
  clear hi1 hi2 hi3 hi4
  obtain ⟨la, lc, rfl⟩ := own_slice' ho
  have HO : Hid (w.ownsRow B 29 2 (.slice la L.length lc) L.length (mcells L)) := ho
  have HV : Hid (IsV v ∧ ∀ x ∈ L, IsV x) := ⟨hv, hL⟩
  have hsz : (w.alloc (.cells #[.string ⟨#[]⟩, .string v] 29)).heap.size = w.heap.size + 1 := by simp
  have HNW : Hid (∀ j u, [Value.string ⟨#[]⟩, Value.string v][j]? = some u → ((w.alloc (.cells #[.string ⟨#[]⟩, .string v] 29)).alloc (.cells #[.string ⟨#[]⟩, .string v] 29)).cell? ((⟨w.heap.size + 1, 0, none⟩ : Addr).add j) = some u) := by
    have h := cell_two_new (w.alloc (.cells #[.string ⟨#[]⟩, .string v] 29)) 29 (.string ⟨#[]⟩) (.string v)
    rw [hsz] at h
    exact h
  clear ho hv hL hsz
  go_enter Tryz.func79, Tryz.ntmps79
  go_wp2_with (at_builtin; refine wpList_append_own_at _ rfl _ _ 23 rfl B 29 i2 (.agg #[.string ⟨#[]⟩, .string ⟨#[]⟩]) 2 32 Tryz.underlying23 HI.out.1 HI.out.2.1 HI.out.2.2.1 HI.out.2.2.2 rfl (by decide) (.slice la L.length lc) L.length (mcells L) rfl ((HO.out.alloc _).alloc _) ⟨w.heap.size + 1, 0, none⟩ 1 1 [.string ⟨#[]⟩, .string v] rfl rfl HNW.out ?_ ?_ ?_ ?_ ?_)
  all_goals first
    | (show ∀ u ∈ [Value.string ⟨#[]⟩, Value.string v], u.oneCell' = true; intro u hu; simp at hu; rcases hu with rfl | rfl <;> rfl)
    | (show L.length + 1 ≤ maxLen; unfold maxLen; omega)
    | (show (L.length + 1) * 32 ≤ 140737488355328; omega)
    | (show B ≤ ((w.alloc _).alloc _).heap.size; simp; omega)
    | (show B ≤ w.heap.size + 1 + 1; omega)
    | skip
  intro lv' w1 hown' hgrow _ hloc
  obtain ⟨g, c, rfl⟩ := own_some hown' (by omega)
  have hg : (Value.slice la L.length lc).ownBlock = some g ∨ w.heap.size ≤ g := by
    rcases hloc with e | e
    · exact Or.inl e.symm
    · right
      have : g = w.heap.size + 1 + 1 := by simpa [Value.ownBlock] using e
      omega
  have ht1 : Turn (fun b => (Value.slice la L.length lc).ownBlock = some b) w w1 := (((Turn.refl _ w).alloc _).alloc _).grown hgrow (fun b _ e => e)
  have hm : mcells L ++ [.string ⟨#[]⟩, .string v] = mcells (L ++ [v] ++ []) := by simp [mcells]
  rw [hm] at hown'
  have HS : Hid (w1.ownsRow B 29 2 (.slice (some ⟨g, 0, none⟩) (L.length + 1) c) (L.length + 1) (mcells (L ++ [v] ++ [])) ∧ Turn (fun b => (Value.slice la L.length lc).ownBlock = some b) w w1) := ⟨hown', ht1⟩
  have HG : Hid ((Value.slice la L.length lc).ownBlock = some g ∨ w.heap.size ≤ g) := hg
  clear hown' hgrow hloc hg ht1 hm HNW HO
  go_wp2
  go_loopg [7] L.length (fun gg s wr => ∃ (p post : List ByteArray), s = .int .i64 p.length ∧ p.length ≤ gg ∧ p.length ≤ 2001 ∧ Hid (L = p ++ post) ∧ Hid (∀ z ∈ post, vlt v z = true) ∧ Hid (wr.ownsRow B 29 2 (.slice (some ⟨g, 0, none⟩) (L.length + 1) c) (L.length + 1) (mcells (p ++ [v] ++ post)) ∧ Turn (fun b => (Value.slice la L.length lc).ownBlock = some b) w wr))
  case atStart => exact ⟨L, [], rfl, by omega, by omega, (List.append_nil L).symm, (fun z hz => by cases hz), HS⟩
  case round =>
    clear HS
    obtain ⟨p, post, rfl, hgp, hpl, HP, HZ, HS⟩ := hrel
    rcases List.eq_nil_or_concat p with hp | ⟨p', y, hp⟩
    · subst hp
      have HE : Hid (insV v L = [] ++ [v] ++ post) := by
        have h := HP.out
        show _ = _
        rw [h, List.nil_append, insV_front HZ.out]; rfl
      go_wp2
      go_ret
      refine ⟨g, c, rfl, ?_, HS.out.2, HG.out⟩
      rw [HE.out]; exact HS.out.1
    · rw [List.concat_eq_append] at hp
      subst hp
      have hlen : L.length = p'.length + 1 + post.length := by have h := HP.out; rw [h]; simp; omega
      have hpn : (p' ++ [y]).length = p'.length + 1 := by simp
      have hq1 := mcells_at (p' ++ [y]) post v
      have hq2 := mcells_at p' ([v] ++ post) y
      have e2 : p' ++ [y] ++ ([v] ++ post) = p' ++ [y] ++ [v] ++ post := by simp
      rw [e2] at hq2
      rw [hpn] at hq1
      have c0 : wr.cell? ⟨g, (p'.length + 1) * 2, none⟩ = some (.string ⟨#[]⟩) := by rw [HS.out.1.cellAt _ (by omega)]; exact hq1.1
      have c1 : wr.cell? ⟨g, (p'.length + 1) * 2 + 1, none⟩ = some (.string v) := by rw [HS.out.1.cellAt _ (by omega)]; exact hq1.2
      have c2 : wr.cell? ⟨g, p'.length * 2, none⟩ = some (.string ⟨#[]⟩) := by rw [HS.out.1.cellAt _ (by omega)]; exact hq2.1
      have c3 : wr.cell? ⟨g, p'.length * 2 + 1, none⟩ = some (.string y) := by rw [HS.out.1.cellAt _ (by omega)]; exact hq2.2
      have hgl : g < wr.heap.size := (HS.out.1.lt g rfl).2
      have ka := ahead_any v y wr.drew HV.out.1 (HV.out.2 y (by rw [HP.out]; simp))
      have hnI : (p'.length : Int) + 1 - 1 = p'.length := by omega
      have hn1 : (p'.length : Int) < (L.length : Int) + 1 := by omega
      have hn2 : (p'.length : Int) + 1 < (L.length : Int) + 1 := by omega
      obtain ⟨d, hd⟩ : ∃ d, vlt v y = d := ⟨_, rfl⟩
      rw [hd] at ka
      have HD : Hid (vlt v y = d) := hd
      clear hq1 hq2 e2 hd
      simp only [hpn] at *
      generalize hm : p'.length = m at *
      have HM : Hid (p'.length = m) := hm
      clear hm
      rw [show ((m + 1 : Nat) : Int) = (m : Int) + 1 from by omega]
      have hp0 : (0 : Int) < (m : Int) + 1 := by omega
      go_upto_region 5 with fail
      have hm1 : m < L.length := by omega
      have hm2 : m ≤ L.length := by omega
      have hm3 : (m : Int) < (L.length : Int) := by omega
      have hm4 : (m : Int) ≤ (L.length : Int) := by omega
      have hm5 : (m : Int) < (L.length : Int) + 1 := by omega
      have hm6 : (m : Int) + 1 < (L.length : Int) + 1 := by omega
      have hz1 : (0 : Int) ≤ (m : Int) + 1 := by omega
      have hz2 : (0 : Int) ≤ (m : Int) := by omega
      have hz3 : m ≤ 3000 := by omega
      have hz4 : ((m + 1 : Nat) : Int) < ((L.length + 1 : Nat) : Int) := by omega
      have hz5 : m + 1 < L.length + 1 := by omega
      have hz6 : m < L.length + 1 := by omega
      have HLEN : Hid (L.length = m + 1 + post.length) := hlen
      clear hlen
      have hw3 : IntKind.i64.wrap (m : Int) = (m : Int) := by simp [IntKind.wrap, IntKind.bits, IntKind.signed]; omega
      clear hz4 hz5 hz6
      go_region_held3 (fun w' => w'.cell? ⟨g, (m + 1) * 2, none⟩ = some (.string ⟨#[]⟩) ∧ w'.cell? ⟨g, (m + 1) * 2 + 1, none⟩ = some (.string v) ∧ w'.cell? ⟨g, m * 2, none⟩ = some (.string ⟨#[]⟩) ∧ w'.cell? ⟨g, m * 2 + 1, none⟩ = some (.string y)) (first | exact ⟨c0, c1, c2, c3⟩ | (refine ⟨?_, ?_, ?_, ?_⟩ <;> assumption))
        (first | (go_at_call 120; refine ka.mono ?_; rintro e w2 ⟨rfl, hb⟩; have s0 : w2.cell? ⟨g, (m + 1) * 2, none⟩ = some (.string ⟨#[]⟩) := (hb.cell (p := ⟨g, (m + 1) * 2, none⟩) hgl).trans c0; have s1 : w2.cell? ⟨g, (m + 1) * 2 + 1, none⟩ = some (.string v) := (hb.cell (p := ⟨g, (m + 1) * 2 + 1, none⟩) hgl).trans c1; have s2 : w2.cell? ⟨g, m * 2, none⟩ = some (.string ⟨#[]⟩) := (hb.cell (p := ⟨g, m * 2, none⟩) hgl).trans c2; have s3 : w2.cell? ⟨g, m * 2 + 1, none⟩ = some (.string y) := (hb.cell (p := ⟨g, m * 2 + 1, none⟩) hgl).trans c3; have HB2 : Hid (Below wr.heap.size wr w2) := ((Below.refl wr.heap.size wr).drew).trans hb; clear hb))
      have hown2 : w2.ownsRow B 29 2 (.slice (some ⟨g, 0, none⟩) (L.length + 1) c) (L.length + 1) (mcells (p' ++ [y] ++ [v] ++ post)) := own_of_block HS.out.1 (fun b e => HB2.out.block b (HS.out.1.lt b e).2)
      have HS2 : Hid (w2.ownsRow B 29 2 (.slice (some ⟨g, 0, none⟩) (L.length + 1) c) (L.length + 1) (mcells (p' ++ [y] ++ [v] ++ post)) ∧ Turn (fun b => (Value.slice la L.length lc).ownBlock = some b) w w2) := ⟨hown2, HS.out.2.more HB2.out⟩
      clear hown2 HS HB2 ka c0 c1 c2 c3
      cases d
      · have HE : Hid (insV v L = p' ++ [y] ++ [v] ++ post) := by
          have h := HP.out
          show _ = _
          rw [h]
          exact insV_mid HZ.out HD.out
        go_wp2
        go_ret
        refine ⟨g, c, rfl, ?_, HS2.out.2, HG.out⟩
        rw [HE.out]; exact HS2.out.1
      · have f0 := HS2.out.1.frozenAt ((m + 1) * 2)
        have f1 := HS2.out.1.frozenAt ((m + 1) * 2 + 1)
        have f2 := HS2.out.1.frozenAt (m * 2)
        have f3 := HS2.out.1.frozenAt (m * 2 + 1)
        have hg2 : g < w2.heap.size := (HS2.out.1.lt g rfl).2
        have hgn : g ≠ w2.heap.size := by omega
        have hgt : g < w.heap.size → (Value.slice la L.length lc).ownBlock = some g := fun h => by
          rcases HG.out with e | e
          · exact e
          · omega
        have HS3 : Hid (∀ o, (((((w2.setCell ⟨g, (m + 1) * 2, none⟩ (.string ⟨#[]⟩)).setCell ⟨g, (m + 1) * 2 + 1, none⟩ (.string y)).setCell ⟨g, m * 2, none⟩ (.string ⟨#[]⟩)).setCell ⟨g, m * 2 + 1, none⟩ (.string v)).alloc o).ownsRow B 29 2 (.slice (some ⟨g, 0, none⟩) (L.length + 1) c) (L.length + 1) (mcells (p' ++ [v] ++ ([y] ++ post))) ∧ Turn (fun b => (Value.slice la L.length lc).ownBlock = some b) w (((((w2.setCell ⟨g, (m + 1) * 2, none⟩ (.string ⟨#[]⟩)).setCell ⟨g, (m + 1) * 2 + 1, none⟩ (.string y)).setCell ⟨g, m * 2, none⟩ (.string ⟨#[]⟩)).setCell ⟨g, m * 2 + 1, none⟩ (.string v)).alloc o)) := fun o => by
          have h4 := (((((((HS2.out.1.stored ((m + 1) * 2) (.string ⟨#[]⟩)).1).stored ((m + 1) * 2 + 1) (.string y)).1).stored (m * 2) (.string ⟨#[]⟩)).1).stored (m * 2 + 1) (.string v)).1
          rw [mcells_swap p' post y v m HM.out] at h4
          exact ⟨h4.alloc o, ((((HS2.out.2.set hgt _).set hgt _).set hgt _).set hgt _).alloc o⟩
        have HZ2 : Hid (∀ z ∈ [y] ++ post, vlt v z = true) := fun z hz => by
          rcases List.mem_append.1 hz with h | h
          · have e : z = y := by simpa using h
            rw [e]; exact HD.out
          · exact HZ.out z h
        have HP2 : Hid (L = p' ++ ([y] ++ post)) := by
          have h := HP.out
          show L = _
          rw [h]; simp
        go_wp2
        go_roundg m
        case measure => omega
        case rel => exact ⟨p', [y] ++ post, by rw [HM.out], by have := HM.out; omega, by have := HM.out; omega, HP2, HZ2, HS3.out _⟩

end Go.Proofs.YtelmkfkgpnadnaaGreatDoor
