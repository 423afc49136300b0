/-
  The law: whatever edges come and go.
-/
import Derived.Test.YtelmkfkgpnadnaaK12
import Derived.Deep.RegionHeld3
namespace Go.Proofs.Ytelmkfkgpnadnaa
open Go.RowKit

variable {w w' : World} {b n : Nat} {A Pl : Nat → Nat} {E F : Nat → Nat → Bool}

/-- The law's rows, as far as they are made. -/
structure Upto (w : World) (eb n k : Nat) : Prop where
  top : ∃ f, ValsAt w eb n f ∧ ∀ u, u < k → f u = .slice (some ⟨eb + 1 + u, 0, none⟩) n n
  cell : ∀ u, u < k → ValsAt w (eb + 1 + u) n (fun _ => .bool false)
  size : w.heap.size = eb + 1 + k

theorem Upto.next {eb k : Nat} (h : Upto w eb n k) (hk : k < n) : Upto ((w.alloc (.cells (madeCells #[.bool false] n) 4)).setCell ⟨eb, k, none⟩ (.slice (some ⟨eb + 1 + k, 0, none⟩) n n)) eb n (k + 1) := by
  obtain ⟨f, hf, hfu⟩ := h.top
  have hs := h.size
  have hf2 : ValsAt (w.alloc (.cells (madeCells #[.bool false] n) 4)) eb n f := hf.of_block (Below.heap_alloc _ _ _ (by omega))
  refine ⟨⟨_, hf2.set hk _, fun u hu => ?_⟩, fun u hu => ?_, by simp [World.setCell, hs]; omega⟩
  · by_cases e : u = k
    · simp [e]
    · simp only [if_neg e]; exact hfu u (by omega)
  · have ho : ((w.alloc (.cells (madeCells #[.bool false] n) 4)).setCell ⟨eb, k, none⟩ (.slice (some ⟨eb + 1 + k, 0, none⟩) n n)).heap[eb + 1 + u]? = (w.alloc (.cells (madeCells #[.bool false] n) 4)).heap[eb + 1 + u]? := Below.heap_setCell _ _ _ _ (by show eb + 1 + u ≠ eb; omega)
    by_cases e : u = k
    · subst e
      have := vals_new w (.bool false) n 4
      rw [hs] at this
      exact this.of_block ho
    · exact ((h.cell u (by omega)).of_block (w' := w.alloc (.cells (madeCells #[.bool false] n) 4)) (Below.heap_alloc _ _ _ (by omega))).of_block ho

theorem Upto.done {eb : Nat} (h : Upto w eb n n) : EdgesAt w eb n (fun u => eb + 1 + u) noE := by
  obtain ⟨f, hf, hfu⟩ := h.top
  have hs := h.size
  exact ⟨fun u hu => by rw [hf.at' u hu, hfu u hu], fun u hu => h.cell u hu, fun u v _ _ e => by omega, fun u _ => by omega, ⟨by omega, fun u hu => by omega⟩⟩

set_option maxRecDepth 100000 in
set_option maxHeartbeats 40000000 in
theorem kept_any (c : Int) (la : Option Addr) (m cap : Nat) (w : World) (hc1 : -9223372036854775808 ≤ c) (hc2 : c ≤ 9223372036854775807) (hm : m ≤ 9223372036854775807)
    (hl : ∀ i, i < m → ∃ b o x y z, la = some ⟨b, o, none⟩ ∧ b < w.heap.size ∧ w.cell? ⟨b, o + i * 3, none⟩ = some (.int .i64 x) ∧ w.cell? ⟨b, o + i * 3 + 1, none⟩ = some (.int .i64 y) ∧ w.cell? ⟨b, o + i * 3 + 2, none⟩ = some (.int .i64 z) ∧ (-9223372036854775808 ≤ x ∧ x ≤ 9223372036854775807) ∧ (-9223372036854775808 ≤ y ∧ y ≤ 9223372036854775807)) :
    Calls Try.prog 4 #[.int .i64 c, .slice la m cap] w fun e w' => e = .returned (.bool true) ∧ Below w.heap.size w w' := by
  have HL : Hid (∀ i, i < m → ∃ b o x y z, la = some ⟨b, o, none⟩ ∧ b < w.heap.size ∧ w.cell? ⟨b, o + i * 3, none⟩ = some (.int .i64 x) ∧ w.cell? ⟨b, o + i * 3 + 1, none⟩ = some (.int .i64 y) ∧ w.cell? ⟨b, o + i * 3 + 2, none⟩ = some (.int .i64 z) ∧ (-9223372036854775808 ≤ x ∧ x ≤ 9223372036854775807) ∧ (-9223372036854775808 ≤ y ∧ y ≤ 9223372036854775807)) := hl
  clear hl
  have kp := pick_any c 40 w (by decide) hc1 hc2
  have hpk := pk_lt c 40 (by decide)
  obtain ⟨n, hn⟩ : ∃ n, pk c 40 + 1 = n := ⟨_, rfl⟩
  obtain ⟨p0, hp0⟩ : ∃ p, pk c 40 = p := ⟨_, rfl⟩
  rw [hp0] at kp hpk hn
  clear hp0
  go_enter Try.func4, Try.ntmps4
  go_wp2_with (go_at_call 6; fail)
  go_at_call 6
  refine kp.mono ?_
  rintro e w1 ⟨rfl, rfl⟩
  clear kp
  have en : (1 : Int) + (p0 : Int) = (n : Int) := by omega
  go_upto_region 2 with fail
  try simp only [en]
  have hn40 : n ≤ 40 := by omega
  have hn0 : 0 < n := by omega
  clear en hn hpk hc1 hc2
  have kt := newTopo_any w1 n hn40
  go_wp2_with (go_at_call 7; fail)
  go_at_call 7
  refine kt.mono ?_
  rintro e w2 ⟨tb, A, Pl, rfl, hrow, hA, htb, hb2⟩
  have HR2 : Hid (RowAt w2 tb n A Pl noE) := hrow
  have HO : Hid (Kp.Ok n A Pl noE) := ok_new hA
  have htb2 := hrow.lt
  clear kt hrow hA
  go_upto_region 6 with (at_make; refine wpList_make_n rfl (.tmp 39) 32 rfl 33 (.slice none 0 0) 24 n Try.underlying32 info33' rfl (by decide) hn40 rfl w2.heap.size rfl ?_)
  have hU : Upto (w2.alloc (.cells (madeCells #[.slice none 0 0] n) 33)) w2.heap.size n 0 := ⟨⟨_, vals_new w2 (.slice none 0 0) n 33, fun u hu => by omega⟩, fun u hu => by omega, by simp⟩
  have hB3 : Below w2.heap.size w2 (w2.alloc (.cells (madeCells #[.slice none 0 0] n) 33)) := (Below.refl _ _).alloc (Nat.le_refl _) _
  generalize w2.alloc (.cells (madeCells #[.slice none 0 0] n) 33) = W3 at *
  have HU : Hid (Upto W3 w2.heap.size n 0) := hU
  clear hU
  go_wp2
  go_loopg [9] n (fun gg s wr => ∃ k : Nat, k ≤ n ∧ n - k ≤ gg ∧ s = .int .i64 k ∧ Hid (Upto wr w2.heap.size n k) ∧ Below w2.heap.size w2 wr)
  case atStart => exact ⟨0, by omega, by omega, rfl, HU, hB3⟩
  case round =>
    obtain ⟨k, hk, hg, rfl, HUk, hbk⟩ := hrel
    by_cases hlt : k < n
    · have hsz := HUk.out.size
      obtain ⟨f, hf, _⟩ := HUk.out.top
      have hf2 : ValsAt (wr.alloc (.cells (madeCells #[.bool false] n) 4)) w2.heap.size n f := hf.of_block (Below.heap_alloc _ _ _ (by omega))
      have hc := hf2.at' k hlt
      have hfr := hf2.fr k hlt
      have HN : Hid (Upto ((wr.alloc (.cells (madeCells #[.bool false] n) 4)).setCell ⟨w2.heap.size, k, none⟩ (.slice (some ⟨w2.heap.size + 1 + k, 0, none⟩) n n)) w2.heap.size n (k + 1)) := HUk.out.next hlt
      have hbn : Below w2.heap.size w2 ((wr.alloc (.cells (madeCells #[.bool false] n) 4)).setCell ⟨w2.heap.size, k, none⟩ (.slice (some ⟨w2.heap.size + 1 + k, 0, none⟩) n n)) := (hbk.alloc (by omega) _).setCell (Nat.le_refl _) _
      clear hf hf2
      go_wp2_with (at_make; refine wpList_make_n rfl (.tmp 48) 33 rfl 4 (.bool false) 1 n Try.underlying33 info4' rfl (by decide) hn40 rfl (w2.heap.size + 1 + k) hsz ?_)
      go_roundg (n - (k + 1))
      case measure => omega
      case rel => exact ⟨k + 1, by omega, by omega, by go_num, HN, hbn⟩
    · have hk' : n = k := by omega
      subst hk'
      have HE : Hid (EdgesAt wr w2.heap.size n (fun u => w2.heap.size + 1 + u) noE) := HUk.out.done
      have HR3 : Hid (RowAt wr tb n A Pl noE) := HR2.out.below hbk
      have ko := order_any HR3.out hn40 hn0
      go_wp2_with (go_at_call 9; fail)
      go_at_call 9
      refine ko.mono ?_
      rintro e w4 ⟨v, rfl, hown, hb4⟩
      obtain ⟨g, cp, rfl, hg1, hg2⟩ := own_shape hown hn0
      have hcl : ∀ p, p < n → w4.cell? ⟨g, p, none⟩ = some (.int .i64 (A p)) := fun p hp => by
        have h1 := hown.cells rfl p (.int .i64 (A p)) (by rw [ints_get _ p (by simpa using hp)]; simp)
        rwa [Addr.add_mid, Nat.zero_add] at h1
      have kpl := places_any g cp w4 HO.out hn40 hg2 hcl
      clear ko hown hcl
      go_wp2_with (go_at_call 8; fail)
      go_at_call 8
      refine kpl.mono ?_
      rintro e w5 ⟨pb, rfl, hvals, hpb, hpb2, hb5⟩
      clear kpl
      have HM : Hid (Mem w1 tb w2.heap.size pb n (fun u => w2.heap.size + 1 + u) A Pl noE noE Pl w5) := by
        have hE4 := (HE.out.below hb4).below hb5
        have hR4 := (HR3.out.below hb4).below hb5
        have hsz := HUk.out.size
        have h4 := hb4.size
        have h5 := hb5.size
        exact ⟨hR4, hE4, hvals, hpb2, ((hb2.trans (hbk.mono hb2.size)).trans (hb4.mono (by have := hb2.size; have := hbk.size; omega))).trans (hb5.mono (by have := hb2.size; have := hbk.size; omega)), ⟨by omega, by omega, by omega⟩, fun u hu => ⟨by omega, by omega⟩, ⟨htb, hb2.size⟩, fun u hu => by have := hb2.size; omega⟩
      clear hvals hb5 hb4 HE HR3 hbk HUk
      obtain ⟨eb, heb⟩ : ∃ eb, eb = w2.heap.size := ⟨_, rfl⟩
      obtain ⟨rb, hrb⟩ : ∃ rb, rb = fun u => w2.heap.size + 1 + u := ⟨_, rfl⟩
      rw [← hrb, ← heb] at HM
      rw [← heb]
      clear heb hrb hpb hpb2 hg1 hg2 htb2 hB3 HU HR2 hb2 htb hk hg hlt
      go_wp2
      go_loopg [10, 12] m (fun gg pv s wr => ∃ (i pb : Nat) (A Pl : Nat → Nat) (E : Nat → Nat → Bool), i ≤ m ∧ m - i ≤ gg ∧ pv = .slice (some ⟨pb, 0, none⟩) n n ∧ s = .int .i64 i ∧ Hid (Mem w1 tb eb pb n rb A Pl E E Pl wr) ∧ Hid (Kp.Ok n A Pl E))
      case atStart => exact ⟨0, pb, A, Pl, noE, by omega, by omega, rfl, rfl, HM, HO⟩
      case round => as_aux_lemma =>
        clear HM HO
        obtain ⟨i, pb, A, Pl, E, hi, hg, h10, h12, HM, HO⟩ := hrel
        rw [h10, h12]
        clear h10 h12
        by_cases hlt : i < m
        · obtain ⟨lb, lo, x0, y0, z0, hla', hlb, hcx, hcy, hcz, hx0, hy0⟩ := HL.out i hlt
          have hla0 : Hid (la = some ⟨lb, lo, none⟩) := hla'
          rw [hla']
          clear hla'
          obtain ⟨x, hx⟩ : ∃ x, pk x0 n = x := ⟨_, rfl⟩
          obtain ⟨y, hy⟩ : ∃ y, pk y0 n = y := ⟨_, rfl⟩
          have hxn := pk_lt x0 n hn0
          have hyn := pk_lt y0 n hn0
          rw [hx] at hxn
          rw [hy] at hyn
          have hcx1 : wr.cell? ⟨lb, lo + i * 3, none⟩ = some (.int .i64 x0) := by rw [HM.out.old.cell (p := ⟨lb, lo + i * 3, none⟩) hlb]; exact hcx
          have hcy1 : wr.cell? ⟨lb, lo + i * 3 + 1, none⟩ = some (.int .i64 y0) := by rw [HM.out.old.cell (p := ⟨lb, lo + i * 3 + 1, none⟩) hlb]; exact hcy
          have kx := pick_any x0 n wr hn0 hx0.1 hx0.2
          have ky := pick_any y0 n wr hn0 hy0.1 hy0.2
          rw [hx] at kx
          rw [hy] at ky
          have kl := leads_any eb y x rb wr HM.out.ed HO.out.dom hn40 hyn hxn
          clear hx hy hcx hcy hx0 hy0
          go_wp2_with (go_at_call 6; fail)
          go_at_call 6
          refine kx.mono ?_
          intro e w6 hq
          rw [hq.1, hq.2]
          clear kx hcx1 hq
          go_wp2_with (go_at_call 6; fail)
          go_at_call 6
          refine ky.mono ?_
          intro e w6 hq
          rw [hq.1, hq.2]
          clear ky hcy1 hq
          go_wp2_with (go_at_call 10; fail)
          go_at_call 10
          refine kl.mono ?_
          rintro e w7 ⟨⟨r, he, hr⟩, hb7⟩
          rw [he]
          have HM7 : Hid (Mem w1 tb eb pb n rb A Pl E E Pl w7) := HM.out.below hb7
          have HR : Hid (r = true ↔ Kp.Way E y x) := hr
          clear kl hr hb7 HM he
          go_upto_region 19 with fail
          go_cut [15] (fun s wx => BoolIs s (Kp.Way E y x ∨ x = y) ∧ wx = w7)
          case first => as_aux_lemma =>
            cases hr : r
            · rw [hr] at HR
              have hnw : ¬ Kp.Way E y x := fun h => by have := HR.out.2 h; cases this
              by_cases hxy : x = y
              · have hq : (((x : Nat) : Int) == (y : Int)) = true := by simp [hxy]
                go_wp2_with fail
                go_meet
                exact ⟨⟨true, rfl, by simp [hxy]⟩, rfl⟩
              · have hq : (((x : Nat) : Int) == (y : Int)) = false := by simp; omega
                go_wp2_with fail
                go_meet
                exact ⟨⟨false, rfl, by simp [hxy, hnw]⟩, rfl⟩
            · rw [hr] at HR
              have HWy : Hid (Kp.Way E y x) := HR.out.1 rfl
              clear HR
              go_wp2_with fail
              go_meet
              exact ⟨⟨true, rfl, by simp [HWy.out]⟩, rfl⟩
          case rest => as_aux_lemma =>
            obtain ⟨⟨cl, h15, hcl⟩, hwc⟩ := hcut
            rw [h15, hwc]
            have HC : Hid (cl = true ↔ (Kp.Way E y x ∨ x = y)) := hcl
            clear hcl HR h15 hwc
            have hcz1 : w7.cell? ⟨lb, lo + i * 3 + 2, none⟩ = some (.int .i64 z0) := by rw [HM7.out.old.cell (p := ⟨lb, lo + i * 3 + 2, none⟩) hlb]; exact hcz
            clear hcz
            go_upto_if 96 with fail
            go_cut [15, 16] (fun _ q wx => After w1 tb eb pb n rb Pl x y q wx)
            case first => as_aux_lemma =>
              go_wp2_with (first | (go_at_call 11; fail) | (go_at_call 12; fail))
              · as_aux_lemma =>
                go_at_call 11
                refine (remove_any x y HM7.out.row hn40 hxn hyn).mono ?_
                rintro e w8 ⟨he, hR8, hg8⟩
                rw [he]
                have HM8 : Hid (Mem w1 tb eb pb n rb A Pl (Kp.edge E x y false) E Pl w8) := HM7.out.topo hg8 hR8
                have h8a := HM8.out.ed.row x hxn
                have h8b := (HM8.out.ed.cell x hxn).at' y hyn
                have h8f := (HM8.out.ed.cell x hxn).fr y hyn
                have HM9 : Hid (Mem w1 tb eb pb n rb A Pl (Kp.edge E x y false) (Kp.edge E x y false) Pl (w8.setCell ⟨rb x, y, none⟩ (.bool false))) := HM8.out.edge hxn hyn
                have HO9 : Hid (Kp.Ok n A Pl (Kp.edge E x y false)) := HO.out.drop x y
                clear he hR8 hg8 hcz1
                cases hexy : E x y
                all_goals
                  rw [hexy] at h8b
                  clear hexy
                  go_wp2_with fail
                  go_meet
                  exact ⟨A, Pl, Kp.edge E x y false, true, rfl, HM9.out, HO9.out, fun _ _ _ => rfl, fun _ _ _ => rfl⟩
              · go_at_call 12
                cases hcl : cl
                · have HCn : Hid (¬ (Kp.Way E y x ∨ x = y)) := fun h => by have := HC.out.2 h; rw [hcl] at this; cases this
                  refine (add_edge HM7.out.row HO.out hn40 hxn hyn HCn.out).mono ?_
                  rintro e w8 ⟨a, v, he, ha, hv, hg8, A', Pl', hR8, hO8, hq8, hk8⟩
                  rw [he, ha, hv]
                  have HM8 : Hid (Mem w1 tb eb pb n rb A' Pl' (Kp.edge E x y true) E Pl w8) := HM7.out.topo hg8 hR8
                  have h8a := HM8.out.ed.row x hxn
                  have h8b := (HM8.out.ed.cell x hxn).at' y hyn
                  have h8f := (HM8.out.ed.cell x hxn).fr y hyn
                  have HM9 : Hid (Mem w1 tb eb pb n rb A' Pl' (Kp.edge E x y true) (Kp.edge E x y true) Pl (w8.setCell ⟨rb x, y, none⟩ (.bool true))) := HM8.out.edge hxn hyn
                  have HK : Hid (Kp.Ok n A' Pl' (Kp.edge E x y true) ∧ (Pl x < Pl y → ∀ v, v < n → Pl' v = Pl v) ∧ ∀ v, v < n → ¬ (v = x ∨ v = y ∨ (Pl y < Pl v ∧ Pl v < Pl x ∧ (Kp.Way (Kp.edge E x y true) y v ∨ Kp.Way (Kp.edge E x y true) v x))) → Pl' v = Pl v) := ⟨hO8, hq8, hk8⟩
                  have hpx := HM9.out.pv.at' x hxn
                  have hpy := HM9.out.pv.at' y hyn
                  clear he ha hv hR8 hg8 hO8 hq8 hk8 hcz1 hcl HC
                  cases hexy : E x y
                  all_goals
                    rw [hexy] at h8b
                    clear hexy
                    by_cases hlp : Pl x < Pl y
                    · have hlp2 : (Pl x : Int) < (Pl y : Int) := by omega
                      as_aux_lemma =>
                        go_upto_region 29 with fail
                        go_region
                        go_upto_region 30 with fail
                        go_region
                        go_wp2_with fail
                        go_meet
                        exact ⟨A', Pl', Kp.edge E x y true, true, rfl, HM9.out.drew.drew, HK.out.1, fun _ => HK.out.2.1 hlp, HK.out.2.2⟩
                    · have hlp2 : ¬ (Pl x : Int) < (Pl y : Int) := by omega
                      as_aux_lemma =>
                        go_upto_region 29 with fail
                        go_region
                        go_upto_region 30 with fail
                        go_region
                        go_wp2_with fail
                        go_meet
                        exact ⟨A', Pl', Kp.edge E x y true, false, rfl, HM9.out.drew.drew, HK.out.1, (fun h => by cases h), HK.out.2.2⟩
                · have HCy : Hid (Kp.Way E y x ∨ x = y) := HC.out.1 hcl
                  refine (add_cycle HM7.out.row HO.out hn40 hxn hyn HCy.out).mono ?_
                  rintro e w8 ⟨a, v, he, ha, ⟨g8, k8, c8, hv, hk8⟩, hb8⟩
                  rw [he, ha, hv]
                  have HM8 : Hid (Mem w1 tb eb pb n rb A Pl E E Pl w8) := HM7.out.below hb8
                  have h8a := HM8.out.ed.row x hxn
                  have h8b := (HM8.out.ed.cell x hxn).at' y hyn
                  have h8f := (HM8.out.ed.cell x hxn).fr y hyn
                  have HM9 : Hid (∀ c, E x y = c → Mem w1 tb eb pb n rb A Pl E E Pl (w8.setCell ⟨rb x, y, none⟩ (.bool c))) := fun c hc => by
                    have := HM8.out.edge (c := c) hxn hyn
                    rwa [edge_same hc] at this
                  clear he ha hv hb8 hcz1 hcl HC
                  cases hexy : E x y
                  all_goals
                    rw [hexy] at h8b
                    have HM10 := HM9.out _ hexy
                    have HM11 : Hid (Mem w1 tb eb pb n rb A Pl E E Pl _) := HM10
                    clear hexy HM10 HM9
                    as_aux_lemma =>
                      go_upto_region 29 with fail
                      go_region
                      go_upto_region 30 with fail
                      go_region
                      go_wp2_with fail
                      go_meet
                      exact ⟨A, Pl, E, true, rfl, HM11.out.drew.drew, HO.out, fun _ _ _ => rfl, fun _ _ _ => rfl⟩
            case rest => as_aux_lemma =>
              obtain ⟨A', Pl', E', qq, h16, hM, hO, hq, hk⟩ := hcut
              rw [h16]
              have HMc : Hid (Mem w1 tb eb pb n rb A' Pl' E' E' Pl wc) := hM
              have HOc : Hid (Kp.Ok n A' Pl' E') := hO
              have HK : Hid ((qq = true → ∀ v, v < n → Pl' v = Pl v) ∧ ∀ v, v < n → ¬ (v = x ∨ v = y ∨ (Pl y < Pl v ∧ Pl v < Pl x ∧ (Kp.Way E' y v ∨ Kp.Way E' v x))) → Pl' v = Pl v) := ⟨hq, hk⟩
              clear h16 hM hO hq hk HM7 HC hcz1 hlb
              have ko := order_any HMc.out.row hn40 hn0
              go_wp2_with (go_at_call 9; fail)
              go_at_call 9
              refine ko.mono ?_
              rintro e w9 ⟨v, he, hown, hb9⟩
              obtain ⟨g, cp, hv, hg1, hg2⟩ := own_shape hown hn0
              rw [he, hv]
              have hcl : ∀ p, p < n → w9.cell? ⟨g, p, none⟩ = some (.int .i64 (A' p)) := fun p hp => by
                rw [hv] at hown
                have h1 := hown.cells rfl p (.int .i64 (A' p)) (by rw [ints_get _ p (by simpa using hp)]; simp)
                rwa [Addr.add_mid, Nat.zero_add] at h1
              have kpl := places_any g cp w9 HOc.out hn40 hg2 hcl
              have HM9 : Hid (Mem w1 tb eb pb n rb A' Pl' E' E' Pl w9) := HMc.out.below hb9
              have hq9 : ∀ k, k < wc.heap.size → k < w9.heap.size := fun k hk => Nat.lt_of_lt_of_le hk hb9.size
              clear ko hown hcl he hv hb9 hg1 hg2
              go_wp2_with (go_at_call 8; fail)
              go_at_call 8
              refine kpl.mono ?_
              rintro e w10 ⟨qn, he, hvals, hqn, hqn2, hb10⟩
              rw [he]
              have HM10 : Hid (Mem w1 tb eb pb n rb A' Pl' E' E' Pl w10) := HM9.out.below hb10
              have HV10 : Hid (ValsAt w10 qn n fun v => .int .i64 (Pl' v)) := hvals
              have HD : Hid (qn ≠ tb ∧ qn ≠ eb ∧ ∀ u, u < n → qn ≠ rb u) := by
                have h1 := hq9 tb HMc.out.row.lt
                have h2 := hq9 eb HMc.out.ed.lt.1
                refine ⟨by omega, by omega, fun u hu => ?_⟩
                have h3 := hq9 _ (HMc.out.ed.lt.2 u hu)
                omega
              clear kpl he hvals hqn hb10 HM9 HMc hq9
              go_wp2
              go_loopg [22] n (fun gg s wx => ∃ a : Nat, a ≤ n ∧ n - a ≤ gg ∧ s = .int .i64 a ∧ Hid (Mem w1 tb eb pb n rb A' Pl' E' E' Pl wx) ∧ Hid (ValsAt wx qn n fun v => .int .i64 (Pl' v)) ∧ qn < wx.heap.size)
              case atStart => exact ⟨0, by omega, by omega, rfl, HM10, HV10, hqn2⟩
              case round => as_aux_lemma =>
                clear HM10 HV10 hqn2
                obtain ⟨a, ha, hga, h22, HMa, HVa, hqa⟩ := hrel
                rw [h22]
                clear h22
                by_cases hla : a < n
                · have hpa := HMa.out.pv.at' a hla
                  have hpx := HMa.out.pv.at' x hxn
                  have hpy := HMa.out.pv.at' y hyn
                  go_upto_region 37 with fail
                  go_cut [23] (fun s wx => NotIn s (a = x ∨ a = y ∨ (Pl y < Pl a ∧ Pl a < Pl x ∧ (Kp.Way E' y a ∨ Kp.Way E' a x))) ∧ Mem w1 tb eb pb n rb A' Pl' E' E' Pl wx ∧ ValsAt wx qn n (fun v => .int .i64 (Pl' v)) ∧ qn < wx.heap.size)
                  case first => as_aux_lemma =>
                    have HMd : Hid (Mem w1 tb eb pb n rb A' Pl' E' E' Pl wr.drew) := HMa.out.drew
                    have HVd : Hid (ValsAt wr.drew qn n fun v => .int .i64 (Pl' v)) := HVa.out.of_block rfl
                    have hlaI : (a : Int) < (n : Int) := by omega
                    have hxI : (x : Int) < (n : Int) := by omega
                    have hyI : (y : Int) < (n : Int) := by omega
                    by_cases h1 : a = x
                    · have q1 : (((a : Nat) : Int) == (x : Int)) = true := by simp [h1]
                      clear h1
                      as_aux_lemma =>
                        go_quiet (fail)
                        go_wp2_with fail
                        go_meet
                        exact ⟨⟨true, rfl, fun h => by cases h⟩, HMa.out.quiet _, HVa.out.quiet _, hqa⟩
                    · have q1 : (((a : Nat) : Int) == (x : Int)) = false := by simp; omega
                      have H1 : Hid (¬ a = x) := h1
                      clear h1
                      by_cases h2 : a = y
                      · have q2 : (((a : Nat) : Int) == (y : Int)) = true := by simp [h2]
                        clear h2
                        as_aux_lemma =>
                          go_quiet (fail)
                          go_wp2_with fail
                          go_meet
                          exact ⟨⟨true, rfl, fun h => by cases h⟩, HMa.out.quiet _, HVa.out.quiet _, hqa⟩
                      · have q2 : (((a : Nat) : Int) == (y : Int)) = false := by simp; omega
                        have H2 : Hid (¬ a = y) := h2
                        clear h2
                        by_cases h3 : Pl y < Pl a
                        · have q3 : (Pl y : Int) < (Pl a : Int) := by omega
                          clear h3
                          by_cases h4 : Pl a < Pl x
                          · have q4 : (Pl a : Int) < (Pl x : Int) := by omega
                            clear h4
                            by_cases h5 : Kp.Way E' y a
                            · have k1 := leads_yes HMd.out.ed HOc.out.dom hn40 hyn hla h5
                              clear h5
                              as_aux_lemma =>
                                first
                                  | (go_region_held (fun w' => w'.cell? ⟨pb, a, none⟩ = some (.int .i64 (Pl a)) ∧ w'.cell? ⟨pb, y, none⟩ = some (.int .i64 (Pl y)) ∧ w'.cell? ⟨pb, x, none⟩ = some (.int .i64 (Pl x))) (first | exact ⟨hpa, hpy, hpx⟩ | (refine ⟨?_, ?_, ?_⟩ <;> assumption)) (first | (go_at_call 10; (with_reducible show Calls _ _ #[_, Value.int IntKind.i64 ((y : Nat) : Int), _] _ _); refine k1.mono ?_; intro e w11 hq; rw [hq.1]; have HM11 : Hid (Mem w1 tb eb pb n rb A' Pl' E' E' Pl w11) := HMd.out.below hq.2; have HV11 : Hid (ValsAt w11 qn n fun v => .int .i64 (Pl' v)) := HVd.out.of_block (hq.2.block qn hqa); have hq11 : qn < w11.heap.size := Nat.lt_of_lt_of_le hqa hq.2.size; have s1 := HM11.out.pv.at' a hla; have s2 := HM11.out.pv.at' y hyn; have s3 := HM11.out.pv.at' x hxn; clear hq)))
                                  | fail
                                all_goals
                                  go_wp2_with fail
                                  go_meet
                                  exact ⟨⟨true, rfl, fun h => by cases h⟩, HM11.out, HV11.out, hq11⟩
                            · have k1 := leads_no HMd.out.ed HOc.out.dom hn40 hyn hla h5
                              have H5 : Hid (¬ Kp.Way E' y a) := h5
                              clear h5
                              by_cases h6 : Kp.Way E' a x
                              · have H6 : Hid (Kp.Way E' a x) := h6
                                clear h6
                                as_aux_lemma =>
                                  go_region_held3 (fun w' => w'.cell? ⟨pb, a, none⟩ = some (.int .i64 (Pl a)) ∧ w'.cell? ⟨pb, y, none⟩ = some (.int .i64 (Pl y)) ∧ w'.cell? ⟨pb, x, none⟩ = some (.int .i64 (Pl x))) (first | exact ⟨hpa, hpy, hpx⟩ | (refine ⟨?_, ?_, ?_⟩ <;> assumption))
                                    (first | (go_at_call 10; (with_reducible show Calls _ _ #[_, Value.int IntKind.i64 ((y : Nat) : Int), _] _ _); refine k1.mono ?_; intro e w11 hq; rw [hq.1]; have HM11 : Hid (Mem w1 tb eb pb n rb A' Pl' E' E' Pl w11) := HMd.out.below hq.2; have HV11 : Hid (ValsAt w11 qn n fun v => .int .i64 (Pl' v)) := HVd.out.of_block (hq.2.block qn hqa); have hq11 : qn < w11.heap.size := Nat.lt_of_lt_of_le hqa hq.2.size; have s1 := HM11.out.pv.at' a hla; have s2 := HM11.out.pv.at' y hyn; have s3 := HM11.out.pv.at' x hxn; clear hq) | (go_at_call 10; (with_reducible show Calls _ _ #[_, Value.int IntKind.i64 ((a : Nat) : Int), _] _ _); refine (leads_yes HM11.out.ed HOc.out.dom hn40 hla hxn H6.out).mono ?_; intro e w12 hq; rw [hq.1]; have HM12 : Hid (Mem w1 tb eb pb n rb A' Pl' E' E' Pl w12) := HM11.out.below hq.2; have HV12 : Hid (ValsAt w12 qn n fun v => .int .i64 (Pl' v)) := HV11.out.of_block (hq.2.block qn hq11); have hq12 : qn < w12.heap.size := Nat.lt_of_lt_of_le hq11 hq.2.size; have s4 := HM12.out.pv.at' a hla; have s5 := HM12.out.pv.at' y hyn; have s6 := HM12.out.pv.at' x hxn; clear hq))
                                  go_wp2_with fail
                                  go_meet
                                  exact ⟨⟨true, rfl, fun h => by cases h⟩, HM12.out, HV12.out, hq12⟩
                              · have H6 : Hid (¬ Kp.Way E' a x) := h6
                                clear h6
                                as_aux_lemma =>
                                  go_region_held3 (fun w' => w'.cell? ⟨pb, a, none⟩ = some (.int .i64 (Pl a)) ∧ w'.cell? ⟨pb, y, none⟩ = some (.int .i64 (Pl y)) ∧ w'.cell? ⟨pb, x, none⟩ = some (.int .i64 (Pl x))) (first | exact ⟨hpa, hpy, hpx⟩ | (refine ⟨?_, ?_, ?_⟩ <;> assumption))
                                    (first | (go_at_call 10; (with_reducible show Calls _ _ #[_, Value.int IntKind.i64 ((y : Nat) : Int), _] _ _); refine k1.mono ?_; intro e w11 hq; rw [hq.1]; have HM11 : Hid (Mem w1 tb eb pb n rb A' Pl' E' E' Pl w11) := HMd.out.below hq.2; have HV11 : Hid (ValsAt w11 qn n fun v => .int .i64 (Pl' v)) := HVd.out.of_block (hq.2.block qn hqa); have hq11 : qn < w11.heap.size := Nat.lt_of_lt_of_le hqa hq.2.size; have s1 := HM11.out.pv.at' a hla; have s2 := HM11.out.pv.at' y hyn; have s3 := HM11.out.pv.at' x hxn; clear hq) | (go_at_call 10; (with_reducible show Calls _ _ #[_, Value.int IntKind.i64 ((a : Nat) : Int), _] _ _); refine (leads_no HM11.out.ed HOc.out.dom hn40 hla hxn H6.out).mono ?_; intro e w12 hq; rw [hq.1]; have HM12 : Hid (Mem w1 tb eb pb n rb A' Pl' E' E' Pl w12) := HM11.out.below hq.2; have HV12 : Hid (ValsAt w12 qn n fun v => .int .i64 (Pl' v)) := HV11.out.of_block (hq.2.block qn hq11); have hq12 : qn < w12.heap.size := Nat.lt_of_lt_of_le hq11 hq.2.size; have s4 := HM12.out.pv.at' a hla; have s5 := HM12.out.pv.at' y hyn; have s6 := HM12.out.pv.at' x hxn; clear hq))
                                  go_wp2_with fail
                                  go_meet
                                  exact ⟨⟨false, rfl, fun _ h => by rcases h with h | h | ⟨_, _, h | h⟩; exact H1.out h; exact H2.out h; exact H5.out h; exact H6.out h⟩, HM12.out, HV12.out, hq12⟩
                          · have q4 : decide ((Pl a : Int) < (Pl x : Int)) = false := by simp; omega
                            have q4e : ((Pl a : Int) < (Pl x : Int)) = False := by simp; omega
                            have q3b : decide ((Pl y : Int) < (Pl a : Int)) = true := by simp; omega
                            have H4 : Hid (¬ Pl a < Pl x) := h4
                            clear h4
                            as_aux_lemma =>
                              go_quiet (fail)
                              go_wp2_with fail
                              go_meet
                              exact ⟨⟨false, rfl, fun _ h => by rcases h with h | h | ⟨_, h, _⟩; exact H1.out h; exact H2.out h; exact H4.out h⟩, HMa.out.quiet _, HVa.out.quiet _, hqa⟩
                        · have q3 : decide ((Pl y : Int) < (Pl a : Int)) = false := by simp; omega
                          have q3d : decide ((Pl a : Int) > (Pl y : Int)) = false := by simp; omega
                          have q3e : ((Pl y : Int) < (Pl a : Int)) = False := by simp; omega
                          have H3 : Hid (¬ Pl y < Pl a) := h3
                          clear h3
                          as_aux_lemma =>
                            go_quiet (fail)
                            go_wp2_with fail
                            go_meet
                            exact ⟨⟨false, rfl, fun _ h => by rcases h with h | h | ⟨h, _⟩; exact H1.out h; exact H2.out h; exact H3.out h⟩, HMa.out.quiet _, HVa.out.quiet _, hqa⟩
                  case rest => as_aux_lemma =>
                    obtain ⟨⟨ib, h23, hib⟩, hMc, hVc, hqc⟩ := hcut
                    rw [h23]
                    have HKa : Hid ((qq = true → Pl' a = Pl a) ∧ (ib = false → Pl' a = Pl a)) := ⟨fun h => HK.out.1 h a hla, fun h => HK.out.2 a hla (hib h)⟩
                    have HMc : Hid (Mem w1 tb eb pb n rb A' Pl' E' E' Pl wc) := hMc
                    have HVc : Hid (ValsAt wc qn n fun v => .int .i64 (Pl' v)) := hVc
                    clear h23 hib hMc hVc hpa hpx hpy HMa HVa hqa
                    have hra := HMc.out.pv.at' a hla
                    have hrq := HVc.out.at' a hla
                    go_upto_region 38 with fail
                    go_cut [16, 23, 242] (fun s _ z wx => s = .bool qq ∧ z = .bool false ∧ Mem w1 tb eb pb n rb A' Pl' E' E' Pl wx ∧ ValsAt wx qn n (fun v => .int .i64 (Pl' v)) ∧ qn < wx.heap.size)
                    case first => as_aux_lemma =>
                      have HMd : Hid (Mem w1 tb eb pb n rb A' Pl' E' E' Pl wc.drew) := HMc.out.drew
                      have HVd : Hid (ValsAt wc.drew qn n fun v => .int .i64 (Pl' v)) := HVc.out.of_block rfl
                      have hlaI : (a : Int) < (n : Int) := by omega
                      cases hqq : qq
                      · cases hii : ib
                        · have he := HKa.out.2 hii
                          rw [he] at hrq
                          have hne : (((Pl a : Nat) : Int) != (Pl a : Int)) = false := by simp
                          have HQQ : Hid (qq = false) := hqq
                          clear he hqq hii
                          as_aux_lemma =>
                            go_quiet (fail)
                            go_wp2_with fail
                            go_meet
                            exact ⟨by rw [HQQ.out], rfl, HMc.out.quiet _, HVc.out.quiet _, hqc⟩
                        · have HQQ : Hid (qq = false) := hqq
                          clear hqq hii
                          as_aux_lemma =>
                            go_quiet (fail)
                            go_wp2_with fail
                            go_meet
                            exact ⟨by rw [HQQ.out], rfl, HMc.out.quiet _, HVc.out.quiet _, hqc⟩
                      · have he := HKa.out.1 hqq
                        rw [he] at hrq
                        have hne : (((Pl a : Nat) : Int) != (Pl a : Int)) = false := by simp
                        have HQQ : Hid (qq = true) := hqq
                        clear he hqq
                        as_aux_lemma =>
                          go_quiet (fail)
                          go_wp2_with fail
                          go_meet
                          exact ⟨by rw [HQQ.out], rfl, HMc.out.quiet _, HVc.out.quiet _, hqc⟩
                    case rest => as_aux_lemma =>
                      obtain ⟨h16, h242, hM13, hV13, hq13⟩ := hcut
                      rw [h16, h242]
                      have HMd : Hid (Mem w1 tb eb pb n rb A' Pl' E' E' Pl wc) := hM13
                      have HVd : Hid (ValsAt wc qn n fun v => .int .i64 (Pl' v)) := hV13
                      clear h16 h242 hra hrq hqc hM13 hV13
                      go_wp2
                      go_loopg [24] n (fun gg s wx => ∃ z : Nat, z ≤ n ∧ n - z ≤ gg ∧ s = .int .i64 z ∧ Hid (Mem w1 tb eb pb n rb A' Pl' E' E' Pl wx) ∧ Hid (ValsAt wx qn n fun v => .int .i64 (Pl' v)) ∧ qn < wx.heap.size)
                      case atStart => exact ⟨0, by omega, by omega, rfl, HMd, HVd, hq13⟩
                      case round => as_aux_lemma =>
                        clear HMd HVd hq13
                        obtain ⟨z, hz, hgz, h24, HMz, HVz, hqz⟩ := hrel
                        rw [h24]
                        clear h24
                        by_cases hlz : z < n
                        · have t1 := HMz.out.ed.row a hla
                          have t2 := (HMz.out.ed.cell a hla).at' z hlz
                          have t3 := HVz.out.at' a hla
                          have t4 := HVz.out.at' z hlz
                          have HMe : Hid (Mem w1 tb eb pb n rb A' Pl' E' E' Pl wr.drew) := HMz.out.drew
                          have HVe : Hid (ValsAt wr.drew qn n fun v => .int .i64 (Pl' v)) := HVz.out.of_block rfl
                          cases he : E' a z
                          · rw [he] at t2
                            clear he
                            as_aux_lemma =>
                              go_upto_region 43 with fail
                              go_region
                              go_wp2
                              go_roundg (n - (z + 1))
                              case measure => omega
                              case rel => exact ⟨z + 1, by omega, by omega, by go_num, HMe, HVe, hqz⟩
                          · rw [he] at t2
                            have hfw := HOc.out.fwd a z he
                            have hfw2 : ¬ (Pl' z : Int) ≤ (Pl' a : Int) := by omega
                            clear he
                            as_aux_lemma =>
                              go_upto_region 43 with fail
                              go_region
                              go_wp2
                              go_roundg (n - (z + 1))
                              case measure => omega
                              case rel => exact ⟨z + 1, by omega, by omega, by go_num, HMe, HVe, hqz⟩
                        · go_wp2
                          go_roundg (n - (a + 1))
                          case measure => omega
                          case rel => exact ⟨a + 1, by omega, by omega, by go_num, HMz, HVz, hqz⟩
                · go_wp2
                  rw [← hla0.out]
                  go_roundg (m - (i + 1))
                  case measure => omega
                  case rel => exact ⟨i + 1, qn, A', Pl', E', by omega, by omega, rfl, by go_num, HMa.out.places HVa.out hqa HD.out.1 HD.out.2.1 HD.out.2.2, HOc⟩
        · go_wp2
          go_ret
          exact ⟨rfl, HM.out.old⟩

end Go.Proofs.Ytelmkfkgpnadnaa
