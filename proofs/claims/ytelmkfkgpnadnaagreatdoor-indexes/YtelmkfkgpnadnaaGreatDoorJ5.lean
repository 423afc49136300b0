/-
  The program's reading of a line of an index: was it said before?
-/
import Derived.Test.YtelmkfkgpnadnaaGreatDoorJ4
namespace Go.Proofs.YtelmkfkgpnadnaaGreatDoor
open Go.RowKit

variable {w w' : World}

theorem zero3z (w : World) : (zeroValue 3).run Tryz.prog w = .ok (.int .i64 0) w := by kernel_rfl

set_option maxRecDepth 100000 in
set_option maxHeartbeats 4000000 in
theorem slipAt_twice (rp sp wb wc a0 mb mn : Nat) (v : ByteArray) (vs : List ByteArray) (w : World) (hv : v.size ≤ 2000) (hm : w.cell? ⟨rp, 4, none⟩ = some (.map (some mb))) (hS : SaidAt w mb mn vs) (h3 : w.cell? ⟨wb, 3, none⟩ = some (.string v)) (hr : RdAt w rp sp) (hw : BoxAt w wb a0 ⟨#[118, 101, 114, 115, 105, 111, 110]⟩) :
    Calls Tryz.prog 124 #[.pointer (some ⟨rp, 0, none⟩), .int .i64 8, .slice (some ⟨wb, 0, none⟩) 2 wc] w fun e w' => e = .returned (.int .i64 (if vs.any (fun x => decide (x = v)) then (a0 : Int) else -1)) ∧ Below w.heap.size w w' := by
  obtain ⟨l, hl⟩ := claimKey_has v (by unfold maxLen; omega)
  obtain ⟨D, hown, _, hhas⟩ := hS
  have HD : Hid (Maps.has D l = vs.any (fun x => decide (x = v))) := hhas v l hl
  clear hhas
  generalize vs.any (fun x => decide (x = v)) = dd at HD ⊢
  have HO : Hid (∃ es clock, w.heap[mb]? = some (.map es clock)) := by obtain ⟨es, cl, h, _⟩ := hown; exact ⟨es, cl, h⟩
  have hmb : mb < w.heap.size := by
    obtain ⟨es, cl, h⟩ := HO.out
    exact (Array.getElem?_eq_some_iff.1 h).1
  have HOw : Hid (∀ W, Below w.heap.size w W → W.ownsMap Tryz.prog 280 (plainElem Tryz.prog 3) mb mn D) := fun W hb => by
    obtain ⟨es, cl, h, rest⟩ := hown
    exact ⟨es, cl, (hb.block mb hmb).trans h, rest⟩
  have hrl := World.block_lt_of_cell? w _ hm
  have hwl := World.block_lt_of_cell? w _ h3
  have HM4 : Hid (∀ W, Below w.heap.size w W → W.cell? ⟨rp, 4, none⟩ = some (.map (some mb)) ∧ W.cell? ⟨wb, 3, none⟩ = some (.string v) ∧ W.cell? ⟨wb, 1, none⟩ = some (.string ⟨#[118, 101, 114, 115, 105, 111, 110]⟩)) := fun W hb => ⟨by rw [hb.cell (p := ⟨rp, 4, none⟩) hrl]; exact hm, by rw [hb.cell (p := ⟨wb, 3, none⟩) hwl]; exact h3, by rw [hb.cell (p := ⟨wb, 1, none⟩) hwl]; exact hw.2⟩
  have HL : Hid (ClaimKey v l) := hl
  clear hm h3 hown hl HO
  have hc : ∀ (args : Array Value) (w : World), (callFunc 165 args).run Tryz.prog w = .ok (.enter 165 args) w := fun _ _ => by kernel_rfl
  have kI : ∀ W, _ := fun W => indexShape_yes W
  have HR : Hid (RdAt w rp sp) := hr
  obtain ⟨c0, c1⟩ := hw
  clear hr
  go_enter Tryz.func124, Tryz.ntmps124
  go_upto_region 2 with fail
  have HB1 : Hid (Below w.heap.size w (w.alloc (.cells #[.int .i64 a0, .string ⟨#[118, 101, 114, 115, 105, 111, 110]⟩] 274))) := (Below.refl _ _).alloc (Nat.le_refl _) _
  have HR1 : Hid (RdAt (w.alloc (.cells #[.int .i64 a0, .string ⟨#[118, 101, 114, 115, 105, 111, 110]⟩] 274)) rp sp) := HR.out.below HB1.out
  have HX1 : Hid (BoxAt (w.alloc (.cells #[.int .i64 a0, .string ⟨#[118, 101, 114, 115, 105, 111, 110]⟩] 274)) w.heap.size a0 ⟨#[118, 101, 114, 115, 105, 111, 110]⟩) := box_new w a0 ⟨#[118, 101, 114, 115, 105, 111, 110]⟩ 274
  clear c0 c1
  generalize w.alloc (.cells #[.int .i64 a0, .string ⟨#[118, 101, 114, 115, 105, 111, 110]⟩] 274) = W1 at *
  obtain ⟨b0, b2, b3, b4⟩ := HR1.out
  obtain ⟨b5, b1⟩ := HX1.out
  have HA1 : ∀ W, Below W1.heap.size W1 W → RdAt W rp sp ∧ BoxAt W w.heap.size a0 ⟨#[118, 101, 114, 115, 105, 111, 110]⟩ := fun W hb => ⟨HR1.out.below hb, HX1.out.below hb⟩
  have hbA : Below W1.heap.size W1 (W1.alloc (.cells #[.int .i64 6] 3)).drew := (below_alloc (Below.refl _ _) _).drew
  have HKA : Hid (KAt (W1.alloc (.cells #[.int .i64 6] 3)).drew W1.heap.size [6]) := kat_new W1
  obtain ⟨⟨d0, d2, d3, d4⟩, d5, d1⟩ := HA1 _ hbA
  have HBA : Hid (Below w.heap.size w (W1.alloc (.cells #[.int .i64 6] 3)).drew) := HB1.out.trans (hbA.mono HB1.out.size)
  clear HA1 hbA
  go_region_held3 (fun w' => w'.cell? ⟨rp, 0, none⟩ = some (.func (.func 165) #[] #[]) ∧ w'.cell? ⟨w.heap.size, 1, none⟩ = some (.string ⟨#[118, 101, 114, 115, 105, 111, 110]⟩))
      (first | exact ⟨b0, b1⟩ | exact ⟨d0, d1⟩)
      (first | (go_at_call 165; refine (kI _).mono ?_; rintro e w2 ⟨rfl, rfl⟩))
  all_goals
    clear b0 b1 b2 b3 b4 b5
    obtain ⟨e4, e5, e6⟩ := HM4.out _ HBA.out
    have hsz : Below (W1.alloc (.cells #[.int .i64 6] 3)).drew.heap.size (W1.alloc (.cells #[.int .i64 6] 3)).drew (W1.alloc (.cells #[.int .i64 6] 3)).drew := Below.refl _ _
    generalize (W1.alloc (.cells #[.int .i64 6] 3)).drew = W2 at *
    go_upto_region 16 with fail
    have HBd : Hid (∀ W, Below W2.heap.size W2 W → Below w.heap.size w W) := fun W hb => HBA.out.trans (hb.mono HBA.out.size)
    have ks : ∀ W, Below W2.heap.size W2 W → Calls Tryz.prog 173 #[.slice (some ⟨W1.heap.size, 0, none⟩) 1 1, .slice (some ⟨wb, 0, none⟩) 2 wc] W fun e w' => e = .returned (.agg #[.string ⟨#[118, 101, 114, 115, 105, 111, 110]⟩, .string ⟨#[]⟩, .string v, .string ⟨#[]⟩]) ∧ Below W.heap.size W w' := fun W hb => by
      obtain ⟨f4, f5, f6⟩ := HM4.out W (HBd.out W hb)
      have hka := HKA.out.below hb
      exact statement_version W1.heap.size wb 0 2 wc _ v W (by omega) (by omega) hka.1 (World.block_lt_of_cell? W _ f5) (hka.2 0 (by simp)) f6 f5
    have kc : ∀ W, Calls Tryz.prog 174 #[.agg #[.string ⟨#[118, 101, 114, 115, 105, 111, 110]⟩, .string ⟨#[]⟩, .string v, .string ⟨#[]⟩]] W fun e w' => e = .returned (.agg #[.string ⟨#[118, 101, 114, 115, 105, 111, 110]⟩, .string ⟨#[]⟩, .string v]) ∧ Below W.heap.size W w' := fun W => claim_other _ _ v _ W (by kernel_rfl)
    have hown2 : ∀ W, Below W2.heap.size W2 W → W.ownsMap Tryz.prog 280 (plainElem Tryz.prog 3) mb mn D := fun W hb => HOw.out W (HBd.out W hb)
    have klook : ∀ W, Below W2.heap.size W2 W → ∃ c : Int, (Instr.lookup 148 (.map (some mb)) (.agg #[.string ⟨#[118, 101, 114, 115, 105, 111, 110]⟩, .string ⟨#[]⟩, .string v]) true).run Tryz.prog W = .ok (.tuple #[.int .i64 c, .bool (Maps.has D l)]) W := fun W hb => by
      obtain ⟨v0, ps, hrun, hv0⟩ := (hown2 W hb).look_ok keyed252 Tryz.underlying148 (zero3z W) (plainElem_int Tryz.underlying3 (by decide)) HL.out
      obtain ⟨c, rfl, _, _⟩ := plainElem_int_inv Tryz.underlying3 hv0
      exact ⟨c, hrun⟩
    have hcell : ∀ W, Below W2.heap.size W2 W → W.cell? ⟨rp, 4, none⟩ = some (.map (some mb)) := fun W hb => (HM4.out W (HBd.out W hb)).1
    clear HM4 e5 e6 kI HOw hown2
    go_region_held3 (fun w' => w'.cell? ⟨rp, 4, none⟩ = some (.map (some mb)))
        (first | exact e4 | exact hcell _ hbB | exact hcell _ hbA | exact hcell _ ((Below.refl _ _).drew))
        (first
          | (go_at_call 173; refine (ks _ ((Below.refl _ _).drew)).mono ?_; rintro e w3 ⟨rfl, hb3⟩; have hbA : Below W2.heap.size W2 w3 := (Below.refl W2.heap.size W2).drew.trans hb3; clear hb3)
          | (go_at_call 174; refine (kc _).mono ?_; rintro e w4 ⟨rfl, hb4⟩; have hbB : Below W2.heap.size W2 w4 := hbA.trans (hb4.mono hbA.size); obtain ⟨cL, hrun⟩ := klook _ hbB; clear hb4))
    all_goals
      have d6 : w4.cell? ⟨w.heap.size, 0, none⟩ = some (.int .i64 a0) := by
        rw [hbB.cell (p := ⟨w.heap.size, 0, none⟩) (World.block_lt_of_cell? W2 _ d5)]; exact d5
      have HE : Hid (Below w.heap.size w w4) := HBd.out _ hbB
      clear klook hcell ks kc d0 d1 d2 d3 d4 d5 hrun hbA hbB e4
      rw [HD.out]
      clear HD
      cases dd
      · go_wp2
        go_ret
        exact ⟨rfl, HE.out⟩
      · go_wp2
        go_ret
        exact ⟨rfl, HE.out⟩

end Go.Proofs.YtelmkfkgpnadnaaGreatDoor
