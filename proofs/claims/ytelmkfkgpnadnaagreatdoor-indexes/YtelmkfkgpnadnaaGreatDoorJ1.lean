/-
  The program's reading of a line of an index: where it has a slip of a kind.
-/
import Derived.Test.YtelmkfkgpnadnaaGreatDoorB1
import Derived.Test.YtelmkfkgpnadnaaGreatDoorIA
namespace Go.Proofs.YtelmkfkgpnadnaaGreatDoor
open Go.RowKit

variable {w w' : World}

/-- A reader of an index in memory. -/
def RdAt (W : World) (rp sp : Nat) : Prop :=
  W.cell? ⟨rp, 0, none⟩ = some (.func (.func 165) #[] #[]) ∧ W.cell? ⟨rp, 1, none⟩ = some (.string ⟨#[]⟩) ∧ W.cell? ⟨rp, 2, none⟩ = some (.int .i64 sp) ∧ W.cell? ⟨rp, 3, none⟩ = some (.int .i64 0)

theorem RdAt.below {rp sp : Nat} (h : RdAt w rp sp) (hb : Below w.heap.size w w') : RdAt w' rp sp := by
  have h1 := World.block_lt_of_cell? w _ h.1
  exact ⟨by rw [hb.cell (p := ⟨rp, 0, none⟩) h1]; exact h.1, by rw [hb.cell (p := ⟨rp, 1, none⟩) h1]; exact h.2.1, by rw [hb.cell (p := ⟨rp, 2, none⟩) h1]; exact h.2.2.1, by rw [hb.cell (p := ⟨rp, 3, none⟩) h1]; exact h.2.2.2⟩

/-- The first word in its box. -/
def BoxAt (W : World) (b a0 : Nat) (x0 : ByteArray) : Prop := W.cell? ⟨b, 0, none⟩ = some (.int .i64 a0) ∧ W.cell? ⟨b, 1, none⟩ = some (.string x0)

theorem BoxAt.below {b a0 : Nat} {x0 : ByteArray} (h : BoxAt w b a0 x0) (hb : Below w.heap.size w w') : BoxAt w' b a0 x0 := by
  have h1 := World.block_lt_of_cell? w _ h.1
  exact ⟨by rw [hb.cell (p := ⟨b, 0, none⟩) h1]; exact h.1, by rw [hb.cell (p := ⟨b, 1, none⟩) h1]; exact h.2⟩

theorem below_drewN {B q : Nat} {a : World} (h : Below B a w) : Below B a (w.drewN q) := ⟨h.os, h.tape, h.output, h.size, h.block⟩

theorem box_new (W : World) (a0 : Nat) (x0 : ByteArray) (t : TypeId) : BoxAt (W.alloc (.cells #[.int .i64 a0, .string x0] t)) W.heap.size a0 x0 := by
  have b0 := block_new W (.cells #[.int .i64 a0, .string x0] t)
  exact ⟨by simp only [World.cell?, b0]; rfl, by simp only [World.cell?, b0]; rfl⟩

set_option maxRecDepth 100000 in
set_option maxHeartbeats 4000000 in
theorem slipAt_word (rp sp wb n wc k a0 : Nat) (x0 : ByteArray) (w : World) (hn : 0 < n) (hr : RdAt w rp sp) (hw : BoxAt w wb a0 x0) (hx : (x0.toList == [118, 101, 114, 115, 105, 111, 110]) = false) (hk : k = 2 ∨ k = 3) :
    Calls Tryz.prog 124 #[.pointer (some ⟨rp, 0, none⟩), .int .i64 k, .slice (some ⟨wb, 0, none⟩) n wc] w fun e w' => e = .returned (.int .i64 (if k = 2 then -1 else (a0 : Int))) ∧ Below w.heap.size w w' := by
  have hnI : (0 : Int) < (n : Int) := by omega
  have hc : ∀ (args : Array Value) (w : World), (callFunc 165 args).run Tryz.prog w = .ok (.enter 165 args) w := fun _ _ => by kernel_rfl
  have kI : ∀ W, _ := fun W => indexShape_no x0 W hx
  have HR : Hid (RdAt w rp sp) := hr
  obtain ⟨c0, c1⟩ := hw
  clear hr
  go_enter Tryz.func124, Tryz.ntmps124
  go_upto_region 2 with fail
  have HB1 : Hid (Below w.heap.size w (w.alloc (.cells #[.int .i64 a0, .string x0] 274))) := (Below.refl _ _).alloc (Nat.le_refl _) _
  have HR1 : Hid (RdAt (w.alloc (.cells #[.int .i64 a0, .string x0] 274)) rp sp) := HR.out.below HB1.out
  have HX1 : Hid (BoxAt (w.alloc (.cells #[.int .i64 a0, .string x0] 274)) w.heap.size a0 x0) := box_new w a0 x0 274
  clear c0 c1
  generalize w.alloc (.cells #[.int .i64 a0, .string x0] 274) = W1 at *
  obtain ⟨b0, b2, b3, b4⟩ := HR1.out
  obtain ⟨b5, b1⟩ := HX1.out
  go_region_held3 (fun w' => w'.cell? ⟨rp, 0, none⟩ = some (.func (.func 165) #[] #[]) ∧ w'.cell? ⟨w.heap.size, 1, none⟩ = some (.string x0))
      (first | exact ⟨b0, b1⟩)
      (first | (go_at_call 165; refine (kI _).mono ?_; rintro e w2 ⟨rfl, rfl⟩))
  all_goals
    rcases hk with rfl | rfl
    · go_upto_region 6 with fail
      go_quiet (fail)
      go_wp2
      go_ret
      exact ⟨rfl, below_drewN HB1.out⟩
    · go_wp2
      go_ret
      exact ⟨rfl, HB1.out.drew⟩

theorem kat_new (W : World) : KAt (W.alloc (.cells #[.int .i64 6] 3)) W.heap.size [6] := by
  have b0 := block_new W (.cells #[.int .i64 6] 3)
  refine ⟨by simp, fun j hj => ?_⟩
  have e : j = 0 := by simp at hj; exact hj
  subst e
  simp only [World.cell?, b0]; rfl

/-- What a line's slip of a kind is, where its first word is 'version'. -/
def Asks (w : World) (wb n wc k : Nat) (z : Int) : Prop :=
  (k = 2 ∧ z = -1) ∨ (k = 3 ∧ z = -1) ∨ (k = 9 ∧ z = -1) ∨
  (k = 4 ∧ ∀ W p, Below w.heap.size w W → Calls Tryz.prog 171 #[.slice (some ⟨p, 0, none⟩) 1 1, .slice (some ⟨wb, 0, none⟩) n wc] W fun e w' => e = .returned (.int .i64 z) ∧ Below W.heap.size W w') ∨
  ((k = 5 ∨ k = 6 ∨ k = 7) ∧ n = 2 ∧ 2 ≤ wc ∧ ∀ W p, Below w.heap.size w W → KAt W p [6] → Calls Tryz.prog 172 #[.int .i64 k, .slice (some ⟨p, 0, none⟩) 1 1, .slice (some ⟨wb, 2, none⟩) 1 (wc - 1)] W fun e w' => e = .returned (.int .i64 z) ∧ Below W.heap.size W w')

set_option maxRecDepth 100000 in
set_option maxHeartbeats 4000000 in
theorem slipAt_known (rp sp wb n wc k a0 : Nat) (z : Int) (w : World) (hn : 0 < n) (hr : RdAt w rp sp) (hw : BoxAt w wb a0 ⟨#[118, 101, 114, 115, 105, 111, 110]⟩) (hk : Asks w wb n wc k z) :
    Calls Tryz.prog 124 #[.pointer (some ⟨rp, 0, none⟩), .int .i64 k, .slice (some ⟨wb, 0, none⟩) n wc] w fun e w' => e = .returned (.int .i64 z) ∧ Below w.heap.size w w' := by
  have HK : Hid (Asks w wb n wc k z) := hk
  clear hk
  have hnI : (0 : Int) < (n : Int) := by omega
  have hc : ∀ (args : Array Value) (w : World), (callFunc 165 args).run Tryz.prog w = .ok (.enter 165 args) w := fun _ _ => by kernel_rfl
  have kI : ∀ W, _ := fun W => indexShape_yes W
  have HR : Hid (RdAt w rp sp) := hr
  obtain ⟨c0, c1⟩ := hw
  clear hr
  go_enter Tryz.func124, Tryz.ntmps124
  go_upto_region 2 with fail
  have HB1 : Hid (Below w.heap.size w (w.alloc (.cells #[.int .i64 a0, .string ⟨#[118, 101, 114, 115, 105, 111, 110]⟩] 274))) := (Below.refl _ _).alloc (Nat.le_refl _) _
  have HR1 : Hid (RdAt (w.alloc (.cells #[.int .i64 a0, .string ⟨#[118, 101, 114, 115, 105, 111, 110]⟩] 274)) rp sp) := HR.out.below HB1.out
  have HX1 : Hid (BoxAt (w.alloc (.cells #[.int .i64 a0, .string ⟨#[118, 101, 114, 115, 105, 111, 110]⟩] 274)) w.heap.size a0 ⟨#[118, 101, 114, 115, 105, 111, 110]⟩) := box_new w a0 ⟨#[118, 101, 114, 115, 105, 111, 110]⟩ 274
  clear c0 c1
  generalize w.alloc (.cells #[.int .i64 a0, .string ⟨#[118, 101, 114, 115, 105, 111, 110]⟩] 274) = W1 at *
  obtain ⟨b0, b2, b3, b4⟩ := HR1.out
  obtain ⟨b5, b1⟩ := HX1.out
  have HA1 : ∀ W, Below W1.heap.size W1 W → RdAt W rp sp ∧ BoxAt W w.heap.size a0 ⟨#[118, 101, 114, 115, 105, 111, 110]⟩ := fun W hb => ⟨HR1.out.below hb, HX1.out.below hb⟩
  have hbA : Below W1.heap.size W1 (W1.alloc (.cells #[.int .i64 6] 3)).drew := (below_alloc (Below.refl _ _) _).drew
  have HKA : Hid (KAt (W1.alloc (.cells #[.int .i64 6] 3)).drew W1.heap.size [6]) := kat_new W1
  obtain ⟨⟨d0, d2, d3, d4⟩, d5, d1⟩ := HA1 _ hbA
  have HBA : Hid (Below w.heap.size w (W1.alloc (.cells #[.int .i64 6] 3)).drew) := HB1.out.trans (hbA.mono HB1.out.size)
  clear HA1 hbA
  go_region_held3 (fun w' => w'.cell? ⟨rp, 0, none⟩ = some (.func (.func 165) #[] #[]) ∧ w'.cell? ⟨w.heap.size, 1, none⟩ = some (.string ⟨#[118, 101, 114, 115, 105, 111, 110]⟩))
      (first | exact ⟨b0, b1⟩ | exact ⟨d0, d1⟩)
      (first | (go_at_call 165; refine (kI _).mono ?_; rintro e w2 ⟨rfl, rfl⟩))
  all_goals
    clear b0 b1 b2 b3 b4 b5
    generalize (W1.alloc (.cells #[.int .i64 6] 3)).drew = W2 at *
    rcases HK.out with ⟨rfl, rfl⟩ | ⟨rfl, rfl⟩ | ⟨rfl, rfl⟩ | ⟨rfl, km⟩ | ⟨hk, rfl, hwc, km⟩
    · go_upto_region 6 with fail
      go_quiet (fail)
      go_wp2
      go_ret
      exact ⟨rfl, below_drewN HBA.out⟩
    · go_wp2
      go_ret
      exact ⟨rfl, HBA.out⟩
    · go_wp2
      go_ret
      exact ⟨rfl, HBA.out⟩
    · have km := fun p => km W2 p HBA.out
      go_wp2_with (go_at_call 171; fail)
      go_at_call 171
      refine (km _).mono ?_
      rintro e w3 ⟨rfl, hb⟩
      have HB3 : Hid (Below w.heap.size w w3) := HBA.out.trans (hb.mono HBA.out.size)
      clear hb km
      go_wp2
      go_ret
      exact ⟨rfl, HB3.out⟩
    · have km := km W2 _ HBA.out HKA.out
      rcases hk with rfl | rfl | rfl
      all_goals
        first
          | rw [show ((5 : Nat) : Int) = 5 from rfl] at km
          | rw [show ((6 : Nat) : Int) = 6 from rfl] at km
          | rw [show ((7 : Nat) : Int) = 7 from rfl] at km
        go_wp2_with (go_at_call 172; fail)
        go_at_call 172
        refine km.mono ?_
        rintro e w3 ⟨rfl, hb⟩
        have HB3 : Hid (Below w.heap.size w w3) := HBA.out.trans (hb.mono HBA.out.size)
        clear hb km
        go_wp2
        go_ret
        exact ⟨rfl, HB3.out⟩

end Go.Proofs.YtelmkfkgpnadnaaGreatDoor
