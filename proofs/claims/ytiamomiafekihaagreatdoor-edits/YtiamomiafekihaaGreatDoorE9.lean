/-
  Edits: the program's shelf: a text is laid down.
-/
import Derived.Test.YtiamomiafekihaaGreatDoorE7
import Derived.Test.YtiamomiafekihaaGreatDoorE8
import Derived.Deep.RegionHeld3
import Derived.Deep.RegionLaw
namespace Go.Proofs.YtiamomiafekihaaGreatDoor
open Go.RowKit
namespace Ed

variable {w w' : World} {sb mb rev : Nat} {L : List (Value × Value)}

theorem Good.perm {L L' : List (Value × Value)} (h : Good L) (e : L.Perm L') : Good L' := fun x hx => h x (e.mem_iff.2 hx)
theorem Good.tail {x : Value × Value} {L : List (Value × Value)} (h : Good (x :: L)) : Good L := fun y hy => h y (List.mem_cons_of_mem _ hy)
theorem Good.cons {L : List (Value × Value)} (h : Good L) (k : Int) (p v s : ByteArray) : Good ((plc k p v, txt s) :: L) := fun y hy => by
  rcases List.mem_cons.1 hy with rfl | hy
  · exact ⟨_, _, _, _, rfl⟩
  · exact h y hy

theorem turned_below {b : Nat} (h : w.mapTurned w' b) : Turn (fun x => x = b) w w' :=
  have hg := h.grown
  ⟨hg.os, hg.tape, hg.output, hg.size, fun i hi hne => hg.block i hi (fun e => hne (by injection e))⟩

/-- A store into the map. -/
theorem ShelfAt.stored {s : ByteArray} {most : Nat} {r : Int} {d : Nat} {L' : List (Value × Value)} {k : Int} {p v : ByteArray} (h : ShelfAt w sb mb rev L) (hS : PutSpec L (plc k p v) k s most r d L') (hd : d = 1) (hl : L.length ≤ 100000) (hk : (Lit.int .i64 k).wf = true) (hp : p.size ≤ maxLen) (hv : v.size ≤ maxLen) :
    ∃ w', (Instr.mapUpdate 99 (.map (some mb)) (plc k p v) (txt s)).run Tryz.prog w = .ok () w' ∧ ShelfAt w' sb mb rev L' ∧ Turn (fun x => x = mb) w w' := by
  obtain ⟨kl, hkey⟩ := key_plc k p v hk hp hv
  cases hS with
  | same _ => cases hd
  | other old L0 hp hne =>
    obtain ⟨w1, hrun, ht, hm⟩ := h.map.put_old keyed188 Tryz.underlying99 hkey hp (txt s)
    have tb := turned_below ht
    have e1 := tb.block sb h.f0.lt h.ne
    exact ⟨w1, hrun, ⟨h.f0.of_block e1, h.f1.of_block e1, hm, ((h.good.perm hp).tail).cons _ _ _ _, h.ne⟩, tb⟩
  | many _ _ => cases hd
  | fresh hn _ =>
    obtain ⟨w1, hrun, ht, hm⟩ := h.map.put_new keyed188 Tryz.underlying99 (by unfold maxLen; omega) hkey hn (txt s)
    have tb := turned_below ht
    have e1 := tb.block sb h.f0.lt h.ne
    exact ⟨w1, hrun, ⟨h.f0.of_block e1, h.f1.of_block e1, hm, h.good.cons _ _ _ _, h.ne⟩, tb⟩

theorem ShelfAt.bump (h : ShelfAt w sb mb rev L) : ShelfAt (w.setCell ⟨sb, 1, none⟩ (.int .i64 ((rev : Int) + 1))) sb mb (rev + 1) L :=
  ⟨h.f0.set (by decide), ⟨World.cell?_setCell_same _ _ _ h.f1.1, by rw [World.frozen?_setCell]; exact h.f1.2⟩, h.map.of_block (Below.heap_setCell _ _ _ _ (fun e => h.ne e.symm)), h.good, h.ne⟩

/-- A place in a block of its own. -/
def BoxP (W : World) (b : Nat) (k : Int) (p v : ByteArray) : Prop := Fd W b 0 (.int .i64 k) ∧ Fd W b 1 (.string p) ∧ Fd W b 2 (.string v)

theorem BoxP.of_block {W W' : World} {b : Nat} {k : Int} {p v : ByteArray} (h : BoxP W b k p v) (e : W'.heap[b]? = W.heap[b]?) : BoxP W' b k p v := ⟨h.1.of_block e, h.2.1.of_block e, h.2.2.of_block e⟩
theorem BoxP.lt {W : World} {b : Nat} {k : Int} {p v : ByteArray} (h : BoxP W b k p v) : b < W.heap.size := h.1.lt
theorem BoxP.below {W W' : World} {b : Nat} {k : Int} {p v : ByteArray} (h : BoxP W b k p v) (hb : Below W.heap.size W W') : BoxP W' b k p v := h.of_block (hb.block b h.lt)
theorem BoxP.new (w : World) (k : Int) (p v : ByteArray) : BoxP (w.alloc (.cells #[.int .i64 k, .string p, .string v] 110)) w.heap.size k p v := by
  have b0 : (w.alloc (.cells #[.int .i64 k, .string p, .string v] 110)).heap[w.heap.size]? = some (.cells #[.int .i64 k, .string p, .string v] 110) := by
    show (w.heap.push _)[w.heap.size]? = _
    simp
  refine ⟨⟨?_, ?_⟩, ⟨?_, ?_⟩, ⟨?_, ?_⟩⟩
  · simp only [World.cell?, b0]; rfl
  · simp only [World.frozen?, b0]; simp
  · simp only [World.cell?, b0]; rfl
  · simp only [World.frozen?, b0]; simp
  · simp only [World.cell?, b0]; rfl
  · simp only [World.frozen?, b0]; simp
theorem BoxP.set1 {W : World} {b : Nat} {k : Int} {p v : ByteArray} (h : BoxP W b k p v) : BoxP (W.setCell ⟨b, 1, none⟩ (.string p)) b k p v :=
  ⟨h.1.set (by decide), ⟨World.cell?_setCell_same _ _ _ h.2.1.1, by rw [World.frozen?_setCell]; exact h.2.1.2⟩, h.2.2.set (by decide)⟩
theorem BoxP.set2 {W : World} {b : Nat} {k : Int} {p v : ByteArray} (h : BoxP W b k p v) : BoxP (W.setCell ⟨b, 2, none⟩ (.string v)) b k p v :=
  ⟨h.1.set (by decide), h.2.1.set (by decide), ⟨World.cell?_setCell_same _ _ _ h.2.2.1, by rw [World.frozen?_setCell]; exact h.2.2.2⟩⟩

set_option maxRecDepth 100000 in
set_option maxHeartbeats 4000000 in
theorem put_any (k : Int) (p v s : ByteArray) (most : Nat) (r : Int) (d : Nat) (L' : List (Value × Value)) (w : World) (h : ShelfAt w sb mb rev L) (hl : L.length ≤ 100000) (hk : (Lit.int .i64 k).wf = true) (hp : p.size ≤ 281474976710656) (hv : v.size ≤ 281474976710656) (hs : s.size ≤ 281474976710656) (hr : rev < 4611686018427387904)
    (hS : PutSpec L (plc k p v) k s most r d L') :
    Calls Tryz.prog 55 #[.pointer (some ⟨sb, 0, none⟩), plc k p v, .string s, .int .i64 most] w fun e w' => e = .returned (.int .i64 r) ∧ ShelfAt w' sb mb (rev + d) L' ∧ Turn (fun b => b = sb ∨ b = mb) w w' := by
  obtain ⟨kl, hkey⟩ := key_plc k p v hk (by unfold maxLen; omega) (by unfold maxLen; omega)
  -- what lies there
  obtain ⟨old, th, hlook, hold⟩ : ∃ (old : ByteArray) (th : Bool), (∀ W, TextsAt W mb L → (Instr.lookup 99 (.map (some mb)) (plc k p v) false).run Tryz.prog W = .ok (.agg #[.string old, .bool th]) W) ∧ Hid (if th = true then (plc k p v, txt old) ∈ L else ∀ x ∈ L, x.1 ≠ plc k p v) := by
    rcases h.map.look false keyed188 Tryz.underlying99 (zero255 w) hkey with ⟨_, hn⟩ | ⟨u, hu, _⟩
    · exact ⟨⟨#[]⟩, false, fun W hW => hW.look_none false keyed188 Tryz.underlying99 (zero255 W) hkey hn, hn⟩
    · obtain ⟨q, p', v', s', e⟩ := h.good _ hu
      injection e with e1 e2
      subst e2
      exact ⟨s', true, fun W hW => hW.look_some false keyed188 Tryz.underlying99 (zero255 W) hkey hu, hu⟩
  have HS : Hid (ShelfAt w sb mb rev L) := h
  clear h
  have HSp : Hid (PutSpec L (plc k p v) k s most r d L') := hS
  clear hS hkey
  go_enter Tryz.func55, Tryz.ntmps55
  go_upto_region 1 with fail
  have HB1 : Hid (Below w.heap.size w (w.alloc (.cells #[.int .i64 k, .string p, .string v] 110))) := (Below.refl _ _).alloc (Nat.le_refl _) _
  have HX1 : Hid (BoxP (w.alloc (.cells #[.int .i64 k, .string p, .string v] 110)) w.heap.size k p v) := BoxP.new w k p v
  have HS1 : Hid (ShelfAt (w.alloc (.cells #[.int .i64 k, .string p, .string v] 110)) sb mb rev L) := HS.out.below HB1.out
  have HZ1 : Hid (w.heap.size < (w.alloc (.cells #[.int .i64 k, .string p, .string v] 110)).heap.size ∧ sb ≠ w.heap.size) := ⟨by simp, by have := HS.out.f0.lt; omega⟩
  generalize w.alloc (.cells #[.int .i64 k, .string p, .string v] 110) = W1 at *
  generalize hbx : w.heap.size = bx at *
  obtain ⟨⟨x0, _⟩, ⟨x1, _⟩, ⟨x2, _⟩⟩ := HX1.out
  have c0 := HS1.out.f0.1
  have l1 := hlook W1 HS1.out.map
  have l2 := hlook W1.drew HS1.out.map
  have l3 := hlook (W1.alloc (.cells #[.string ⟨#[]⟩, .bool false] 137)).drew ((HS1.out.below ((Below.refl _ _).alloc (Nat.le_refl _) _)).map)
  clear hlook
  obtain ⟨⟨y0, _⟩, ⟨y1, _⟩, ⟨y2, _⟩⟩ := HX1.out.below ((Below.refl _ _).alloc (Nat.le_refl _) (.cells #[.string ⟨#[]⟩, .bool false] 137))
  have d0 : (W1.alloc (.cells #[.string ⟨#[]⟩, .bool false] 137)).cell? ⟨sb, 0, none⟩ = some (.map (some mb)) := (HS1.out.below ((Below.refl _ _).alloc (Nat.le_refl _) _)).f0.1
  go_region
  all_goals
    have HB2 : Hid (Below w.heap.size w (W1.alloc (.cells #[.string old, .bool th] 137)).drew) := by
      show Below w.heap.size w _
      have h := HB1.out
      try rw [← hbx] at h
      exact (h.alloc h.size _).drew
    have hbW : Below W1.heap.size W1 (W1.alloc (.cells #[.string old, .bool th] 137)).drew := ((Below.refl _ _).alloc (Nat.le_refl _) _).drew
    have HS2 : Hid (ShelfAt (W1.alloc (.cells #[.string old, .bool th] 137)).drew sb mb rev L) := HS1.out.below hbW
    have HX2 : Hid (BoxP (W1.alloc (.cells #[.string old, .bool th] 137)).drew bx k p v) := HX1.out.below hbW
    have HO2 : Hid (∀ W, Below (W1.alloc (.cells #[.string old, .bool th] 137)).drew.heap.size (W1.alloc (.cells #[.string old, .bool th] 137)).drew W → W.cell? ⟨W1.heap.size, 0, none⟩ = some (.string old) ∧ W.cell? ⟨W1.heap.size, 1, none⟩ = some (.bool th)) := fun W hb => by
      have hbl : W1.heap.size < (W1.alloc (.cells #[.string old, .bool th] 137)).drew.heap.size := by show W1.heap.size < (W1.heap.push _).size; simp
      exact ⟨(hb.cell (p := ⟨W1.heap.size, 0, none⟩) hbl).trans (by show (W1.alloc _).cell? _ = _; simp), (hb.cell (p := ⟨W1.heap.size, 1, none⟩) hbl).trans (by show (W1.alloc _).cell? _ = _; simp)⟩
    clear hbW l1 l2 l3 x0 x1 x2 y0 y1 y2 c0 d0 HX1 HB1 HS1
    generalize (W1.alloc (.cells #[.string old, .bool th] 137)).drew = W2 at *
    generalize W1.heap.size = ob at *
    obtain ⟨⟨x0, _⟩, ⟨x1, _⟩, ⟨x2, _⟩⟩ := HX2.out
    obtain ⟨o0, o1⟩ := HO2.out W2 (Below.refl _ _)
    have kc := count_any k W2 HS2.out hl
    generalize hcn : L.countP (ofKind k) = cn at kc
    have HCN : Hid (L.countP (ofKind k) = cn) := hcn
    clear hcn
    cases th
    · have hn : ∀ x ∈ L, x.1 ≠ plc k p v := by have h := hold.out; simpa using h
      go_wp2_with (go_at_call 72; fail)
      go_at_call 72
      refine kc.mono ?_
      rintro e w3 ⟨rfl, hb3⟩
      have HB3 : Hid (Below w.heap.size w w3) := HB2.out.trans (hb3.mono HB2.out.size)
      have HS3 : Hid (ShelfAt w3 sb mb rev L) := HS2.out.below hb3
      have HX3 : Hid (BoxP w3 bx k p v) := HX2.out.below hb3
      obtain ⟨p0, p1⟩ := HO2.out w3 hb3
      clear kc x0 x1 x2 o0 o1 HX2 HO2 HS2 HB2 hb3
      by_cases hmo : most ≤ cn
      · have hmoI : (cn : Int) ≥ (most : Int) := by omega
        have HF : Hid (r = 4 ∧ d = 0 ∧ L' = L) := by
          have h := HSp.out
          cases h with
          | same hi => exact absurd rfl (hn _ hi)
          | other old0 L0 hp hne => exact absurd rfl (hn _ (hp.mem_iff.2 (List.mem_cons_self ..)))
          | many _ _ => exact ⟨rfl, rfl, rfl⟩
          | fresh _ hc => rw [HCN.out] at hc; omega
        have e := HF.out
        obtain ⟨rfl, rfl, rfl⟩ := e
        go_wp2
        go_ret
        exact ⟨rfl, HS3.out, Turn.of_below HB3.out⟩
      · have hmoI : ¬ ((cn : Int) ≥ (most : Int)) := by omega
        have HF : Hid (r = 0 ∧ d = 1) := by
          have h := HSp.out
          cases h with
          | same hi => exact absurd rfl (hn _ hi)
          | other old0 L0 hp hne => exact absurd rfl (hn _ (hp.mem_iff.2 (List.mem_cons_self ..)))
          | many _ hc => rw [HCN.out] at hc; exact absurd hc hmo
          | fresh _ _ => exact ⟨rfl, rfl⟩
        have e := HF.out
        obtain ⟨rfl, rfl⟩ := e
        go_upto_region 6 with fail
        have K3 : (w3.cell? ⟨bx, 1, none⟩ = some (.string p) ∧ w3.frozen? ⟨bx, 1, none⟩ = false) ∧ (w3.cell? ⟨bx, 2, none⟩ = some (.string v) ∧ w3.frozen? ⟨bx, 2, none⟩ = false) := HX3.out.2
        go_region_held3 (fun w' => (w'.cell? ⟨bx, 1, none⟩ = some (.string p) ∧ w'.frozen? ⟨bx, 1, none⟩ = false) ∧ (w'.cell? ⟨bx, 2, none⟩ = some (.string v) ∧ w'.frozen? ⟨bx, 2, none⟩ = false))
          (first | exact K3 | exact KA.out.2 | exact KB.out.2 | exact KC.out.2 | exact KD.out.2)
          (first
            | (go_at_call 73; (with_reducible show Calls _ _ #[Value.string p] _ _); refine (clone_any p _ hp).mono ?_; rintro e wA ⟨rfl, hbA⟩; have KA : Hid (BoxP wA bx k p v) := HX3.out.below ((Below.refl w3.heap.size w3).drew.trans hbA); have HBA : Hid (Below w3.heap.size w3 wA) := (Below.refl w3.heap.size w3).drew.trans hbA; clear hbA)
            | (go_at_call 73; refine (clone_any v _ hv).mono ?_; rintro e wB ⟨rfl, hbB⟩; have KB : Hid (BoxP wB bx k p v) := KA.out.below hbB; have HBB : Hid (Below w3.heap.size w3 wB) := HBA.out.trans (hbB.mono HBA.out.size); have KC : Hid (BoxP (wB.setCell ⟨bx, 1, none⟩ (.string p)) bx k p v) := KB.out.set1; have KD : Hid (BoxP ((wB.setCell ⟨bx, 1, none⟩ (.string p)).setCell ⟨bx, 2, none⟩ (.string v)) bx k p v) := KC.out.set2; clear hbB))
        all_goals
          have hsl : sb < bx ∧ mb < bx := by have h1 := HS.out.f0.lt; have h2 := HS.out.map.lt; omega
          have HT5 : Hid (Turn (fun b => b = sb ∨ b = mb) w ((wB.setCell ⟨bx, 1, none⟩ (.string p)).setCell ⟨bx, 2, none⟩ (.string v))) := by
            have h1 : Turn (fun b => b = sb ∨ b = mb) w wB := (Turn.of_below HB3.out).more HBB.out
            exact (h1.set (a := ⟨bx, 1, none⟩) (fun h => by have h2 : bx < w.heap.size := h; omega) _).set (a := ⟨bx, 2, none⟩) (fun h => by have h2 : bx < w.heap.size := h; omega) _
          have HS5 : Hid (ShelfAt ((wB.setCell ⟨bx, 1, none⟩ (.string p)).setCell ⟨bx, 2, none⟩ (.string v)) sb mb rev L) := by
            have e1 : ∀ b, b ≠ bx → ((wB.setCell ⟨bx, 1, none⟩ (.string p)).setCell ⟨bx, 2, none⟩ (.string v)).heap[b]? = wB.heap[b]? := fun b hne => by
              rw [Below.heap_setCell _ _ _ _ hne, Below.heap_setCell _ _ _ _ hne]
            exact (HS3.out.below HBB.out).of_block (e1 sb (by omega)) (e1 mb (by omega))
          have HX5 : Hid (BoxP ((wB.setCell ⟨bx, 1, none⟩ (.string p)).setCell ⟨bx, 2, none⟩ (.string v)) bx k p v) := KD
          clear KA KB KC KD HBA HBB HS3 HX3 HB3 K3
          generalize (wB.setCell ⟨bx, 1, none⟩ (.string p)).setCell ⟨bx, 2, none⟩ (.string v) = W5 at *
          go_upto_region 7 with fail
          have K5 : W5.cell? ⟨sb, 0, none⟩ = some (.map (some mb)) ∧ W5.cell? ⟨bx, 0, none⟩ = some (.int .i64 k) ∧ W5.cell? ⟨bx, 1, none⟩ = some (.string p) ∧ W5.cell? ⟨bx, 2, none⟩ = some (.string v) := ⟨HS5.out.f0.1, HX5.out.1.1, HX5.out.2.1.1, HX5.out.2.2.1⟩
          have kst : ∀ W, Below W5.heap.size W5 W → ∃ w7, (Instr.mapUpdate 99 (.map (some mb)) (plc k p v) (txt s)).run Tryz.prog W = .ok () w7 ∧ Hid (ShelfAt w7 sb mb rev L') ∧ Hid (Turn (fun b => b = sb ∨ b = mb) w w7) ∧ Hid (BoxP w7 bx k p v) ∧ Hid (ShelfAt W sb mb rev L) ∧ Hid (BoxP W bx k p v) := fun W hb => by
            have h1 := HS5.out.below hb
            obtain ⟨w7, hrun, h2, h3⟩ := h1.stored HSp.out rfl hl hk (by unfold maxLen; omega) (by unfold maxLen; omega)
            refine ⟨w7, hrun, h2, (HT5.out.more hb).trans h3 (fun _ _ e => e) (fun _ _ e => Or.inr e), (HX5.out.below hb).of_block (h3.block bx (Nat.lt_of_lt_of_le HX5.out.lt hb.size) (by omega)), h1, HX5.out.below hb⟩
          clear HS5 HX5 HT5
          go_region_held3 (fun w' => w'.cell? ⟨sb, 0, none⟩ = some (.map (some mb)) ∧ w'.cell? ⟨bx, 0, none⟩ = some (.int .i64 k) ∧ w'.cell? ⟨bx, 1, none⟩ = some (.string p) ∧ w'.cell? ⟨bx, 2, none⟩ = some (.string v))
            (first | exact K5 | exact ⟨HS6.out.f0.1, HX6.out.1.1, HX6.out.2.1.1, HX6.out.2.2.1⟩ | exact ⟨HS7.out.f0.1, HX7.out.1.1, HX7.out.2.1.1, HX7.out.2.2.1⟩)
            (first | (go_at_call 73; refine (clone_any s _ hs).mono ?_; rintro e w6 ⟨rfl, hb6⟩; obtain ⟨w7, hrun, HS7, HT7, HX7, HS6, HX6⟩ := kst w6 ((Below.refl W5.heap.size W5).drew.trans hb6); clear hb6))
          all_goals
            clear hrun kst K5 HX7 HS6 HX6
            have g1 := HS7.out.f1.1
            have g2 := HS7.out.f1.2
            have e2 : IntKind.i64.wrap ((rev : Int) + 1) = (rev : Int) + 1 := by simp [IntKind.wrap, IntKind.bits, IntKind.signed]; omega
            have HS8 : Hid (ShelfAt (w7.setCell ⟨sb, 1, none⟩ (.int .i64 ((rev : Int) + 1))) sb mb (rev + 1) L') := HS7.out.bump
            have HT8 : Hid (Turn (fun b => b = sb ∨ b = mb) w (w7.setCell ⟨sb, 1, none⟩ (.int .i64 ((rev : Int) + 1)))) := HT7.out.set (a := ⟨sb, 1, none⟩) (fun _ => Or.inl rfl) _
            clear HS7 HT7
            go_wp2
            go_ret
            exact ⟨rfl, HS8.out, HT8.out⟩
    · have hin : (plc k p v, txt old) ∈ L := by have h := hold.out; simpa using h
      cases hq : (old.toList == s.toList)
      · have HF : Hid (r = 0 ∧ d = 1) := by
          have h := HSp.out
          cases h with
          | same hi =>
            have e := Mp.uniq HS2.out.map.apart hin hi
            injection e with e
            simp only [Array.mk.injEq, List.cons.injEq, Value.string.injEq, and_true] at e
            rw [e] at hq
            simp at hq
          | other old0 L0 hp hne => exact ⟨rfl, rfl⟩
          | many hn _ => exact absurd rfl (hn _ hin)
          | fresh hn _ => exact absurd rfl (hn _ hin)
        have e := HF.out
        obtain ⟨rfl, rfl⟩ := e
        have HB3 : Hid (Below w.heap.size w W2) := HB2
        have HS3 : Hid (ShelfAt W2 sb mb rev L) := HS2
        have HX3 : Hid (BoxP W2 bx k p v) := HX2
        clear kc HB2 HS2 HX2 HO2
        go_upto_region 6 with fail
        have K3 : (W2.cell? ⟨bx, 1, none⟩ = some (.string p) ∧ W2.frozen? ⟨bx, 1, none⟩ = false) ∧ (W2.cell? ⟨bx, 2, none⟩ = some (.string v) ∧ W2.frozen? ⟨bx, 2, none⟩ = false) := HX3.out.2
        go_region_held3 (fun w' => (w'.cell? ⟨bx, 1, none⟩ = some (.string p) ∧ w'.frozen? ⟨bx, 1, none⟩ = false) ∧ (w'.cell? ⟨bx, 2, none⟩ = some (.string v) ∧ w'.frozen? ⟨bx, 2, none⟩ = false))
          (first | exact K3 | exact KA.out.2 | exact KB.out.2 | exact KC.out.2 | exact KD.out.2)
          (first
            | (go_at_call 73; (with_reducible show Calls _ _ #[Value.string p] _ _); refine (clone_any p _ hp).mono ?_; rintro e wA ⟨rfl, hbA⟩; have KA : Hid (BoxP wA bx k p v) := HX3.out.below ((Below.refl W2.heap.size W2).drew.trans hbA); have HBA : Hid (Below W2.heap.size W2 wA) := (Below.refl W2.heap.size W2).drew.trans hbA; clear hbA)
            | (go_at_call 73; refine (clone_any v _ hv).mono ?_; rintro e wB ⟨rfl, hbB⟩; have KB : Hid (BoxP wB bx k p v) := KA.out.below hbB; have HBB : Hid (Below W2.heap.size W2 wB) := HBA.out.trans (hbB.mono HBA.out.size); have KC : Hid (BoxP (wB.setCell ⟨bx, 1, none⟩ (.string p)) bx k p v) := KB.out.set1; have KD : Hid (BoxP ((wB.setCell ⟨bx, 1, none⟩ (.string p)).setCell ⟨bx, 2, none⟩ (.string v)) bx k p v) := KC.out.set2; clear hbB))
        all_goals
          have hsl : sb < bx ∧ mb < bx := by have h1 := HS.out.f0.lt; have h2 := HS.out.map.lt; omega
          have HT5 : Hid (Turn (fun b => b = sb ∨ b = mb) w ((wB.setCell ⟨bx, 1, none⟩ (.string p)).setCell ⟨bx, 2, none⟩ (.string v))) := by
            have h1 : Turn (fun b => b = sb ∨ b = mb) w wB := (Turn.of_below HB3.out).more HBB.out
            exact (h1.set (a := ⟨bx, 1, none⟩) (fun h => by have h2 : bx < w.heap.size := h; omega) _).set (a := ⟨bx, 2, none⟩) (fun h => by have h2 : bx < w.heap.size := h; omega) _
          have HS5 : Hid (ShelfAt ((wB.setCell ⟨bx, 1, none⟩ (.string p)).setCell ⟨bx, 2, none⟩ (.string v)) sb mb rev L) := by
            have e1 : ∀ b, b ≠ bx → ((wB.setCell ⟨bx, 1, none⟩ (.string p)).setCell ⟨bx, 2, none⟩ (.string v)).heap[b]? = wB.heap[b]? := fun b hne => by
              rw [Below.heap_setCell _ _ _ _ hne, Below.heap_setCell _ _ _ _ hne]
            exact (HS3.out.below HBB.out).of_block (e1 sb (by omega)) (e1 mb (by omega))
          have HX5 : Hid (BoxP ((wB.setCell ⟨bx, 1, none⟩ (.string p)).setCell ⟨bx, 2, none⟩ (.string v)) bx k p v) := KD
          clear KA KB KC KD HBA HBB HS3 HX3 HB3 K3
          generalize (wB.setCell ⟨bx, 1, none⟩ (.string p)).setCell ⟨bx, 2, none⟩ (.string v) = W5 at *
          go_upto_region 7 with fail
          have K5 : W5.cell? ⟨sb, 0, none⟩ = some (.map (some mb)) ∧ W5.cell? ⟨bx, 0, none⟩ = some (.int .i64 k) ∧ W5.cell? ⟨bx, 1, none⟩ = some (.string p) ∧ W5.cell? ⟨bx, 2, none⟩ = some (.string v) := ⟨HS5.out.f0.1, HX5.out.1.1, HX5.out.2.1.1, HX5.out.2.2.1⟩
          have kst : ∀ W, Below W5.heap.size W5 W → ∃ w7, (Instr.mapUpdate 99 (.map (some mb)) (plc k p v) (txt s)).run Tryz.prog W = .ok () w7 ∧ Hid (ShelfAt w7 sb mb rev L') ∧ Hid (Turn (fun b => b = sb ∨ b = mb) w w7) ∧ Hid (BoxP w7 bx k p v) ∧ Hid (ShelfAt W sb mb rev L) ∧ Hid (BoxP W bx k p v) := fun W hb => by
            have h1 := HS5.out.below hb
            obtain ⟨w7, hrun, h2, h3⟩ := h1.stored HSp.out rfl hl hk (by unfold maxLen; omega) (by unfold maxLen; omega)
            refine ⟨w7, hrun, h2, (HT5.out.more hb).trans h3 (fun _ _ e => e) (fun _ _ e => Or.inr e), (HX5.out.below hb).of_block (h3.block bx (Nat.lt_of_lt_of_le HX5.out.lt hb.size) (by omega)), h1, HX5.out.below hb⟩
          clear HS5 HX5 HT5
          go_region_held3 (fun w' => w'.cell? ⟨sb, 0, none⟩ = some (.map (some mb)) ∧ w'.cell? ⟨bx, 0, none⟩ = some (.int .i64 k) ∧ w'.cell? ⟨bx, 1, none⟩ = some (.string p) ∧ w'.cell? ⟨bx, 2, none⟩ = some (.string v))
            (first | exact K5 | exact ⟨HS6.out.f0.1, HX6.out.1.1, HX6.out.2.1.1, HX6.out.2.2.1⟩ | exact ⟨HS7.out.f0.1, HX7.out.1.1, HX7.out.2.1.1, HX7.out.2.2.1⟩)
            (first | (go_at_call 73; refine (clone_any s _ hs).mono ?_; rintro e w6 ⟨rfl, hb6⟩; obtain ⟨w7, hrun, HS7, HT7, HX7, HS6, HX6⟩ := kst w6 ((Below.refl W5.heap.size W5).drew.trans hb6); clear hb6))
          all_goals
            clear hrun kst K5 HX7 HS6 HX6
            have g1 := HS7.out.f1.1
            have g2 := HS7.out.f1.2
            have e2 : IntKind.i64.wrap ((rev : Int) + 1) = (rev : Int) + 1 := by simp [IntKind.wrap, IntKind.bits, IntKind.signed]; omega
            have HS8 : Hid (ShelfAt (w7.setCell ⟨sb, 1, none⟩ (.int .i64 ((rev : Int) + 1))) sb mb (rev + 1) L') := HS7.out.bump
            have HT8 : Hid (Turn (fun b => b = sb ∨ b = mb) w (w7.setCell ⟨sb, 1, none⟩ (.int .i64 ((rev : Int) + 1)))) := HT7.out.set (a := ⟨sb, 1, none⟩) (fun _ => Or.inl rfl) _
            clear HS7 HT7
            go_wp2
            go_ret
            exact ⟨rfl, HS8.out, HT8.out⟩
      · have HF : Hid (r = 0 ∧ d = 0 ∧ L' = L) := by
          have h := HSp.out
          cases h with
          | same _ => exact ⟨rfl, rfl, rfl⟩
          | other old0 L0 hp hne =>
            have e := Mp.uniq HS2.out.map.apart hin (hp.mem_iff.2 (List.mem_cons_self ..))
            injection e with e
            simp only [Array.mk.injEq, List.cons.injEq, Value.string.injEq, and_true] at e
            rw [e, hne] at hq
            cases hq
          | many hn _ => exact absurd rfl (hn _ hin)
          | fresh hn _ => exact absurd rfl (hn _ hin)
        have e := HF.out
        obtain ⟨rfl, rfl, rfl⟩ := e
        clear kc
        go_wp2
        go_ret
        exact ⟨rfl, HS2.out, Turn.of_below HB2.out⟩

end Ed
end Go.Proofs.YtiamomiafekihaaGreatDoor
