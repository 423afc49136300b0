/-
  The program's reading of a line of an index: what a line without a slip says is kept (the walk).
-/
import Derived.Test.YtelmkfkgpnadnaaGreatDoorJ6
namespace Go.Proofs.YtelmkfkgpnadnaaGreatDoor
open Go.RowKit

variable {w w' : World}

/-- All blocks but these stay. -/
structure Fr (X : Nat → Prop) (w w' : World) : Prop where
  os : w'.os = w.os
  tape : w'.tape = w.tape
  output : w'.output = w.output
  size : w.heap.size ≤ w'.heap.size
  block : ∀ b, b < w.heap.size → ¬ X b → w'.heap[b]? = w.heap[b]?

theorem Fr.trans {X : Nat → Prop} {a b c : World} (h : Fr X a b) (h' : Fr X b c) : Fr X a c :=
  ⟨h'.os.trans h.os, h'.tape.trans h.tape, h'.output.trans h.output, Nat.le_trans h.size h'.size, fun k hk hx => (h'.block k (Nat.lt_of_lt_of_le hk h.size) hx).trans (h.block k hk hx)⟩

theorem Fr.of_below {X : Nat → Prop} {a b : World} (h : Below a.heap.size a b) : Fr X a b := ⟨h.os, h.tape, h.output, h.size, fun k hk _ => h.block k hk⟩

theorem Fr.of_grown {X : Nat → Prop} {a b : World} {row : Option Nat} (h : a.grownBy b row) (hx : ∀ k, row = some k → X k) : Fr X a b :=
  ⟨h.os, h.tape, h.output, h.size, fun k hk hn => h.block k hk (fun e => hn (hx k e.symm))⟩

theorem Fr.of_set {X : Nat → Prop} (a : World) (b o : Nat) (v : Value) (hx : X b) : Fr X a (a.setCell ⟨b, o, none⟩ v) :=
  ⟨rfl, rfl, rfl, by simp [World.setCell], fun k _ hn => Below.heap_setCell _ _ _ _ (fun e => hn (by have e3 : k = b := e; rw [e3]; exact hx))⟩

/-- What take may write: the reader, its map, its list's own block. -/
def Mine (rp mb : Nat) (sv : Value) (b : Nat) : Prop := b = rp ∨ b = mb ∨ sv.ownBlock = some b

theorem said_store {W : World} {mb ln : Nat} {us : List ByteArray} {v : ByteArray} (hln : ln ≤ 4000) (hu : us.length ≤ 2001) (hv : v.size ≤ 2000) (hS : SaidAt W mb us.length us) :
    ∃ w7, (Instr.mapUpdate 148 (.map (some mb)) (.agg #[.string bVer, .string ⟨#[]⟩, .string v]) (.int .i64 ln)).run Tryz.prog W = .ok () w7 ∧ SaidAt w7 mb (us.length + 1) (us ++ [v]) ∧ W.grownBy w7 (some mb) := by
  obtain ⟨l, hl⟩ := claimKey_has v (by unfold maxLen; omega)
  obtain ⟨D, ho, hD, hh⟩ := hS
  have hwf : (Lit.int .i64 (ln : Int)).wf = true := by
    have e : wrap64 (ln : Int) = (ln : Int) := by
      first
        | (unfold wrap64; omega)
        | (simp [wrap64]; omega)
    have h := wrap64_wf (ln : Int)
    rw [e] at h
    exact h
  obtain ⟨w7, h1, h2, h3⟩ := ho.update keyed252 Tryz.underlying148 (by unfold maxLen; omega) hl (plainElem_int Tryz.underlying3 hwf)
  exact ⟨w7, h1, SaidAt.put hD hh hl h2 (hD.put _ _), h3⟩

theorem Rd.put {W W' : World} {rp mb B sp : Nat} {sv : Value} {vs us us' : List ByteArray} (h : Rd W rp mb B sp sv vs us) (hg : W.grownBy W' (some mb)) (hs : SaidAt W' mb us'.length us') : Rd W' rp mb B sp sv vs us' := by
  have hrl : rp < W.heap.size := Nat.lt_of_lt_of_le h.lt.1 h.lt.2.2.1
  have e1 := hg.block rp hrl (fun e => h.lt.2.2.2 (by injection e))
  have e2 : ∀ b, sv.ownBlock = some b → W'.heap[b]? = W.heap[b]? := fun b e => hg.block b (h.own.lt b e).2 (fun e3 => by
    have h1 := (h.own.lt b e).1
    have h2 := h.lt.2.1
    injection e3 with e4
    omega)
  exact ⟨h.rd.of_block e1, by rw [World.frozen?_of_block (w := W) (a := ⟨rp, 2, none⟩) e1]; exact h.f2, by rw [World.cell?_of_block (w := W) (a := ⟨rp, 4, none⟩) e1]; exact h.fm, h.fs.of_block e1, ⟨h.lt.1, h.lt.2.1, Nat.le_trans h.lt.2.2.1 hg.size, h.lt.2.2.2⟩, own_of_block h.own e2, hs⟩

set_option maxRecDepth 100000 in
set_option maxHeartbeats 4000000 in
theorem take_any (rp sp wb wc a0 mb B ln : Nat) (sv : Value) (vs : List ByteArray) (v : ByteArray) (w : World) (hv : v.size ≤ 2000) (hn : vs.length ≤ 2001) (hln : ln ≤ 4000) (hr : Rd w rp mb B sp sv vs vs) (hw : BoxAt w wb a0 bVer) (h3 : w.cell? ⟨wb, 3, none⟩ = some (.string v)) :
    Calls Tryz.prog 125 #[.pointer (some ⟨rp, 0, none⟩), .int .i64 ln, .slice (some ⟨wb, 0, none⟩) 2 wc] w fun e w' => ∃ sv', e = .returned (.tuple #[]) ∧ Rd w' rp mb B sp sv' (vs ++ [v]) (vs ++ [v]) ∧ Fr (Mine rp mb sv) w w' ∧ (∀ b, sv'.ownBlock = some b → sv.ownBlock = some b ∨ w.heap.size ≤ b) := by
  have hc : ∀ (args : Array Value) (w : World), (callFunc 165 args).run Tryz.prog w = .ok (.enter 165 args) w := fun _ _ => by kernel_rfl
  have kI : ∀ W, _ := fun W => indexShape_yes W
  obtain ⟨i2, hi1, hi2, hi3, hi4⟩ := info141
  have HJ : Hid (Tryz.prog.info? 155 = some i2 ∧ i2.zero = some (.agg #[.string ByteArray.empty, .string ByteArray.empty, .string ByteArray.empty, .string ByteArray.empty]) ∧ i2.size = 4 ∧ i2.bytes = 64) := ⟨hi1, hi2, hi3, hi4⟩
  clear hi1 hi2 hi3 hi4
  have HR : Hid (Rd w rp mb B sp sv vs vs) := hr
  obtain ⟨b0, b2, b3, b4⟩ := hr.rd
  obtain ⟨c0, c1⟩ := hw
  have hwl := World.block_lt_of_cell? w _ h3
  have HB2 : Hid (Below w.heap.size w (w.alloc (.cells #[.int .i64 6] 3)).drew) := (below_alloc (Below.refl _ _) _).drew
  have HKA : Hid (KAt (w.alloc (.cells #[.int .i64 6] 3)).drew w.heap.size [6]) := kat_new w
  have ks : Calls Tryz.prog 173 #[.slice (some ⟨w.heap.size, 0, none⟩) 1 1, .slice (some ⟨wb, 0, none⟩) 2 wc] (w.alloc (.cells #[.int .i64 6] 3)).drew fun e w' => e = .returned (.agg #[.string bVer, .string ⟨#[]⟩, .string v, .string ⟨#[]⟩]) ∧ Below (w.alloc (.cells #[.int .i64 6] 3)).drew.heap.size (w.alloc (.cells #[.int .i64 6] 3)).drew w' :=
    statement_version w.heap.size wb 0 2 wc bVer v _ (by omega) (by omega) HKA.out.1 (Nat.lt_of_lt_of_le hwl HB2.out.size) (HKA.out.2 0 (by simp)) (by rw [HB2.out.cell (p := ⟨wb, 0 + 1, none⟩) hwl]; exact c1) (by rw [HB2.out.cell (p := ⟨wb, 0 + 3, none⟩) hwl]; exact h3)
  have HC : Hid ((w.alloc (.cells #[.int .i64 6] 3)).drew.cell? ⟨rp, 0, none⟩ = some (.func (.func 165) #[] #[]) ∧ (w.alloc (.cells #[.int .i64 6] 3)).drew.cell? ⟨wb, 1, none⟩ = some (.string bVer)) := ⟨(HR.out.rd.below HB2.out).1, by rw [HB2.out.cell (p := ⟨wb, 1, none⟩) hwl]; exact c1⟩
  clear hr h3 HKA
  go_enter Tryz.func125, Tryz.ntmps125
  go_upto_region 0 with fail
  go_region_held3 (fun w' => w'.cell? ⟨rp, 0, none⟩ = some (.func (.func 165) #[] #[]) ∧ w'.cell? ⟨wb, 1, none⟩ = some (.string ⟨#[118, 101, 114, 115, 105, 111, 110]⟩))
      (first | exact ⟨b0, c1⟩ | exact HC.out)
      (first | (go_at_call 165; refine (kI _).mono ?_; rintro e w2 ⟨rfl, rfl⟩))
  all_goals
    clear b0 b2 b3 b4 c0 c1 kI HC
    generalize (w.alloc (.cells #[.int .i64 6] 3)).drew = W2 at *
    go_wp2_with (go_at_call 173; fail)
    go_at_call 173
    refine ks.mono ?_
    rintro e w3 ⟨rfl, hb3⟩
    have HB3 : Hid (Below w.heap.size w w3) := HB2.out.trans (hb3.mono HB2.out.size)
    clear hb3 ks HB2
    go_upto_region 2 with fail
    have HB4 : Hid (Below w.heap.size w (w3.alloc (.cells #[.string bVer, .string ⟨#[]⟩, .string v, .string ⟨#[]⟩] 155))) := below_alloc HB3.out _
    have HX4 : Hid (∀ j u, [Value.string bVer, .string ⟨#[]⟩, .string v, .string ⟨#[]⟩][j]? = some u → (w3.alloc (.cells #[.string bVer, .string ⟨#[]⟩, .string v, .string ⟨#[]⟩] 155)).cell? ((⟨w3.heap.size, 0, none⟩ : Addr).add j) = some u) := fun j u hj => cell_four_new w3 _ _ _ _ 155 j u hj
    have x0 : (w3.alloc (.cells #[.string bVer, .string ⟨#[]⟩, .string v, .string ⟨#[]⟩] 155)).cell? ⟨w3.heap.size, 0, none⟩ = some (.string bVer) := HX4.out 0 _ rfl
    have x1 : (w3.alloc (.cells #[.string bVer, .string ⟨#[]⟩, .string v, .string ⟨#[]⟩] 155)).cell? ⟨w3.heap.size, 1, none⟩ = some (.string ⟨#[]⟩) := HX4.out 1 _ rfl
    have x2 : (w3.alloc (.cells #[.string bVer, .string ⟨#[]⟩, .string v, .string ⟨#[]⟩] 155)).cell? ⟨w3.heap.size, 2, none⟩ = some (.string v) := HX4.out 2 _ rfl
    have x3 : (w3.alloc (.cells #[.string bVer, .string ⟨#[]⟩, .string v, .string ⟨#[]⟩] 155)).cell? ⟨w3.heap.size, 3, none⟩ = some (.string ⟨#[]⟩) := HX4.out 3 _ rfl
    have HBX : Hid (w.heap.size ≤ w3.heap.size ∧ w3.heap.size < (w3.alloc (.cells #[.string bVer, .string ⟨#[]⟩, .string v, .string ⟨#[]⟩] 155)).heap.size) := ⟨HB3.out.size, by simp⟩
    generalize w3.heap.size = bx at *
    generalize w3.alloc (.cells #[.string bVer, .string ⟨#[]⟩, .string v, .string ⟨#[]⟩] 155) = W3 at *
    clear HX4 HB3
    have hF3 : Fld W3 rp 5 sv := HR.out.fs.of_block (HB4.out.block rp (World.block_lt_of_cell? w _ HR.out.fs.1))
    have hF4 : Fld (W3.alloc (.cells #[.string bVer, .string ⟨#[]⟩, .string v, .string ⟨#[]⟩] 155)).drew rp 5 sv := hF3.of_block (Below.heap_alloc _ _ _ (World.block_lt_of_cell? W3 _ hF3.1))
    have hoe : (W3.alloc (.cells #[.string bVer, .string ⟨#[]⟩, .string v, .string ⟨#[]⟩] 155)).drew.ownsRow B 155 4 sv vs.length (stcells vs) := own_of_block (own_of_block HR.out.own (fun b e => HB4.out.block b (HR.out.own.lt b e).2)) (fun b e => Below.heap_alloc _ _ _ (Nat.lt_of_lt_of_le (HR.out.own.lt b e).2 HB4.out.size))
    have hnw : ∀ j u, [Value.string bVer, .string ⟨#[]⟩, .string v, .string ⟨#[]⟩][j]? = some u → (W3.alloc (.cells #[.string bVer, .string ⟨#[]⟩, .string v, .string ⟨#[]⟩] 155)).drew.cell? ((⟨W3.heap.size, 0, none⟩ : Addr).add j) = some u := fun j u hj => cell_four_new W3 _ _ _ _ 155 j u hj
    have HNE : Hid (some rp ≠ sv.ownBlock) := fun e => by have h := (HR.out.own.lt rp e.symm).1; have := HR.out.lt.1; omega
    have HF4 : Hid (Fld (W3.alloc (.cells #[.string bVer, .string ⟨#[]⟩, .string v, .string ⟨#[]⟩] 155)).drew rp 5 sv) := hF4
    have c1 : W3.cell? ⟨rp, 5, none⟩ = some sv := hF3.1
    have c1b : (W3.alloc (.cells #[.string bVer, .string ⟨#[]⟩, .string v, .string ⟨#[]⟩] 155)).cell? ⟨rp, 5, none⟩ = some sv := hF4.1
    have hBs : B ≤ W3.heap.size := Nat.le_trans HR.out.lt.2.2.1 HB4.out.size
    clear hF3 hF4
    have HRa : Hid (Rd (W3.alloc (.cells #[.string bVer, .string ⟨#[]⟩, .string v, .string ⟨#[]⟩] 155)) rp mb B sp sv vs vs) := by
      have h1 : Rd W3 rp mb B sp sv vs vs := HR.out.of_block HB4.out.size (HB4.out.block rp (Nat.lt_of_lt_of_le HR.out.lt.1 HR.out.lt.2.2.1)) (HB4.out.block mb (Nat.lt_of_lt_of_le HR.out.lt.2.1 HR.out.lt.2.2.1)) (fun b e => HB4.out.block b (HR.out.own.lt b e).2)
      exact h1.of_block (by simp) (Below.heap_alloc _ _ _ (Nat.lt_of_lt_of_le h1.lt.1 h1.lt.2.2.1)) (Below.heap_alloc _ _ _ (Nat.lt_of_lt_of_le h1.lt.2.1 h1.lt.2.2.1)) (fun b e => Below.heap_alloc _ _ _ (h1.own.lt b e).2)
    have HSB : Hid (∀ b, sv.ownBlock = some b → b < w.heap.size) := fun b e => (HR.out.own.lt b e).2
    have HLT : Hid (rp < B ∧ mb < B ∧ B ≤ w.heap.size ∧ rp ≠ mb) := HR.out.lt
    obtain ⟨sa, sc, rfl⟩ := own_slice' HR.out.own
    go_region_law
      (first | (refine step_append_lies _ rfl (.tmp 28) (.tmp 30) 149 rfl B 155 i2 (.agg #[.string ByteArray.empty, .string ByteArray.empty, .string ByteArray.empty, .string ByteArray.empty]) 4 64 Tryz.underlying149 HJ.out.1 HJ.out.2.1 HJ.out.2.2.1 HJ.out.2.2.2 rfl (by decide) _ vs.length _ rfl hoe ⟨W3.heap.size, 0, none⟩ 1 1 [.string bVer, .string ⟨#[]⟩, .string v, .string ⟨#[]⟩] rfl rfl hnw (fun u hu => by simp at hu; rcases hu with rfl | rfl | rfl | rfl <;> rfl) (by decide) (by unfold maxLen; omega) (by omega) (by show B ≤ (W3.alloc _).heap.size; simp; omega) _ rfl ?_; intro g cap w5 hown hgrow hat hlt2; have c3 : w5.cell? ⟨rp, 5, none⟩ = some (.slice sa vs.length sc) := (HF4.out.of_block (hgrow.block rp (World.block_lt_of_cell? _ _ HF4.out.1) HNE.out)).1; have f3 : w5.frozen? ⟨rp, 5, none⟩ = false := (HF4.out.of_block (hgrow.block rp (World.block_lt_of_cell? _ _ HF4.out.1) HNE.out)).2))
    all_goals
      have HR5 : Hid (Rd (w5.setCell ⟨rp, 5, none⟩ (.slice (some ⟨g, 0, none⟩) (vs.length + 1) cap)) rp mb B sp (.slice (some ⟨g, 0, none⟩) (vs.length + 1) cap) (vs ++ [v]) vs) := HRa.out.grown ⟨hgrow.os, hgrow.tape, hgrow.output, hgrow.size, hgrow.block⟩ hown
      have HFr : Hid (Fr (Mine rp mb (.slice sa vs.length sc)) w (w5.setCell ⟨rp, 5, none⟩ (.slice (some ⟨g, 0, none⟩) (vs.length + 1) cap))) := by
        have f1 : Fr (Mine rp mb (.slice sa vs.length sc)) w W3 := Fr.of_below HB4.out
        have f2 := f1.trans (Fr.of_below (below_alloc (Below.refl W3.heap.size W3) (.cells #[.string bVer, .string ⟨#[]⟩, .string v, .string ⟨#[]⟩] 155)))
        have f3 := f2.trans (Fr.of_grown (b := w5) ⟨hgrow.os, hgrow.tape, hgrow.output, hgrow.size, hgrow.block⟩ (fun k e => Or.inr (Or.inr e)))
        exact f3.trans (Fr.of_set w5 rp 5 _ (Or.inl rfl))
      have HAt : Hid (∀ b, (Value.slice (some ⟨g, 0, none⟩) (vs.length + 1) cap).ownBlock = some b → (Value.slice sa vs.length sc).ownBlock = some b ∨ w.heap.size ≤ b) := fun b e => by
        have e1 : g = b := by simpa [Value.ownBlock] using e
        rcases hat with h | h
        · exact Or.inl (by rw [← e1]; exact h)
        · have h1 := HB4.out.size
          have h2 : g = W3.heap.size + 1 := by rw [h]; simp
          exact Or.inr (by omega)
      have hbb : (w5.setCell ⟨rp, 5, none⟩ (.slice (some ⟨g, 0, none⟩) (vs.length + 1) cap)).heap[bx]? = W3.heap[bx]? := by
        have h1 := HBX.out
        have h2 := HLT.out
        rw [Below.heap_setCell _ _ _ _ (fun e => by have e3 : bx = rp := e; omega)]
        rw [hgrow.block bx (by simp; omega) (fun e => by have := HSB.out bx e.symm; omega)]
        exact Below.heap_alloc _ _ _ h1.2
      have HY : Hid (∀ W : World, W.heap[bx]? = (w5.setCell ⟨rp, 5, none⟩ (.slice (some ⟨g, 0, none⟩) (vs.length + 1) cap)).heap[bx]? → W.cell? ⟨bx, 0, none⟩ = some (.string bVer) ∧ W.cell? ⟨bx, 1, none⟩ = some (.string ⟨#[]⟩) ∧ W.cell? ⟨bx, 2, none⟩ = some (.string v) ∧ W.cell? ⟨bx, 3, none⟩ = some (.string ⟨#[]⟩)) := fun W e => by
        rw [hbb] at e
        exact ⟨by rw [World.cell?_of_block (w := W3) (a := ⟨bx, 0, none⟩) e]; exact x0, by rw [World.cell?_of_block (w := W3) (a := ⟨bx, 1, none⟩) e]; exact x1, by rw [World.cell?_of_block (w := W3) (a := ⟨bx, 2, none⟩) e]; exact x2, by rw [World.cell?_of_block (w := W3) (a := ⟨bx, 3, none⟩) e]; exact x3⟩
      have hbx5 : bx < (w5.setCell ⟨rp, 5, none⟩ (.slice (some ⟨g, 0, none⟩) (vs.length + 1) cap)).heap.size := by
        have h1 : W3.heap.size + 1 ≤ w5.heap.size := by have := hgrow.size; simpa using this
        have h2 := HBX.out.2
        simp [World.setCell]
        omega
      have HBX5 : Hid (bx < (w5.setCell ⟨rp, 5, none⟩ (.slice (some ⟨g, 0, none⟩) (vs.length + 1) cap)).heap.size ∧ bx ≠ mb) := ⟨hbx5, by have := HLT.out; have := HBX.out; omega⟩
      clear hbb hbx5 x0 x1 x2 x3 c1 c1b c3 f3 hown hgrow hat hlt2 hnw hoe HF4 HNE HRa HR HSB HB4 HBX
      go_upto_region 3 with fail
      generalize w5.setCell ⟨rp, 5, none⟩ (.slice (some ⟨g, 0, none⟩) (vs.length + 1) cap) = W5 at *
      have c4 : W5.cell? ⟨rp, 4, none⟩ = some (.map (some mb)) := HR5.out.fm
      obtain ⟨y0, y1, y2, y3⟩ := HY.out W5 rfl
      have kc : ∀ W, Calls Tryz.prog 174 #[.agg #[.string bVer, .string ⟨#[]⟩, .string v, .string ⟨#[]⟩]] W fun e w' => e = .returned (.agg #[.string bVer, .string ⟨#[]⟩, .string v]) ∧ Below W.heap.size W w' := fun W => claim_other _ _ v _ W (by kernel_rfl)
      have kst : ∀ W, Below W5.heap.size W5 W → ∃ w7, (Instr.mapUpdate 148 (.map (some mb)) (.agg #[.string bVer, .string ⟨#[]⟩, .string v]) (.int .i64 ln)).run Tryz.prog W = .ok () w7 ∧ Hid (Rd w7 rp mb B sp (.slice (some ⟨g, 0, none⟩) (vs.length + 1) cap) (vs ++ [v]) (vs ++ [v])) ∧ Hid (Fr (Mine rp mb (.slice sa vs.length sc)) w w7) ∧ w7.heap[bx]? = W5.heap[bx]? := fun W hb => by
        have l := HR5.out.lt
        have e1 := hb.block rp (by omega)
        have e2 := hb.block mb (by omega)
        have r6 := HR5.out.of_block hb.size e1 e2 (fun b e => hb.block b (HR5.out.own.lt b e).2)
        obtain ⟨w7, h1, h2, h3⟩ := said_store hln hn hv r6.said
        refine ⟨w7, h1, r6.put h3 (by rw [List.length_append]; exact h2), (HFr.out.trans (Fr.of_below hb)).trans (Fr.of_grown h3 (fun k e => Or.inr (Or.inl (by injection e with e; exact e.symm)))), ?_⟩
        have h4 := HBX5.out
        rw [h3.block bx (Nat.lt_of_lt_of_le h4.1 hb.size) (fun e => h4.2 (by injection e))]
        exact hb.block bx h4.1
      go_region_held3 (fun w' => w'.cell? ⟨rp, 4, none⟩ = some (.map (some mb)) ∧ w'.cell? ⟨bx, 0, none⟩ = some (.string bVer) ∧ w'.cell? ⟨bx, 1, none⟩ = some (.string ⟨#[]⟩) ∧ w'.cell? ⟨bx, 2, none⟩ = some (.string v) ∧ w'.cell? ⟨bx, 3, none⟩ = some (.string ⟨#[]⟩))
        (first | exact ⟨c4, y0, y1, y2, y3⟩ | exact ⟨HR7.out.fm, HY.out _ hbx7⟩ | exact ⟨hc6, HY.out _ hbx6⟩)
        (first | (go_at_call 174; refine (kc _).mono ?_; rintro e w6 ⟨rfl, hb6⟩; have hbB : Below W5.heap.size W5 w6 := (Below.refl W5.heap.size W5).drew.trans hb6; have hbx6 : w6.heap[bx]? = W5.heap[bx]? := hbB.block bx HBX5.out.1; have hc6 : w6.cell? ⟨rp, 4, none⟩ = some (.map (some mb)) := (hbB.cell (p := ⟨rp, 4, none⟩) (World.block_lt_of_cell? W5 _ c4)).trans c4; obtain ⟨w7, hrun, HR7, HF7, hbx7⟩ := kst w6 hbB; clear hb6))
      all_goals
        obtain ⟨z0, z1, z2, z3⟩ := HY.out _ hbx7
        clear HFr kst kc hrun y0 y1 y2 y3 c4 hc6 hbB hbx6 hbx7 HY HR5
        go_wp2
        exact bodyPost_end (v := .tuple #[]) (by simp [results, Tryz.results125, go_sem]) rfl ⟨_, rfl, HR7.out, HF7.out, HAt.out⟩

end Go.Proofs.YtelmkfkgpnadnaaGreatDoor
