/-
  The document's answer, of a manifest: what must stand behind a first word; the slip of a line's words.
  The document's answer, of a manifest: the slip of a line's words: the two loops.
-/
import Derived.Test.YtelmkfkgpnadnaaGreatDoorKQA
import Derived.Test.YtelmkfkgpnadnaaGreatDoorKFA
import Derived.Test.YtelmkfkgpnadnaaGreatDoorKNA
namespace Go.Proofs.YtelmkfkgpnadnaaGreatDoor
open Go.RowKit
namespace Mf

variable {w w' : World}

def byteOf (k : Nat) : UInt8 := if k = 5 then 112 else if k = 6 then 118 else 62
def fb (ks : List Nat) : ByteArray := ⟨(ks.map byteOf).toArray⟩
def formM (x : ByteArray) : ByteArray := match Tx.shape false x.data.toList with
  | none => ⟨#[]⟩
  | some ks => fb ks

set_option maxHeartbeats 1000000 in
theorem form_any (x : ByteArray) (w : World) : Calls Tryz.prog 162 #[.string x, .bool false] w fun e w' => e = .returned (.string (formM x)) ∧ w' = w := by
  unfold formM
  cases h : Tx.shape false x.data.toList with
  | some ks =>
    simp only
    rcases shape_cases h with ⟨e, rfl⟩ | ⟨e, rfl⟩ | ⟨e, rfl⟩
    · obtain rfl : x = bMod := ba_list e
      clear h e
      go_enter Tryz.func162, Tryz.ntmps162
      go_wp2
      go_ret
      exact ⟨rfl, rfl⟩
    · rcases e with e | e
      · obtain rfl : x = bReq := ba_list e
        clear h e
        go_enter Tryz.func162, Tryz.ntmps162
        go_wp2
        go_ret
        exact ⟨rfl, rfl⟩
      · obtain rfl : x = bExc := ba_list e
        clear h e
        go_enter Tryz.func162, Tryz.ntmps162
        go_wp2
        go_ret
        exact ⟨rfl, rfl⟩
    · obtain rfl : x = bRep := ba_list e
      clear h e
      go_enter Tryz.func162, Tryz.ntmps162
      go_wp2
      go_ret
      exact ⟨rfl, rfl⟩
  | none =>
    simp only
    unfold Tx.shape at h
    simp only [Bool.false_eq_true, if_false] at h
    have hM : x.data.toList ≠ Tx.wM := fun e => by rw [if_pos e] at h; cases h
    rw [if_neg hM] at h
    have hRE : ¬ (x.data.toList = Tx.wR ∨ x.data.toList = Tx.wE) := fun e => by rw [if_pos e] at h; cases h
    rw [if_neg hRE] at h
    have hP : x.data.toList ≠ Tx.wP := fun e => by rw [if_pos e] at h; cases h
    have h1 := list_ne hM
    have h2 := list_ne (fun e => hRE (Or.inl e))
    have h3 := list_ne (fun e => hRE (Or.inr e))
    have h4 := list_ne hP
    unfold Tx.wM at h1
    unfold Tx.wR at h2
    unfold Tx.wE at h3
    unfold Tx.wP at h4
    clear h hM hRE hP
    go_enter Tryz.func162, Tryz.ntmps162
    go_wp2
    go_ret
    exact ⟨rfl, rfl⟩

set_option maxRecDepth 100000 in
set_option maxHeartbeats 1000000 in
theorem wrong_manyM (n gw ga m cw ca : Nat) (f : ByteArray) (a2 : Nat) (en : Int) (w : World) (hf : (f.toList == []) = false) (hf4 : f.size ≤ 4) (hm : f.size + 1 < m) (h0 : w.cell? ⟨ga, f.size + 1, none⟩ = some (.int .i64 a2)) :
    Calls Tryz.prog 161 #[.agg #[.int .i64 n, .slice (some ⟨gw, 0, none⟩) m cw, .slice (some ⟨ga, 0, none⟩) m ca, .int .i64 en], .string f] w fun e w' => e = .returned (.agg #[.int .i64 n, .int .i64 a2, .int .i64 4]) ∧ Below w.heap.size w w' := by
  have H0 := cell3 h0
  have hmI : (f.size : Int) + 1 < (m : Int) := by omega
  have hmn : ((m : Int) != (f.size : Int) + 1) = true := by simp; omega
  have HB : Hid (∀ o1 o2 o3 : Obj, Below w.heap.size w (((w.alloc o1).alloc o2).alloc o3)) := below3 w
  clear h0
  go_enter Tryz.func161, Tryz.ntmps161
  go_wp2
  exact bodyPost_ret (v := .agg #[.int .i64 n, .int .i64 a2, .int .i64 4]) (by simp [results, Tryz.results161, go_sem]) rfl ⟨rfl, HB.out _ _ _⟩

set_option maxRecDepth 100000 in
set_option maxHeartbeats 1000000 in
theorem wrong_fewM (n gw ga m cw ca : Nat) (f : ByteArray) (en : Int) (w : World) (hf : (f.toList == []) = false) (hf4 : f.size ≤ 4) (hm : m < f.size + 1) :
    Calls Tryz.prog 161 #[.agg #[.int .i64 n, .slice (some ⟨gw, 0, none⟩) m cw, .slice (some ⟨ga, 0, none⟩) m ca, .int .i64 en], .string f] w fun e w' => e = .returned (.agg #[.int .i64 n, .int .i64 en, .int .i64 4]) ∧ Below w.heap.size w w' := by
  have hmI : ¬ ((m : Int) > (f.size : Int) + 1) := by omega
  have hmn : ((m : Int) != (f.size : Int) + 1) = true := by simp; omega
  have HB : Hid (∀ o1 o2 o3 : Obj, Below w.heap.size w (((w.alloc o1).alloc o2).alloc o3)) := below3 w
  go_enter Tryz.func161, Tryz.ntmps161
  go_wp2
  exact bodyPost_ret (v := .agg #[.int .i64 n, .int .i64 en, .int .i64 4]) (by simp [results, Tryz.results161, go_sem]) rfl ⟨rfl, HB.out _ _ _⟩

/-- What a look at a line has laid. -/
structure Wy (W : World) (L gw ga m cw ca n : Nat) (ws : Wl) : Prop where
  l1 : W.cell? ⟨L, 1, none⟩ = some (.slice (some ⟨gw, 0, none⟩) m cw)
  l2 : W.cell? ⟨L, 2, none⟩ = some (.slice (some ⟨ga, 0, none⟩) m ca)
  r : ValsAt W (L + 1) 3 (fun _ => .int .i64 0)
  x : ValsAt W (L + 2) 3 (fun f => if f = 0 then .int .i64 n else .int .i64 0)
  k0 : W.cell? ⟨L + 3, 0, none⟩ = some (.int .i64 5)
  k1 : W.cell? ⟨L + 3, 1, none⟩ = some (.int .i64 6)
  k2 : W.cell? ⟨L + 3, 2, none⟩ = some (.int .i64 7)
  wv : ValsAt W gw m (fun j => .string (ws.getD j pad).2)
  av : ValsAt W ga m (fun j => .int .i64 (ws.getD j pad).1)
  lt : gw < W.heap.size ∧ ga < W.heap.size

theorem Wy.below {W W' : World} {L gw ga m cw ca n : Nat} {ws : Wl} (h : Wy W L gw ga m cw ca n ws) (hb : Below W.heap.size W W') : Wy W' L gw ga m cw ca n ws := by
  have h1 := World.block_lt_of_cell? W _ h.l1
  have h2 := World.block_lt_of_cell? W _ (h.r.at' 0 (by omega))
  have h3 := World.block_lt_of_cell? W _ (h.x.at' 0 (by omega))
  have h4 := World.block_lt_of_cell? W _ h.k1
  exact ⟨by rw [hb.cell (p := ⟨L, 1, none⟩) h1]; exact h.l1, by rw [hb.cell (p := ⟨L, 2, none⟩) h1]; exact h.l2, h.r.of_block (hb.block _ h2), h.x.of_block (hb.block _ h3), by rw [hb.cell (p := ⟨L + 3, 0, none⟩) h4]; exact h.k0, by rw [hb.cell (p := ⟨L + 3, 1, none⟩) h4]; exact h.k1, by rw [hb.cell (p := ⟨L + 3, 2, none⟩) h4]; exact h.k2, h.wv.of_block (hb.block _ h.lt.1), h.av.of_block (hb.block _ h.lt.2), Nat.lt_of_lt_of_le h.lt.1 hb.size, Nat.lt_of_lt_of_le h.lt.2 hb.size⟩

theorem wy_new {n gw ga m cw ca : Nat} {en : Int} {ws : Wl} (h0 : ValsAt w gw m (fun j => .string (ws.getD j pad).2)) (h1 : ValsAt w ga m (fun j => .int .i64 (ws.getD j pad).1)) (hl : gw < w.heap.size ∧ ga < w.heap.size) :
    Wy ((((w.alloc (.cells #[.int .i64 n, .slice (some ⟨gw, 0, none⟩) m cw, .slice (some ⟨ga, 0, none⟩) m ca, .int .i64 en] 210)).alloc (.cells #[.int .i64 0, .int .i64 0, .int .i64 0] 45)).alloc (.cells #[.int .i64 n, .int .i64 0, .int .i64 0] 45)).alloc (.cells #[.int .i64 5, .int .i64 6, .int .i64 7] 3)) w.heap.size gw ga m cw ca n ws ∧ Below w.heap.size w ((((w.alloc (.cells #[.int .i64 n, .slice (some ⟨gw, 0, none⟩) m cw, .slice (some ⟨ga, 0, none⟩) m ca, .int .i64 en] 210)).alloc (.cells #[.int .i64 0, .int .i64 0, .int .i64 0] 45)).alloc (.cells #[.int .i64 n, .int .i64 0, .int .i64 0] 45)).alloc (.cells #[.int .i64 5, .int .i64 6, .int .i64 7] 3)) := by
  generalize hA : (Obj.cells #[.int .i64 n, .slice (some ⟨gw, 0, none⟩) m cw, .slice (some ⟨ga, 0, none⟩) m ca, .int .i64 en] 210) = A
  generalize hBq : (Obj.cells #[.int .i64 0, .int .i64 0, .int .i64 0] 45) = Bq
  generalize hC : (Obj.cells #[.int .i64 n, .int .i64 0, .int .i64 0] 45) = C
  generalize hE : (Obj.cells #[.int .i64 5, .int .i64 6, .int .i64 7] 3) = E
  have hb : Below w.heap.size w ((((w.alloc A).alloc Bq).alloc C).alloc E) := ((((Below.refl _ _).alloc (Nat.le_refl _) _).alloc (by simp) _).alloc (by simp; omega) _).alloc (by simp; omega) _
  have b0 : ((((w.alloc A).alloc Bq).alloc C).alloc E).heap[w.heap.size]? = some A := by
    rw [Below.heap_alloc _ _ _ (by simp; omega), Below.heap_alloc _ _ _ (by simp; omega), Below.heap_alloc _ _ _ (by simp)]
    exact block_new _ _
  have e1 : (w.alloc A).heap.size = w.heap.size + 1 := by simp
  have b1 : ((((w.alloc A).alloc Bq).alloc C).alloc E).heap[w.heap.size + 1]? = some Bq := by
    rw [Below.heap_alloc _ _ _ (by simp), Below.heap_alloc _ _ _ (by simp), ← e1]
    exact block_new _ _
  have e2 : ((w.alloc A).alloc Bq).heap.size = w.heap.size + 2 := by simp
  have b2 : ((((w.alloc A).alloc Bq).alloc C).alloc E).heap[w.heap.size + 2]? = some C := by
    rw [Below.heap_alloc _ _ _ (by simp), ← e2]
    exact block_new _ _
  have e3 : (((w.alloc A).alloc Bq).alloc C).heap.size = w.heap.size + 3 := by simp
  have b3 : ((((w.alloc A).alloc Bq).alloc C).alloc E).heap[w.heap.size + 3]? = some E := by
    rw [← e3]
    exact block_new _ _
  generalize (((w.alloc A).alloc Bq).alloc C).alloc E = W at *
  subst hA hBq hC hE
  refine ⟨⟨by simp only [World.cell?, b0]; rfl, by simp only [World.cell?, b0]; rfl, ⟨fun j hj => ?_, fun j hj => ?_⟩, ⟨fun j hj => ?_, fun j hj => ?_⟩, by simp only [World.cell?, b3]; rfl, by simp only [World.cell?, b3]; rfl, by simp only [World.cell?, b3]; rfl, h0.of_block (hb.block _ hl.1), h1.of_block (hb.block _ hl.2), Nat.lt_of_lt_of_le hl.1 hb.size, Nat.lt_of_lt_of_le hl.2 hb.size⟩, hb⟩
  · simp only [World.cell?, b1]
    rcases (by omega : j = 0 ∨ j = 1 ∨ j = 2) with e | e | e <;> simp [e]
  · simp only [World.frozen?, b1]; simp
  · simp only [World.cell?, b2]
    rcases (by omega : j = 0 ∨ j = 1 ∨ j = 2) with e | e | e <;> simp [e]
  · simp only [World.frozen?, b2]; simp

/-- What the two loops find: from place i at kind k on. -/
def seek (ks : List Nat) (ws : Wl) (k i : Nat) : Option (Nat × Nat) :=
  match Tx.misfit Pv.isPath (5 + k) (ks.drop i) ((wtoks ws).drop i) with
  | some a => some (a, 5 + k)
  | none => if k = 0 then (match Tx.misfit Pv.isPath 6 ks (wtoks ws) with | some a => some (a, 6) | none => match Tx.misfit Pv.isPath 7 ks (wtoks ws) with | some a => some (a, 7) | none => none)
    else if k = 1 then (match Tx.misfit Pv.isPath 7 ks (wtoks ws) with | some a => some (a, 7) | none => none) else none

theorem seek_next (ks : List Nat) (ws : Wl) (k : Nat) (hk : k < 2) : seek ks ws k ks.length = seek ks ws (k + 1) 0 := by
  have h0 : Tx.misfit Pv.isPath (5 + k) (ks.drop ks.length) ((wtoks ws).drop ks.length) = none := by
    rw [List.drop_length]; rfl
  unfold seek
  rw [h0]
  rcases (by omega : k = 0 ∨ k = 1) with rfl | rfl
  · simp only [List.drop_zero, if_pos]
    cases Tx.misfit Pv.isPath 6 ks (wtoks ws) with
    | some a => rfl
    | none => rfl
  · simp only [List.drop_zero]
    cases Tx.misfit Pv.isPath 7 ks (wtoks ws) with
    | some a => rfl
    | none => rfl

theorem seek_end (ks : List Nat) (ws : Wl) : seek ks ws 2 ks.length = none := by
  have h0 : Tx.misfit Pv.isPath (5 + 2) (ks.drop ks.length) ((wtoks ws).drop ks.length) = none := by
    rw [List.drop_length]; rfl
  unfold seek
  rw [h0]
  rfl

theorem seek_hit {ks : List Nat} {ws : Wl} {k i : Nat} (hi : i < ks.length) (hw : i < ws.length) (he : ks[i] = 5 + k) (hf : Tx.fit Pv.isPath (5 + k) ws[i].2.data.toList = false) : seek ks ws k i = some (ws[i].1, 5 + k) := by
  unfold seek
  rw [misfit_step Pv.isPath (5 + k) ks ws i hi hw, if_pos ⟨he, hf⟩]

theorem seek_miss {ks : List Nat} {ws : Wl} {k i : Nat} (hi : i < ks.length) (hw : i < ws.length) (h : ¬ (ks[i] = 5 + k ∧ Tx.fit Pv.isPath (5 + k) ws[i].2.data.toList = false)) : seek ks ws k i = seek ks ws k (i + 1) := by
  unfold seek
  rw [misfit_step Pv.isPath (5 + k) ks ws i hi hw, if_neg h]

theorem seek_own (ks : List Nat) (ws : Wl) : seek ks ws 0 0 = match Tx.misfit Pv.isPath 5 ks (wtoks ws) with
      | some a => some (a, 5)
      | none => match Tx.misfit Pv.isPath 6 ks (wtoks ws) with
        | some a => some (a, 6)
        | none => match Tx.misfit Pv.isPath 7 ks (wtoks ws) with
          | some a => some (a, 7)
          | none => none := by
  unfold seek
  simp only [List.drop_zero, if_pos]

theorem fb_size (ks : List Nat) : (fb ks).size = ks.length := by
  show (ks.map byteOf).toArray.size = _
  simp

theorem fb_get (ks : List Nat) (i : Nat) (h : i < (fb ks).size) (h' : i < ks.length) : (fb ks)[i] = byteOf ks[i] := by
  have e : (fb ks).data.toList = ks.map byteOf := rfl
  have h1 : i < (fb ks).data.toList.length := by rw [e]; simpa using h'
  have h2 : (fb ks)[i] = (fb ks).data.toList[i] := rfl
  rw [h2, List.getElem_of_eq e h1, List.getElem_map]

theorem byte_facts (q : Nat) (hq : q = 5 ∨ q = 6 ∨ q = 7) : (((byteOf q).toNat : Int) == 112) = (q == 5) ∧ (((byteOf q).toNat : Int) == 118) = (q == 6) ∧ (((byteOf q).toNat : Int) == 62) = (q == 7) := by
  rcases hq with rfl | rfl | rfl <;> exact ⟨rfl, rfl, rfl⟩

end Mf
end Go.Proofs.YtelmkfkgpnadnaaGreatDoor

namespace Go.Proofs.YtelmkfkgpnadnaaGreatDoor
open Go.RowKit
namespace Mf

variable {w w' : World}

def seekK (ks : List Nat) (ws : Wl) (k : Nat) : Option (Nat × Nat) := if k < 3 then seek ks ws k 0 else none

set_option maxRecDepth 100000 in
set_option maxHeartbeats 8000000 in
theorem wrong_same (n gw ga cw ca : Nat) (ks : List Nat) (hks : ∀ k ∈ ks, k = 5 ∨ k = 6 ∨ k = 7) (hl1 : 1 ≤ ks.length) (hl4 : ks.length ≤ 4) (x0 : Nat × ByteArray) (ws : Wl) (hws : ws.length = ks.length) (hsz : ∀ x ∈ ws, x.2.size ≤ 4000) (en : Int) (w : World)
    (h0 : ValsAt w gw (ks.length + 1) (fun j => .string ((x0 :: ws).getD j pad).2)) (h1 : ValsAt w ga (ks.length + 1) (fun j => .int .i64 ((x0 :: ws).getD j pad).1)) (hl : gw < w.heap.size ∧ ga < w.heap.size) :
    Calls Tryz.prog 161 #[.agg #[.int .i64 n, .slice (some ⟨gw, 0, none⟩) (ks.length + 1) cw, .slice (some ⟨ga, 0, none⟩) (ks.length + 1) ca, .int .i64 en], .string (fb ks)] w fun e w' => e = .returned (slipV n (seek ks ws 0 0)) ∧ Below w.heap.size w w' := by
  have hx := wy_new (n := n) (cw := cw) (ca := ca) (en := en) h0 h1 hl
  clear h0 h1 hl
  have HR : Hid (seekK ks ws 0 = seek ks ws 0 0) := rfl
  generalize seek ks ws 0 0 = R at HR ⊢
  have hfs : (fb ks).size = ks.length := fb_size ks
  have HP : Hid (∀ i (hi : i < (fb ks).size), ∃ (hk : i < ks.length) (hw : i < ws.length), (((((fb ks)[i].toNat : Int) == 112) = (ks[i] == 5)) ∧ ((((fb ks)[i].toNat : Int) == 118) = (ks[i] == 6)) ∧ ((((fb ks)[i].toNat : Int) == 62) = (ks[i] == 7))) ∧ (ks[i] = 5 ∨ ks[i] = 6 ∨ ks[i] = 7) ∧ ws[i].2.size ≤ 4000 ∧ ((x0 :: ws).getD (i + 1) pad) = ws[i]) := fun i hi => by
    have hk : i < ks.length := by rw [← hfs]; exact hi
    have hw : i < ws.length := by rw [hws]; exact hk
    have hq := hks ks[i] (List.getElem_mem hk)
    refine ⟨hk, hw, ?_, hq, hsz _ (List.getElem_mem hw), ?_⟩
    · rw [fb_get ks i hi hk]
      exact byte_facts _ hq
    · show ws.getD i pad = ws[i]
      rw [List.getD, List.getElem?_eq_getElem hw]; rfl
  have hne : ((fb ks).toList == []) = false := list_ne (fun e => by
    have h0 : (fb ks).data.toList.length = 0 := by rw [e]; rfl
    rw [← Lib.size_eq] at h0
    omega)
  have HE : Hid (∀ k, seek ks ws k (fb ks).size = seek ks ws k ks.length) := fun k => by rw [hfs]
  rw [← hfs] at hx ⊢
  have hf4 : (fb ks).size ≤ 4 := by omega
  clear hks hsz hws hl1 hl4 hfs
  generalize fb ks = f at *
  go_enter Tryz.func161, Tryz.ntmps161
  go_wp2
  generalize ((((w.alloc (.cells #[.int .i64 n, .slice (some ⟨gw, 0, none⟩) (f.size + 1) cw, .slice (some ⟨ga, 0, none⟩) (f.size + 1) ca, .int .i64 en] 210)).alloc (.cells #[.int .i64 0, .int .i64 0, .int .i64 0] 45)).alloc (.cells #[.int .i64 n, .int .i64 0, .int .i64 0] 45)).alloc (.cells #[.int .i64 5, .int .i64 6, .int .i64 7] 3)) = W0 at hx ⊢
  have HX : Hid (Wy W0 w.heap.size gw ga (f.size + 1) cw ca n (x0 :: ws)) := hx.1
  have HB : Hid (Below w.heap.size w W0) := hx.2
  clear hx
  go_loopg [8] 3 (fun gg s wr => ∃ k : Nat, k ≤ 3 ∧ 3 - k ≤ gg ∧ s = .int .i64 k ∧ Hid (Below W0.heap.size W0 wr) ∧ Hid (seekK ks ws k = R))
  case atStart => exact ⟨0, by omega, by omega, rfl, Below.refl _ _, HR⟩
  case round =>
    clear HR
    obtain ⟨k, hk, hgk, rfl, HBk, HR⟩ := hrel
    by_cases hk3 : k < 3
    · have HRi : Hid (seek ks ws k 0 = R) := by
        have := HR.out
        unfold seekK at this
        rw [if_pos hk3] at this
        exact this
      have HNx : Hid (seek ks ws k ks.length = seekK ks ws (k + 1)) := by
        show _ = _
        unfold seekK
        rcases (by omega : k < 2 ∨ k = 2) with e | e
        · rw [if_pos (by omega)]; exact seek_next ks ws k e
        · rw [e, if_neg (by omega)]; exact seek_end ks ws
      clear HR
      rcases (by omega : k = 0 ∨ k = 1 ∨ k = 2) with rfl | rfl | rfl
      · clear hk3
        go_wp2
        go_loopg [9] f.size (fun gg s wi => ∃ i : Nat, i ≤ f.size ∧ f.size - i ≤ gg ∧ s = .int .i64 i ∧ Hid (Below W0.heap.size W0 wi) ∧ Hid (seek ks ws 0 i = R))
        case atStart => exact ⟨0, by omega, by omega, rfl, HBk, HRi⟩
        case round =>
          clear HRi HBk
          obtain ⟨i, hi, hgi, rfl, HBi, HRi⟩ := hrel
          by_cases hlt : i < f.size
          · have hltI : (i : Int) < (f.size : Int) := by omega
            obtain ⟨hki, hwi, ⟨p1, p2, p3⟩, hq, hs4, hgd⟩ := HP.out i hlt
            have hX := HX.out.below HBi.out
            have c1 := hX.l1
            have c2 : wr.cell? ⟨gw, i + 1, none⟩ = some (.string ws[i].2) := by have h := hX.wv.at' (i + 1) (by omega); rw [hgd] at h; exact h
            have HA : Hid (Value.int .i64 ((x0 :: ws).getD (i + 1) pad).1 = .int .i64 ws[i].1) := by show _ = _; rw [hgd]
            have HMiss : Hid (¬ (ks[i] = 5 + 0 ∧ Tx.fit Pv.isPath (5 + 0) ws[i].2.data.toList = false) → seek ks ws 0 (i + 1) = R) := fun h => by rw [← seek_miss hki hwi h]; exact HRi.out
            have HHit : Hid (ks[i] = 5 + 0 → Tx.fit Pv.isPath (5 + 0) ws[i].2.data.toList = false → R = some (ws[i].1, 5 + 0)) := fun e h => by rw [← HRi.out]; exact seek_hit hki hwi e h
            clear HRi hX hgd
            generalize ws[i].1 = a at *
            generalize ws[i].2 = x at *
            generalize ks[i] = q at *
            generalize hcc : (f[i].toNat : Int) = cc at *
            clear hki hwi
            rcases hq with rfl | rfl | rfl
            · replace p1 : (cc == 112) = true := p1
              replace p2 : (cc == 118) = false := p2
              replace p3 : (cc == 62) = false := p3
              have p4 : (cc == (((⟨#[112, 118, 62]⟩ : ByteArray)[0]'(by decide)).toNat : Int)) = true := p1
              generalize hqq : (x.toList == [61, 62]) = qq
              have kp := fun W => isPath_doc x W (by omega)
              have hfit : Tx.fit Pv.isPath 5 x.data.toList = Pv.isPath x.data.toList := rfl
              rw [show 5 + 0 = 5 from rfl, hfit] at HMiss HHit
              generalize Pv.isPath x.data.toList = ok at *
              have HH2 : Hid (ok = false → R = some (a, 5)) := fun e => HHit.out rfl e
              have HM2 : Hid (ok = true → seek ks ws 0 (i + 1) = R) := fun e => HMiss.out (fun h => by rw [e] at h; cases h.2)
              clear HMiss HHit
              go_wp2_with (go_at_call 138; fail)
              go_at_call 138
              refine (kp _).mono ?_
              intro e w1 h1
              rw [h1.1, h1.2]
              clear h1 kp
              have HB1 : Hid (Below W0.heap.size W0 wr) := HBi
              cases ok
              · have HHit : Hid (R = some (a, 5)) := HH2.out rfl
                clear HM2 HH2
                go_upto_region 26 with fail
                go_quiet (fail)
                generalize hW : World.drewN _ _ = W1
                have HB2 : Hid (Below W0.heap.size W0 W1) := by rw [← hW]; exact ⟨HB1.out.os, HB1.out.tape, HB1.out.output, HB1.out.size, HB1.out.block⟩
                clear hW HB1
                have HX2 := HX.out.below HB2.out
                have x0' := HX2.x.at' 0 (by omega)
                have x1' := HX2.x.at' 1 (by omega)
                have x2' := HX2.x.at' 2 (by omega)
                have v1' := HX2.x.fr 1 (by omega)
                have v2' := HX2.x.fr 2 (by omega)
                have y0' := HX2.r.at' 0 (by omega)
                have y1' := HX2.r.at' 1 (by omega)
                have y2' := HX2.r.at' 2 (by omega)
                have z0' := HX2.r.fr 0 (by omega)
                have z1' := HX2.r.fr 1 (by omega)
                have z2' := HX2.r.fr 2 (by omega)
                have l2' := HX2.l2
                have k0' := HX2.k0
                have k1' := HX2.k1
                have k2' := HX2.k2
                have av' : W1.cell? ⟨ga, i + 1, none⟩ = some (.int .i64 a) := by rw [← HA.out]; exact HX2.av.at' (i + 1) (by omega)
                simp only [if_true, show (1 : Nat) ≠ 0 by decide, show (2 : Nat) ≠ 0 by decide, if_false] at x0' x1' x2'
                have hbw : Below w.heap.size w W1 := HB.out.trans (HB2.out.mono HB.out.size)
                clear HX2
                go_wp2
                (try rw [Exit.noGoto_ret])
                exact bodyPost_ret (v := .agg #[.int .i64 n, .int .i64 a, .int .i64 5]) (by simp [results, Tryz.results161, go_sem, y0', y1', y2']) rfl ⟨by rw [HHit.out]; rfl, ((((hbw.setCell (by simp; omega) _).setCell (by simp; omega) _).setCell (by simp) _).setCell (by simp) _).setCell (by simp) _⟩
              · have HMs : Hid (seek ks ws 0 (i + 1) = R) := HM2.out rfl
                clear HM2 HH2
                go_upto_region 26 with fail
                go_quiet (fail)
                generalize hW : World.drewN _ _ = W1
                have HB2 : Hid (Below W0.heap.size W0 W1) := by rw [← hW]; exact ⟨HB1.out.os, HB1.out.tape, HB1.out.output, HB1.out.size, HB1.out.block⟩
                clear hW HB1
                go_wp2
                go_roundg (f.size - (i + 1))
                case measure => omega
                case rel => exact ⟨i + 1, by omega, by omega, by first | rfl | go_num, HB2, HMs⟩
            · replace p1 : (cc == 112) = false := p1
              replace p2 : (cc == 118) = true := p2
              replace p3 : (cc == 62) = false := p3
              have p4 : (cc == (((⟨#[112, 118, 62]⟩ : ByteArray)[0]'(by decide)).toNat : Int)) = false := p1
              generalize hqq : (x.toList == [61, 62]) = qq
              have kp := fun W => isVersion_any x W
              have hfit : Tx.fit Pv.isPath 6 x.data.toList = (Pv.parse x.data.toList).isSome := rfl
              clear hfit
              generalize (Pv.parse x.data.toList).isSome = ok at *
              have HMs : Hid (seek ks ws 0 (i + 1) = R) := HMiss.out (fun h => absurd h.1 (by decide))
              clear HMiss HHit
              go_wp2_with (go_at_call 181; fail)
              go_at_call 181
              refine (kp _).mono ?_
              rintro e w1 ⟨rfl, hb⟩
              have HB1 : Hid (Below W0.heap.size W0 w1) := HBi.out.trans (hb.mono HBi.out.size)
              clear hb kp
              go_upto_region 26 with fail
              go_quiet (fail)
              generalize hW : World.drewN _ _ = W1
              have HB2 : Hid (Below W0.heap.size W0 W1) := by rw [← hW]; exact ⟨HB1.out.os, HB1.out.tape, HB1.out.output, HB1.out.size, HB1.out.block⟩
              clear hW HB1
              go_wp2
              go_roundg (f.size - (i + 1))
              case measure => omega
              case rel => exact ⟨i + 1, by omega, by omega, by first | rfl | go_num, HB2, HMs⟩
            · replace p1 : (cc == 112) = false := p1
              replace p2 : (cc == 118) = false := p2
              replace p3 : (cc == 62) = true := p3
              have p4 : (cc == (((⟨#[112, 118, 62]⟩ : ByteArray)[0]'(by decide)).toNat : Int)) = false := p1
              generalize hqq : (x.toList == [61, 62]) = qq
              have hfit : Tx.fit Pv.isPath 7 x.data.toList = (x.toList == [61, 62]) := by rw [Lib.toList_data]; rfl
              clear hfit
              have HMs : Hid (seek ks ws 0 (i + 1) = R) := HMiss.out (fun h => absurd h.1 (by decide))
              clear HMiss HHit
              have HB1 : Hid (Below W0.heap.size W0 wr) := HBi
              go_upto_region 26 with fail
              go_quiet (fail)
              generalize hW : World.drewN _ _ = W1
              have HB2 : Hid (Below W0.heap.size W0 W1) := by rw [← hW]; exact ⟨HB1.out.os, HB1.out.tape, HB1.out.output, HB1.out.size, HB1.out.block⟩
              clear hW HB1
              go_wp2
              go_roundg (f.size - (i + 1))
              case measure => omega
              case rel => exact ⟨i + 1, by omega, by omega, by first | rfl | go_num, HB2, HMs⟩
          · have hltI : ¬ ((i : Int) < (f.size : Int)) := by omega
            have hie : i = f.size := by omega
            have HN : Hid (seekK ks ws (0 + 1) = R) := by
              show _ = _
              rw [← HNx.out, ← HE.out, ← hie]
              exact HRi.out
            clear HRi
            go_wp2
            go_roundg (3 - (0 + 1))
            case measure => omega
            case rel => exact ⟨0 + 1, by omega, by omega, by first | rfl | go_num, HBi, HN⟩
      · clear hk3
        go_wp2
        go_loopg [9] f.size (fun gg s wi => ∃ i : Nat, i ≤ f.size ∧ f.size - i ≤ gg ∧ s = .int .i64 i ∧ Hid (Below W0.heap.size W0 wi) ∧ Hid (seek ks ws 1 i = R))
        case atStart => exact ⟨0, by omega, by omega, rfl, HBk, HRi⟩
        case round =>
          clear HRi HBk
          obtain ⟨i, hi, hgi, rfl, HBi, HRi⟩ := hrel
          by_cases hlt : i < f.size
          · have hltI : (i : Int) < (f.size : Int) := by omega
            obtain ⟨hki, hwi, ⟨p1, p2, p3⟩, hq, hs4, hgd⟩ := HP.out i hlt
            have hX := HX.out.below HBi.out
            have c1 := hX.l1
            have c2 : wr.cell? ⟨gw, i + 1, none⟩ = some (.string ws[i].2) := by have h := hX.wv.at' (i + 1) (by omega); rw [hgd] at h; exact h
            have HA : Hid (Value.int .i64 ((x0 :: ws).getD (i + 1) pad).1 = .int .i64 ws[i].1) := by show _ = _; rw [hgd]
            have HMiss : Hid (¬ (ks[i] = 5 + 1 ∧ Tx.fit Pv.isPath (5 + 1) ws[i].2.data.toList = false) → seek ks ws 1 (i + 1) = R) := fun h => by rw [← seek_miss hki hwi h]; exact HRi.out
            have HHit : Hid (ks[i] = 5 + 1 → Tx.fit Pv.isPath (5 + 1) ws[i].2.data.toList = false → R = some (ws[i].1, 5 + 1)) := fun e h => by rw [← HRi.out]; exact seek_hit hki hwi e h
            clear HRi hX hgd
            generalize ws[i].1 = a at *
            generalize ws[i].2 = x at *
            generalize ks[i] = q at *
            generalize hcc : (f[i].toNat : Int) = cc at *
            clear hki hwi
            rcases hq with rfl | rfl | rfl
            · replace p1 : (cc == 112) = true := p1
              replace p2 : (cc == 118) = false := p2
              replace p3 : (cc == 62) = false := p3
              have p4 : (cc == (((⟨#[112, 118, 62]⟩ : ByteArray)[1]'(by decide)).toNat : Int)) = false := p2
              generalize hqq : (x.toList == [61, 62]) = qq
              have kp := fun W => isPath_doc x W (by omega)
              have hfit : Tx.fit Pv.isPath 5 x.data.toList = Pv.isPath x.data.toList := rfl
              clear hfit
              generalize Pv.isPath x.data.toList = ok at *
              have HMs : Hid (seek ks ws 1 (i + 1) = R) := HMiss.out (fun h => absurd h.1 (by decide))
              clear HMiss HHit
              go_wp2_with (go_at_call 138; fail)
              go_at_call 138
              refine (kp _).mono ?_
              intro e w1 h1
              rw [h1.1, h1.2]
              clear h1 kp
              have HB1 : Hid (Below W0.heap.size W0 wr) := HBi
              go_upto_region 26 with fail
              go_quiet (fail)
              generalize hW : World.drewN _ _ = W1
              have HB2 : Hid (Below W0.heap.size W0 W1) := by rw [← hW]; exact ⟨HB1.out.os, HB1.out.tape, HB1.out.output, HB1.out.size, HB1.out.block⟩
              clear hW HB1
              go_wp2
              go_roundg (f.size - (i + 1))
              case measure => omega
              case rel => exact ⟨i + 1, by omega, by omega, by first | rfl | go_num, HB2, HMs⟩
            · replace p1 : (cc == 112) = false := p1
              replace p2 : (cc == 118) = true := p2
              replace p3 : (cc == 62) = false := p3
              have p4 : (cc == (((⟨#[112, 118, 62]⟩ : ByteArray)[1]'(by decide)).toNat : Int)) = true := p2
              generalize hqq : (x.toList == [61, 62]) = qq
              have kp := fun W => isVersion_any x W
              have hfit : Tx.fit Pv.isPath 6 x.data.toList = (Pv.parse x.data.toList).isSome := rfl
              rw [show 5 + 1 = 6 from rfl, hfit] at HMiss HHit
              generalize (Pv.parse x.data.toList).isSome = ok at *
              have HH2 : Hid (ok = false → R = some (a, 6)) := fun e => HHit.out rfl e
              have HM2 : Hid (ok = true → seek ks ws 1 (i + 1) = R) := fun e => HMiss.out (fun h => by rw [e] at h; cases h.2)
              clear HMiss HHit
              go_wp2_with (go_at_call 181; fail)
              go_at_call 181
              refine (kp _).mono ?_
              rintro e w1 ⟨rfl, hb⟩
              have HB1 : Hid (Below W0.heap.size W0 w1) := HBi.out.trans (hb.mono HBi.out.size)
              clear hb kp
              cases ok
              · have HHit : Hid (R = some (a, 6)) := HH2.out rfl
                clear HM2 HH2
                go_upto_region 26 with fail
                go_quiet (fail)
                generalize hW : World.drewN _ _ = W1
                have HB2 : Hid (Below W0.heap.size W0 W1) := by rw [← hW]; exact ⟨HB1.out.os, HB1.out.tape, HB1.out.output, HB1.out.size, HB1.out.block⟩
                clear hW HB1
                have HX2 := HX.out.below HB2.out
                have x0' := HX2.x.at' 0 (by omega)
                have x1' := HX2.x.at' 1 (by omega)
                have x2' := HX2.x.at' 2 (by omega)
                have v1' := HX2.x.fr 1 (by omega)
                have v2' := HX2.x.fr 2 (by omega)
                have y0' := HX2.r.at' 0 (by omega)
                have y1' := HX2.r.at' 1 (by omega)
                have y2' := HX2.r.at' 2 (by omega)
                have z0' := HX2.r.fr 0 (by omega)
                have z1' := HX2.r.fr 1 (by omega)
                have z2' := HX2.r.fr 2 (by omega)
                have l2' := HX2.l2
                have k0' := HX2.k0
                have k1' := HX2.k1
                have k2' := HX2.k2
                have av' : W1.cell? ⟨ga, i + 1, none⟩ = some (.int .i64 a) := by rw [← HA.out]; exact HX2.av.at' (i + 1) (by omega)
                simp only [if_true, show (1 : Nat) ≠ 0 by decide, show (2 : Nat) ≠ 0 by decide, if_false] at x0' x1' x2'
                have hbw : Below w.heap.size w W1 := HB.out.trans (HB2.out.mono HB.out.size)
                clear HX2
                go_wp2
                (try rw [Exit.noGoto_ret])
                exact bodyPost_ret (v := .agg #[.int .i64 n, .int .i64 a, .int .i64 6]) (by simp [results, Tryz.results161, go_sem, y0', y1', y2']) rfl ⟨by rw [HHit.out]; rfl, ((((hbw.setCell (by simp; omega) _).setCell (by simp; omega) _).setCell (by simp) _).setCell (by simp) _).setCell (by simp) _⟩
              · have HMs : Hid (seek ks ws 1 (i + 1) = R) := HM2.out rfl
                clear HM2 HH2
                go_upto_region 26 with fail
                go_quiet (fail)
                generalize hW : World.drewN _ _ = W1
                have HB2 : Hid (Below W0.heap.size W0 W1) := by rw [← hW]; exact ⟨HB1.out.os, HB1.out.tape, HB1.out.output, HB1.out.size, HB1.out.block⟩
                clear hW HB1
                go_wp2
                go_roundg (f.size - (i + 1))
                case measure => omega
                case rel => exact ⟨i + 1, by omega, by omega, by first | rfl | go_num, HB2, HMs⟩
            · replace p1 : (cc == 112) = false := p1
              replace p2 : (cc == 118) = false := p2
              replace p3 : (cc == 62) = true := p3
              have p4 : (cc == (((⟨#[112, 118, 62]⟩ : ByteArray)[1]'(by decide)).toNat : Int)) = false := p2
              generalize hqq : (x.toList == [61, 62]) = qq
              have hfit : Tx.fit Pv.isPath 7 x.data.toList = (x.toList == [61, 62]) := by rw [Lib.toList_data]; rfl
              clear hfit
              have HMs : Hid (seek ks ws 1 (i + 1) = R) := HMiss.out (fun h => absurd h.1 (by decide))
              clear HMiss HHit
              have HB1 : Hid (Below W0.heap.size W0 wr) := HBi
              go_upto_region 26 with fail
              go_quiet (fail)
              generalize hW : World.drewN _ _ = W1
              have HB2 : Hid (Below W0.heap.size W0 W1) := by rw [← hW]; exact ⟨HB1.out.os, HB1.out.tape, HB1.out.output, HB1.out.size, HB1.out.block⟩
              clear hW HB1
              go_wp2
              go_roundg (f.size - (i + 1))
              case measure => omega
              case rel => exact ⟨i + 1, by omega, by omega, by first | rfl | go_num, HB2, HMs⟩
          · have hltI : ¬ ((i : Int) < (f.size : Int)) := by omega
            have hie : i = f.size := by omega
            have HN : Hid (seekK ks ws (1 + 1) = R) := by
              show _ = _
              rw [← HNx.out, ← HE.out, ← hie]
              exact HRi.out
            clear HRi
            go_wp2
            go_roundg (3 - (1 + 1))
            case measure => omega
            case rel => exact ⟨1 + 1, by omega, by omega, by first | rfl | go_num, HBi, HN⟩
      · clear hk3
        go_wp2
        go_loopg [9] f.size (fun gg s wi => ∃ i : Nat, i ≤ f.size ∧ f.size - i ≤ gg ∧ s = .int .i64 i ∧ Hid (Below W0.heap.size W0 wi) ∧ Hid (seek ks ws 2 i = R))
        case atStart => exact ⟨0, by omega, by omega, rfl, HBk, HRi⟩
        case round =>
          clear HRi HBk
          obtain ⟨i, hi, hgi, rfl, HBi, HRi⟩ := hrel
          by_cases hlt : i < f.size
          · have hltI : (i : Int) < (f.size : Int) := by omega
            obtain ⟨hki, hwi, ⟨p1, p2, p3⟩, hq, hs4, hgd⟩ := HP.out i hlt
            have hX := HX.out.below HBi.out
            have c1 := hX.l1
            have c2 : wr.cell? ⟨gw, i + 1, none⟩ = some (.string ws[i].2) := by have h := hX.wv.at' (i + 1) (by omega); rw [hgd] at h; exact h
            have HA : Hid (Value.int .i64 ((x0 :: ws).getD (i + 1) pad).1 = .int .i64 ws[i].1) := by show _ = _; rw [hgd]
            have HMiss : Hid (¬ (ks[i] = 5 + 2 ∧ Tx.fit Pv.isPath (5 + 2) ws[i].2.data.toList = false) → seek ks ws 2 (i + 1) = R) := fun h => by rw [← seek_miss hki hwi h]; exact HRi.out
            have HHit : Hid (ks[i] = 5 + 2 → Tx.fit Pv.isPath (5 + 2) ws[i].2.data.toList = false → R = some (ws[i].1, 5 + 2)) := fun e h => by rw [← HRi.out]; exact seek_hit hki hwi e h
            clear HRi hX hgd
            generalize ws[i].1 = a at *
            generalize ws[i].2 = x at *
            generalize ks[i] = q at *
            generalize hcc : (f[i].toNat : Int) = cc at *
            clear hki hwi
            rcases hq with rfl | rfl | rfl
            · replace p1 : (cc == 112) = true := p1
              replace p2 : (cc == 118) = false := p2
              replace p3 : (cc == 62) = false := p3
              have p4 : (cc == (((⟨#[112, 118, 62]⟩ : ByteArray)[2]'(by decide)).toNat : Int)) = false := p3
              generalize hqq : (x.toList == [61, 62]) = qq
              have kp := fun W => isPath_doc x W (by omega)
              have hfit : Tx.fit Pv.isPath 5 x.data.toList = Pv.isPath x.data.toList := rfl
              clear hfit
              generalize Pv.isPath x.data.toList = ok at *
              have HMs : Hid (seek ks ws 2 (i + 1) = R) := HMiss.out (fun h => absurd h.1 (by decide))
              clear HMiss HHit
              go_wp2_with (go_at_call 138; fail)
              go_at_call 138
              refine (kp _).mono ?_
              intro e w1 h1
              rw [h1.1, h1.2]
              clear h1 kp
              have HB1 : Hid (Below W0.heap.size W0 wr) := HBi
              go_upto_region 26 with fail
              go_quiet (fail)
              generalize hW : World.drewN _ _ = W1
              have HB2 : Hid (Below W0.heap.size W0 W1) := by rw [← hW]; exact ⟨HB1.out.os, HB1.out.tape, HB1.out.output, HB1.out.size, HB1.out.block⟩
              clear hW HB1
              go_wp2
              go_roundg (f.size - (i + 1))
              case measure => omega
              case rel => exact ⟨i + 1, by omega, by omega, by first | rfl | go_num, HB2, HMs⟩
            · replace p1 : (cc == 112) = false := p1
              replace p2 : (cc == 118) = true := p2
              replace p3 : (cc == 62) = false := p3
              have p4 : (cc == (((⟨#[112, 118, 62]⟩ : ByteArray)[2]'(by decide)).toNat : Int)) = false := p3
              generalize hqq : (x.toList == [61, 62]) = qq
              have kp := fun W => isVersion_any x W
              have hfit : Tx.fit Pv.isPath 6 x.data.toList = (Pv.parse x.data.toList).isSome := rfl
              clear hfit
              generalize (Pv.parse x.data.toList).isSome = ok at *
              have HMs : Hid (seek ks ws 2 (i + 1) = R) := HMiss.out (fun h => absurd h.1 (by decide))
              clear HMiss HHit
              go_wp2_with (go_at_call 181; fail)
              go_at_call 181
              refine (kp _).mono ?_
              rintro e w1 ⟨rfl, hb⟩
              have HB1 : Hid (Below W0.heap.size W0 w1) := HBi.out.trans (hb.mono HBi.out.size)
              clear hb kp
              go_upto_region 26 with fail
              go_quiet (fail)
              generalize hW : World.drewN _ _ = W1
              have HB2 : Hid (Below W0.heap.size W0 W1) := by rw [← hW]; exact ⟨HB1.out.os, HB1.out.tape, HB1.out.output, HB1.out.size, HB1.out.block⟩
              clear hW HB1
              go_wp2
              go_roundg (f.size - (i + 1))
              case measure => omega
              case rel => exact ⟨i + 1, by omega, by omega, by first | rfl | go_num, HB2, HMs⟩
            · replace p1 : (cc == 112) = false := p1
              replace p2 : (cc == 118) = false := p2
              replace p3 : (cc == 62) = true := p3
              have p4 : (cc == (((⟨#[112, 118, 62]⟩ : ByteArray)[2]'(by decide)).toNat : Int)) = true := p3
              generalize hqq : (x.toList == [61, 62]) = qq
              have hfit : Tx.fit Pv.isPath 7 x.data.toList = (x.toList == [61, 62]) := by rw [Lib.toList_data]; rfl
              rw [show 5 + 2 = 7 from rfl, hfit, hqq] at HMiss HHit
              have HH2 : Hid (qq = false → R = some (a, 7)) := fun e => HHit.out rfl e
              have HM2 : Hid (qq = true → seek ks ws 2 (i + 1) = R) := fun e => HMiss.out (fun h => by rw [e] at h; cases h.2)
              clear HMiss HHit
              have HB1 : Hid (Below W0.heap.size W0 wr) := HBi
              cases qq
              · have HHit : Hid (R = some (a, 7)) := HH2.out rfl
                clear HM2 HH2
                go_upto_region 26 with fail
                go_quiet (fail)
                generalize hW : World.drewN _ _ = W1
                have HB2 : Hid (Below W0.heap.size W0 W1) := by rw [← hW]; exact ⟨HB1.out.os, HB1.out.tape, HB1.out.output, HB1.out.size, HB1.out.block⟩
                clear hW HB1
                have HX2 := HX.out.below HB2.out
                have x0' := HX2.x.at' 0 (by omega)
                have x1' := HX2.x.at' 1 (by omega)
                have x2' := HX2.x.at' 2 (by omega)
                have v1' := HX2.x.fr 1 (by omega)
                have v2' := HX2.x.fr 2 (by omega)
                have y0' := HX2.r.at' 0 (by omega)
                have y1' := HX2.r.at' 1 (by omega)
                have y2' := HX2.r.at' 2 (by omega)
                have z0' := HX2.r.fr 0 (by omega)
                have z1' := HX2.r.fr 1 (by omega)
                have z2' := HX2.r.fr 2 (by omega)
                have l2' := HX2.l2
                have k0' := HX2.k0
                have k1' := HX2.k1
                have k2' := HX2.k2
                have av' : W1.cell? ⟨ga, i + 1, none⟩ = some (.int .i64 a) := by rw [← HA.out]; exact HX2.av.at' (i + 1) (by omega)
                simp only [if_true, show (1 : Nat) ≠ 0 by decide, show (2 : Nat) ≠ 0 by decide, if_false] at x0' x1' x2'
                have hbw : Below w.heap.size w W1 := HB.out.trans (HB2.out.mono HB.out.size)
                clear HX2
                go_wp2
                (try rw [Exit.noGoto_ret])
                exact bodyPost_ret (v := .agg #[.int .i64 n, .int .i64 a, .int .i64 7]) (by simp [results, Tryz.results161, go_sem, y0', y1', y2']) rfl ⟨by rw [HHit.out]; rfl, ((((hbw.setCell (by simp; omega) _).setCell (by simp; omega) _).setCell (by simp) _).setCell (by simp) _).setCell (by simp) _⟩
              · have HMs : Hid (seek ks ws 2 (i + 1) = R) := HM2.out rfl
                clear HM2 HH2
                go_upto_region 26 with fail
                go_quiet (fail)
                generalize hW : World.drewN _ _ = W1
                have HB2 : Hid (Below W0.heap.size W0 W1) := by rw [← hW]; exact ⟨HB1.out.os, HB1.out.tape, HB1.out.output, HB1.out.size, HB1.out.block⟩
                clear hW HB1
                go_wp2
                go_roundg (f.size - (i + 1))
                case measure => omega
                case rel => exact ⟨i + 1, by omega, by omega, by first | rfl | go_num, HB2, HMs⟩
          · have hltI : ¬ ((i : Int) < (f.size : Int)) := by omega
            have hie : i = f.size := by omega
            have HN : Hid (seekK ks ws (2 + 1) = R) := by
              show _ = _
              rw [← HNx.out, ← HE.out, ← hie]
              exact HRi.out
            clear HRi
            go_wp2
            go_roundg (3 - (2 + 1))
            case measure => omega
            case rel => exact ⟨2 + 1, by omega, by omega, by first | rfl | go_num, HBi, HN⟩
    · have hke : k = 3 := by omega
      subst hke
      have HN : Hid (R = none) := by
        show _ = _
        rw [← HR.out]
        rfl
      have hX := HX.out.below HBk.out
      have x0' := hX.x.at' 0 (by omega)
      have x1' := hX.x.at' 1 (by omega)
      have x2' := hX.x.at' 2 (by omega)
      have y0' := hX.r.at' 0 (by omega)
      have y1' := hX.r.at' 1 (by omega)
      have y2' := hX.r.at' 2 (by omega)
      have z0' := hX.r.fr 0 (by omega)
      have z1' := hX.r.fr 1 (by omega)
      have z2' := hX.r.fr 2 (by omega)
      simp only [if_true, show (1 : Nat) ≠ 0 by decide, show (2 : Nat) ≠ 0 by decide, if_false] at x0' x1' x2'
      have hbw : Below w.heap.size w wr := HB.out.trans (HBk.out.mono HB.out.size)
      clear hX
      go_wp2
      exact bodyPost_ret (v := .agg #[.int .i64 n, .int .i64 0, .int .i64 0]) (by simp [results, Tryz.results161, go_sem, y0', y1', y2']) rfl ⟨by rw [HN.out]; rfl, ((hbw.setCell (by simp) _).setCell (by simp) _).setCell (by simp) _⟩

end Mf
end Go.Proofs.YtelmkfkgpnadnaaGreatDoor
