/-
  Edits: the program's shelf, call by call; the engine's calls; a new engine.
-/
import Derived.Test.YtiamomiafekihaaGreatDoorE10
namespace Go.Proofs.YtiamomiafekihaaGreatDoor
open Go.RowKit
namespace Ed

variable {w w' : World} {sb mb pb rev : Nat} {ms ix : List Tt} {root : ByteArray}

theorem ShelfAt.perm {L L' : List (Value × Value)} (h : ShelfAt w sb mb rev L) (e : L.Perm L') : ShelfAt w sb mb rev L' := ⟨h.f0, h.f1, h.map.perm e, h.good.perm e, h.ne⟩

theorem put_m (t : Tt) (w : World) (h : ShelfAt w sb mb rev (ents ms ix root)) (hl : ms.length + ix.length ≤ 90000) (hp : t.path.size ≤ 281474976710656) (hv : t.ver.size ≤ 281474976710656) (hs : t.s.size ≤ 281474976710656) (hr : rev < 4611686018427387904) :
    Calls Tryz.prog 55 #[.pointer (some ⟨sb, 0, none⟩), plc 0 t.path t.ver, .string t.s, .int .i64 60] w fun e w' => e = .returned (.int .i64 (laidOf ms t 60).2.1) ∧ ShelfAt w' sb mb (rev + (laidOf ms t 60).2.2) (ents (laidOf ms t 60).1 ix root) ∧ Turn (fun b => b = sb ∨ b = mb) w w' := by
  obtain ⟨L', hS, hP⟩ := laid_spec (k := 0) (A := []) (C := ix.map (ent 1) ++ rootEnt root) (off_nil 0) ((ent_off (by decide) ix).append (rootEnt_off (by decide) root)) ms t 60
  refine (put_any 0 t.path t.ver t.s 60 _ _ L' w h (by have := ents_len ms ix root; omega) (by decide) hp hv hs hr hS).mono ?_
  rintro e w' ⟨h1, h2, h3⟩
  exact ⟨h1, h2.perm hP, h3⟩

theorem put_i (t : Tt) (w : World) (h : ShelfAt w sb mb rev (ents ms ix root)) (hl : ms.length + ix.length ≤ 90000) (hp : t.path.size ≤ 281474976710656) (hv : t.ver.size ≤ 281474976710656) (hs : t.s.size ≤ 281474976710656) (hr : rev < 4611686018427387904) :
    Calls Tryz.prog 55 #[.pointer (some ⟨sb, 0, none⟩), plc 1 t.path t.ver, .string t.s, .int .i64 30] w fun e w' => e = .returned (.int .i64 (laidOf ix t 30).2.1) ∧ ShelfAt w' sb mb (rev + (laidOf ix t 30).2.2) (ents ms (laidOf ix t 30).1 root) ∧ Turn (fun b => b = sb ∨ b = mb) w w' := by
  obtain ⟨L', hS, hP⟩ := laid_spec (k := 1) (A := ms.map (ent 0)) (C := rootEnt root) (ent_off (by decide) ms) (rootEnt_off (by decide) root) ix t 30
  refine (put_any 1 t.path t.ver t.s 30 _ _ L' w h (by have := ents_len ms ix root; omega) (by decide) hp hv hs hr hS).mono ?_
  rintro e w' ⟨h1, h2, h3⟩
  exact ⟨h1, h2.perm hP, h3⟩

theorem ents_assoc (ms ix : List Tt) (root : ByteArray) : ents ms ix root = (ms.map (ent 0) ++ ix.map (ent 1)) ++ rootEnt root := (List.append_assoc _ _ _).symm

theorem put_r (p : ByteArray) (w : World) (h : ShelfAt w sb mb rev (ents ms ix root)) (hl : ms.length + ix.length ≤ 90000) (hp : p.size ≤ 281474976710656) (h0 : p.size ≠ 0) (hr : rev < 4611686018427387904) :
    Calls Tryz.prog 55 #[.pointer (some ⟨sb, 0, none⟩), plc 2 ⟨#[]⟩ ⟨#[]⟩, .string p, .int .i64 1] w fun e w' => e = .returned (.int .i64 0) ∧ ShelfAt w' sb mb (rev + (if (p.toList == root.toList) = true then (root, 0) else (p, 1)).2) (ents ms ix (if (p.toList == root.toList) = true then (root, 0) else (p, 1)).1) ∧ Turn (fun b => b = sb ∨ b = mb) w w' := by
  have hlen := ents_len ms ix root
  rw [ents_assoc] at h hlen
  rw [ents_assoc]
  obtain ⟨L', hS, hP⟩ := root_put ((ent_off (k := 2) (q := 0) (by decide) ms).append (ent_off (q := 1) (by decide) ix)) root p h0
  refine (put_any 2 ⟨#[]⟩ ⟨#[]⟩ p 1 _ _ L' w h (by omega) (by decide) (by decide) (by decide) hp hr hS).mono ?_
  rintro e w' ⟨h1, h2, h3⟩
  exact ⟨h1, h2.perm hP, h3⟩

theorem drop_m (p v : ByteArray) (w : World) (h : ShelfAt w sb mb rev (ents ms ix root)) (hp : p.size ≤ 281474976710656) (hv : v.size ≤ 281474976710656) (hr : rev < 4611686018427387904) :
    Calls Tryz.prog 57 #[.pointer (some ⟨sb, 0, none⟩), plc 0 p v] w fun e w' => e = .returned (.tuple #[]) ∧ ShelfAt w' sb mb (rev + (dropOf ms p v 0).2) (ents (dropOf ms p v 0).1 ix root) ∧ Turn (fun b => b = sb ∨ b = mb) w w' := by
  obtain ⟨L', hS, hP⟩ := drop_spec (k := 0) (A := []) (C := ix.map (ent 1) ++ rootEnt root) (off_nil 0) ((ent_off (by decide) ix).append (rootEnt_off (by decide) root)) ms p v
  refine (drop_any 0 p v _ L' w h (by decide) hp hv hr hS).mono ?_
  rintro e w' ⟨h1, h2, h3⟩
  exact ⟨h1, h2.perm hP, h3⟩

theorem drop_i (p v : ByteArray) (w : World) (h : ShelfAt w sb mb rev (ents ms ix root)) (hp : p.size ≤ 281474976710656) (hv : v.size ≤ 281474976710656) (hr : rev < 4611686018427387904) :
    Calls Tryz.prog 57 #[.pointer (some ⟨sb, 0, none⟩), plc 1 p v] w fun e w' => e = .returned (.tuple #[]) ∧ ShelfAt w' sb mb (rev + (dropOf ix p v 0).2) (ents ms (dropOf ix p v 0).1 root) ∧ Turn (fun b => b = sb ∨ b = mb) w w' := by
  obtain ⟨L', hS, hP⟩ := drop_spec (k := 1) (A := ms.map (ent 0)) (C := rootEnt root) (ent_off (by decide) ms) (rootEnt_off (by decide) root) ix p v
  refine (drop_any 1 p v _ L' w h (by decide) hp hv hr hS).mono ?_
  rintro e w' ⟨h1, h2, h3⟩
  exact ⟨h1, h2.perm hP, h3⟩

theorem drop_r (p : ByteArray) (w : World) (h : ShelfAt w sb mb rev (ents ms ix root)) (h0 : p.size = 0) (hr : rev < 4611686018427387904) :
    Calls Tryz.prog 57 #[.pointer (some ⟨sb, 0, none⟩), plc 2 ⟨#[]⟩ ⟨#[]⟩] w fun e w' => e = .returned (.tuple #[]) ∧ ShelfAt w' sb mb (rev + (if (p.toList == root.toList) = true then (root, 0) else (p, 1)).2) (ents ms ix (if (p.toList == root.toList) = true then (root, 0) else (p, 1)).1) ∧ Turn (fun b => b = sb ∨ b = mb) w w' := by
  rw [ents_assoc] at h
  rw [ents_assoc]
  obtain ⟨L', hS, hP⟩ := root_drop ((ent_off (k := 2) (q := 0) (by decide) ms).append (ent_off (q := 1) (by decide) ix)) root p h0
  refine (drop_any 2 ⟨#[]⟩ ⟨#[]⟩ _ L' w h (by decide) (by decide) (by decide) hr hS).mono ?_
  rintro e w' ⟨h1, h2, h3⟩
  exact ⟨h1, h2.perm hP, h3⟩

set_option maxRecDepth 100000 in
set_option maxHeartbeats 2000000 in
theorem sPutManifest (p v s : ByteArray) (w : World) (h : ShelfAt w sb mb rev (ents ms ix root)) (hm : Ml w) (hl : ms.length + ix.length ≤ 90000) (hp : p.size < 281474976710656) (hv : v.size ≤ 281474976710656) (hs : s.size ≤ 281474976710656) (hr : rev < 4611686018427387904) :
    Calls Tryz.prog 31 #[.pointer (some ⟨sb, 0, none⟩), .string p, .string v, .string s] w fun e w' => e = .returned (.int .i64 (putOf ms ⟨p, v, s⟩ 60 (nameErr p v)).2.1) ∧ ShelfAt w' sb mb (rev + (putOf ms ⟨p, v, s⟩ 60 (nameErr p v)).2.2) (ents (putOf ms ⟨p, v, s⟩ 60 (nameErr p v)).1 ix root) ∧ Turn (fun b => b = sb ∨ b = mb) w w' := by
  have kn := checkModule_any p v w hm hp
  have kp : ∀ W, Below w.heap.size w W → _ := fun W hb => put_m ⟨p, v, s⟩ W (h.below hb) hl (by show p.size ≤ _; omega) hv hs hr
  have HS : Hid (ShelfAt w sb mb rev (ents ms ix root)) := h
  clear h hm
  generalize nameErr p v = er at *
  have HPP : Hid (putOf ms ⟨p, v, s⟩ 60 er = if er = 0 then laidOf ms ⟨p, v, s⟩ 60 else (ms, er, 0)) := rfl
  generalize putOf ms ⟨p, v, s⟩ 60 er = PP at *
  generalize laidOf ms ⟨p, v, s⟩ 60 = LL at *
  go_enter Tryz.func31, Tryz.ntmps31
  go_wp2_with (go_at_call 54; fail)
  go_at_call 54
  refine kn.mono ?_
  rintro e w1 ⟨rfl, hb1⟩
  clear kn
  have kp := kp w1 hb1
  by_cases h0 : er = 0
  · subst h0
    have HP : Hid (PP = LL) := by show PP = LL; rw [HPP.out]; exact if_pos rfl
    clear HPP
    go_wp2_with (go_at_call 55; fail)
    go_at_call 55
    refine kp.mono ?_
    rintro e w2 ⟨rfl, h2, ht⟩
    have HS2 : Hid (ShelfAt w2 sb mb (rev + LL.2.2) (ents LL.1 ix root)) := h2
    have HT2 : Hid (Turn (fun b => b = sb ∨ b = mb) w w2) := (Turn.of_below hb1).trans ht (fun _ _ e => e) (fun _ _ e => e)
    clear kp h2 ht hb1
    go_wp2
    go_ret
    rw [HP.out]
    exact ⟨rfl, HS2.out, HT2.out⟩
  · have HP : Hid (PP = (ms, er, 0)) := by show PP = _; rw [HPP.out]; exact if_neg h0
    have hq : (er == 0) = false := by rw [beq_eq_false_iff_ne]; exact h0
    have HS2 : Hid (ShelfAt w1 sb mb rev (ents ms ix root)) := HS.out.below hb1
    clear HPP kp
    go_wp2
    go_ret
    rw [HP.out]
    exact ⟨rfl, HS2.out, Turn.of_below hb1⟩

set_option maxRecDepth 100000 in
set_option maxHeartbeats 2000000 in
theorem sDropManifest (p v : ByteArray) (w : World) (h : ShelfAt w sb mb rev (ents ms ix root)) (hm : Ml w) (hp : p.size < 281474976710656) (hv : v.size ≤ 281474976710656) (hr : rev < 4611686018427387904) :
    Calls Tryz.prog 34 #[.pointer (some ⟨sb, 0, none⟩), .string p, .string v] w fun e w' => e = .returned (.int .i64 (nameErr p v)) ∧ ShelfAt w' sb mb (rev + (dropOf ms p v (nameErr p v)).2) (ents (dropOf ms p v (nameErr p v)).1 ix root) ∧ Turn (fun b => b = sb ∨ b = mb) w w' := by
  have kn := checkModule_any p v w hm hp
  have kp : ∀ W, Below w.heap.size w W → _ := fun W hb => drop_m (ms := ms) (ix := ix) (root := root) p v W (h.below hb) (by omega) hv hr
  have HS : Hid (ShelfAt w sb mb rev (ents ms ix root)) := h
  clear h hm
  generalize nameErr p v = er at *
  have HPP : Hid (er ≠ 0 → dropOf ms p v er = (ms, 0)) := fun h => if_neg h
  have HPQ : Hid (er = 0 → dropOf ms p v er = dropOf ms p v 0) := fun h => by rw [h]
  generalize dropOf ms p v er = PP at *
  generalize dropOf ms p v 0 = LL at *
  go_enter Tryz.func34, Tryz.ntmps34
  go_wp2_with (go_at_call 54; fail)
  go_at_call 54
  refine kn.mono ?_
  rintro e w1 ⟨rfl, hb1⟩
  clear kn
  have kp := kp w1 hb1
  by_cases h0 : er = 0
  · have HP : Hid (PP = LL) := HPQ.out h0
    subst h0
    clear HPP HPQ
    go_wp2_with (go_at_call 57; fail)
    go_at_call 57
    refine kp.mono ?_
    rintro e w2 ⟨rfl, h2, ht⟩
    have HS2 : Hid (ShelfAt w2 sb mb (rev + LL.2) (ents LL.1 ix root)) := h2
    have HT2 : Hid (Turn (fun b => b = sb ∨ b = mb) w w2) := (Turn.of_below hb1).trans ht (fun _ _ e => e) (fun _ _ e => e)
    clear kp h2 ht hb1
    go_wp2
    go_ret
    rw [HP.out]
    exact ⟨rfl, HS2.out, HT2.out⟩
  · have HP : Hid (PP = (ms, 0)) := HPP.out h0
    have hq : (er == 0) = false := by rw [beq_eq_false_iff_ne]; exact h0
    have HS2 : Hid (ShelfAt w1 sb mb rev (ents ms ix root)) := HS.out.below hb1
    clear HPP kp HPQ
    go_wp2
    go_ret
    rw [HP.out]
    exact ⟨rfl, HS2.out, Turn.of_below hb1⟩

theorem nameErr_no {p : ByteArray} (h : Pv.isPath p.data.toList = false) : nameErr p ⟨#[]⟩ = 2 := if_pos h
theorem nameErr_yes {p : ByteArray} (h : Pv.isPath p.data.toList = true) : nameErr p ⟨#[]⟩ = 0 := by
  unfold nameErr
  rw [if_neg (by rw [h]; decide), if_neg (fun h => h.1 rfl)]

set_option maxRecDepth 100000 in
set_option maxHeartbeats 2000000 in
theorem sPutIndex (p s : ByteArray) (w : World) (h : ShelfAt w sb mb rev (ents ms ix root)) (hm : Ml w) (hl : ms.length + ix.length ≤ 90000) (hp : p.size < 281474976710656) (hs : s.size ≤ 281474976710656) (hr : rev < 4611686018427387904) :
    Calls Tryz.prog 37 #[.pointer (some ⟨sb, 0, none⟩), .string p, .string s] w fun e w' => e = .returned (.int .i64 (putOf ix ⟨p, ⟨#[]⟩, s⟩ 30 (nameErr p ⟨#[]⟩)).2.1) ∧ ShelfAt w' sb mb (rev + (putOf ix ⟨p, ⟨#[]⟩, s⟩ 30 (nameErr p ⟨#[]⟩)).2.2) (ents ms (putOf ix ⟨p, ⟨#[]⟩, s⟩ 30 (nameErr p ⟨#[]⟩)).1 root) ∧ Turn (fun b => b = sb ∨ b = mb) w w' := by
  have kn := isPath_prog p w hm hp
  have kp : ∀ W, Below w.heap.size w W → _ := fun W hb => put_i ⟨p, ⟨#[]⟩, s⟩ W (h.below hb) hl (by show p.size ≤ _; omega) (by show (0 : Nat) ≤ _; omega) hs hr
  have HS : Hid (ShelfAt w sb mb rev (ents ms ix root)) := h
  clear h hm
  have HN0 : Hid (Pv.isPath p.data.toList = false → putOf ix ⟨p, ⟨#[]⟩, s⟩ 30 (nameErr p ⟨#[]⟩) = (ix, 2, 0)) := fun h => by rw [nameErr_no h]; rfl
  have HN1 : Hid (Pv.isPath p.data.toList = true → putOf ix ⟨p, ⟨#[]⟩, s⟩ 30 (nameErr p ⟨#[]⟩) = laidOf ix ⟨p, ⟨#[]⟩, s⟩ 30) := fun h => by rw [nameErr_yes h]; rfl
  generalize putOf ix ⟨p, ⟨#[]⟩, s⟩ 30 (nameErr p ⟨#[]⟩) = PP at *
  generalize laidOf ix ⟨p, ⟨#[]⟩, s⟩ 30 = LL at *
  generalize Pv.isPath p.data.toList = a at *
  go_enter Tryz.func37, Tryz.ntmps37
  go_wp2_with (go_at_call 58; fail)
  go_at_call 58
  refine kn.mono ?_
  rintro e w1 ⟨rfl, hb1⟩
  clear kn
  have kp := kp w1 hb1
  cases a
  · have HP : Hid (PP = (ix, 2, 0)) := HN0.out rfl
    have HS2 : Hid (ShelfAt w1 sb mb rev (ents ms ix root)) := HS.out.below hb1
    clear HN0 HN1 kp
    go_wp2
    go_ret
    rw [HP.out]
    exact ⟨rfl, HS2.out, Turn.of_below hb1⟩
  · have HP : Hid (PP = LL) := HN1.out rfl
    clear HN0 HN1
    go_wp2_with (go_at_call 55; fail)
    go_at_call 55
    refine kp.mono ?_
    rintro e w2 ⟨rfl, h2, ht⟩
    have HS2 : Hid (ShelfAt w2 sb mb (rev + LL.2.2) (ents ms LL.1 root)) := h2
    have HT2 : Hid (Turn (fun b => b = sb ∨ b = mb) w w2) := (Turn.of_below hb1).trans ht (fun _ _ e => e) (fun _ _ e => e)
    clear kp h2 ht hb1
    go_wp2
    go_ret
    rw [HP.out]
    exact ⟨rfl, HS2.out, HT2.out⟩

set_option maxRecDepth 100000 in
set_option maxHeartbeats 2000000 in
theorem sDropIndex (p : ByteArray) (w : World) (h : ShelfAt w sb mb rev (ents ms ix root)) (hm : Ml w) (hp : p.size < 281474976710656) (hr : rev < 4611686018427387904) :
    Calls Tryz.prog 38 #[.pointer (some ⟨sb, 0, none⟩), .string p] w fun e w' => e = .returned (.int .i64 (nameErr p ⟨#[]⟩)) ∧ ShelfAt w' sb mb (rev + (dropOf ix p ⟨#[]⟩ (nameErr p ⟨#[]⟩)).2) (ents ms (dropOf ix p ⟨#[]⟩ (nameErr p ⟨#[]⟩)).1 root) ∧ Turn (fun b => b = sb ∨ b = mb) w w' := by
  have kn := isPath_prog p w hm hp
  have kp : ∀ W, Below w.heap.size w W → _ := fun W hb => drop_i (ms := ms) (ix := ix) (root := root) p ⟨#[]⟩ W (h.below hb) (by omega) (by show (0 : Nat) ≤ _; omega) hr
  have HS : Hid (ShelfAt w sb mb rev (ents ms ix root)) := h
  clear h hm
  have HN0 : Hid (Pv.isPath p.data.toList = false → nameErr p ⟨#[]⟩ = 2 ∧ dropOf ix p ⟨#[]⟩ (nameErr p ⟨#[]⟩) = (ix, 0)) := fun h => by rw [nameErr_no h]; exact ⟨rfl, rfl⟩
  have HN1 : Hid (Pv.isPath p.data.toList = true → nameErr p ⟨#[]⟩ = 0 ∧ dropOf ix p ⟨#[]⟩ (nameErr p ⟨#[]⟩) = dropOf ix p ⟨#[]⟩ 0) := fun h => by rw [nameErr_yes h]; exact ⟨rfl, rfl⟩
  generalize dropOf ix p ⟨#[]⟩ (nameErr p ⟨#[]⟩) = PP at *
  generalize dropOf ix p ⟨#[]⟩ 0 = LL at *
  generalize nameErr p ⟨#[]⟩ = er at *
  generalize Pv.isPath p.data.toList = a at *
  go_enter Tryz.func38, Tryz.ntmps38
  go_wp2_with (go_at_call 58; fail)
  go_at_call 58
  refine kn.mono ?_
  rintro e w1 ⟨rfl, hb1⟩
  clear kn
  have kp := kp w1 hb1
  cases a
  · have HP : Hid (2 = er ∧ PP = (ix, 0)) := ⟨(HN0.out rfl).1.symm, (HN0.out rfl).2⟩
    have HS2 : Hid (ShelfAt w1 sb mb rev (ents ms ix root)) := HS.out.below hb1
    clear HN0 HN1 kp
    go_wp2
    go_ret
    rw [HP.out.2]
    exact ⟨ret_int HP.out.1, HS2.out, Turn.of_below hb1⟩
  · have HP : Hid (0 = er ∧ PP = LL) := ⟨(HN1.out rfl).1.symm, (HN1.out rfl).2⟩
    clear HN0 HN1
    go_wp2_with (go_at_call 57; fail)
    go_at_call 57
    refine kp.mono ?_
    rintro e w2 ⟨rfl, h2, ht⟩
    have HS2 : Hid (ShelfAt w2 sb mb (rev + LL.2) (ents ms LL.1 root)) := h2
    have HT2 : Hid (Turn (fun b => b = sb ∨ b = mb) w w2) := (Turn.of_below hb1).trans ht (fun _ _ e => e) (fun _ _ e => e)
    clear kp h2 ht hb1
    go_wp2
    go_ret
    rw [HP.out.2]
    exact ⟨ret_int HP.out.1, HS2.out, HT2.out⟩

theorem rootErr_small {p : ByteArray} (h : p.size = 0) : rootErr p = 0 := if_neg (fun k => k.1 h)
theorem rootErr_no {p : ByteArray} (h0 : p.size ≠ 0) (h : Pv.isPath p.data.toList = false) : rootErr p = 2 := if_pos ⟨h0, h⟩
theorem rootErr_yes {p : ByteArray} (h : Pv.isPath p.data.toList = true) : rootErr p = 0 := if_neg (fun k => by rw [h] at k; exact absurd k.2 (by decide))

set_option maxRecDepth 100000 in
set_option maxHeartbeats 2000000 in
theorem sSetRoot (p : ByteArray) (w : World) (h : ShelfAt w sb mb rev (ents ms ix root)) (hm : Ml w) (hl : ms.length + ix.length ≤ 90000) (hp : p.size < 281474976710656) (hr : rev < 4611686018427387904) :
    Calls Tryz.prog 39 #[.pointer (some ⟨sb, 0, none⟩), .string p] w fun e w' => e = .returned (.int .i64 (rootErr p)) ∧ ShelfAt w' sb mb (rev + (rootOf root p).2) (ents ms ix (rootOf root p).1) ∧ Turn (fun b => b = sb ∨ b = mb) w w' := by
  have kn := isPath_prog p w hm hp
  have HS : Hid (ShelfAt w sb mb rev (ents ms ix root)) := h
  have he := empty_list p
  have HRR : Hid (rootOf root p = if rootErr p = 0 then (if (p.toList == root.toList) = true then (root, 0) else (p, 1)) else (root, 0)) := rfl
  have kd : p.size = 0 → _ := fun h0 => drop_r (ms := ms) (ix := ix) (root := root) p w h h0 hr
  have kp : p.size ≠ 0 → ∀ W, Below w.heap.size w W → _ := fun h0 W hb => put_r (ms := ms) (ix := ix) (root := root) p W (h.below hb) hl (by omega) h0 hr
  clear h hm
  have E0 : Hid (p.size = 0 → 0 = rootErr p) := fun h => (rootErr_small h).symm
  have E1 : Hid (p.size ≠ 0 → Pv.isPath p.data.toList = false → 2 = rootErr p) := fun h0 h => (rootErr_no h0 h).symm
  have E2 : Hid (Pv.isPath p.data.toList = true → 0 = rootErr p) := fun h => (rootErr_yes h).symm
  generalize rootOf root p = RR at *
  generalize (if (p.toList == root.toList) = true then (root, 0) else (p, 1)) = LL at *
  generalize rootErr p = er at *
  generalize Pv.isPath p.data.toList = a at *
  go_enter Tryz.func39, Tryz.ntmps39
  by_cases h0 : p.size = 0
  · have HE : Hid (0 = er) := E0.out h0
    have HP : Hid (RR = LL) := by show RR = LL; rw [HRR.out, ← HE.out]; exact if_pos rfl
    have kd := kd h0
    rw [decide_eq_true h0] at he
    clear HRR kp kn E0 E1 E2
    go_wp2_with (go_at_call 57; fail)
    go_at_call 57
    refine kd.mono ?_
    rintro e w2 ⟨rfl, h2, ht⟩
    have HS2 : Hid (ShelfAt w2 sb mb (rev + LL.2) (ents ms ix LL.1)) := h2
    have HT2 : Hid (Turn (fun b => b = sb ∨ b = mb) w w2) := ht
    clear kd h2 ht
    go_wp2
    go_ret
    rw [HP.out]
    exact ⟨ret_int HE.out, HS2.out, HT2.out⟩
  · have kp := kp h0
    rw [decide_eq_false h0] at he
    go_wp2_with (go_at_call 58; fail)
    go_at_call 58
    refine kn.mono ?_
    rintro e w1 ⟨rfl, hb1⟩
    clear kn kd
    have kp := kp w1 hb1
    cases a
    · have HE : Hid (2 = er) := E1.out h0 rfl
      have HP : Hid (RR = (root, 0)) := by show RR = _; rw [HRR.out, ← HE.out]; exact if_neg (by decide)
      have HS2 : Hid (ShelfAt w1 sb mb rev (ents ms ix root)) := HS.out.below hb1
      clear HRR E0 E1 E2 kp
      go_wp2
      go_ret
      rw [HP.out]
      exact ⟨ret_int HE.out, HS2.out, Turn.of_below hb1⟩
    · have HE : Hid (0 = er) := E2.out rfl
      have HP : Hid (RR = LL) := by show RR = LL; rw [HRR.out, ← HE.out]; exact if_pos rfl
      clear HRR E0 E1 E2
      go_wp2_with (go_at_call 55; fail)
      go_at_call 55
      refine kp.mono ?_
      rintro e w2 ⟨rfl, h2, ht⟩
      have HS2 : Hid (ShelfAt w2 sb mb (rev + LL.2) (ents ms ix LL.1)) := h2
      have HT2 : Hid (Turn (fun b => b = sb ∨ b = mb) w w2) := (Turn.of_below hb1).trans ht (fun _ _ e => e) (fun _ _ e => e)
      clear kp h2 ht hb1
      go_wp2
      go_ret
      rw [HP.out]
      exact ⟨ret_int HE.out, HS2.out, HT2.out⟩

end Ed
end Go.Proofs.YtiamomiafekihaaGreatDoor
