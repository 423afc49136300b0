/-
  Those that lead to x.
-/
import Derived.Test.YtelmkfkgpnadnaaK1
namespace Go.Proofs.Ytelmkfkgpnadnaa
open Go.RowKit

def blist (S : Nat → Bool) : List Value := (List.range 40).map fun v => .bool (S v)

variable {w w' : World} {b n : Nat} {A Pl : Nat → Nat} {E : Nat → Nat → Bool}

/-- Forty truths in a block of their own. -/
structure BoolsAt (w : World) (b : Nat) (S : Nat → Bool) : Prop where
  at' : ∀ v, v < 40 → w.cell? ⟨b, v, none⟩ = some (.bool (S v))
  fr : ∀ v, v < 40 → w.frozen? ⟨b, v, none⟩ = false

theorem BoolsAt.of_block {S : Nat → Bool} (h : BoolsAt w b S) (hb : w'.heap[b]? = w.heap[b]?) : BoolsAt w' b S :=
  ⟨fun v hv => by rw [World.cell?_of_block (w := w) (a := ⟨b, v, none⟩) hb]; exact h.at' v hv, fun v hv => by rw [World.frozen?_of_block (w := w) (a := ⟨b, v, none⟩) hb]; exact h.fr v hv⟩

theorem BoolsAt.set {S : Nat → Bool} (h : BoolsAt w b S) {p : Nat} (hp : p < 40) : BoolsAt (w.setCell ⟨b, p, none⟩ (.bool true)) b (Kp.on S p) := by
  refine ⟨fun q hq => ?_, fun o ho => ?_⟩
  · unfold Kp.on
    by_cases e : q = p
    · subst e; rw [World.cell?_setCell_same _ _ _ (h.at' q hq)]; simp
    · rw [cell_other _ _ _ _ _ (by omega), if_neg e]; exact h.at' q hq
  · rw [World.frozen?_setCell]; exact h.fr o ho

theorem BoolsAt.ext {S S' : Nat → Bool} (h : BoolsAt w b S) (e : ∀ v, v < 40 → S v = S' v) : BoolsAt w b S' :=
  ⟨fun v hv => by rw [← e v hv]; exact h.at' v hv, h.fr⟩

theorem BoolsAt.range {S : Nat → Bool} (h : BoolsAt w b S) : w.rangeAt b 0 (blist S) := fun j v hv => by
  unfold blist at hv
  rw [List.getElem?_map, Option.map_eq_some_iff] at hv
  obtain ⟨k, hk, rfl⟩ := hv
  obtain ⟨h1, h2⟩ := List.getElem?_eq_some_iff.1 hk
  rw [List.getElem_range] at h2
  subst h2
  rw [Nat.zero_add]
  exact h.at' j (by simpa using h1)

theorem blist_length (S : Nat → Bool) : (blist S).length = 40 := by simp [blist]

/-- Two new blocks of forty untruths. -/
theorem two_new (w : World) : BoolsAt ((w.alloc (.cells (Array.replicate 40 (.bool false)) 56)).alloc (.cells (Array.replicate 40 (.bool false)) 56)) w.heap.size (fun _ => false)
    ∧ BoolsAt ((w.alloc (.cells (Array.replicate 40 (.bool false)) 56)).alloc (.cells (Array.replicate 40 (.bool false)) 56)) (w.heap.size + 1) (fun _ => false) := by
  have h1 : ((w.alloc (.cells (Array.replicate 40 (.bool false)) 56)).alloc (.cells (Array.replicate 40 (.bool false)) 56)).heap[w.heap.size]? = some (.cells (Array.replicate 40 (.bool false)) 56) := by
    rw [Below.heap_alloc _ _ _ (by simp)]
    show (w.heap.push _)[w.heap.size]? = _
    simp
  have h2 : ((w.alloc (.cells (Array.replicate 40 (.bool false)) 56)).alloc (.cells (Array.replicate 40 (.bool false)) 56)).heap[w.heap.size + 1]? = some (.cells (Array.replicate 40 (.bool false)) 56) := by
    show ((w.heap.push _).push _)[w.heap.size + 1]? = _
    rw [Array.getElem?_push, if_pos (by simp)]
  refine ⟨⟨fun v hv => ?_, fun v hv => ?_⟩, ⟨fun v hv => ?_, fun v hv => ?_⟩⟩
  · simp only [World.cell?, h1]; simp [hv]
  · simp only [World.frozen?, h1]; simp
  · simp only [World.cell?, h2]; simp [hv]
  · simp only [World.frozen?, h2]; simp

theorem RowAt.edges (h : RowAt w b n A Pl E) {u : Nat} (hu : u < 40) : w.rangeAt b (81 + u * 40) (blist (E u)) := fun j v hv => by
  unfold blist at hv
  rw [List.getElem?_map, Option.map_eq_some_iff] at hv
  obtain ⟨k, hk, rfl⟩ := hv
  obtain ⟨h1, h2⟩ := List.getElem?_eq_some_iff.1 hk
  rw [List.getElem_range] at h2
  subst h2
  exact h.ed u hu j (by simpa using h1)

theorem blist_size (S : Nat → Bool) : (blist S).toArray.size = 40 := by simp [blist]

theorem BoolsAt.there {S : Nat → Bool} (h : BoolsAt w b S) (S' : Nat → Bool) : w.there b 0 (blist S').toArray.size := fun j hj => by
  rw [blist_size] at hj
  rw [Nat.zero_add]
  exact ⟨by rw [h.at' j hj]; rfl, h.fr j hj⟩

theorem blist_one (S : Nat → Bool) : (blist S).toArray.all (·.oneCell') = true := all_oneCell_toArray fun v hv => by
  unfold blist at hv
  obtain ⟨k, _, rfl⟩ := List.mem_map.1 hv
  rfl

theorem blist_info (S : Nat → Bool) : (Try.prog.info? 56).map (·.size) = some (blist S).toArray.size := by rw [blist_size]; exact info56

theorem results_one {fn : Func} {p : Tmp} {ty : TypeId} (h : fn.results = #[.cell p ty]) (tmps : Array Value) (P : Program) (w : World) :
    (results fn tmps).run P w = ((asAddr (tmps.getD p undef)).run P w).andThen fun a w₁ => (loadVar ty a).run P w₁ := by
  simp only [results, h]
  simp [Sem.run_bind]

theorem below_setCells {B : Nat} {a : World} (b : Nat) (hb : B ≤ b) : ∀ (vs : List Value) (o : Nat) (w : World), Below B a w → Below B a (w.setCells b o vs)
  | [], _, _, h => h
  | v :: r, o, w, h => by
    rw [World.setCells]
    exact below_setCells b hb r (o + 1) _ (h.setCell (p := ⟨b, o, none⟩) hb v)

theorem cell_far (w : World) (p a : Addr) (v : Value) (h : p.block ≠ a.block) : (w.setCell p v).cell? a = w.cell? a :=
  World.cell?_setCell_other _ _ _ _ (fun e => h (by rw [e]))

/-- What stays while one looks: the row; what was there; a block for what is handed back. -/
structure Fr (w0 : World) (b n : Nat) (A Pl : Nat → Nat) (E : Nat → Nat → Bool) (wr : World) : Prop where
  row : RowAt wr b n A Pl E
  old : Below w0.heap.size w0 wr
  res : ∃ S, BoolsAt wr w0.heap.size S

theorem Fr.set {w0 wr : World} (h : Fr w0 b n A Pl E wr) (hb : b < w0.heap.size) (o : Nat) (v : Value) : Fr w0 b n A Pl E (wr.setCell ⟨w0.heap.size + 1, o, none⟩ v) :=
  ⟨h.row.of_block (Below.heap_setCell _ _ _ _ (by show b ≠ w0.heap.size + 1; omega)), h.old.setCell (by show w0.heap.size ≤ w0.heap.size + 1; omega) v,
    let ⟨S, hS⟩ := h.res; ⟨S, hS.of_block (Below.heap_setCell _ _ _ _ (by show w0.heap.size ≠ w0.heap.size + 1; omega))⟩⟩

theorem index_bools (S : Nat → Bool) (j : Nat) (hj : j < 40) (w : World) : (Instr.index 56 (.agg (blist S).toArray) (.int .i64 j)).run Try.prog w = .ok (.bool (S j)) w := by
  have h1 : (blist S).toArray[j]? = some (.bool (S j)) := by simp [blist, hj]
  rw [List.getElem?_toArray] at h1
  simp [Instr.index, go_sem, hj, h1]

theorem load_mid (w : World) (b o : Nat) (S : Nat → Bool) (h : w.rangeAt b o (blist S)) : (Instr.loadAt 56 (.pointer (some ⟨b, o, none⟩))).run Try.prog w = .ok (.agg (blist S).toArray) w :=
  run_loadAt_mid w b o 56 (blist S) _ h Try.underlying56 rfl (by rw [blist_length]; exact info56)

/-- The inner round: how far the next ones have been asked. -/
def Asked (E : Nat → Nat → Bool) (u : Nat) (S S' : Nat → Bool) (j : Nat) : Prop := ∀ v, v < 40 → (S' v = true ↔ S v = true ∨ (v = u ∧ ∃ i, i < j ∧ E u i = true ∧ S i = true))

theorem Asked.skip {u j : Nat} {S S' : Nat → Bool} (h : Asked E u S S' j) (hno : ¬ (E u j = true ∧ S j = true)) : Asked E u S S' (j + 1) := fun v hv => by
  rw [h v hv]
  constructor
  · rintro (h1 | ⟨h1, i, h2, h3, h4⟩)
    · exact Or.inl h1
    · exact Or.inr ⟨h1, i, by omega, h3, h4⟩
  · rintro (h1 | ⟨h1, i, h2, h3, h4⟩)
    · exact Or.inl h1
    · by_cases e : i = j
      · subst e; exact absurd ⟨h3, h4⟩ hno
      · exact Or.inr ⟨h1, i, by omega, h3, h4⟩

theorem Asked.take {u j : Nat} {S S' : Nat → Bool} (h : Asked E u S S' j) (he : E u j = true) (hs : S j = true) : Asked E u S (Kp.on S' u) (j + 1) := fun v hv => by
  unfold Kp.on
  by_cases e : v = u
  · subst e
    rw [if_pos rfl]
    exact ⟨fun _ => Or.inr ⟨rfl, j, by omega, he, hs⟩, fun _ => rfl⟩
  · rw [if_neg e, h v hv]
    simp [e]

theorem Asked.at {u j : Nat} {S S' : Nat → Bool} (h : Asked E u S S' j) (hj : j < 40) (hne : j ≠ u) : S' j = S j := by
  rw [Bool.eq_iff_iff, h j hj]; simp [hne]

set_option maxRecDepth 100000 in
set_option maxHeartbeats 8000000 in
theorem sources_any (x f : Nat) (h : RowAt w b n A Pl E) (O : Kp.Ok n A Pl E) (hn : n ≤ 40) (hx : x < n) (hf : f ≤ Pl x) :
    Calls Try.prog 29 #[.pointer (some ⟨b, 0, none⟩), .int .i64 x, .int .i64 f] w fun e w' => ∃ S, e = .returned (.agg (blist S).toArray) ∧ (∀ v, v < 40 → (S v = true ↔ Kp.SrcI E Pl x f v)) ∧ Below w.heap.size w w' := by
  have hx40 : x < 40 := by omega
  have HH : Hid (RowAt w b n A Pl E) := h
  have HO : Hid (Kp.Ok n A Pl E) := O
  have hbl := h.lt
  have hPx : Pl x < 40 := by have := O.plLt x hx; omega
  clear h O
  go_enter Try.func29, Try.ntmps29
  go_upto_region 2 with fail
  generalize hW : World.alloc (World.alloc w _) _ = W
  have hW' : (w.alloc (.cells (Array.replicate 40 (.bool false)) 56)).alloc (.cells (Array.replicate 40 (.bool false)) 56) = W := hW
  clear hW
  have hB : Below w.heap.size w W := by
    rw [← hW']; exact ((Below.refl _ _).alloc (Nat.le_refl _) _).alloc (by simp) _
  have hb2 := two_new w
  rw [hW'] at hb2
  clear hW'
  have HR : Hid (RowAt W b n A Pl E) := HH.out.below hB
  have HF : Hid (BoolsAt (W.setCell ⟨w.heap.size + 1, x, none⟩ (.bool true)) (w.heap.size + 1) (Kp.on (fun _ => false) x)) := hb2.2.set hx40
  have HFr : Hid (Fr w b n A Pl E (W.setCell ⟨w.heap.size + 1, x, none⟩ (.bool true))) := (Fr.mk HR.out hB ⟨_, hb2.1⟩).set hbl _ _
  have hc1 := hb2.2.at' x hx40
  have hc2 := hb2.2.fr x hx40
  have hpx' := HFr.out.row.pl x hx40
  clear hb2 HH hB HR
  go_wp2
  go_loopg [8] (Pl x) (fun gg s wr => ∃ (k : Nat) (S : Nat → Bool), f ≤ k ∧ k ≤ Pl x ∧ k ≤ gg ∧ s = .int .i64 ((k : Int) - 1) ∧ Hid (BoolsAt wr (w.heap.size + 1) S) ∧ Hid (Fr w b n A Pl E wr) ∧ Hid (∀ v, v < 40 → (S v = true ↔ Kp.SrcI E Pl x k v)))
  case atStart => exact ⟨Pl x, _, hf, Nat.le_refl _, Nat.le_refl _, rfl, HF, HFr, fun v _ => by rw [← Kp.src_start]; unfold Kp.on; split <;> simp_all⟩
  case round =>
    obtain ⟨k, S, hfk, hkx, hkg, rfl, HS, HW, HI⟩ := hrel
    by_cases hlt : f < k
    · obtain ⟨m, rfl⟩ : ∃ m, k = m + 1 := ⟨k - 1, by omega⟩
      have em : (((m + 1 : Nat) : Int) - 1) = (m : Int) := by omega
      have hm40 : m < 40 := by omega
      have hmn : m < n := by have := HO.out.plLt x hx; omega
      have hA := HO.out.atLt m hmn
      have hat := HW.out.row.at' m hm40
      have hA40 : A m < 40 := by omega
      have hran := HW.out.row.edges hA40
      have hu56 := Try.underlying56
      have hi56 : (Try.prog.info? 56).map (·.size) = some (blist (E (A m))).length := by rw [blist_length]; exact info56
      have hl56 := blist_length (E (A m))
      simp only [em]
      go_upto_region 6 with fail
      go_cut [35, 36] (fun s t wx => s = .agg (blist (E (A m))).toArray ∧ t = .int .i64 0 ∧ wx = wr.drew)
      case first =>
        go_region_held (fun w' => w'.rangeAt b (81 + A m * 40) (blist (E (A m))) ∧ w'.cell? ⟨b, 1 + m, none⟩ = some (.int .i64 (A m))) (constructor <;> simp_all) (fail)
        go_wp2_with fail
        go_meet
        exact ⟨rfl, rfl, rfl⟩
      case rest =>
        obtain ⟨rfl, rfl, rfl⟩ := hcut
        clear hran hu56 hi56 hl56
        have HSd : Hid (BoolsAt wr.drew (w.heap.size + 1) S) := HS.out.of_block rfl
        have HWd : Hid (Fr w b n A Pl E wr.drew) := ⟨HW.out.row.of_block rfl, HW.out.old.drew, HW.out.res.imp fun _ h => h.of_block rfl⟩
        go_wp2
        go_loopg [36] 40 (fun gg s wx => ∃ (j : Nat) (S' : Nat → Bool), j ≤ 40 ∧ 40 - j ≤ gg ∧ s = .int .i64 j ∧ Hid (BoolsAt wx (w.heap.size + 1) S') ∧ Hid (Fr w b n A Pl E wx) ∧ Hid (Asked E (A m) S S' j))
        case atStart => exact ⟨0, S, by omega, by omega, rfl, HSd, HWd, fun v _ => by simp⟩
        case round =>
          obtain ⟨j, S', hj, hg, rfl, HS', HW', HI'⟩ := hrel
          by_cases hlt2 : j < 40
          · have hix := index_bools (E (A m)) j hlt2 wr
            have hjj := HS'.out.at' j hlt2
            have hat' := HW'.out.row.at' m hm40
            have hcA := HS'.out.at' (A m) hA40
            have hfA := HS'.out.fr (A m) hA40
            cases he : E (A m) j
            · rw [he] at hix
              have HN : Hid (Asked E (A m) S S' (j + 1)) := HI'.out.skip (by simp [he])
              clear he
              go_wp2
              go_roundg (40 - (j + 1))
              case measure => omega
              case rel => exact ⟨j + 1, S', by omega, by omega, by go_num, HS', HW', HN⟩
            · rw [he] at hix
              have hne : j ≠ A m := fun e => by
                have := HO.out.fwd _ _ he
                rw [← e] at this; omega
              have hsj := HI'.out.at hlt2 hne
              rw [hsj] at hjj
              cases hs : S j
              · rw [hs] at hjj
                have HN : Hid (Asked E (A m) S S' (j + 1)) := HI'.out.skip (by simp [hs])
                clear he hs hsj
                go_wp2
                go_roundg (40 - (j + 1))
                case measure => omega
                case rel => exact ⟨j + 1, S', by omega, by omega, by go_num, HS', HW', HN⟩
              · rw [hs] at hjj
                have HN : Hid (Asked E (A m) S (Kp.on S' (A m)) (j + 1)) := HI'.out.take he hs
                clear he hs hsj
                go_wp2
                go_roundg (40 - (j + 1))
                case measure => omega
                case rel => exact ⟨j + 1, _, by omega, by omega, by go_num, HS'.out.set hA40, HW'.out.set hbl _ _, HN⟩
          · have hj40 : j = 40 := by omega
            subst hj40
            have HN : Hid (∀ v, v < 40 → (S' v = true ↔ Kp.SrcI E Pl x m v)) := Kp.src_step HO.out hx (by omega) S S' HI.out hn HI'.out
            go_wp2
            go_roundg m
            case measure => omega
            case rel => exact ⟨m, S', by omega, by omega, by omega, rfl, HS', HW', HN⟩
    · have hfk' : k = f := by omega
      subst hfk'
      have hi56 : (Try.prog.info? 56).map (·.size) = some (blist S).length := by rw [blist_length]; exact info56
      go_upto_region 12 with fail
      obtain ⟨S0, hS0⟩ := HW.out.res
      have hth := hS0.there S
      have hld : (loadVar 56 ⟨w.heap.size, 0, none⟩).run Try.prog (wr.setCells w.heap.size 0 (blist S).toArray.toList) = .ok (.agg (blist S).toArray) (wr.setCells w.heap.size 0 (blist S).toArray.toList) :=
        run_loadVar_mid _ _ _ _ (blist S) _ (by simpa using World.rangeAt_setCells_same wr w.heap.size 0 (blist S) (by simpa using hth)) Try.underlying56 rfl hi56
      have hBl : Below w.heap.size w (wr.setCells w.heap.size 0 (blist S).toArray.toList) := below_setCells _ (Nat.le_refl _) _ _ _ HW.out.old
      go_wp2_with (first | (refine wpList_load_mid rfl 56 (.tmp 7) rfl (w.heap.size + 1) 0 rfl (blist S) _ HS.out.range Try.underlying56 rfl hi56 ?_) | (refine wpList_store_mid rfl 56 (.tmp 6) (.tmp 54) rfl w.heap.size 0 (blist S).toArray rfl rfl hth (blist_info S) (blist_one S) ?_))
      refine bodyPost_ret (v := .agg (blist S).toArray) ?_ rfl ⟨S, rfl, HI.out, hBl⟩
      rw [results_one rfl]
      simp [asAddr, Result.andThen, hld]

end Go.Proofs.Ytelmkfkgpnadnaa
