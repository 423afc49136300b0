/-
  The document's answer, an order: where edges lead, all pairs, over and over.
-/
import Derived.Test.YtelmkfkgpnadnaaK15
import Derived.Test.YtelmkfkgpnadnaaK16
import Derived.Deep.RegionHeld3
import Derived.Deep.RegionHeldLaw
import Derived.Laws.CopyRow
import Derived.Laws.IdiomCopy
namespace Go.Proofs.Ytelmkfkgpnadnaa
open Go.RowKit

variable {w w' : World} {n : Nat} {A Pl : Nat → Nat} {E : Nat → Nat → Bool}

def brow (n : Nat) (S : Nat → Bool) : List Value := (List.range n).map fun v => .bool (S v)

/-- Rows of truths, as far as they are made and filled. -/
structure UptoE (w : World) (lb n k : Nat) (E : Nat → Nat → Bool) : Prop where
  top : ∃ f, ValsAt w lb n f ∧ ∀ u, u < k → f u = .slice (some ⟨lb + 1 + u, 0, none⟩) n n
  cell : ∀ u, u < k → ValsAt w (lb + 1 + u) n (fun v => .bool (E u v))
  size : w.heap.size = lb + 1 + k

theorem UptoE.done {lb : Nat} (h : UptoE w lb n n E) : EdgesAt w lb n (fun u => lb + 1 + u) E := by
  obtain ⟨f, hf, hfu⟩ := h.top
  have hs := h.size
  exact ⟨fun u hu => by rw [hf.at' u hu, hfu u hu], fun u hu => h.cell u hu, fun u v _ _ e => by omega, fun u _ => by omega, ⟨by omega, fun u hu => by omega⟩⟩

theorem EdgesAt.ext {eb : Nat} {rb : Nat → Nat} {F : Nat → Nat → Bool} (h : EdgesAt w eb n rb E) (e : ∀ x y, x < n → y < n → E x y = F x y) : EdgesAt w eb n rb F :=
  ⟨h.row, fun u hu => (h.cell u hu).ext fun j hj => by rw [e u j hu hj], h.inj, h.ne, h.lt⟩

theorem EdgesAt.drew {eb : Nat} {rb : Nat → Nat} (h : EdgesAt w eb n rb E) : EdgesAt w.drew eb n rb E := h.of_blocks (Nat.le_refl _) rfl (fun _ _ => rfl)

theorem EdgesAt.store {eb x y : Nat} {rb : Nat → Nat} {c : Bool} (h : EdgesAt w eb n rb E) (hx : x < n) (hy : y < n) : EdgesAt (w.setCell ⟨rb x, y, none⟩ (.bool c)) eb n rb (Kp.edge E x y c) := by
  have hs : (w.setCell ⟨rb x, y, none⟩ (.bool c)).heap.size = w.heap.size := by simp [World.setCell]
  have ho : ∀ k, k ≠ rb x → (w.setCell ⟨rb x, y, none⟩ (.bool c)).heap[k]? = w.heap[k]? := fun k hk => Below.heap_setCell _ _ _ _ hk
  refine ⟨fun u hu => ?_, fun u hu => ?_, h.inj, h.ne, ⟨by rw [hs]; exact h.lt.1, fun u hu => by rw [hs]; exact h.lt.2 u hu⟩⟩
  · rw [World.cell?_of_block (w := w) (a := ⟨eb, u, none⟩) (ho eb (fun e => h.ne x hx e.symm))]; exact h.row u hu
  · by_cases e : u = x
    · subst e
      exact ((h.cell u hu).set hy (.bool c)).ext fun j _ => by
        unfold Kp.edge; by_cases e : j = y <;> simp [e]
    · refine ((h.cell u hu).of_block (ho (rb u) (fun e' => e (h.inj u x hu hx e')))).ext fun j _ => ?_
      unfold Kp.edge; rw [if_neg (fun e' => e e'.1)]

theorem info4s : (Try.prog.info? 4).map (·.size) = some 1 := by kernel_rfl

theorem step_copy_row {ops : Array Oper} {o : Oper} {a : Act} {w : World} {K : Act → World → Prop} {Q : Exit → Act → World → Prop} {Z : Prop} (hgd : o.guard = none) (d s : Operand)
    (ho : o.op = .call { callee := .builtin .copy, args := #[d, s], argTypes := #[33, 33] }) (b src m : Nat) (S : Nat → Bool) (f : Nat → Value) (hd : a.eval d = .slice (some ⟨b, 0, none⟩) m m) (hs : a.eval s = .slice (some ⟨src, 0, none⟩) m m)
    (hsrc : ValsAt w src m (fun v => .bool (S v))) (hdst : ValsAt w b m f)
    (h : K (a.put o.dst (goInt (brow m S).length)) (w.setCells b 0 (brow m S))) : if Region.wanted o (yielded ops a.tmps) = true then Oper.wp Try.prog o a w K Q else Z := by
  have hw : Region.wanted o (yielded ops a.tmps) = true := by simp [Region.wanted, hgd]
  rw [if_pos hw]
  have hl : (brow m S).length = m := by simp [brow]
  have hrun := run_copy_cells (P := Try.prog) w 33 33 o.type 4 b 0 m m ⟨src, 0, none⟩ m m (brow m S) Try.underlying33 info4s (by rw [hl]; simp) (fun j v hv => by
      rw [Addr.add_mid, Nat.zero_add]
      unfold brow at hv
      rw [List.getElem?_map, Option.map_eq_some_iff] at hv
      obtain ⟨q, hq, rfl⟩ := hv
      obtain ⟨h1, h2⟩ := List.getElem?_eq_some_iff.1 hq
      rw [List.getElem_range] at h2
      subst h2
      exact hsrc.at' j (by simpa using h1)) (fun j hj => by rw [Nat.zero_add, hdst.at' j (by omega)]; rfl) (fun j hj => by rw [Nat.zero_add]; exact hdst.fr j (by omega)) (fun v hv => by
      unfold brow at hv
      obtain ⟨q, _, rfl⟩ := List.mem_map.1 hv
      rfl)
  unfold Oper.wp
  simp [execOp, ho, resolve, invoke, builtin, hd, hs, hrun, Result.andThen]
  exact h

theorem vals_copied {w : World} {b m : Nat} {S : Nat → Bool} {f : Nat → Value} (h : ValsAt w b m f) : ValsAt (w.setCells b 0 (brow m S)) b m (fun v => .bool (S v)) := by
  have hl : (brow m S).length = m := by simp [brow]
  have hr := World.rangeAt_setCells_same w b 0 (brow m S) (fun j hj => by rw [Nat.zero_add]; exact ⟨by rw [h.at' j (by omega)]; rfl, h.fr j (by omega)⟩)
  refine ⟨fun v hv => ?_, fun v hv => ?_⟩
  · have := hr v (.bool (S v)) (by simp [brow, hv])
    rwa [Nat.zero_add] at this
  · rw [World.frozen?_setCells]; exact h.fr v hv

theorem vals_apart {w : World} {b c m k : Nat} {vs : List Value} {f : Nat → Value} (h : ValsAt w b m f) (hne : b ≠ c) : ValsAt (w.setCells c k vs) b m f := by
  refine ⟨fun v hv => ?_, fun v hv => ?_⟩
  · rw [World.cell?_setCells_out c vs k w ⟨b, v, none⟩ (fun hb _ => absurd hb hne)]; exact h.at' v hv
  · rw [World.frozen?_setCells]; exact h.fr v hv

set_option maxRecDepth 100000 in
set_option maxHeartbeats 4000000 in
theorem refLeads_any (tb nb eb cn ce : Nat) (rb : Nat → Nat) (w : World) (h : RefAt w tb nb eb cn ce n rb A E) (hn : n ≤ 40) (hn0 : 0 < n) :
    Calls Try.prog 34 #[.pointer (some ⟨tb, 0, none⟩)] w fun e w' => e = .returned (.slice (some ⟨w.heap.size, 0, none⟩) n n) ∧ EdgesAt w' w.heap.size n (fun u => w.heap.size + 1 + u) (Kp.WK E n) ∧ Below w.heap.size w w' := by
  have HR : Hid (RefAt w tb nb eb cn ce n rb A E) := h
  have hnd := h.nodes
  clear h
  go_enter Try.func34, Try.ntmps34
  go_upto_region 3 with (at_make; refine wpList_make_n rfl (.tmp 14) 32 rfl 33 (.slice none 0 0) 24 n Try.underlying32 info33' rfl (by decide) hn rfl w.heap.size rfl ?_)
  have hU : UptoE (w.alloc (.cells (madeCells #[.slice none 0 0] n) 33)) w.heap.size n 0 E := ⟨⟨_, vals_new w (.slice none 0 0) n 33, fun u hu => by omega⟩, fun u hu => by omega, by simp⟩
  have hB3 : Below w.heap.size w (w.alloc (.cells (madeCells #[.slice none 0 0] n) 33)) := (Below.refl _ _).alloc (Nat.le_refl _) _
  generalize w.alloc (.cells (madeCells #[.slice none 0 0] n) 33) = W3 at *
  have HU : Hid (UptoE W3 w.heap.size n 0 E) := hU
  clear hU
  go_wp2
  go_loopg [5] n (fun gg s wr => ∃ k : Nat, k ≤ n ∧ n - k ≤ gg ∧ s = .int .i64 k ∧ Hid (UptoE wr w.heap.size n k E) ∧ Below w.heap.size w wr)
  case atStart => exact ⟨0, by omega, by omega, rfl, HU, hB3⟩
  case round =>
    obtain ⟨k, hk, hg, rfl, HUk, hbk⟩ := hrel
    by_cases hlt : k < n
    · have hsz := HUk.out.size
      obtain ⟨f, hf, hfu⟩ := HUk.out.top
      have hf2 : ValsAt (wr.alloc (.cells (madeCells #[.bool false] n) 4)) w.heap.size n f := hf.of_block (Below.heap_alloc _ _ _ (by omega))
      have hc := hf2.at' k hlt
      have hfr := hf2.fr k hlt
      have hbn : Below w.heap.size w ((wr.alloc (.cells (madeCells #[.bool false] n) 4)).setCell ⟨w.heap.size, k, none⟩ (.slice (some ⟨w.heap.size + 1 + k, 0, none⟩) n n)) := (hbk.alloc (by omega) _).setCell (Nat.le_refl _) _
      have ht2 := hf2.set hlt (.slice (some ⟨w.heap.size + 1 + k, 0, none⟩) n n)
      have hz2 : ValsAt ((wr.alloc (.cells (madeCells #[.bool false] n) 4)).setCell ⟨w.heap.size, k, none⟩ (.slice (some ⟨w.heap.size + 1 + k, 0, none⟩) n n)) (w.heap.size + 1 + k) n (fun _ => .bool false) := by
        have := vals_new wr (.bool false) n 4
        rw [hsz] at this
        exact this.of_block (Below.heap_setCell _ _ _ _ (by show w.heap.size + 1 + k ≠ w.heap.size; omega))
      have ho2 : ∀ u, u < k → ValsAt ((wr.alloc (.cells (madeCells #[.bool false] n) 4)).setCell ⟨w.heap.size, k, none⟩ (.slice (some ⟨w.heap.size + 1 + k, 0, none⟩) n n)) (w.heap.size + 1 + u) n (fun v => .bool (E u v)) := fun u hu =>
        ((HUk.out.cell u hu).of_block (w' := wr.alloc (.cells (madeCells #[.bool false] n) 4)) (Below.heap_alloc _ _ _ (by omega))).of_block (Below.heap_setCell _ _ _ _ (by show w.heap.size + 1 + u ≠ w.heap.size; omega))
      have hs2 : ((wr.alloc (.cells (madeCells #[.bool false] n) 4)).setCell ⟨w.heap.size, k, none⟩ (.slice (some ⟨w.heap.size + 1 + k, 0, none⟩) n n)).heap.size = w.heap.size + 2 + k := by simp [World.setCell, hsz]; omega
      clear hf
      go_upto_region 7 with (at_make; refine wpList_make_n rfl (.tmp 23) 33 rfl 4 (.bool false) 1 n Try.underlying33 info4' rfl (by decide) hn rfl (w.heap.size + 1 + k) hsz ?_)
      generalize World.setCell (World.alloc wr _) _ _ = W4 at *
      have HR4 : Hid (RefAt W4 tb nb eb cn ce n rb A E) := HR.out.below hbn
      have hlt4 := HR.out.ed.lt
      have htb : tb < w.heap.size := World.block_lt_of_cell? w _ HR.out.nodes
      have s1 := ht2.at' k hlt
      rw [if_pos rfl] at s1
      have s2 := HR4.out.edges
      have s3 := HR4.out.ed.row k hlt
      have hrk := hlt4.2 k hlt
      have hebl := hlt4.1
      have hsr : ValsAt W4.drew (rb k) n (fun v => .bool (E k v)) := (HR4.out.ed.cell k hlt).of_block rfl
      have hds : ValsAt W4.drew (w.heap.size + 1 + k) n (fun _ => .bool false) := hz2.of_block rfl
      have HN : Hid (UptoE (W4.drew.setCells (w.heap.size + 1 + k) 0 (brow n (E k))) w.heap.size n (k + 1) E) := by
        refine ⟨⟨_, vals_apart (ht2.of_block (w' := W4.drew) rfl) (by omega), fun u hu => ?_⟩, fun u hu => ?_, by rw [heap_size_setCells]; show W4.heap.size = _; omega⟩
        · by_cases e : u = k
          · simp [e]
          · simp only [if_neg e]; exact hfu u (by omega)
        · by_cases e : u = k
          · subst e; exact vals_copied hds
          · exact vals_apart ((ho2 u (by omega)).of_block (w' := W4.drew) rfl) (by omega)
      have hb4 : Below w.heap.size w (W4.drew.setCells (w.heap.size + 1 + k) 0 (brow n (E k))) := below_setCells _ (by omega) _ _ _ hbn.drew
      have t1 : (W4.drew.setCells (w.heap.size + 1 + k) 0 (brow n (E k))).cell? ⟨w.heap.size, k, none⟩ = some (.slice (some ⟨w.heap.size + 1 + k, 0, none⟩) n n) := by
        rw [World.cell?_setCells_out _ _ _ _ ⟨w.heap.size, k, none⟩ (fun hb _ => absurd hb (by show w.heap.size ≠ w.heap.size + 1 + k; omega))]; exact s1
      have t2 : (W4.drew.setCells (w.heap.size + 1 + k) 0 (brow n (E k))).cell? ⟨tb, 1, none⟩ = some (.slice (some ⟨eb, 0, none⟩) n ce) := by
        rw [World.cell?_setCells_out _ _ _ _ ⟨tb, 1, none⟩ (fun hb _ => absurd hb (by show tb ≠ w.heap.size + 1 + k; omega))]; exact s2
      have t3 : (W4.drew.setCells (w.heap.size + 1 + k) 0 (brow n (E k))).cell? ⟨eb, k, none⟩ = some (.slice (some ⟨rb k, 0, none⟩) n n) := by
        rw [World.cell?_setCells_out _ _ _ _ ⟨eb, k, none⟩ (fun hb _ => absurd hb (by show eb ≠ w.heap.size + 1 + k; omega))]; exact s3
      clear ht2 hz2 ho2 hfu HUk hbk hf2 hc hfr
      go_region_held_law (fun w' => w'.cell? ⟨w.heap.size, k, none⟩ = some (.slice (some ⟨w.heap.size + 1 + k, 0, none⟩) n n) ∧ w'.cell? ⟨tb, 1, none⟩ = some (.slice (some ⟨eb, 0, none⟩) n ce) ∧ w'.cell? ⟨eb, k, none⟩ = some (.slice (some ⟨rb k, 0, none⟩) n n)) (first | exact ⟨s1, s2, s3⟩ | exact ⟨t1, t2, t3⟩)
        (first | (refine step_copy_row rfl (.tmp 29) (.tmp 36) rfl (w.heap.size + 1 + k) (rb k) n (E k) _ rfl rfl hsr hds ?_))
      all_goals
        clear s1 s2 s3 t1 t2 t3
        simp only [List.getElem_toArray, List.getElem_cons_succ, List.getElem_cons_zero]
        go_wp2
        go_roundg (n - (k + 1))
        case measure => omega
        case rel => exact ⟨k + 1, by omega, by omega, by go_num, HN, hb4⟩
    · have hk' : n = k := by omega
      subst hk'
      have HE : Hid (EdgesAt wr w.heap.size n (fun u => w.heap.size + 1 + u) (Kp.WK E 0)) := HUk.out.done
      clear HUk
      go_wp2
      go_loopg [6] n (fun gg s wx => ∃ k : Nat, k ≤ n ∧ n - k ≤ gg ∧ s = .int .i64 k ∧ Hid (EdgesAt wx w.heap.size n (fun u => w.heap.size + 1 + u) (Kp.WK E k)) ∧ Below w.heap.size w wx)
      case atStart => exact ⟨0, by omega, by omega, rfl, HE, hbk⟩
      case round =>
        obtain ⟨k, hk, hg, rfl, HEk, hbk⟩ := hrel
        by_cases hlt : k < n
        · have HP : Hid (EdgesAt wr w.heap.size n (fun u => w.heap.size + 1 + u) (Kp.part E k 0 0)) := HEk.out.ext fun x y _ _ => (Kp.part_start E k x y).symm
          go_wp2
          go_loopg [7] n (fun gg s wx => ∃ i : Nat, i ≤ n ∧ n - i ≤ gg ∧ s = .int .i64 i ∧ Hid (EdgesAt wx w.heap.size n (fun u => w.heap.size + 1 + u) (Kp.part E k i 0)) ∧ Below w.heap.size w wx)
          case atStart => exact ⟨0, by omega, by omega, rfl, HP, hbk⟩
          case round =>
            obtain ⟨i, hi, hg, rfl, HEi, hbi⟩ := hrel
            by_cases hlti : i < n
            · go_wp2
              go_loopg [8] n (fun gg s wx => ∃ j : Nat, j ≤ n ∧ n - j ≤ gg ∧ s = .int .i64 j ∧ Hid (EdgesAt wx w.heap.size n (fun u => w.heap.size + 1 + u) (Kp.part E k i j)) ∧ Below w.heap.size w wx)
              case atStart => exact ⟨0, by omega, by omega, rfl, HEi, hbi⟩
              case round =>
                obtain ⟨j, hj, hg, rfl, HEj, hbj⟩ := hrel
                by_cases hltj : j < n
                · have r1 := HEj.out.row i hlti
                  have r2 := HEj.out.row k hlt
                  have c1 := (HEj.out.cell i hlti).at' j hltj
                  have f1 := (HEj.out.cell i hlti).fr j hltj
                  have c2 := (HEj.out.cell i hlti).at' k hlt
                  have c3 := (HEj.out.cell k hlt).at' j hltj
                  have HN : Hid (∀ c, c = (Kp.part E k i j i j || (Kp.part E k i j i k && Kp.part E k i j k j)) → EdgesAt (wr.setCell ⟨w.heap.size + 1 + i, j, none⟩ (.bool c)) w.heap.size n (fun u => w.heap.size + 1 + u) (Kp.part E k i (j + 1))) := fun c hc => by
                    rw [Kp.part_now] at hc
                    refine (HEj.out.store (c := c) hlti hltj).ext fun x y _ _ => ?_
                    rw [Kp.part_next, hc]; rfl
                  have hbs : ∀ c : Bool, Below w.heap.size w (wr.setCell ⟨w.heap.size + 1 + i, j, none⟩ (.bool c)) := fun c => hbj.setCell (p := ⟨w.heap.size + 1 + i, j, none⟩) (by show w.heap.size ≤ w.heap.size + 1 + i; omega) _
                  clear HEj
                  generalize h1 : Kp.part E k i j i j = b1 at c1 HN
                  generalize h2 : Kp.part E k i j i k = b2 at c2 HN
                  generalize h3 : Kp.part E k i j k j = b3 at c3 HN
                  clear h1 h2 h3
                  go_upto_region 17 with fail
                  cases b1
                  · cases b2
                    · have HN1 := HN.out false (by simp)
                      have HN2 : Hid (EdgesAt _ _ _ _ _) := HN1.drew
                      have hb2 := (hbs false).drew
                      clear HN HN1 hbs
                      go_region
                      go_wp2
                      go_roundg (n - (j + 1))
                      case measure => omega
                      case rel => exact ⟨j + 1, by omega, by omega, by go_num, HN2, hb2⟩
                    · cases b3
                      · have HN1 := HN.out false (by simp)
                        have HN2 : Hid (EdgesAt _ _ _ _ _) := HN1.drew
                        have hb2 := (hbs false).drew
                        clear HN HN1 hbs
                        go_region
                        go_wp2
                        go_roundg (n - (j + 1))
                        case measure => omega
                        case rel => exact ⟨j + 1, by omega, by omega, by go_num, HN2, hb2⟩
                      · have HN1 := HN.out true (by simp)
                        have HN2 : Hid (EdgesAt _ _ _ _ _) := HN1.drew
                        have hb2 := (hbs true).drew
                        clear HN HN1 hbs
                        go_region
                        go_wp2
                        go_roundg (n - (j + 1))
                        case measure => omega
                        case rel => exact ⟨j + 1, by omega, by omega, by go_num, HN2, hb2⟩
                  · have HN1 := HN.out true (by simp)
                    have HN2 : Hid (EdgesAt _ _ _ _ _) := HN1.drew
                    have hb2 := (hbs true).drew
                    clear HN HN1 hbs
                    go_region
                    go_wp2
                    go_roundg (n - (j + 1))
                    case measure => omega
                    case rel => exact ⟨j + 1, by omega, by omega, by go_num, HN2, hb2⟩
                · have hj' : n = j := by omega
                  subst hj'
                  have HN : Hid (EdgesAt wr w.heap.size n (fun u => w.heap.size + 1 + u) (Kp.part E k (i + 1) 0)) := HEj.out.ext fun x y _ hy => Kp.part_line E k i x y hy
                  go_wp2
                  go_roundg (n - (i + 1))
                  case measure => omega
                  case rel => exact ⟨i + 1, by omega, by omega, by go_num, HN, hbj⟩
            · have hi' : n = i := by omega
              subst hi'
              have HN : Hid (EdgesAt wr w.heap.size n (fun u => w.heap.size + 1 + u) (Kp.WK E (k + 1))) := HEi.out.ext fun x y hx _ => Kp.part_done E k x y hx
              go_wp2
              go_roundg (n - (k + 1))
              case measure => omega
              case rel => exact ⟨k + 1, by omega, by omega, by go_num, HN, hbi⟩
        · have hk' : n = k := by omega
          subst hk'
          go_wp2
          go_ret
          exact ⟨rfl, HEk.out, hbk⟩

end Go.Proofs.Ytelmkfkgpnadnaa
