/-
  The law's own: do edges lead from x to y?
-/
import Derived.Test.YtelmkfkgpnadnaaK10
namespace Go.Proofs.Ytelmkfkgpnadnaa
open Go.RowKit

variable {w w' : World} {b n : Nat} {A Pl : Nat → Nat} {E : Nat → Nat → Bool}

/-- The law's own edges: rows of truths. -/
structure EdgesAt (w : World) (eb n : Nat) (rb : Nat → Nat) (E : Nat → Nat → Bool) : Prop where
  row : ∀ u, u < n → w.cell? ⟨eb, u, none⟩ = some (.slice (some ⟨rb u, 0, none⟩) n n)
  cell : ∀ u, u < n → ValsAt w (rb u) n (fun v => .bool (E u v))
  inj : ∀ u v, u < n → v < n → rb u = rb v → u = v
  ne : ∀ u, u < n → rb u ≠ eb
  lt : eb < w.heap.size ∧ ∀ u, u < n → rb u < w.heap.size

theorem EdgesAt.of_blocks {eb : Nat} {rb : Nat → Nat} (h : EdgesAt w eb n rb E) (hs : w.heap.size ≤ w'.heap.size) (h1 : w'.heap[eb]? = w.heap[eb]?) (h2 : ∀ u, u < n → w'.heap[rb u]? = w.heap[rb u]?) : EdgesAt w' eb n rb E :=
  ⟨fun u hu => by rw [World.cell?_of_block (w := w) (a := ⟨eb, u, none⟩) h1]; exact h.row u hu, fun u hu => (h.cell u hu).of_block (h2 u hu), h.inj, h.ne,
    ⟨Nat.lt_of_lt_of_le h.lt.1 hs, fun u hu => Nat.lt_of_lt_of_le (h.lt.2 u hu) hs⟩⟩

theorem EdgesAt.below {eb : Nat} {rb : Nat → Nat} (h : EdgesAt w eb n rb E) (hb : Below w.heap.size w w') : EdgesAt w' eb n rb E :=
  h.of_blocks hb.size (hb.block eb h.lt.1) (fun u hu => hb.block _ (h.lt.2 u hu))

/-- A truth is told. -/
def SaidB (e : Ending) (p : Prop) : Prop := ∃ r : Bool, e = .returned (.bool r) ∧ (r = true ↔ p)

set_option maxRecDepth 100000 in
set_option maxHeartbeats 400000 in
theorem leads_any (eb x y : Nat) (rb : Nat → Nat) (w : World) (h : EdgesAt w eb n rb E) (hd : ∀ a b, E a b = true → a < n ∧ b < n) (hn : n ≤ 40) (hx : x < n) (hy : y < n) :
    Calls Try.prog 10 #[.slice (some ⟨eb, 0, none⟩) n n, .int .i64 x, .int .i64 y] w fun e w' => SaidB e (Kp.Way E x y) ∧ Below w.heap.size w w' := by
  obtain ⟨i0, hi1, hi2, hi3, hi4⟩ := info3
  have HI : Hid (Try.prog.info? 3 = some i0 ∧ i0.zero = some (.int .i64 0) ∧ i0.size = 1 ∧ i0.bytes = 8) := ⟨hi1, hi2, hi3, hi4⟩
  clear hi1 hi2 hi3 hi4
  have HE : Hid (EdgesAt w eb n rb E) := h
  have HD : Hid (∀ a b, E a b = true → a < n ∧ b < n) := hd
  have heb := h.lt.1
  clear h hd
  go_enter Try.func10, Try.ntmps10
  go_upto_region 3 with (at_make; refine wpList_make_n rfl (.tmp 12) 33 rfl 4 (.bool false) 1 n Try.underlying33 info4' rfl (by decide) hn rfl w.heap.size rfl ?_)
  have hv := vals_new w (.bool false) n 4
  have hB : Below w.heap.size w (w.alloc (.cells (madeCells #[.bool false] n) 4)) := (Below.refl _ _).alloc (Nat.le_refl _) _
  have hsz : (w.alloc (.cells (madeCells #[.bool false] n) 4)).heap.size = w.heap.size + 1 := by simp
  generalize w.alloc (.cells (madeCells #[.bool false] n) 4) = W at *
  have hown := own_lit W (w.heap.size + 1) x (by omega)
  rw [hsz] at hown
  have hB2 : Below w.heap.size w (W.alloc (.cells #[.int .i64 x] 3)) := hB.alloc (by omega) _
  have HV : Hid (ValsAt (W.alloc (.cells #[.int .i64 x] 3)) w.heap.size n fun v => .bool ((fun _ => false) v)) := hv.of_block (Below.heap_alloc _ _ _ (by omega))
  have hsz2 : (W.alloc (.cells #[.int .i64 x] 3)).heap.size = w.heap.size + 2 := by simp [hsz]
  clear hv hB hsz
  generalize W.alloc (.cells #[.int .i64 x] 3) = W2 at *
  go_wp2
  go_loopg [8, 9] (n + 1) (fun gg q s wr => ∃ (seen : Nat → Bool) (tl : List Nat) (i : Nat), i ≤ tl.length + 1 ∧ n + 1 - i ≤ gg ∧ s = .int .i64 i ∧ Hid (Kp.Bfs E n x seen tl i 0) ∧ Hid (ValsAt wr w.heap.size n fun v => .bool (seen v)) ∧ Hid (wr.ownsRow (w.heap.size + 1) 3 1 q (tl.length + 1) (ints (x :: tl))) ∧ Below w.heap.size w wr ∧ w.heap.size + 1 ≤ wr.heap.size)
  case atStart => exact ⟨_, [], 0, by omega, by omega, rfl, Kp.bfs_start E n x, HV, hown, hB2, by omega⟩
  case round =>
    obtain ⟨seen, tl, i, hi, hg, rfl, HBf, HVs, HOw, hbw, hsw⟩ := hrel
    have htl := HBf.out.len
    obtain ⟨g, cp, rfl, hg1, hg2⟩ := own_shape HOw.out (by simp)
    by_cases hlt : i < tl.length + 1
    · have hil : i < (x :: tl).length := by simpa using hlt
      obtain ⟨u, hu⟩ : ∃ u, (x :: tl)[i]? = some u := ⟨_, List.getElem?_eq_getElem hil⟩
      have hun : u < n := by
        cases i with
        | zero => simp at hu; omega
        | succ i => exact ((HBf.out.mem u).1 (List.mem_of_getElem? (by simpa using hu))).1
      have HU : Hid ((x :: tl)[i]? = some u) := hu
      have hltq : (i : Int) < (tl.length : Int) + 1 := by omega
      clear hu
      go_wp2
      go_loopg [8, 10] n (fun gg q s wx => ∃ (seen : Nat → Bool) (tl : List Nat) (z : Nat), z ≤ n ∧ n - z ≤ gg ∧ s = .int .i64 z ∧ i < tl.length + 1 ∧ Hid ((x :: tl)[i]? = some u) ∧ Hid (Kp.Bfs E n x seen tl i z) ∧ Hid (ValsAt wx w.heap.size n fun v => .bool (seen v)) ∧ Hid (wx.ownsRow (w.heap.size + 1) 3 1 q (tl.length + 1) (ints (x :: tl))) ∧ Below w.heap.size w wx ∧ w.heap.size + 1 ≤ wx.heap.size)
      case atStart => exact ⟨seen, tl, 0, by omega, by omega, rfl, hlt, HU, HBf, HVs, HOw, hbw, hsw⟩
      case round =>
        clear HVs HOw hbw hsw htl hg1 hg2 hltq hlt hil HU hi HBf
        obtain ⟨seen, tl, z, hz, hgz, rfl, hlt, HU, HBf, HVs, HOw, hbw, hsw⟩ := hrel
        have htl := HBf.out.len
        by_cases hltz : z < n
        · obtain ⟨g, cp, rfl, hg1, hg2⟩ := own_shape HOw.out (by simp)
          have hiq : i < (x :: tl).length := by simpa using hlt
          have hqi : wr.cell? ⟨g, i, none⟩ = some (.int .i64 u) := by
            have h1 := HOw.out.cells rfl i (.int .i64 u) (by
              rw [ints_get _ i hiq]
              have := HU.out
              rw [List.getElem?_eq_getElem hiq] at this
              simp at this
              rw [this])
            rwa [Addr.add_mid, Nat.zero_add] at h1
          have HEw : Hid (EdgesAt wr eb n rb E) := HE.out.below hbw
          have hru := HEw.out.row u hun
          have hez := (HEw.out.cell u hun).at' z hltz
          have hsz := HVs.out.at' z hltz
          have hfz := HVs.out.fr z hltz
          have hltq : (i : Int) < (tl.length : Int) + 1 := by omega
          cases he : E u z
          · rw [he] at hez
            have HN : Hid (Kp.Bfs E n x seen tl i (z + 1)) := HBf.out.skip HU.out (by simp [he])
            clear he
            go_wp2
            go_roundg (n - (z + 1))
            case measure => omega
            case rel => exact ⟨seen, tl, z + 1, by omega, by omega, by go_num, hlt, HU, HN, HVs, HOw, hbw, hsw⟩
          · rw [he] at hez
            cases hs : seen z
            · rw [hs] at hsz
              have HN : Hid (Kp.Bfs E n x (Kp.on seen z) (tl ++ [z]) i (z + 1)) := HBf.out.take HU.out hltz he hs
              have HV2 : Hid (ValsAt (wr.setCell ⟨w.heap.size, z, none⟩ (.bool true)) w.heap.size n fun v => .bool (Kp.on seen z v)) := (HVs.out.set hltz (.bool true)).ext fun j _ => by
                unfold Kp.on; by_cases e : j = z <;> simp [e]
              have HU2 : Hid ((x :: (tl ++ [z]))[i]? = some u) := by
                show _ = _
                rw [← List.cons_append, List.getElem?_append_left (by simpa using hlt)]; exact HU.out
              have HO2 : Hid ((wr.setCell ⟨w.heap.size, z, none⟩ (.bool true)).ownsRow (w.heap.size + 1) 3 1 (.slice (some ⟨g, 0, none⟩) (tl.length + 1) cp) (tl.length + 1) (ints (x :: tl))) :=
                HOw.out.kept (grown_one wr w.heap.size z (.bool true)) (Or.inr (by simp [Value.ownBlock]; omega))
              have hb2 : Below w.heap.size w (wr.setCell ⟨w.heap.size, z, none⟩ (.bool true)) := hbw.setCell (Nat.le_refl _) _
              have hs2 : w.heap.size + 1 ≤ (wr.setCell ⟨w.heap.size, z, none⟩ (.bool true)).heap.size := by simpa [World.setCell] using hsw
              have hl41 : tl.length + 1 ≤ 41 := by omega
              clear he hs
              go_upto_region 11 with fail
              generalize wr.setCell ⟨w.heap.size, z, none⟩ (.bool true) = W3 at *
              go_wp2_with (at_builtin; refine wpList_append_own_at _ rfl _ _ 34 rfl (w.heap.size + 1) 3 i0 (.int .i64 0) 1 8 Try.underlying34 HI.out.1 HI.out.2.1 HI.out.2.2.1 HI.out.2.2.2 rfl (by decide) _ _ _ rfl (HO2.out.alloc _) ⟨W3.heap.size, 0, none⟩ 1 1 [.int .i64 z] rfl rfl ?_ ?_ ?_ ?_ ?_ ?_)
              all_goals first
                | exact cell_one_new _ _ _
                | (show ∀ v ∈ [Value.int .i64 (z : Int)], v.oneCell' = true; intro v hv; simp at hv; subst hv; rfl)
                | (show _ + 1 ≤ maxLen; unfold maxLen; omega)
                | (show w.heap.size + 1 ≤ (W3.alloc _).heap.size; simp; omega)
                | omega
                | skip
              intro v' w1 hown' hgrow _ hloc
              have HO3 : Hid (w1.ownsRow (w.heap.size + 1) 3 1 v' ((tl ++ [z]).length + 1) (ints (x :: (tl ++ [z])))) := by
                show w1.ownsRow _ _ _ _ _ _
                rw [← List.cons_append, ints_snoc, List.length_append]; exact hown'
              have hb3 : Below w.heap.size w w1 := (hb2.alloc (by omega) _).grown hgrow (by simp; omega) (fun k hk => by have := (HO2.out.lt k hk).1; omega)
              have HV3 : Hid (ValsAt w1 w.heap.size n fun v => .bool (Kp.on seen z v)) := (HV2.out.of_block (w' := W3.alloc (.cells #[.int .i64 z] 3)) (Below.heap_alloc _ _ _ (by omega))).of_block (hgrow.block w.heap.size (by simp; omega) (by simp [Value.ownBlock]; omega))
              have hs3 : w.heap.size + 1 ≤ w1.heap.size := by have := hgrow.size; simp at this; omega
              clear hown' hgrow hloc HO2 HV2 hb2 hs2
              go_wp2
              go_roundg (n - (z + 1))
              case measure => omega
              case rel => exact ⟨_, tl ++ [z], z + 1, by omega, by omega, by go_num, by simp; omega, HU2, HN, HV3, HO3, hb3, hs3⟩
            · rw [hs] at hsz
              have HN : Hid (Kp.Bfs E n x seen tl i (z + 1)) := HBf.out.skip HU.out (fun _ => hs)
              clear he hs
              go_wp2
              go_roundg (n - (z + 1))
              case measure => omega
              case rel => exact ⟨seen, tl, z + 1, by omega, by omega, by go_num, hlt, HU, HN, HVs, HOw, hbw, hsw⟩
        · have hz' : z = n := by omega
          subst hz'
          have HN : Hid (Kp.Bfs E z x seen tl (i + 1) 0) := HBf.out.next
          go_wp2
          go_roundg (z + 1 - (i + 1))
          case measure => omega
          case rel => exact ⟨seen, tl, i + 1, by omega, by omega, by go_num, HN, HVs, HOw, hbw, hsw⟩
    · have hi' : i = tl.length + 1 := by omega
      subst hi'
      have hsy := HVs.out.at' y hy
      have HF : Hid (seen y = true ↔ Kp.Way E x y) := HBf.out.fin HD.out hy
      go_wp2
      go_ret
      exact ⟨⟨seen y, rfl, HF.out⟩, hbw⟩

end Go.Proofs.Ytelmkfkgpnadnaa
