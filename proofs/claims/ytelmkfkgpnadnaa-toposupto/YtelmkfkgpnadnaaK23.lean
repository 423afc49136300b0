/-
  The program's Order, at every number of nodes.
-/
import Derived.Test.YtelmkfkgpnadnaaK7
namespace Go.Proofs.Ytelmkfkgpnadnaa
open Go.RowKit

variable {w w' : World} {b n : Nat} {A Pl : Nat → Nat} {E : Nat → Nat → Bool}

/-- A step that appends to a list that is not nil, maybe nothing. -/
theorem step_append_there {P : Program} (w : World) {ops : Array Oper} {o : Oper} {a : Act} {K : Act → World → Prop} {Q : Exit → Act → World → Prop} {Z : Prop} (hgd : o.guard = none) (s x : Operand) (t : TypeId)
    (ho : o.op = .call { callee := .builtin .append, args := #[s, x], argTypes := #[t, t] })
    (base : Nat) (e : TypeId) (i : TypeInfo) (z : Value) (size bytes : Nat) (ht : P.underlying t = some (.slice e)) (hi : P.info? e = some i) (hz : i.zero = some z)
    (hsize : i.size = size) (hby : i.bytes = bytes) (hzs : z.cells.size = size) (hsz : 0 < size)
    (v : Value) (k : Nat) (xs : List Value) (hs : a.eval s = v) (hown : w.ownsRow base e size v k xs)
    (ad : Addr) (m c : Nat) (news : List Value) (hx : a.eval x = .slice (some ad) m c) (hl : news.length = m * size) (hnews : ∀ j u, news[j]? = some u → w.cell? (ad.add j) = some u) (h1 : ∀ u ∈ news, u.oneCell' = true)
    (g0 l0 c0 : Nat) (hv : v = .slice (some ⟨g0, 0, none⟩) l0 c0) (h63 : k + m ≤ maxLen) (hbytes : (k + m) * bytes ≤ 140737488355328) (hbase : base ≤ w.heap.size)
    (h : ∀ g cap w', w'.ownsRow base e size (.slice (some ⟨g, 0, none⟩) (k + m) cap) (k + m) (xs ++ news) → w.grownBy w' v.ownBlock → K (a.put o.dst (.slice (some ⟨g, 0, none⟩) (k + m) cap)) w') :
    if Region.wanted o (yielded ops a.tmps) = true then Oper.wp P o a w K Q else Z := by
  have hw : Region.wanted o (yielded ops a.tmps) = true := by simp [Region.wanted, hgd]
  rw [if_pos hw]
  obtain ⟨v', w', hr, h2, h3, h4, _⟩ := run_append_own_at (P := P) w base t o.type e i z size bytes ht hi hz hsize hby hzs hsz v k xs hown ad m c news hl hnews h1 h63 hbytes hbase
  have hne : v' ≠ .slice none 0 0 := fun e => by
    have := (h4.1 e).1
    rw [hv] at this
    cases this
  obtain ⟨g, cap, hg⟩ : ∃ g cap, v' = .slice (some ⟨g, 0, none⟩) (k + m) cap := by
    rcases h2.2 with ⟨e, _⟩ | ⟨g, cap, _, e, _⟩
    · exact absurd e hne
    · exact ⟨g, cap, e⟩
  subst hg
  unfold Oper.wp execOp
  simp only [ho, resolve, invoke, builtin, Sem.run_bind, Sem.run_pure, Result.andThen_ok, List.map_toArray, List.map_cons, List.map_nil, hs, hx, hr]
  exact h g cap w' h2 h3

set_option maxRecDepth 100000 in
set_option maxHeartbeats 400000 in
theorem nodes_all (h : RowAt w b n A Pl E) (hn : n ≤ 40) :
    Calls Try.prog 17 #[.pointer (some ⟨b, 0, none⟩)] w fun e w' => ∃ g cap, e = .returned (.slice (some ⟨g, 0, none⟩) n cap) ∧ w'.ownsRow w.heap.size 3 1 (.slice (some ⟨g, 0, none⟩) n cap) n (ints ((List.range n).map A)) ∧ Below w.heap.size w w' := by
  obtain ⟨i0, hi1, hi2, hi3, hi4⟩ := info3
  have HI : Hid (Try.prog.info? 3 = some i0 ∧ i0.zero = some (.int .i64 0) ∧ i0.size = 1 ∧ i0.bytes = 8) := ⟨hi1, hi2, hi3, hi4⟩
  clear hi1 hi2 hi3 hi4
  have HR : Hid (RowAt w b n A Pl E) := h
  have hc := h.cnt
  clear h
  go_enter Try.func17, Try.ntmps17
  go_upto_region 1 with fail
  have hbl := HR.out.lt
  have hc2 : ((w.alloc (.cells #[] 3)).drew).cell? ⟨b, 0, none⟩ = some (.int .i64 n) := by
    show (w.alloc (.cells #[] 3)).cell? _ = _
    rw [World.cell?_alloc_lt _ _ _ hbl]; exact hc
  have hown0 : ((w.alloc (.cells #[] 3)).drew).ownsRow w.heap.size 3 1 (.slice (some ⟨w.heap.size, 0, none⟩) 0 0) 0 [] := World.ownsRow_made w #[] 0 (Nat.le_refl _) (by unfold maxLen; omega) rfl
  have hnews : ∀ j u, (ints ((List.range n).map A))[j]? = some u → ((w.alloc (.cells #[] 3)).drew).cell? ((⟨b, 1, none⟩ : Addr).add j) = some u := fun j u hu => by
    unfold ints at hu
    rw [List.getElem?_map, Option.map_eq_some_iff] at hu
    obtain ⟨k, hk, rfl⟩ := hu
    rw [List.getElem?_map, Option.map_eq_some_iff] at hk
    obtain ⟨m, hm, rfl⟩ := hk
    obtain ⟨h1, h2⟩ := List.getElem?_eq_some_iff.1 hm
    rw [List.getElem_range] at h2
    subst h2
    have hj : j < n := by simpa using h1
    rw [Addr.add_mid]
    show (w.alloc (.cells #[] 3)).cell? _ = _
    rw [World.cell?_alloc_lt _ _ _ hbl]
    exact HR.out.at' j (by omega)
  have hone : ∀ u ∈ ints ((List.range n).map A), u.oneCell' = true := fun u hu => by
    unfold ints at hu; obtain ⟨k, _, rfl⟩ := List.mem_map.1 hu; rfl
  have hlen : (ints ((List.range n).map A)).length = n * 1 := by simp [ints]
  have hsl := fun W => slice54 W b n hn
  go_region_held_law (fun w' => w'.cell? ⟨b, 0, none⟩ = some (.int .i64 n)) (first | exact hc | exact hc2 | assumption)
    (first | (refine step_append_there _ rfl (.tmp 3) (.tmp 11) 34 rfl w.heap.size 3 i0 (.int .i64 0) 1 8 Try.underlying34 HI.out.1 HI.out.2.1 HI.out.2.2.1 HI.out.2.2.2 rfl (by decide) _ 0 [] rfl hown0 ⟨b, 1, none⟩ n 40 (ints ((List.range n).map A)) rfl hlen hnews hone w.heap.size 0 0 rfl (by unfold maxLen; omega) (by omega) (by show w.heap.size ≤ (w.alloc _).heap.size; simp) ?_; intro g cap w1 hown hgrow; have hk : w1.cell? ⟨b, 0, none⟩ = some (.int .i64 n) := hgrow.cell hc2 (by show some b ≠ some w.heap.size; simp; omega)))
  all_goals
    have hg : ((w.alloc (.cells #[] 3)).drew).grownBy w1 (some w.heap.size) := hgrow
    have hbw : Below w.heap.size w w1 := (((Below.refl w.heap.size w).alloc (Nat.le_refl _) _).drew).grown hg (by show w.heap.size ≤ (w.alloc _).heap.size; simp) (fun k hk => by cases hk; exact Nat.le_refl _)
    have hown2 : w1.ownsRow w.heap.size 3 1 (.slice (some ⟨g, 0, none⟩) n cap) n (ints ((List.range n).map A)) := by
      rw [Nat.zero_add] at hown
      exact hown
    clear hgrow hown hg hk hsl hnews hown0 hc2
    simp only [List.getElem_toArray, List.getElem_cons_succ, List.getElem_cons_zero]
    go_wp2
    go_ret
    exact ⟨g, cap, rfl, hown2, hbw⟩

set_option maxHeartbeats 400000 in
theorem order_all (h : RowAt w b n A Pl E) (hn : n ≤ 40) :
    Calls Try.prog 9 #[.pointer (some ⟨b, 0, none⟩)] w fun e w' => ∃ g cap, e = .returned (.slice (some ⟨g, 0, none⟩) n cap) ∧ w'.ownsRow w.heap.size 3 1 (.slice (some ⟨g, 0, none⟩) n cap) n (ints ((List.range n).map A)) ∧ Below w.heap.size w w' := by
  have hc := h.cnt
  have k := nodes_all h hn
  clear h
  go_enter Try.func9, Try.ntmps9
  go_wp2_with (go_at_call 17; fail)
  go_at_call 17
  refine k.mono ?_
  rintro e w' ⟨g, cap, rfl, h1, h2⟩
  clear k
  go_wp2
  go_ret
  exact ⟨g, cap, rfl, h1, h2⟩

end Go.Proofs.Ytelmkfkgpnadnaa
