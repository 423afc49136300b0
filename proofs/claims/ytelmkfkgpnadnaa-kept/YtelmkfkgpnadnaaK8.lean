/-
  A new order.
-/
import Derived.Test.YtelmkfkgpnadnaaK7
namespace Go.Proofs.Ytelmkfkgpnadnaa
open Go.RowKit

variable {w w' : World} {b n : Nat} {A Pl : Nat → Nat} {E : Nat → Nat → Bool}

/-- The cells of a row of nodes. -/
def rcells (n : Nat) (A Pl : Nat → Nat) (E : Nat → Nat → Bool) : List Value :=
  .int .i64 (n : Int) :: ((List.range 40).map (fun p => Value.int .i64 ((A p : Nat) : Int)) ++ ((List.range 40).map (fun v => Value.int .i64 ((Pl v : Nat) : Int)) ++ (List.range 1600).map (fun k => Value.bool (E (k / 40) (k % 40)))))

def none0 : Nat → Nat := fun _ => 0
def noE : Nat → Nat → Bool := fun _ _ => false

theorem rcells_length (n : Nat) (A Pl : Nat → Nat) (E : Nat → Nat → Bool) : (rcells n A Pl E).length = 1681 := by simp [rcells]

theorem rcells_one (n : Nat) (A Pl : Nat → Nat) (E : Nat → Nat → Bool) : ∀ v ∈ rcells n A Pl E, v.oneCell' = true := fun v hv => by
  unfold rcells at hv
  simp only [List.mem_cons, List.mem_append, List.mem_map] at hv
  rcases hv with rfl | ⟨_, _, rfl⟩ | ⟨_, _, rfl⟩ | ⟨_, _, rfl⟩ <;> rfl

theorem rcells_cnt (n : Nat) (A Pl : Nat → Nat) (E : Nat → Nat → Bool) : (rcells n A Pl E)[0]? = some (.int .i64 n) := rfl

theorem rcells_at (n : Nat) (A Pl : Nat → Nat) (E : Nat → Nat → Bool) (p : Nat) (h : p < 40) : (rcells n A Pl E)[1 + p]? = some (.int .i64 (A p)) := by
  unfold rcells
  rw [Nat.add_comm, List.getElem?_cons_succ, List.getElem?_append_left (by simpa using h)]
  simp [h]

theorem rcells_pl (n : Nat) (A Pl : Nat → Nat) (E : Nat → Nat → Bool) (p : Nat) (h : p < 40) : (rcells n A Pl E)[41 + p]? = some (.int .i64 (Pl p)) := by
  unfold rcells
  rw [show 41 + p = (40 + p) + 1 by omega, List.getElem?_cons_succ, List.getElem?_append_right (by simp), List.getElem?_append_left (by simp; omega)]
  simp [h]

theorem rcells_ed (n : Nat) (A Pl : Nat → Nat) (E : Nat → Nat → Bool) (u v : Nat) (hu : u < 40) (hv : v < 40) : (rcells n A Pl E)[81 + u * 40 + v]? = some (.bool (E u v)) := by
  unfold rcells
  rw [show 81 + u * 40 + v = (80 + u * 40 + v) + 1 by omega, List.getElem?_cons_succ, List.getElem?_append_right (by simp; omega), List.getElem?_append_right (by simp; omega)]
  have h1 : u * 40 + v < 1600 := by omega
  have h2 : (u * 40 + v) / 40 = u := by omega
  have h3 : (u * 40 + v) % 40 = v := by omega
  have h4 : 80 + u * 40 + v - (List.map (fun p => Value.int .i64 ((A p : Nat) : Int)) (List.range 40)).length - (List.map (fun v => Value.int .i64 ((Pl v : Nat) : Int)) (List.range 40)).length = u * 40 + v := by
    rw [List.length_map, List.length_map, List.length_range]; omega
  rw [h4, List.getElem?_map, List.getElem?_range h1]
  simp [h2, h3]

theorem rowAt_of (h : w.rangeAt b 0 (rcells n A Pl E)) (hf : ∀ o, o < 1681 → w.frozen? ⟨b, o, none⟩ = false) : RowAt w b n A Pl E := by
  have c : ∀ j v, (rcells n A Pl E)[j]? = some v → w.cell? ⟨b, j, none⟩ = some v := fun j v hv => by
    have := h j v hv; rwa [Nat.zero_add] at this
  exact ⟨c _ _ (rcells_cnt n A Pl E), fun p hp => c _ _ (rcells_at n A Pl E p hp), fun v hv => c _ _ (rcells_pl n A Pl E v hv), fun u hu v hv => c _ _ (rcells_ed n A Pl E u v hu hv), hf⟩

theorem RowAt.range (h : RowAt w b n A Pl E) : w.rangeAt b 0 (rcells n A Pl E) := fun j v hv => by
  rw [Nat.zero_add]
  have hj : j < 1681 := by
    have := (List.getElem?_eq_some_iff.1 hv).1
    rwa [rcells_length] at this
  by_cases h0 : j = 0
  · subst h0
    rw [rcells_cnt] at hv; rw [← hv]; exact h.cnt
  · by_cases h1 : j < 41
    · obtain ⟨p, rfl⟩ : ∃ p, j = 1 + p := ⟨j - 1, by omega⟩
      rw [rcells_at n A Pl E p (by omega)] at hv; rw [← hv]; exact h.at' p (by omega)
    · by_cases h2 : j < 81
      · obtain ⟨p, rfl⟩ : ∃ p, j = 41 + p := ⟨j - 41, by omega⟩
        rw [rcells_pl n A Pl E p (by omega)] at hv; rw [← hv]; exact h.pl p (by omega)
      · obtain ⟨u, z, rfl, hu, hz⟩ : ∃ u z, j = 81 + u * 40 + z ∧ u < 40 ∧ z < 40 := ⟨(j - 81) / 40, (j - 81) % 40, by omega, by omega, by omega⟩
        rw [rcells_ed n A Pl E u z hu hz] at hv; rw [← hv]; exact h.ed u hu z hz

theorem zero59 : (Try.prog.info? 59).map (fun i => (i.zero, i.size)) = some (some (.agg (rcells 0 none0 none0 noE).toArray), 1681) := by kernel_rfl

theorem built59 (n : Nat) : Try.prog.built 59 [(0, .int .i64 n)] = some (rcells n none0 none0 noE).toArray := by kernel_rfl

def zs59 : Array Value := (rcells 0 none0 none0 noE).toArray

theorem built62_fill (parts : List (Nat × Value)) : Try.prog.built 62 parts = Instr.fill (fun i => [(0, 1681)].toArray[i]?) zs59 parts := by kernel_rfl

theorem foldl_fill : ∀ (xs : List Value) (k : Nat) (cs : Array Value), k + xs.length = cs.size →
    ((xs.zipIdx k).foldl (fun cs (p : Value × Nat) => cs.setIfInBounds (0 + p.2) p.1) cs).toList = cs.toList.take k ++ xs
  | [], k, cs, h => by
    have h' : k = cs.toList.length := by simpa using h
    rw [h', List.take_length]
    simp
  | x :: xs, k, cs, h => by
    rw [List.length_cons] at h
    rw [List.zipIdx_cons, List.foldl_cons, foldl_fill xs (k + 1) _ (by simp; omega)]
    rw [Array.toList_setIfInBounds, Nat.zero_add, List.take_add_one, List.take_set_of_le (Nat.le_refl _), List.getElem?_set_self (by simp; omega)]
    simp

theorem built62 (cs : List Value) (h : cs.length = 1681) : Try.prog.built 62 [(0, .agg cs.toArray)] = some cs.toArray := by
  rw [built62_fill]
  have hz : zs59.size = 1681 := by simp [zs59, rcells_length]
  unfold Instr.fill
  have h0 : [(0, 1681)].toArray[0]? = some ((0, 1681) : Nat × Nat) := rfl
  simp only [h0]
  split
  · rename_i hb
    exfalso
    simp [Value.cells, h, hz] at hb
  · unfold Instr.fill
    congr 1
    apply Array.toList_inj.1
    have := foldl_fill cs 0 zs59 (by rw [hz, h])
    rw [List.take_zero, List.nil_append] at this
    show Array.toList (Array.foldl _ _ (cs.toArray.zipIdx)) = _
    rw [← Array.foldl_toList, Array.toList_zipIdx]
    exact this

theorem run_alloc59 (w : World) : (Instr.alloc 59 true (.tuple #[])).run Try.prog w = .ok (.pointer (some ⟨w.heap.size, 0, none⟩)) (w.alloc (.cells zs59 59)) := by
  have h := zero59
  rw [Option.map_eq_some_iff] at h
  obtain ⟨i, h1, h2⟩ := h
  simp only [Prod.mk.injEq] at h2
  have hz : (zeroValue 59).run Try.prog w = .ok (.agg zs59) w := by
    simp only [zeroValue, typeInfo, Sem.run_bind]
    simp [h1, h2.1, zs59]
  unfold Instr.alloc
  rw [Sem.run_bind, hz]
  simp [newVar, newRow, newObj, Value.cells]
  rfl

theorem wpList_alloc_at {ops : Array Oper} {rest : List Oper} {o : Oper} {a : Act} {w : World} {Q : Exit → Act → World → Prop} (hgd : o.guard = none) (t : TypeId) (ho : o.op = .alloc t) (Z : Array Value)
    (hz : (Instr.alloc t true (.tuple #[])).run Try.prog w = .ok (.pointer (some ⟨w.heap.size, 0, none⟩)) (w.alloc (.cells Z t))) (N : Nat) (hN : w.heap.size = N)
    (h : wpList Try.prog ops Q rest (a.put o.dst (.pointer (some ⟨N, 0, none⟩))) (w.alloc (.cells Z t))) : wpList Try.prog ops Q (o :: rest) a w := by
  subst hN
  exact wpList_alloc_any hgd t ho Z hz h

theorem wpList_build_any {ops : Array Oper} {rest : List Oper} {o : Oper} {a : Act} {w : World} {Q : Exit → Act → World → Prop} (hgd : o.guard = none) (t : TypeId) (x : Operand) (ho : o.op = .build t #[(0, x)]) (v : Value) (hx : a.eval x = v) (cs : Array Value)
    (hb : Try.prog.built t [(0, v)] = some cs)
    (h : wpList Try.prog ops Q rest (a.put o.dst (.agg cs)) w) : wpList Try.prog ops Q (o :: rest) a w :=
  wpList_plain hgd fun K hK => by
    have hr := run_build (P := Try.prog) w t #[(0, v)] cs hb
    unfold Oper.wp execOp
    simp only [ho, Sem.run_bind, Sem.run_pure, Result.andThen_ok, List.map_toArray, List.map_cons, List.map_nil, hx, hr]
    exact hK _ _ h

theorem info59s (l : List Value) (h : l.length = 1681) : (Try.prog.info? 59).map (·.size) = some l.toArray.size := by
  rw [List.size_toArray, h]; exact info59

theorem new_row (w : World) (cs : List Value) (t : TypeId) (hl : cs.length = 1681) : (w.alloc (.cells cs.toArray t)).rangeAt w.heap.size 0 cs ∧ ∀ o, o < 1681 → ((w.alloc (.cells cs.toArray t)).cell? ⟨w.heap.size, o, none⟩).isSome = true ∧ (w.alloc (.cells cs.toArray t)).frozen? ⟨w.heap.size, o, none⟩ = false := by
  have h1 : (w.alloc (.cells cs.toArray t)).heap[w.heap.size]? = some (.cells cs.toArray t) := by
    show (w.heap.push _)[w.heap.size]? = _
    simp
  refine ⟨fun j v hv => ?_, fun o ho => ⟨?_, ?_⟩⟩
  · simp only [World.cell?, h1]; simpa using hv
  · simp only [World.cell?, h1]; simp; omega
  · simp only [World.frozen?, h1]; simp

theorem new_there (w : World) (cs cs' : List Value) (t : TypeId) (hl : cs.length = 1681) (hl' : cs'.length = 1681) : (w.alloc (.cells cs.toArray t)).there w.heap.size 0 cs'.toArray.size := fun j hj => by
  rw [Nat.zero_add]
  rw [List.size_toArray, hl'] at hj
  exact (new_row w cs t hl).2 j hj

set_option maxRecDepth 100000 in
set_option maxHeartbeats 400000 in
theorem newRow_any (w : World) (n : Nat) (hn : n ≤ 40) :
    Calls Try.prog 16 #[.int .i64 n] w fun e w' => ∃ A Pl, e = .returned (.agg (rcells n A Pl noE).toArray) ∧ (∀ p, p < n → A p = p ∧ Pl p = p) ∧ Below w.heap.size w w' := by
  have hl := rcells_length n none0 none0 noE
  have hlz : (rcells 0 none0 none0 noE).length = 1681 := rcells_length _ _ _ _
  have hth : ((w.alloc (.cells zs59 59)).alloc (.cells zs59 59)).there (w.heap.size + 1) 0 (rcells n none0 none0 noE).toArray.size := by
    have hsz : (w.alloc (.cells zs59 59)).heap.size = w.heap.size + 1 := by simp
    have := new_there (w.alloc (.cells zs59 59)) (rcells 0 none0 none0 noE) (rcells n none0 none0 noE) 59 hlz hl
    rw [hsz] at this
    exact this
  have HP : Hid (∃ W, ((w.alloc (.cells zs59 59)).alloc (.cells zs59 59)).setCells (w.heap.size + 1) 0 (rcells n none0 none0 noE).toArray.toList = W ∧ RowAt W (w.heap.size + 1) n none0 none0 noE ∧ W.there w.heap.size 0 1681 ∧ Below w.heap.size w W ∧ W.heap.size = w.heap.size + 2) := by
    refine ⟨_, rfl, rowAt_of ?_ (fun o ho => ?_), fun j hj => ?_, below_setCells _ (by omega) _ _ _ (((Below.refl w.heap.size w).alloc (Nat.le_refl _) _).alloc (by simp) _), ?_⟩
    · exact World.rangeAt_setCells_same _ _ _ (rcells n none0 none0 noE) (by simpa using hth)
    · rw [World.frozen?_setCells]
      have := (hth o (by simpa [hl] using ho)).2
      rwa [Nat.zero_add] at this
    · have hn1 := (new_row w (rcells 0 none0 none0 noE) 59 hlz).2 j hj
      rw [World.frozen?_setCells, World.cell?_setCells_out _ _ _ _ _ (fun hb _ => by simp at hb)]
      rw [Nat.zero_add]
      obtain ⟨u, hu⟩ := Option.isSome_iff_exists.1 hn1.1
      exact ⟨by rw [World.cell?_alloc_lt _ _ _ (by simp)]; exact hn1.1, by rw [World.frozen?_alloc_past _ _ _ (by simp)]; exact hn1.2⟩
    · rw [heap_size_setCells]; simp
  go_enter Try.func16, Try.ntmps16
  go_upto_region 2 with (first
    | ((with_reducible show wpList _ _ _ (Oper.mk _ (Op.alloc _) _ _ _ _ :: _) _ w); refine wpList_alloc_at rfl 59 rfl zs59 (run_alloc59 _) w.heap.size rfl ?_)
    | ((with_reducible show wpList _ _ _ (Oper.mk _ (Op.alloc _) _ _ _ _ :: _) _ _); refine wpList_alloc_at rfl 59 rfl zs59 (run_alloc59 _) (w.heap.size + 1) (by simp) ?_)
    | ((with_reducible show wpList _ _ _ (Oper.mk _ (Op.build _ _) _ _ _ _ :: _) _ _); refine wpList_build_any rfl 59 (.tmp 5) rfl (.int .i64 n) rfl (rcells n none0 none0 noE).toArray (built59 n) ?_)
    | ((with_reducible show wpList _ _ _ (Oper.mk _ (Op.store _ _ _) _ _ _ _ :: _) _ _); refine wpList_store_mid rfl 59 (.tmp 3) (.tmp 6) rfl (w.heap.size + 1) 0 (rcells n none0 none0 noE).toArray rfl rfl hth (info59s _ hl) (all_oneCell_toArray (rcells_one _ _ _ _)) ?_))
  obtain ⟨W, hW, hR, hT, hB, hS⟩ := HP.out
  rw [hW]
  clear hW hth HP
  have HR : Hid (RowAt W (w.heap.size + 1) n none0 none0 noE) := hR
  have HT : Hid (W.there w.heap.size 0 1681) := hT
  clear hR hT
  go_wp2
  go_loopg [8] n (fun gg s wr => ∃ (k : Nat) (A Pl : Nat → Nat), k ≤ n ∧ n - k ≤ gg ∧ s = .int .i64 k ∧ Hid (RowAt wr (w.heap.size + 1) n A Pl noE) ∧ Hid (∀ p, p < k → A p = p ∧ Pl p = p) ∧ Hid (W.grownBy wr (some (w.heap.size + 1))))
  case atStart => exact ⟨0, none0, none0, by omega, by omega, rfl, HR, fun p hp => by omega, grown_refl _ _⟩
  case round =>
    obtain ⟨k, A, Pl, hk, hg, rfl, HR', HA, HG⟩ := hrel
    by_cases hlt : k < n
    · have kp := put_any k k HR'.out (by omega) (by omega)
      have HA2 : Hid (∀ p, p < k + 1 → Kp.upd A k k p = p ∧ Kp.upd Pl k k p = p) := fun p hp => by
        unfold Kp.upd
        by_cases e : p = k
        · simp [e]
        · rw [if_neg e, if_neg e]; exact HA.out p (by omega)
      go_wp2_with (go_at_call 27; fail)
      go_at_call 27
      refine kp.mono ?_
      rintro e w' ⟨rfl, h1, h2⟩
      have HR2 : Hid (RowAt w' (w.heap.size + 1) n (Kp.upd A k k) (Kp.upd Pl k k) noE) := h1
      have HG2 : Hid (W.grownBy w' (some (w.heap.size + 1))) := HG.out.trans h2
      clear kp h1 h2
      go_wp2
      go_roundg (n - (k + 1))
      case measure => omega
      case rel => exact ⟨k + 1, _, _, by omega, by omega, by go_num, HR2, HA2, HG2⟩
    · have hk' : k = n := by omega
      subst hk'
      have hlA := rcells_length k A Pl noE
      have hth2 : wr.there w.heap.size 0 (rcells k A Pl noE).toArray.size := fun j hj => by
        rw [List.size_toArray, hlA] at hj
        have := HT.out j hj
        have hbk := HG.out.block w.heap.size (by omega) (by simp)
        rw [Nat.zero_add] at this ⊢
        rw [World.cell?_of_block (w := W) (a := ⟨w.heap.size, j, none⟩) hbk, World.frozen?_of_block (w := W) (a := ⟨w.heap.size, j, none⟩) hbk]
        exact this
      have hi : (Try.prog.info? 59).map (·.size) = some (rcells k A Pl noE).length := by rw [hlA]; exact info59
      have hld : (loadVar 59 ⟨w.heap.size, 0, none⟩).run Try.prog (wr.setCells w.heap.size 0 (rcells k A Pl noE).toArray.toList) = .ok (.agg (rcells k A Pl noE).toArray) (wr.setCells w.heap.size 0 (rcells k A Pl noE).toArray.toList) :=
        run_loadVar_mid _ _ _ _ (rcells k A Pl noE) _ (by simpa using World.rangeAt_setCells_same wr w.heap.size 0 (rcells k A Pl noE) (by simpa using hth2)) Try.underlying59 rfl hi
      have hBl : Below w.heap.size w (wr.setCells w.heap.size 0 (rcells k A Pl noE).toArray.toList) := below_setCells _ (Nat.le_refl _) _ _ _ (hB.grown HG.out (by omega) (fun q hq => by cases hq; omega))
      go_upto_region 7 with fail
      go_wp2_with (first | ((with_reducible show wpList _ _ _ (Oper.mk _ (Op.load _ _) _ _ _ _ :: _) _ _); refine wpList_load_mid rfl 59 (.tmp 3) rfl (w.heap.size + 1) 0 rfl (rcells k A Pl noE) _ HR'.out.range Try.underlying59 rfl hi ?_) | ((with_reducible show wpList _ _ _ (Oper.mk _ (Op.store _ _ _) _ _ _ _ :: _) _ _); refine wpList_store_mid rfl 59 (.tmp 2) (.tmp 15) rfl w.heap.size 0 (rcells k A Pl noE).toArray rfl rfl hth2 (info59s _ hlA) (all_oneCell_toArray (rcells_one _ _ _ _)) ?_))
      refine bodyPost_ret (v := .agg (rcells k A Pl noE).toArray) ?_ rfl ⟨A, Pl, rfl, HA.out, hBl⟩
      rw [results_one rfl]
      simp [asAddr, Result.andThen, hld]

end Go.Proofs.Ytelmkfkgpnadnaa
