/-
  The law's own: the requires out of raw numbers.
  The law's own: a list of lines, and a line more, unless one has its first three words.
-/
import Derived.Test.YtelmkfkgpnadnaaGreatDoorKRWA
import Derived.Test.YtelmkfkgpnadnaaGreatDoorKCE
import Derived.BigQuiet
import Derived.Test.YtelmkfkgpnadnaaGreatDoorKBB
namespace Go.Proofs.YtelmkfkgpnadnaaGreatDoor
open Go.RowKit
namespace Rn
open Mf

/-- A list of numbers, as it came in. -/
def RdI (w : World) (v : Value) (L : List Int) : Prop :=
  ∃ la cap, v = .slice la L.length cap ∧ ∀ i x, L[i]? = some x → (-9223372036854775808 ≤ x ∧ x ≤ 9223372036854775807) ∧ ∃ b o, la = some ⟨b, o, none⟩ ∧ b < w.heap.size ∧ w.cell? ⟨b, o + i, none⟩ = some (.int .i64 x)

def reqIt (c : Int) : It := ⟨0, pk c 28 / 4, pk c 28 % 4, 0⟩
def reqUpto (L : List Int) (i : Nat) : List It := (L.take i).foldl (fun a c => reqPut a (reqIt c)) []

theorem reqIt_ok (c : Int) : ItOk (reqIt c) ∧ (reqIt c).t = 0 := by
  have := pk_lt c 28 (by omega)
  exact ⟨⟨by show 0 < 3; omega, by show pk c 28 / 4 < 7; omega, by show pk c 28 % 4 < 4; omega, by show 0 < 4; omega⟩, rfl⟩

theorem reqUpto_next (L : List Int) (i : Nat) (x : Int) (h : L[i]? = some x) : reqUpto L (i + 1) = reqPut (reqUpto L i) (reqIt x) := by
  unfold reqUpto
  rw [List.take_add_one, h, List.foldl_append]
  rfl

theorem reqUpto_ok (L : List Int) : ∀ i, i ≤ L.length → ReqOk (reqUpto L i)
  | 0, _ => ⟨fun y hy => by simp [reqUpto] at hy, fun y hy => by simp [reqUpto] at hy, by simp [reqUpto]⟩
  | i + 1, h => by
    rw [reqUpto_next L i L[i] (List.getElem?_eq_getElem (by omega))]
    exact reqPut_ok (reqUpto_ok L i (by omega)) (reqIt_ok _).1 (reqIt_ok _).2

theorem p_beq (a b : Nat) (ha : a < 7) (hb : b < 7) : ((ba (pW a)).toList == (ba (pW b)).toList) = (a == b) := by
  by_cases e : a = b
  · subst e; simp
  · rw [str_ne (fun h => e (p_inj a b ha hb (ba_inj h)))]
    simp [e]

theorem path_nat (m : Nat) (hm : m < 28) (W : World) : Calls Tryz.prog 16 #[.int .i64 ((m : Int) / 4)] W fun e w' => e = .returned (.string (ba (pW (m / 4)))) ∧ Below W.heap.size W w' := by
  have e : (m : Int) / 4 = ((m / 4 : Nat) : Int) := by omega
  have h := path_any ((m / 4 : Nat) : Int) W (by omega) (by omega)
  rw [pk_small (m / 4) 7 (by omega)] at h
  rw [e]
  exact h

theorem version_nat (m : Nat) (W : World) : Calls Tryz.prog 17 #[.int .i64 ((m : Int) % 4)] W fun e w' => e = .returned (.string (ba (vW (m % 4)))) ∧ w' = W := by
  have e : (m : Int) % 4 = ((m % 4 : Nat) : Int) := by omega
  have h := version_any ((m % 4 : Nat) : Int) W (by omega) (by omega)
  rw [pk_small (m % 4) 4 (by omega)] at h
  rw [e]
  exact h

/-- Does one of the first k have this path? -/
def thereK (l : List It) (q k : Nat) : Bool := (l.take k).any fun y => y.k == q
theorem there_next (l : List It) (q k : Nat) (h : k < l.length) : thereK l q (k + 1) = (thereK l q k || (l[k].k == q)) := by
  unfold thereK
  rw [List.take_add_one, List.any_append, List.getElem?_eq_getElem h]
  simp

set_option maxRecDepth 100000 in
set_option maxHeartbeats 1000000 in
theorem requires_any (v : Value) (L : List Int) (w : World) (hL : L.length ≤ 9223372036854775807) (h : RdI w v L) :
    Calls Tryz.prog 14 #[v] w fun e w' => ∃ lv, e = .returned lv ∧ w'.ownsRow w.heap.size 29 2 lv (reqUpto L L.length).length (mcs ((reqUpto L L.length).map mR)) ∧ Below w.heap.size w w' := by
  obtain ⟨i2, hi1, hi2, hi3, hi4⟩ := info29
  have HI : Hid (Tryz.prog.info? 29 = some i2 ∧ i2.zero = some (.agg #[.string ⟨#[]⟩, .string ⟨#[]⟩]) ∧ i2.size = 2 ∧ i2.bytes = 32) := ⟨hi1, hi2, hi3, hi4⟩
  clear hi1 hi2 hi3 hi4
  obtain ⟨la, cap, rfl, hc⟩ := h
  have HC : Hid (∀ i, i < L.length → ∃ b o x, la = some ⟨b, o, none⟩ ∧ b < w.heap.size ∧ w.cell? ⟨b, o + i, none⟩ = some (.int .i64 x) ∧ -9223372036854775808 ≤ x ∧ x ≤ 9223372036854775807 ∧ reqUpto L (i + 1) = reqPut (reqUpto L i) (reqIt x) ∧ ReqOk (reqUpto L i)) := fun i hi => by
    obtain ⟨h1, b, o, e, h2, h3⟩ := hc i L[i] (List.getElem?_eq_getElem hi)
    exact ⟨b, o, L[i], e, h2, h3, h1.1, h1.2, reqUpto_next L i _ (List.getElem?_eq_getElem hi), reqUpto_ok L i (by omega)⟩
  clear hc
  obtain ⟨rq, hrq⟩ : ∃ rq : Nat → List It, ∀ i, reqUpto L i = rq i := ⟨_, fun _ => rfl⟩
  have HE : Hid (rq 0 = []) := by show rq 0 = []; rw [← hrq]; rfl
  simp only [hrq] at HC ⊢
  clear hrq
  generalize L.length = n at *
  go_enter Tryz.func14, Tryz.ntmps14
  go_wp2
  go_loopg [3, 4] n (fun gg lv iv wr => ∃ i : Nat, i ≤ n ∧ n - i ≤ gg ∧ iv = .int .i64 i ∧ Hid (wr.ownsRow w.heap.size 29 2 lv (rq i).length (mcs ((rq i).map mR)) ∧ Below w.heap.size w wr))
  case atStart => exact ⟨0, by omega, by omega, rfl, by rw [HE.out]; exact World.ownsRow_nil .., Below.refl _ _⟩
  case round =>
    obtain ⟨i, hi, hg, rfl, HS⟩ := hrel
    obtain ⟨ra, rc, rfl⟩ := own_slice' HS.out.1
    by_cases hlt : i < n
    · obtain ⟨b, o, x, rfl, hb, hcx, hx1, hx2, hN, hR⟩ := HC.out i hlt
      have hltI : (i : Int) < (n : Int) := by omega
      have hcell : wr.cell? ⟨b, o + i, none⟩ = some (.int .i64 x) := by rw [HS.out.2.cell (p := ⟨b, o + i, none⟩) hb]; exact hcx
      have kp := fun W => pick_any x 28 W (by omega) hx1 hx2
      have hm := pk_lt x 28 (by omega)
      have HN : Hid (rq (i + 1) = reqPut (rq i) (reqIt x) ∧ ReqOk (rq i)) := ⟨hN, hR⟩
      clear hN hR hx1 hx2
      have HM : Hid (reqIt x = ⟨0, pk x 28 / 4, pk x 28 % 4, 0⟩) := rfl
      generalize reqIt x = X at *
      generalize pk x 28 = m at *
      have k16 := fun W => path_nat m hm W
      have k17 := fun W => version_nat m W
      generalize rq i = acc at *
      have HK : Hid (acc.length ≤ 7) := HN.out.2.len
      obtain ⟨T, hT⟩ : ∃ T : Nat → Bool, ∀ k, thereK acc (m / 4) k = T k := ⟨_, fun _ => rfl⟩
      have HT0 : Hid (T 0 = false) := by show T 0 = false; rw [← hT]; rfl
      have HTn : Hid (∀ k, k < acc.length → ∃ e : Bool, T (k + 1) = (T k || e) ∧ ((acc.map mR)[k]!.1.toList == (ba (pW (m / 4))).toList) = e) := fun k hk => by
        refine ⟨acc[k].k == m / 4, by rw [← hT, ← hT]; exact there_next acc _ k hk, ?_⟩
        rw [getElem!_pos _ k (by simpa using hk), List.getElem_map]
        exact p_beq _ _ (HN.out.2.ok acc[k] (List.getElem_mem hk)).k (by omega)
      have HTe : Hid (rq (i + 1) = if T acc.length then acc else acc ++ [X]) := by
        show rq (i + 1) = _
        rw [HN.out.1, HM.out, ← hT]
        unfold reqPut thereK
        rw [List.take_length]
      have HMX : Hid (mR X = (ba (pW (m / 4)), ba (vW (m % 4)))) := by show mR X = _; rw [HM.out]; rfl
      clear hT
      generalize ba (pW (m / 4)) = p at *
      generalize ba (vW (m % 4)) = ve at *
      clear HM
      go_wp2_with (first | (go_at_call 15; refine (kp _).mono ?_; rintro e w' ⟨rfl, rfl⟩) | (go_at_call 16; refine (k16 _).mono ?_; rintro e w1 ⟨rfl, hb1⟩) | (go_at_call 17; refine (k17 _).mono ?_; rintro e w2 ⟨rfl, rfl⟩))
      have HA : Hid (Below w.heap.size w (w2.alloc (.cells #[.string p, .string ve] 29)) ∧ (w2.alloc (.cells #[.string p, .string ve] 29)).ownsRow w.heap.size 29 2 (.slice ra acc.length rc) acc.length (mcs (acc.map mR)) ∧ (w2.alloc (.cells #[.string p, .string ve] 29)).heap[w2.heap.size]? = some (.cells #[.string p, .string ve] 29) ∧ w2.heap.size < (w2.alloc (.cells #[.string p, .string ve] 29)).heap.size ∧ w.heap.size ≤ w2.heap.size) := by
        have h1 : Below w'.heap.size w' (w2.alloc (.cells #[.string p, .string ve] 29)) := hb1.alloc hb1.size _
        have h2 := HS.out.2.size
        exact ⟨HS.out.2.trans (h1.mono h2), own_below HS.out.1 h1, heap_alloc_new _ _, by simp, by have := hb1.size; omega⟩
      generalize w2.alloc (.cells #[.string p, .string ve] 29) = W1 at *
      generalize w2.heap.size = xb at *
      clear HS hb1 hcell hcx
      have HD : Hid (Sm.Rd W1 (.slice ra acc.length rc) (acc.map mR)) := by
        have e : (acc.map mR).length = acc.length := List.length_map _
        have h : W1.ownsRow w.heap.size 29 2 (.slice ra (acc.map mR).length rc) (acc.map mR).length (mcs (acc.map mR)) := by rw [e]; exact HA.out.2.1
        have := rd_of_mcs h
        rw [e] at this
        exact this
      have HX : Hid (∀ wr, Below W1.heap.size W1 wr → wr.cell? ⟨xb, 0, none⟩ = some (.string p) ∧ wr.cell? ⟨xb, 1, none⟩ = some (.string ve)) := fun wr h => by
        have h2 : wr.heap[xb]? = some (.cells #[.string p, .string ve] 29) := by rw [h.block xb HA.out.2.2.2.1]; exact HA.out.2.2.1
        simp [World.cell?, h2]
      generalize hK : acc.length = K at *
      have hK7 : K ≤ 7 := HK.out
      go_loopg [7, 8] K (fun gg tv kv wr => ∃ k : Nat, k ≤ K ∧ K - k ≤ gg ∧ tv = .bool (T k) ∧ kv = .int .i64 k ∧ Below W1.heap.size W1 wr)
      case atStart => exact ⟨0, by omega, by omega, by rw [HT0.out], rfl, Below.refl _ _⟩
      case round =>
        obtain ⟨k, hk, hgk, rfl, rfl, hbk⟩ := hrel
        obtain ⟨y0, y1⟩ := HX.out _ hbk
        by_cases hlk : k < K
        · obtain ⟨e, he1, he2⟩ := HTn.out k hlk
          have HE1 : Hid (T (k + 1) = (T k || e)) := he1
          obtain ⟨b3, o3, c3, eg, x0, x1⟩ := rd_mod HD.out hbk k (by rw [List.length_map, hK]; exact hlk)
          injection eg with eg1 eg2 eg3
          clear eg2 he1
          subst eg1; subst eg3
          have hlkI : (k : Int) < (K : Int) := by omega
          generalize (acc.map mR)[k]!.1 = s1 at *
          generalize (acc.map mR)[k]!.2 = s2 at *
          cases hTk : T k
          all_goals
            rw [hTk] at HE1
            cases e
            all_goals
              go_upto_region 11 with fail
              go_quiet (fail)
              generalize hW : World.drewN _ _ = W4
              have hb4 : Below W1.heap.size W1 W4 := by rw [← hW]; exact ⟨hbk.os, hbk.tape, hbk.output, hbk.size, hbk.block⟩
              clear hW
              go_wp2
              go_roundg (K - (k + 1))
              case measure => omega
              case rel => exact ⟨k + 1, by omega, by omega, by rw [HE1.out]; rfl, by go_num, hb4⟩
        · have hlkI : ((k : Int) < (K : Int)) = False := by simp; omega
          have hkK : k = K := by omega
          have HO : Hid (wr.ownsRow w.heap.size 29 2 (.slice ra K rc) K (mcs (acc.map mR)) ∧ Below w.heap.size w wr) := ⟨own_below HA.out.2.1 hbk, HA.out.1.trans (hbk.mono HA.out.1.size)⟩
          cases hTk : T k
          · have HZ : Hid (rq (i + 1) = acc ++ [X]) := by
              show rq (i + 1) = _
              rw [HTe.out, ← hkK, hTk]; rfl
            have HNW : Hid (∀ j u, [Value.string p, Value.string ve][j]? = some u → (wr.alloc (.cells #[.string p, .string ve] 29)).cell? ((⟨wr.heap.size, 0, none⟩ : Addr).add j) = some u) := cell_two_new wr 29 (.string p) (.string ve)
            clear hkK
            go_wp2_with (at_builtin; refine wpList_append_own_at _ rfl _ _ 23 rfl w.heap.size 29 i2 (.agg #[.string ⟨#[]⟩, .string ⟨#[]⟩]) 2 32 Tryz.underlying23 HI.out.1 HI.out.2.1 HI.out.2.2.1 HI.out.2.2.2 rfl (by decide) (.slice ra K rc) K (mcs (acc.map mR)) rfl (HO.out.1.alloc _) ⟨wr.heap.size, 0, none⟩ 1 1 [.string p, .string ve] rfl rfl HNW.out ?_ ?_ ?_ ?_ ?_)
            all_goals first
              | (show ∀ u ∈ [Value.string p, Value.string ve], u.oneCell' = true; intro u hu; simp at hu; rcases hu with rfl | rfl <;> rfl)
              | (show K + 1 ≤ maxLen; unfold maxLen; omega)
              | (show (K + 1) * 32 ≤ 140737488355328; omega)
              | (show w.heap.size ≤ (wr.alloc _).heap.size; have := HO.out.2.size; simp; omega)
              | (show w.heap.size ≤ wr.heap.size + 1; have := HO.out.2.size; omega)
              | skip
            intro lv' w3 hown' hgrow _ _
            have HF : Hid (w3.ownsRow w.heap.size 29 2 lv' (rq (i + 1)).length (mcs ((rq (i + 1)).map mR)) ∧ Below w.heap.size w w3) := by
              refine ⟨?_, (HO.out.2.alloc HO.out.2.size _).grown hgrow (by have := HO.out.2.size; simp; omega) (fun b e => (HO.out.1.lt b e).1)⟩
              rw [HZ.out, List.length_append, hK]
              have e2 : mcs ((acc ++ [X]).map mR) = mcs (acc.map mR) ++ [.string p, .string ve] := by simp [mcs, Sm.mc, HMX.out]
              rw [e2]
              exact hown'
            clear hown' hgrow
            go_wp2
            go_roundg (n - (i + 1))
            case measure => omega
            case rel => exact ⟨i + 1, by omega, by omega, by go_num, HF⟩
          · have HF : Hid (wr.ownsRow w.heap.size 29 2 (.slice ra K rc) (rq (i + 1)).length (mcs ((rq (i + 1)).map mR)) ∧ Below w.heap.size w wr) := by
              have e : rq (i + 1) = acc := by rw [HTe.out, ← hkK, hTk]; rfl
              show World.ownsRow _ _ _ _ _ _ _ ∧ _
              rw [e, hK]
              exact HO.out
            clear hkK
            go_wp2
            go_roundg (n - (i + 1))
            case measure => omega
            case rel => exact ⟨i + 1, by omega, by omega, by go_num, HF⟩
    · have hltI : ((i : Int) < (n : Int)) = False := by simp; omega
      have hin : i = n := by omega
      subst hin
      go_wp2
      go_ret
      exact ⟨_, rfl, HS.out.1, HS.out.2⟩

end Rn
end Go.Proofs.YtelmkfkgpnadnaaGreatDoor

namespace Go.Proofs.YtelmkfkgpnadnaaGreatDoor
open Go.RowKit
namespace Rn
open Mf
open Tx (wM wR wE wP wA)

variable {w w' : World}

/-- The words of a line in a block. -/
def WordsAt (w : World) (g : Nat) (ws : List (List UInt8)) : Prop := g < w.heap.size ∧ ∀ j (h : j < ws.length), w.cell? ⟨g, j, none⟩ = some (.string (ba ws[j]))

theorem WordsAt.turn {p : Nat → Prop} {g : Nat} {ws : List (List UInt8)} (h : WordsAt w g ws) (ht : Turn p w w') (hp : ¬ p g) : WordsAt w' g ws :=
  ⟨by have := ht.size; have := h.1; omega, fun j hj => by rw [ht.cell (a := ⟨g, j, none⟩) h.1 hp]; exact h.2 j hj⟩
theorem WordsAt.below {g : Nat} {ws : List (List UInt8)} (h : WordsAt w g ws) (hb : Below w.heap.size w w') : WordsAt w' g ws :=
  ⟨by have := hb.size; have := h.1; omega, fun j hj => by rw [hb.cell (p := ⟨g, j, none⟩) h.1]; exact h.2 j hj⟩

def lcell (g : Nat) (x : It) : Value := .slice (some ⟨g, 0, none⟩) (itW x).length (itW x).length
def lcells (gs : List Nat) (its : List It) : List Value := List.zipWith lcell gs its

/-- A list of lines, each in a block of its own. -/
structure Lns (w : World) (B : Nat) (v : Value) (gs : List Nat) (its : List It) : Prop where
  len : gs.length = its.length
  row : w.ownsRow B 33 1 v its.length (lcells gs its)
  ws : ∀ (i g : Nat) (x : It), gs[i]? = some g → its[i]? = some x → WordsAt w g (itW x) ∧ v.ownBlock ≠ some g

theorem Lns.below {B : Nat} {v : Value} {gs : List Nat} {its : List It} (h : Lns w B v gs its) (hb : Below w.heap.size w w') : Lns w' B v gs its :=
  ⟨h.len, own_below h.row hb, fun i g x h1 h2 => ⟨(h.ws i g x h1 h2).1.below hb, (h.ws i g x h1 h2).2⟩⟩

def hdW (t : Nat) : List UInt8 := if t = 0 then wR else if t = 1 then wE else wP
theorem hd_inj3 : ∀ a, a < 3 → ∀ b, b < 3 → hdW a = hdW b → a = b := by decide

theorem item3 (x : It) : 3 ≤ (itW x).length ∧ (itW x)[0]? = some (hdW x.t) ∧ (itW x)[1]? = some (pW x.k) ∧ (itW x)[2]? = some (vW x.v) := by
  unfold itW hdW
  split
  · exact ⟨by simp, rfl, rfl, rfl⟩
  · split
    · exact ⟨by simp, rfl, rfl, rfl⟩
    · exact ⟨by simp, rfl, rfl, rfl⟩

theorem three_cells {x : It} {g : Nat} (h : WordsAt w g (itW x)) : w.cell? ⟨g, 0, none⟩ = some (.string (ba (hdW x.t))) ∧ w.cell? ⟨g, 1, none⟩ = some (.string (ba (pW x.k))) ∧ w.cell? ⟨g, 2, none⟩ = some (.string (ba (vW x.v))) := by
  obtain ⟨h3, e0, e1, e2⟩ := item3 x
  have get : ∀ j u, (itW x)[j]? = some u → w.cell? ⟨g, j, none⟩ = some (.string (ba u)) := fun j u hj => by
    obtain ⟨hl, e⟩ := List.getElem?_eq_some_iff.1 hj
    rw [h.2 j hl, e]
  exact ⟨get 0 _ e0, get 1 _ e1, get 2 _ e2⟩

theorem h_beq (a b : Nat) (ha : a < 3) (hb : b < 3) : ((ba (hdW a)).toList == (ba (hdW b)).toList) = (a == b) := by
  by_cases e : a = b
  · subst e; simp
  · rw [str_ne (fun h => e (hd_inj3 a ha b hb (ba_inj h)))]; simp [e]
theorem v_beq (a b : Nat) (ha : a < 4) (hb : b < 4) : ((ba (vW a)).toList == (ba (vW b)).toList) = (a == b) := by
  by_cases e : a = b
  · subst e; simp
  · rw [str_ne (fun h => e (v_inj a b ha hb (ba_inj h)))]; simp [e]

def same3 (x y : It) : Bool := y.t == x.t && y.k == x.k && y.v == x.v
def anyK (l : List It) (x : It) (k : Nat) : Bool := (l.take k).any (same3 x)
theorem any_next (l : List It) (x : It) (k : Nat) (h : k < l.length) : anyK l x (k + 1) = (anyK l x k || same3 x l[k]) := by
  unfold anyK
  rw [List.take_add_one, List.any_append, List.getElem?_eq_getElem h]
  simp

theorem lcells_snoc {gs : List Nat} {its : List It} (h : gs.length = its.length) (g : Nat) (x : It) : lcells (gs ++ [g]) (its ++ [x]) = lcells gs its ++ [lcell g x] := by
  unfold lcells
  rw [List.zipWith_append h]
  rfl

set_option maxRecDepth 100000 in
set_option maxHeartbeats 1000000 in
theorem once_any (v : Value) (gs : List Nat) (its : List It) (x : It) (gx : Nat) (w : World) (B : Nat) (hB : B ≤ w.heap.size) (hl : its.length ≤ 30) (hok : ∀ y ∈ its, ItOk y) (hx : ItOk x) (h : Lns w B v gs its) (hgx : WordsAt w gx (itW x)) (hne : v.ownBlock ≠ some gx) :
    Calls Tryz.prog 18 #[v, lcell gx x] w fun e w' => ∃ v' gs', e = .returned v' ∧ Lns w' B v' gs' (Rn.once its x) ∧ Turn (fun b => v.ownBlock = some b) w w' ∧ (∀ b, v'.ownBlock = some b → v.ownBlock = some b ∨ w.heap.size ≤ b) := by
  obtain ⟨i3, hi1, hi2, hi3, hi4⟩ := Bm.infoOf 33 (.slice none 0 0) 1 24 (by kernel_rfl)
  have HI : Hid (Tryz.prog.info? 33 = some i3 ∧ i3.zero = some (.slice none 0 0) ∧ i3.size = 1 ∧ i3.bytes = 24) := ⟨hi1, hi2, hi3, hi4⟩
  clear hi1 hi2 hi3 hi4
  obtain ⟨la, lc, rfl⟩ := own_slice' h.row
  obtain ⟨T, hT⟩ : ∃ T : Nat → Bool, ∀ k, anyK its x k = T k := ⟨_, fun _ => rfl⟩
  have HT0 : Hid (T 0 = false) := by show T 0 = false; rw [← hT]; rfl
  have HF : Hid (∀ wr, Below w.heap.size w wr → ∀ i, i < its.length → ∃ g0 gi m s0 s1 s2, la = some ⟨g0, 0, none⟩ ∧ wr.cell? ⟨g0, i, none⟩ = some (.slice (some ⟨gi, 0, none⟩) m m) ∧ 3 ≤ m ∧ wr.cell? ⟨gi, 0, none⟩ = some (.string s0) ∧ wr.cell? ⟨gi, 1, none⟩ = some (.string s1) ∧ wr.cell? ⟨gi, 2, none⟩ = some (.string s2) ∧ T (i + 1) = (T i || ((s0.toList == (ba (hdW x.t)).toList) && (s1.toList == (ba (pW x.k)).toList) && (s2.toList == (ba (vW x.v)).toList)))) := fun wr hb i hi => by
    have h2 := h.below hb
    have hy := hok its[i] (List.getElem_mem hi)
    have hgi : i < gs.length := by rw [h.len]; exact hi
    obtain ⟨hw, _⟩ := h2.ws i gs[i] its[i] (List.getElem?_eq_getElem hgi) (List.getElem?_eq_getElem hi)
    obtain ⟨g0, c0, e⟩ := own_some h2.row (by omega)
    injection e with e1 e2 e3
    subst e1
    obtain ⟨c1, c2, c3⟩ := three_cells hw
    refine ⟨g0, gs[i], (itW its[i]).length, _, _, _, rfl, ?_, (item3 its[i]).1, c1, c2, c3, ?_⟩
    · rw [h2.row.cellAt i (by omega)]
      unfold lcells
      rw [List.getElem?_zipWith, List.getElem?_eq_getElem hgi, List.getElem?_eq_getElem hi]
      rfl
    · rw [← hT, ← hT, any_next its x i hi, h_beq _ _ hy.t hx.t, p_beq _ _ hy.k hx.k, v_beq _ _ hy.v hx.v]
      rfl
  have HX : Hid (∀ wr, Below w.heap.size w wr → wr.cell? ⟨gx, 0, none⟩ = some (.string (ba (hdW x.t))) ∧ wr.cell? ⟨gx, 1, none⟩ = some (.string (ba (pW x.k))) ∧ wr.cell? ⟨gx, 2, none⟩ = some (.string (ba (vW x.v)))) := fun wr hb => three_cells (hgx.below hb)
  have HO : Hid ((∀ i, i ≤ its.length → T i = true → Rn.once its x = its) ∧ (T its.length = false → Rn.once its x = its ++ [x])) := by
    refine ⟨fun i hi ht => ?_, fun ht => ?_⟩
    · rw [← hT] at ht
      unfold anyK at ht
      unfold Rn.once
      rw [if_pos]
      rw [List.any_eq_true] at ht ⊢
      obtain ⟨y, hy, e⟩ := ht
      exact ⟨y, List.mem_of_mem_take hy, e⟩
    · rw [← hT] at ht
      unfold anyK at ht
      rw [List.take_length] at ht
      unfold Rn.once
      rw [if_neg]
      show ¬ (its.any (same3 x)) = true
      rw [ht]; decide
  have HL : Hid (Lns w B (.slice la its.length lc) gs its ∧ WordsAt w gx (itW x) ∧ (Value.slice la its.length lc).ownBlock ≠ some gx) := ⟨h, hgx, hne⟩
  have hm3 : 3 ≤ (itW x).length := (item3 x).1
  have HE : Hid (lcell gx x = .slice (some ⟨gx, 0, none⟩) (itW x).length (itW x).length) := rfl
  clear hT h hgx hne
  rw [show lcell gx x = .slice (some ⟨gx, 0, none⟩) (itW x).length (itW x).length from rfl]
  generalize ba (hdW x.t) = x0 at *
  generalize ba (pW x.k) = x1 at *
  generalize ba (vW x.v) = x2 at *
  generalize hmx : (itW x).length = mx at *
  generalize hn : its.length = n at *
  have hxI : (0 : Int) < (mx : Int) := by omega
  have hxI1 : (1 : Int) < (mx : Int) := by omega
  have hxI2 : (2 : Int) < (mx : Int) := by omega
  go_enter Tryz.func18, Tryz.ntmps18
  go_wp2
  go_loopg [5] n (fun gg iv wr => ∃ i : Nat, i ≤ n ∧ n - i ≤ gg ∧ iv = .int .i64 i ∧ Below w.heap.size w wr ∧ Hid (T i = false))
  case atStart => exact ⟨0, by omega, by omega, rfl, Below.refl _ _, HT0⟩
  case round =>
    obtain ⟨i, hi, hg, rfl, hbi, HTi⟩ := hrel
    obtain ⟨y0, y1, y2⟩ := HX.out _ hbi
    by_cases hlt : i < n
    · obtain ⟨g0, gi, m, s0, s1, s2, rfl, z, hm, z0, z1, z2, HTn⟩ := HF.out _ hbi i hlt
      have HTN : Hid (T (i + 1) = (T i || ((s0.toList == x0.toList) && (s1.toList == x1.toList) && (s2.toList == x2.toList)))) := HTn
      clear HTn
      have hltI : (i : Int) < (n : Int) := by omega
      have hmI : (0 : Int) < (m : Int) := by omega
      have hmI1 : (1 : Int) < (m : Int) := by omega
      have hmI2 : (2 : Int) < (m : Int) := by omega
      cases h0 : (s0.toList == x0.toList)
      · have HTF : Hid (T (i + 1) = false) := by show T (i + 1) = false; rw [HTN.out, HTi.out, h0]; rfl
        go_upto_region 4 with fail
        go_quiet (fail)
        generalize hW : World.drewN _ _ = W4
        have hb4 : Below w.heap.size w W4 := by rw [← hW]; exact ⟨hbi.os, hbi.tape, hbi.output, hbi.size, hbi.block⟩
        clear hW
        go_wp2
        go_roundg (n - (i + 1))
        case measure => omega
        case rel => exact ⟨i + 1, by omega, by omega, by go_num, hb4, HTF⟩
      · cases h1 : (s1.toList == x1.toList)
        · have HTF : Hid (T (i + 1) = false) := by show T (i + 1) = false; rw [HTN.out, HTi.out, h0, h1]; rfl
          go_upto_region 4 with fail
          go_quiet (fail)
          generalize hW : World.drewN _ _ = W4
          have hb4 : Below w.heap.size w W4 := by rw [← hW]; exact ⟨hbi.os, hbi.tape, hbi.output, hbi.size, hbi.block⟩
          clear hW
          go_wp2
          go_roundg (n - (i + 1))
          case measure => omega
          case rel => exact ⟨i + 1, by omega, by omega, by go_num, hb4, HTF⟩
        · cases h2 : (s2.toList == x2.toList)
          · have HTF : Hid (T (i + 1) = false) := by show T (i + 1) = false; rw [HTN.out, HTi.out, h0, h1, h2]; rfl
            go_upto_region 4 with fail
            go_quiet (fail)
            generalize hW : World.drewN _ _ = W4
            have hb4 : Below w.heap.size w W4 := by rw [← hW]; exact ⟨hbi.os, hbi.tape, hbi.output, hbi.size, hbi.block⟩
            clear hW
            go_wp2
            go_roundg (n - (i + 1))
            case measure => omega
            case rel => exact ⟨i + 1, by omega, by omega, by go_num, hb4, HTF⟩
          · have HOe : Hid (Rn.once its x = its) := HO.out.1 (i + 1) (by omega) (by rw [HTN.out, HTi.out, h0, h1, h2]; rfl)
            go_upto_region 4 with fail
            go_quiet (fail)
            generalize hW : World.drewN _ _ = W4
            have hb4 : Below w.heap.size w W4 := by rw [← hW]; exact ⟨hbi.os, hbi.tape, hbi.output, hbi.size, hbi.block⟩
            clear hW
            go_wp2
            go_ret
            refine ⟨_, gs, rfl, ?_, Turn.of_below hb4, fun b e => Or.inl e⟩
            rw [HOe.out]
            exact HL.out.1.below hb4
    · have hltI : ((i : Int) < (n : Int)) = False := by simp; omega
      have hin : i = n := by omega
      have HOe : Hid (Rn.once its x = its ++ [x]) := HO.out.2 (by rw [← hin]; exact HTi.out)
      have HR : Hid (Lns wr B (.slice la n lc) gs its) := HL.out.1.below hbi
      have HRR : Hid (wr.ownsRow B 33 1 (.slice la n lc) n (lcells gs its)) := by have := HR.out.row; rw [hn] at this; exact this
      have HNW : Hid (∀ j u, [Value.slice (some ⟨gx, 0, none⟩) mx mx][j]? = some u → (wr.alloc (.cells #[.slice (some ⟨gx, 0, none⟩) mx mx] 33)).cell? ((⟨wr.heap.size, 0, none⟩ : Addr).add j) = some u) := cell_one_new _ _ _
      clear hin y0 y1 y2
      go_wp2_with (at_builtin; refine wpList_append_own_at _ rfl _ _ 32 rfl B 33 i3 (.slice none 0 0) 1 24 Tryz.underlying32 HI.out.1 HI.out.2.1 HI.out.2.2.1 HI.out.2.2.2 rfl (by decide) (.slice la n lc) n (lcells gs its) rfl (HRR.out.alloc _) ⟨wr.heap.size, 0, none⟩ 1 1 [.slice (some ⟨gx, 0, none⟩) mx mx] rfl rfl HNW.out ?_ ?_ ?_ ?_ ?_)
      all_goals first
        | (show ∀ u ∈ [Value.slice (some ⟨gx, 0, none⟩) mx mx], u.oneCell' = true; intro u hu; simp at hu; subst hu; rfl)
        | (show n + 1 ≤ maxLen; unfold maxLen; omega)
        | (show (n + 1) * 24 ≤ 140737488355328; omega)
        | (show B ≤ (wr.alloc _).heap.size; have := hbi.size; simp; omega)
        | (show B ≤ wr.heap.size + 1; have := hbi.size; omega)
        | skip
      intro lv' w3 hown' hgrow _ hloc
      have HF3 : Hid (Lns w3 B lv' (gs ++ [gx]) (its ++ [x]) ∧ Turn (fun b => (Value.slice la n lc).ownBlock = some b) w w3 ∧ (∀ b, lv'.ownBlock = some b → (Value.slice la n lc).ownBlock = some b ∨ w.heap.size ≤ b)) := by
        have ht : Turn (fun b => (Value.slice la n lc).ownBlock = some b) w w3 := ((Turn.of_below hbi).alloc _).grown hgrow (fun b _ e => e)
        have hloc2 : ∀ b, lv'.ownBlock = some b → (Value.slice la n lc).ownBlock = some b ∨ w.heap.size ≤ b := fun b e => by
          rcases hloc with e2 | e2
          · left; rw [← e2]; exact e
          · right
            rw [e] at e2
            have e3 := Option.some.inj e2
            have := hbi.size
            omega
        refine ⟨⟨by simp [HL.out.1.len], ?_, fun j g y h1 h2 => ?_⟩, ht, hloc2⟩
        · rw [lcells_snoc HL.out.1.len, List.length_append, hn]
          unfold lcell
          rw [hmx]
          exact hown'
        · have hold : ∀ g, g < w.heap.size → (Value.slice la n lc).ownBlock ≠ some g → lv'.ownBlock ≠ some g := fun g hg hne e => by
            rcases hloc2 g e with e2 | e2
            · exact hne e2
            · omega
          by_cases hj : j < its.length
          · rw [List.getElem?_append_left (by rw [HL.out.1.len]; exact hj)] at h1
            rw [List.getElem?_append_left hj] at h2
            obtain ⟨hw, hne⟩ := HL.out.1.ws j g y h1 h2
            exact ⟨hw.turn ht hne, hold g hw.1 hne⟩
          · rw [List.getElem?_append_right (by rw [HL.out.1.len]; omega)] at h1
            rw [List.getElem?_append_right (by omega)] at h2
            rw [HL.out.1.len] at h1
            obtain ⟨hj1, e1⟩ := List.getElem?_eq_some_iff.1 h1
            obtain ⟨hj2, e2⟩ := List.getElem?_eq_some_iff.1 h2
            have hj0 : j - its.length = 0 := by simp at hj1; omega
            have e1' : gx = g := by simpa [hj0] using e1
            have e2' : x = y := by simpa [hj0] using e2
            rw [← e1', ← e2']
            exact ⟨HL.out.2.1.turn ht HL.out.2.2, hold gx HL.out.2.1.1 HL.out.2.2⟩
      clear hown' hgrow hloc
      go_wp2
      go_ret
      refine ⟨_, gs ++ [gx], rfl, ?_, HF3.out.2.1, HF3.out.2.2⟩
      rw [HOe.out]
      exact HF3.out.1

end Rn
end Go.Proofs.YtelmkfkgpnadnaaGreatDoor
