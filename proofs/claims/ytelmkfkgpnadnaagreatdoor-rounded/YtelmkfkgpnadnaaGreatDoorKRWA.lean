/-
  Numbers picked, a module's path, a version: the law's own small functions.
  A line of a manifest in other words: the law's own function.
  The law's own: two lists of modules that are the same, a module among some.
-/
import Derived.Test.YtelmkfkgpnadnaaGreatDoorKRDA
import Derived.Test.YtelmkfkgpnadnaaGreatDoorKCF
import Derived.Test.YtelmkfkgpnadnaaGreatDoorKCC
namespace Go.Proofs.YtelmkfkgpnadnaaGreatDoor
open Go.RowKit Go.Shelf Go.Lib
namespace Rn
open Mf

theorem wrapR (x : Int) (h : -9223372036854775808 ≤ x) (h' : x ≤ 9223372036854775807) : IntKind.i64.wrap x = x := by
  simp [IntKind.wrap, IntKind.bits, IntKind.signed]; omega

/-- A number picked. -/
def pk (c : Int) (n : Nat) : Nat := (if c < 0 then -(c + 1) else c).toNat % n

theorem pk_neg (c : Int) (n : Nat) (hc : c < 0) : -((c + 1).tmod (n : Int)) = (pk c n : Int) := by
  obtain ⟨m, hm⟩ : ∃ m : Nat, c + 1 = -(m : Int) := ⟨(-(c + 1)).toNat, by omega⟩
  unfold pk
  rw [if_pos hc, hm, Int.neg_tmod, Int.neg_neg, Int.neg_neg, Int.toNat_natCast]
  rfl

theorem pk_pos (c : Int) (n : Nat) (hc : 0 ≤ c) : c % (n : Int) = (pk c n : Int) := by
  obtain ⟨m, rfl⟩ : ∃ m : Nat, c = m := ⟨c.toNat, by omega⟩
  unfold pk
  rw [if_neg (by omega), Int.toNat_natCast]
  rfl

theorem pk_lt (c : Int) (n : Nat) (hn : 0 < n) : pk c n < n := Nat.mod_lt _ hn
theorem pk_small (m n : Nat) (h : m < n) : pk (m : Int) n = m := by
  unfold pk
  rw [if_neg (by omega), Int.toNat_natCast, Nat.mod_eq_of_lt h]

set_option maxHeartbeats 400000 in
theorem pick_any (c : Int) (n : Nat) (w : World) (hn : 0 < n) (h1 : -9223372036854775808 ≤ c) (h2 : c ≤ 9223372036854775807) :
    Calls Tryz.prog 15 #[.int .i64 c, .int .i64 n] w fun e w' => e = .returned (.int .i64 (pk c n)) ∧ w' = w := by
  have hn0 : ((n : Int) == 0) = false := by simp; omega
  have hnz : ¬ (n : Int) = 0 := by omega
  by_cases hc : c < 0
  · have e1 : IntKind.i64.wrap (c + 1) = c + 1 := wrapR _ (by omega) (by omega)
    have e2 : IntKind.i64.wrap (-(c + 1)) = -(c + 1) := wrapR _ (by omega) (by omega)
    have HP : Hid (-((c + 1).tmod (n : Int)) = (pk c n : Int)) := pk_neg c n hc
    go_enter Tryz.func15, Tryz.ntmps15
    go_wp2
    go_ret
    exact ⟨by rw [← HP.out]; rfl, rfl⟩
  · have HP : Hid (c % (n : Int) = (pk c n : Int)) := pk_pos c n (by omega)
    go_enter Tryz.func15, Tryz.ntmps15
    go_wp2
    go_ret
    exact ⟨by rw [← HP.out]; rfl, rfl⟩

theorem p_cast : ∀ m, m < 7 → ((UInt8.ofNat (48 + m)).toNat : Int) = 48 + (m : Int) := by decide

theorem conv_p (wr : World) (m : Nat) (hm : m < 7) : (convert 103 9 (Value.slice (some ⟨wr.heap.size, 0, none⟩) 1 1)).run Tryz.prog (wr.alloc (Obj.cells #[Value.int IntKind.u8 (48 + (m : Int))] 5)) = .ok (.string ⟨#[UInt8.ofNat (48 + m)]⟩) (wr.alloc (Obj.cells #[Value.int IntKind.u8 (48 + (m : Int))] 5)) := by
  refine run_convert_bytes_back (P := Tryz.prog) (wr.alloc (Obj.cells #[Value.int IntKind.u8 (48 + (m : Int))] 5)) 103 9 5 ⟨wr.heap.size, 0, none⟩ 1 [UInt8.ofNat (48 + m)] Tryz.underlying103 Tryz.underlying5 Tryz.underlying9 ?_
  intro j hj
  match j, hj with
  | 0, _ =>
    rw [← p_cast m hm]
    exact cell_one_new _ _ _ 0 _ rfl

set_option maxHeartbeats 400000 in
theorem path_any (c : Int) (w : World) (h1 : -9223372036854775808 ≤ c) (h2 : c ≤ 9223372036854775807) :
    Calls Tryz.prog 16 #[.int .i64 c] w fun e w' => e = .returned (.string (ba (pW (pk c 7)))) ∧ Below w.heap.size w w' := by
  have kp := fun W => pick_any c 7 W (by omega) h1 h2
  have hm := pk_lt c 7 (by omega)
  have hcw := fun W => conv_p W (pk c 7) hm
  have hw8 : IntKind.u8.wrap (48 + (pk c 7 : Int)) = 48 + (pk c 7 : Int) := by simp [IntKind.wrap, IntKind.bits, IntKind.signed]; omega
  have HE : Hid ((⟨#[109]⟩ : ByteArray) ++ ⟨#[UInt8.ofNat (48 + pk c 7)]⟩ = ba (pW (pk c 7))) := by
    show (⟨#[109]⟩ : ByteArray) ++ ⟨#[UInt8.ofNat (48 + pk c 7)]⟩ = ba (pW (pk c 7))
    apply ByteArray.ext
    rw [ByteArray.data_append]
    rfl
  have hs1 : (⟨#[UInt8.ofNat (48 + pk c 7)]⟩ : ByteArray).size = 1 := rfl
  generalize (⟨#[UInt8.ofNat (48 + pk c 7)]⟩ : ByteArray) = d at *
  generalize ba (pW (pk c 7)) = r at *
  generalize pk c 7 = m at *
  clear h1 h2
  go_enter Tryz.func16, Tryz.ntmps16
  go_wp2_with (first | (go_at_call 15; refine (kp _).mono ?_; rintro e w' ⟨rfl, rfl⟩))
  go_ret
  exact ⟨by rw [HE.out]; rfl, (Below.refl _ _).alloc (Nat.le_refl _) _⟩

set_option maxHeartbeats 400000 in
theorem version_any (c : Int) (w : World) (h1 : -9223372036854775808 ≤ c) (h2 : c ≤ 9223372036854775807) :
    Calls Tryz.prog 17 #[.int .i64 c] w fun e w' => e = .returned (.string (ba (vW (pk c 4)))) ∧ w' = w := by
  have kp := fun W => pick_any c 4 W (by omega) h1 h2
  have hm := pk_lt c 4 (by omega)
  rcases (by omega : pk c 4 = 0 ∨ pk c 4 = 1 ∨ pk c 4 = 2 ∨ pk c 4 = 3) with e | e | e | e <;> rw [e] at kp ⊢
  all_goals
    clear h1 h2 hm e
    go_enter Tryz.func17, Tryz.ntmps17
    go_wp2_with (first | (go_at_call 15; refine (kp _).mono ?_; rintro e w' ⟨rfl, rfl⟩))
    go_ret
    exact ⟨rfl, rfl⟩

end Rn
end Go.Proofs.YtelmkfkgpnadnaaGreatDoor

namespace Go.Proofs.YtelmkfkgpnadnaaGreatDoor
open Go.RowKit Go.Shelf Go.Lib
namespace Rn
open Mf

def bitsOf (c : Int) : Bits := ⟨Go.bits .and .i64 c 1 == 1, Go.bits .and .i64 c 2 == 2, Go.bits .and .i64 c 4 == 4, Go.bits .and .i64 c 8 == 8, Go.bits .and .i64 c 16 == 16⟩

def qPs (b : Bits) : List (List UInt8) → List (List UInt8 × List UInt8)
  | [] => []
  | w :: r => (gap b, w) :: r.map fun u => (32 :: gap b, u)
def pre0 (b : Bits) : List UInt8 := if b.b0 then [32, 9] else []

theorem join_q (b : Bits) {ws : List (List UInt8)} (h : ws ≠ []) : Rn.join (lxPs b ws) = pre0 b ++ Rn.join (qPs b ws) := by
  cases ws with
  | nil => exact absurd rfl h
  | cons w r => simp only [lxPs, qPs, Rn.join, lead, pre0, List.append_assoc]

theorem join_app : ∀ a b : List (List UInt8 × List UInt8), Rn.join (a ++ b) = Rn.join a ++ Rn.join b
  | [], b => rfl
  | (x, y) :: a, b => by simp only [List.cons_append, Rn.join, join_app a b, List.append_assoc]

theorem q_get (b : Bits) : ∀ (ws : List (List UInt8)) (i : Nat) (h : i < ws.length), (qPs b ws)[i]? = some (if i = 0 then gap b else 32 :: gap b, ws[i])
  | w :: r, 0, _ => rfl
  | w :: r, i + 1, h => by
    simp only [qPs, List.getElem?_cons_succ, List.getElem?_map]
    rw [List.getElem?_eq_getElem (by simpa using h)]
    simp

theorem q_len (b : Bits) : ∀ ws : List (List UInt8), (qPs b ws).length = ws.length
  | [] => rfl
  | w :: r => by simp [qPs]

theorem q_next (b : Bits) (ws : List (List UInt8)) (i : Nat) (h : i < ws.length) : Rn.join ((qPs b ws).take (i + 1)) = Rn.join ((qPs b ws).take i) ++ ((if i = 0 then gap b else 32 :: gap b) ++ ws[i]) := by
  rw [List.take_add_one, join_app, q_get b ws i h]
  simp [Rn.join]

theorem join_take_len (l : List (List UInt8 × List UInt8)) (i : Nat) : (Rn.join (l.take i)).length ≤ (Rn.join l).length := by
  have h : Rn.join l = Rn.join (l.take i) ++ Rn.join (l.drop i) := by rw [← join_app, List.take_append_drop]
  rw [h, List.length_append]
  omega

theorem appR (a b : ByteArray) : (a ++ b).data.toList = a.data.toList ++ b.data.toList := by
  rw [ByteArray.data_append]; simp

theorem q_bound (b : Bits) (ws : List (List UInt8)) (i : Nat) (hl : ws.length ≤ 5) (hb : bytesOf ws ≤ 60) : (pre0 b ++ Rn.join ((qPs b ws).take i)).length ≤ 200 := by
  have h1 : (pre0 b).length ≤ 2 := by unfold pre0; split <;> simp
  have h2 := join_take_len (qPs b ws) i
  have h3 := join_len (n := 3) (qPs b ws) (fun p hp => by
    have := gap_len b
    cases ws with
    | nil => simp [qPs] at hp
    | cons w r =>
      simp only [qPs, List.mem_cons, List.mem_map] at hp
      rcases hp with rfl | ⟨u, _, rfl⟩
      · simp; omega
      · simp; omega)
  rw [q_len] at h3
  have h4 : (qPs b ws).map (·.2) = ws := by
    cases ws with
    | nil => rfl
    | cons w r => simp [qPs, Function.comp_def]
  rw [h4] at h3
  rw [List.length_append]
  omega

theorem word_le {ws : List (List UInt8)} : ∀ (i : Nat) (h : i < ws.length), ws[i].length ≤ bytesOf ws := by
  induction ws with
  | nil => intro i h; simp at h
  | cons w r ih =>
    intro i h
    simp only [bytesOf, List.map_cons, List.sum_cons]
    cases i with
    | zero => simp
    | succ i => have := ih i (by simpa using h); simp only [bytesOf] at this; simp; omega

theorem sz_of {x : ByteArray} {l : List UInt8} (h : x.data.toList = l) : x.size = l.length := by rw [← h]; rfl

def tailOf (b : Bits) (w0 : List UInt8) : List UInt8 := (if b.b2 then [32] else []) ++ ((if b.b3 then 35 :: (bReqS ++ w0) else []) ++ (10 :: (if b.b4 then [10, 32, 10, 35, 120, 10] else [])))

theorem txt_lx (b : Bits) (ws : List (List UInt8)) : txt (lxOf b ws) = Rn.join (lxPs b ws) ++ tailOf b (ws.headD []) := by
  obtain ⟨b0, b1, b2, b3, b4⟩ := b
  unfold txt row tailOf
  cases b3 <;> simp [lxOf, tail35]

/-- What is written at a word. -/
def word (b : Bits) (i : Nat) (u : List UInt8) : List UInt8 := (if i = 0 then gap b else 32 :: gap b) ++ u

set_option maxRecDepth 100000 in
set_option maxHeartbeats 1000000 in
theorem line_any (c : Int) (ws : List (List UInt8)) (g cp : Nat) (w : World) (hne : ws ≠ []) (hlen : ws.length ≤ 5) (hby : bytesOf ws ≤ 60) (hcell : ∀ i (h : i < ws.length), w.cell? ⟨g, i, none⟩ = some (.string (ba ws[i]))) :
    Calls Tryz.prog 19 #[.slice (some ⟨g, 0, none⟩) ws.length cp, .int .i64 c] w fun e w' => (∃ s : ByteArray, e = .returned (.string s) ∧ s.data.toList = txt (lxOf (bitsOf c) ws)) ∧ w' = w := by
  have hpos : 0 < ws.length := List.length_pos_iff.2 hne
  obtain ⟨w0, hw0⟩ : ∃ w0, ws.headD [] = w0 ∧ ws[0]? = some w0 := by
    cases ws with
    | nil => exact absurd rfl hne
    | cons a r => exact ⟨a, rfl, rfl⟩
  have HF : Hid (txt (lxOf (bitsOf c) ws) = pre0 (bitsOf c) ++ Rn.join ((qPs (bitsOf c) ws).take ws.length) ++ tailOf (bitsOf c) w0) := by
    show txt (lxOf (bitsOf c) ws) = _
    rw [txt_lx, join_q _ hne, hw0.1, List.take_of_length_le (by rw [q_len]; exact Nat.le_refl _)]
  have HB : Hid (∀ i, (pre0 (bitsOf c) ++ Rn.join ((qPs (bitsOf c) ws).take i)).length ≤ 200) := fun i => q_bound _ ws i hlen hby
  have HR : Hid (∀ i, i < ws.length → ∃ u, w.cell? ⟨g, i, none⟩ = some (.string (ba u)) ∧ (ba u).size ≤ 60 ∧ Rn.join ((qPs (bitsOf c) ws).take (i + 1)) = Rn.join ((qPs (bitsOf c) ws).take i) ++ word (bitsOf c) i u) := fun i h => by
    have h1 := word_le i h
    exact ⟨ws[i], hcell i h, (by show (ws[i].toArray).size ≤ 60; simp; omega), q_next _ ws i h⟩
  have d0 : w.cell? ⟨g, 0, none⟩ = some (.string (ba w0)) := by
    rw [hcell 0 hpos]
    have := hw0.2
    rw [List.getElem?_eq_getElem hpos] at this
    rw [Option.some.inj this]
  have z0 : (ba w0).size ≤ 60 := by
    have h1 := word_le 0 hpos
    have := hw0.2
    rw [List.getElem?_eq_getElem hpos] at this
    rw [← Option.some.inj this]
    show (ws[0].toArray).size ≤ 60; simp; omega
  generalize txt (lxOf (bitsOf c) ws) = F at *
  have k0 : (Go.bits .and .i64 c 1 == 1) = (bitsOf c).b0 := rfl
  have k1 : (Go.bits .and .i64 c 2 == 2) = (bitsOf c).b1 := rfl
  have k2 : (Go.bits .and .i64 c 4 == 4) = (bitsOf c).b2 := rfl
  have k3 : (Go.bits .and .i64 c 8 == 8) = (bitsOf c).b3 := rfl
  have k4 : (Go.bits .and .i64 c 16 == 16) = (bitsOf c).b4 := rfl
  obtain ⟨J, hJ⟩ : ∃ J : Nat → List UInt8, ∀ i, Rn.join ((qPs (bitsOf c) ws).take i) = J i := ⟨_, fun _ => rfl⟩
  have J0 : Hid (J 0 = []) := by show J 0 = []; rw [← hJ 0]; rfl
  simp only [hJ] at HF HB HR
  clear hJ hcell hw0 hne hby
  generalize bitsOf c = b at *
  obtain ⟨b0, b1, b2, b3, b4⟩ := b
  simp only at k0 k1 k2 k3 k4
  generalize ws.length = K at *
  have hKI : (0 : Int) < (K : Int) := by omega
  have go : ∀ x : ByteArray, Hid (x.data.toList = pre0 ⟨b0, b1, b2, b3, b4⟩ ++ J K) → Hid (∀ y : ByteArray, y.data.toList = x.data.toList ++ tailOf ⟨b0, b1, b2, b3, b4⟩ w0 → y.data.toList = F) := fun x hx y hy => by
    rw [hy, hx.out, HF.out]
  have sz : ∀ (x : ByteArray) (i : Nat), Hid (x.data.toList = pre0 ⟨b0, b1, b2, b3, b4⟩ ++ J i) → x.size ≤ 200 := fun x i hx => by rw [sz_of hx.out]; exact HB.out i
  have st : ∀ (x u : ByteArray) (i : Nat) (v : List UInt8), Hid (x.data.toList = pre0 ⟨b0, b1, b2, b3, b4⟩ ++ J i) → Hid (J (i + 1) = J i ++ word ⟨b0, b1, b2, b3, b4⟩ i v) → u.data.toList = x.data.toList ++ word ⟨b0, b1, b2, b3, b4⟩ i v → Hid (u.data.toList = pre0 ⟨b0, b1, b2, b3, b4⟩ ++ J (i + 1)) := fun x u i v hx hj hu => by
    show u.data.toList = _
    rw [hu, hx.out, hj.out, List.append_assoc]
  have H0 : Hid ((pre0 ⟨b0, b1, b2, b3, b4⟩).toArray.toList = pre0 ⟨b0, b1, b2, b3, b4⟩ ++ J 0) := by
    show _ = _
    rw [J0.out]; simp
  clear HF HB J0
  go_enter Tryz.func19, Tryz.ntmps19
  cases b0
  all_goals
    have H1 := H0
    simp only [pre0, Bool.false_eq_true, if_false, if_true] at H1
    go_wp2
    go_loopg [5, 6] K (fun gg sv iv wr => ∃ (i : Nat) (x : ByteArray), sv = .string x ∧ iv = .int .i64 i ∧ i ≤ K ∧ K - i ≤ gg ∧ wr = w ∧ Hid (x.data.toList = pre0 ⟨_, b1, b2, b3, b4⟩ ++ J i))
    case atStart => exact ⟨0, _, rfl, rfl, by omega, by omega, rfl, H0⟩
    case round =>
      obtain ⟨i, x, rfl, rfl, hi, hgg, rfl, A⟩ := hrel
      have hsz := sz x i A
      by_cases hlt : i < K
      · have hltI : (i : Int) < (K : Int) := by omega
        obtain ⟨u, hu, hus, HU⟩ := HR.out i hlt
        have HJ : Hid (J (i + 1) = J i ++ word ⟨_, b1, b2, b3, b4⟩ i u) := HU
        clear HU
        by_cases hi0 : i = 0
        · subst hi0
          clear d0
          cases b1
          all_goals
            go_wp2
            go_roundg (K - 1)
            case measure => omega
            case rel => exact ⟨1, _, rfl, by go_num, by omega, by omega, rfl, st _ _ 0 u A HJ (by simp [word, gap, ba])⟩
        · have hi0I : (0 : Int) < (i : Int) := by omega
          cases b1
          all_goals
            go_wp2
            go_roundg (K - (i + 1))
            case measure => omega
            case rel => exact ⟨i + 1, _, rfl, by go_num, by omega, by omega, rfl, st _ _ i u A HJ (by simp [word, gap, ba, hi0])⟩
      · have hltI : ¬ (i : Int) < (K : Int) := by omega
        have hiK : i = K := by omega
        subst hiK
        have G := go x A
        cases b2 <;> cases b3 <;> cases b4
        all_goals
          go_wp2
          go_ret
          exact ⟨⟨_, rfl, G.out _ (by simp [tailOf, ba, bReqS])⟩, rfl⟩

end Rn
end Go.Proofs.YtelmkfkgpnadnaaGreatDoor

namespace Go.Proofs.YtelmkfkgpnadnaaGreatDoor
open Go.RowKit
namespace Rn
open Mf

set_option maxRecDepth 100000 in
set_option maxHeartbeats 1000000 in
theorem keepSame_any (u v : Value) (L : List Mo) (w : World) (hL : L.length ≤ 16777216) (h1 : Sm.Rd w u L) (h2 : Sm.Rd w v L) :
    Calls Tryz.prog 23 #[u, v] w fun e w' => e = .returned (.bool true) ∧ Below w.heap.size w w' := by
  obtain ⟨a1, c1, e1⟩ := rd_len h1
  obtain ⟨a2, c2, e2⟩ := rd_len h2
  subst e1; subst e2
  obtain ⟨m, hm⟩ : ∃ m, m = L.length := ⟨_, rfl⟩
  rw [← hm] at hL h1 h2 ⊢
  have D1 : Aside _ := h1
  have D2 : Aside _ := h2
  have LM : Hid (m = L.length) := hm
  clear hm h1 h2
  have qm : (((m : Nat) : Int) == (m : Int)) = true := by simp
  go_enter Tryz.func23, Tryz.ntmps23
  go_wp2
  go_loopg [5] m (fun gg s wr => ∃ i : Nat, i ≤ m ∧ m - i ≤ gg ∧ s = .int .i64 i ∧ Below w.heap.size w wr)
  case atStart => exact ⟨0, by omega, by omega, rfl, Below.refl _ _⟩
  case round =>
    obtain ⟨i, hi, hg, rfl, hbw⟩ := hrel
    by_cases hin : i < m
    · obtain ⟨b, o, c, eg, x0, x1⟩ := rd_mod D1.out hbw i (by have := LM.out; omega)
      injection eg with eg1 _ eg3
      subst eg1; subst eg3
      obtain ⟨b', o', c', eg, y0, y1⟩ := rd_mod D2.out hbw i (by have := LM.out; omega)
      injection eg with eg1 _ eg3
      subst eg1; subst eg3
      have hil : ((i : Nat) : Int) < (m : Int) := by omega
      generalize L[i]!.1 = x at x0 y0
      generalize L[i]!.2 = y at x1 y1
      have q1 : (x.toList == x.toList) = true := by simp
      have q2 : (y.toList == y.toList) = true := by simp
      go_upto_region 6 with fail
      go_region
      go_wp2
      go_roundg (m - (i + 1))
      case measure => omega
      case rel => exact ⟨i + 1, by omega, by omega, by go_num, hbw.drew⟩
    · have hil : (((i : Nat) : Int) < (m : Int)) = False := by simp; omega
      go_wp2
      go_ret
      exact ⟨rfl, hbw⟩

theorem str_ne {x y : ByteArray} (h : x ≠ y) : (x.toList == y.toList) = false := by
  rw [beq_eq_false_iff_ne]
  intro e
  apply h
  rw [Lib.toList_data, Lib.toList_data] at e
  exact ByteArray.ext (Array.toList_inj.1 e)

set_option maxRecDepth 100000 in
set_option maxHeartbeats 1000000 in
theorem has_any (v : Value) (L : List Mo) (m1 m2 : ByteArray) (w : World) (hL : L.length ≤ 16777216) (h1 : Sm.Rd w v L) (hm : (m1, m2) ∈ L) :
    Calls Tryz.prog 22 #[v, .agg #[.string m1, .string m2]] w fun e w' => e = .returned (.bool true) ∧ Below w.heap.size w w' := by
  obtain ⟨a1, c1, e1⟩ := rd_len h1
  subst e1
  obtain ⟨k0, hk0, ek0⟩ := List.getElem_of_mem hm
  have HK : Hid (∃ k, 0 ≤ k ∧ k < L.length ∧ L[k]! = (m1, m2)) := ⟨k0, Nat.zero_le _, hk0, by rw [getElem!_pos L k0 hk0]; exact ek0⟩
  obtain ⟨n, hn⟩ : ∃ n, n = L.length := ⟨_, rfl⟩
  rw [← hn] at hL h1 HK ⊢
  have D1 : Aside _ := h1
  have LM : Hid (n = L.length) := hn
  have HV : Hid (Below w.heap.size w (w.alloc (.cells #[.string m1, .string m2] 29)) ∧ (w.alloc (.cells #[.string m1, .string m2] 29)).heap[w.heap.size]? = some (.cells #[.string m1, .string m2] 29)) := ⟨(Below.refl _ _).alloc (Nat.le_refl _) _, heap_alloc_new _ _⟩
  clear hn h1 hm hk0 ek0
  go_enter Tryz.func22, Tryz.ntmps22
  go_wp2
  go_loopg [5] n (fun gg s wr => ∃ i : Nat, i ≤ n ∧ n - i ≤ gg ∧ s = .int .i64 i ∧ Hid (Below w.heap.size w wr ∧ wr.heap[w.heap.size]? = some (.cells #[.string m1, .string m2] 29)) ∧ Hid (∃ k, i ≤ k ∧ k < n ∧ L[k]! = (m1, m2)))
  case atStart => exact ⟨0, by omega, by omega, rfl, HV, HK⟩
  case round =>
    obtain ⟨i, hi, hg, rfl, HW, HI⟩ := hrel
    have hbw := HW.out.1
    have hin : i < n := by obtain ⟨k, h2, h3, _⟩ := HI.out; omega
    obtain ⟨b, o, c, eg, x0, x1⟩ := rd_mod D1.out hbw i (by have := LM.out; omega)
    injection eg with eg1 eg2 eg3
    clear eg2
    subst eg1; subst eg3
    have hil : ((i : Nat) : Int) < (n : Int) := by omega
    have b0 : wr.cell? ⟨w.heap.size, 0, none⟩ = some (.string m1) := by simp only [World.cell?, HW.out.2]; rfl
    have b1 : wr.cell? ⟨w.heap.size, 1, none⟩ = some (.string m2) := by simp only [World.cell?, HW.out.2]; rfl
    have HD : Hid (Below w.heap.size w wr.drew ∧ wr.drew.heap[w.heap.size]? = some (.cells #[.string m1, .string m2] 29)) := ⟨hbw.drew, HW.out.2⟩
    by_cases he : L[i]! = (m1, m2)
    · rw [he] at x0 x1
      have q1 : (m1.toList == m1.toList) = true := by simp
      have q2 : (m2.toList == m2.toList) = true := by simp
      clear he
      go_upto_region 4 with fail
      go_region
      go_wp2
      go_ret
      exact ⟨rfl, HD.out.1⟩
    · have HN : Hid (∃ k, i + 1 ≤ k ∧ k < n ∧ L[k]! = (m1, m2)) := by
        obtain ⟨k, h2, h3, h4⟩ := HI.out
        refine ⟨k, ?_, h3, h4⟩
        rcases Nat.lt_or_ge i k with h | h
        · exact h
        · exact absurd (by rw [show i = k by omega]; exact h4) he
      have HE : Hid (¬ (L[i]!.1 = m1 ∧ L[i]!.2 = m2)) := fun h => he (Prod.ext h.1 h.2)
      generalize L[i]!.1 = x at x0 HE
      generalize L[i]!.2 = y at x1 HE
      clear he
      by_cases hx : x = m1
      · have hy : (y.toList == m2.toList) = false := str_ne fun h => HE.out ⟨hx, h⟩
        subst hx
        have q1 : (x.toList == x.toList) = true := by simp
        go_upto_region 4 with fail
        go_region
        go_wp2
        go_roundg (n - (i + 1))
        case measure => omega
        case rel => exact ⟨i + 1, by omega, by omega, by go_num, HD, HN⟩
      · have hx1 := str_ne hx
        clear hx
        go_upto_region 4 with fail
        go_region
        go_wp2
        go_roundg (n - (i + 1))
        case measure => omega
        case rel => exact ⟨i + 1, by omega, by omega, by go_num, HD, HN⟩

end Rn
end Go.Proofs.YtelmkfkgpnadnaaGreatDoor
