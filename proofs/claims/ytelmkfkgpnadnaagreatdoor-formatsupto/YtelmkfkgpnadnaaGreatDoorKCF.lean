/-
  The document's Format: plain facts.
  The document's Format: the lists.
  The law's sameness of lists of modules, of replacements, of manifests.
-/
import Derived.Test.YtelmkfkgpnadnaaGreatDoorKCE
import Derived.Test.YtelmkfkgpnadnaaGreatDoorKCC
namespace Go.Proofs.YtelmkfkgpnadnaaGreatDoor
open Go.RowKit

theorem ins_take {α : Type} [Inhabited α] (lt : α → α → Bool) (L : List α) (i : Nat) (hi : i < L.length) : Ss.ins lt L[i]! (Ss.insAll lt (L.take i)) = Ss.insAll lt (L.take (i + 1)) := by
  rw [List.take_add_one, List.getElem?_eq_getElem hi, getElem!_pos L i hi]
  show _ = Ss.insAll lt (L.take i ++ [L[i]])
  rw [Ss.insAll_snoc]

theorem ins_take_len {α : Type} (lt : α → α → Bool) (L : List α) (i : Nat) (hi : i ≤ L.length) : (Ss.insAll lt (L.take i)).length = i := by
  rw [Ss.insAll_len, List.length_take]; omega

/-- What an own row turns, it turns behind the base. -/
theorem turn_below {w W : World} {B e s n : Nat} {v : Value} {xs : List Value} (h : w.ownsRow B e s v n xs) (ht : Turn (fun b => v.ownBlock = some b) w W) (hB : B ≤ w.heap.size) : Below B w W :=
  ⟨ht.os, ht.tape, ht.output, ht.size, fun k hk => ht.block k (Nat.lt_of_lt_of_le hk hB) (fun e => by have := (h.lt k e).1; omega)⟩

theorem own_nil (w : World) (B e s : Nat) : w.ownsRow B e s (.slice none 0 0) 0 [] := ⟨by simp, Or.inl ⟨rfl, rfl⟩⟩

theorem rd_mod {w W : World} {v : Value} {L : List Mo} (h : Sm.Rd w v L) (hb : Below w.heap.size w W) (i : Nat) (hi : i < L.length) : ∃ b off c, v = .slice (some ⟨b, off, none⟩) L.length c ∧ W.cell? ⟨b, off + i * 2, none⟩ = some (.string L[i]!.1) ∧ W.cell? ⟨b, off + i * 2 + 1, none⟩ = some (.string L[i]!.2) := by
  rcases h.below hb with ⟨_, h⟩ | ⟨b, off, c, h, hc⟩
  · rw [h] at hi; simp at hi
  · obtain ⟨h1, h2⟩ := mc_at L i hi
    exact ⟨b, off, c, h, hc _ _ h1, by rw [Nat.add_assoc]; exact hc _ _ h2⟩

theorem rd_swp {w W : World} {v : Value} {L : List So} (h : Sw.Rd w v L) (hb : Below w.heap.size w W) (i : Nat) (hi : i < L.length) : ∃ b off c, v = .slice (some ⟨b, off, none⟩) L.length c ∧ W.cell? ⟨b, off + i * 3, none⟩ = some (.string L[i]!.1) ∧ W.cell? ⟨b, off + i * 3 + 1, none⟩ = some (.string L[i]!.2.1) ∧ W.cell? ⟨b, off + i * 3 + 2, none⟩ = some (.string L[i]!.2.2) := by
  rcases h.below hb with ⟨_, h⟩ | ⟨b, off, c, h, hc⟩
  · rw [h] at hi; simp at hi
  · obtain ⟨h1, h2, h3⟩ := sc_at L i hi
    exact ⟨b, off, c, h, hc _ _ h1, by rw [Nat.add_assoc]; exact hc _ _ h2, by rw [Nat.add_assoc]; exact hc _ _ h3⟩

theorem rd_len {w : World} {v : Value} {L : List Mo} (h : Sm.Rd w v L) : ∃ a c, v = .slice a L.length c := by
  rcases h with ⟨h, h0⟩ | ⟨b, off, c, h, _⟩
  · exact ⟨none, 0, by rw [h, h0]; rfl⟩
  · exact ⟨_, _, h⟩
theorem rd_len_s {w : World} {v : Value} {L : List So} (h : Sw.Rd w v L) : ∃ a c, v = .slice a L.length c := by
  rcases h with ⟨h, h0⟩ | ⟨b, off, c, h, _⟩
  · exact ⟨none, 0, by rw [h, h0]; rfl⟩
  · exact ⟨_, _, h⟩

theorem line2 (a b : ByteArray) : lineOf [a, b] = a.data.toList ++ [32] ++ b.data.toList ++ [10] := by
  simp [lineOf, Lib.join, List.intercalate]
theorem line3 (a b c : ByteArray) : lineOf [a, b, c] = a.data.toList ++ [32] ++ b.data.toList ++ [32] ++ c.data.toList ++ [10] := by
  simp [lineOf, Lib.join, List.intercalate]
theorem line5 (a b c d e : ByteArray) : lineOf [a, b, c, d, e] = a.data.toList ++ [32] ++ b.data.toList ++ [32] ++ c.data.toList ++ [32] ++ d.data.toList ++ [32] ++ e.data.toList ++ [10] := by
  simp [lineOf, Lib.join, List.intercalate]

theorem len_mod (p : ByteArray) : (lineOf [wModule, p]).length = 8 + p.size := by
  rw [line2, Lib.size_eq p]
  simp only [List.length_append]
  show 6 + 1 + _ + 1 = _
  omega
theorem len_req (x : Mo) : (reqLine x).length = 10 + x.1.size + x.2.size := by
  unfold reqLine
  rw [line3, Lib.size_eq x.1, Lib.size_eq x.2]
  simp only [List.length_append]
  show 7 + 1 + _ + 1 + _ + 1 = _
  omega
theorem len_exc (x : Mo) : (excLine x).length = 10 + x.1.size + x.2.size := by
  unfold excLine
  rw [line3, Lib.size_eq x.1, Lib.size_eq x.2]
  simp only [List.length_append]
  show 7 + 1 + _ + 1 + _ + 1 = _
  omega
theorem len_rep (x : So) : (repLine x).length = 14 + x.1.size + x.2.1.size + x.2.2.size := by
  unfold repLine
  rw [line5, Lib.size_eq x.1, Lib.size_eq x.2.1, Lib.size_eq x.2.2]
  simp only [List.length_append]
  show 7 + 1 + _ + 1 + _ + 1 + 2 + 1 + _ + 1 = _
  omega

theorem text_mod (p : ByteArray) : ((⟨#[109, 111, 100, 117, 108, 101, 32]⟩ : ByteArray) ++ p ++ ⟨#[10]⟩).data.toList = lineOf [wModule, p] := by
  rw [line2]; simp [wModule]
theorem text_req (t a b : ByteArray) : (t ++ ⟨#[114, 101, 113, 117, 105, 114, 101, 32]⟩ ++ a ++ ⟨#[32]⟩ ++ b ++ ⟨#[10]⟩).data.toList = t.data.toList ++ reqLine (a, b) := by
  unfold reqLine
  rw [line3]; simp [wRequire]
theorem text_exc (t a b : ByteArray) : (t ++ ⟨#[101, 120, 99, 108, 117, 100, 101, 32]⟩ ++ a ++ ⟨#[32]⟩ ++ b ++ ⟨#[10]⟩).data.toList = t.data.toList ++ excLine (a, b) := by
  unfold excLine
  rw [line3]; simp [wExclude]
theorem text_rep (t a b c : ByteArray) : (t ++ ⟨#[114, 101, 112, 108, 97, 99, 101, 32]⟩ ++ a ++ ⟨#[32]⟩ ++ b ++ ⟨#[32, 61, 62, 32]⟩ ++ c ++ ⟨#[10]⟩).data.toList = t.data.toList ++ repLine (a, b, c) := by
  unfold repLine
  rw [line5]; simp [wReplace, wArrow]

theorem Ahead.on {Wb W : World} {B B' e s n : Nat} {v : Value} {xs : List Value} (h : Ahead Wb B e s v n xs) (hb : Below B Wb W) (hB : B ≤ B') : Ahead W B' e s v n xs :=
  ⟨own_of_block h.o (fun k hk => hb.block k (h.lt k hk)), fun g hg => Nat.lt_of_lt_of_le (h.lt g hg) hB⟩

theorem ahead_own {W : World} {B e s n : Nat} {v : Value} {xs : List Value} (h : W.ownsRow B e s v n xs) : Ahead W W.heap.size e s v n xs :=
  ⟨own_down h (Nat.zero_le _), fun g hg => (h.lt g hg).2⟩

end Go.Proofs.YtelmkfkgpnadnaaGreatDoor

namespace Go.Proofs.YtelmkfkgpnadnaaGreatDoor
open Go.RowKit

set_option maxRecDepth 100000 in
set_option maxHeartbeats 4000000 in
theorem refFormat_any (p : ByteArray) (rv xv sv : Value) (R X : List Mo) (S : List So) (w : World) (hR : R.length ≤ 16777216) (hX : X.length ≤ 16777216) (hS : S.length ≤ 16777216) (hr : Sm.Rd w rv R) (hx : Sm.Rd w xv X) (hs : Sw.Rd w sv S)
    (hlen : (fmtOf p (reqs R) (excs X) (reps S)).length ≤ 140737488355328) :
    Calls Tryz.prog 48 #[.agg #[.string p, rv, xv, sv]] w fun e w' => e = .returned (.string ⟨(fmtOf p (reqs R) (excs X) (reps S)).toArray⟩) ∧ Below w.heap.size w w' := by
  obtain ⟨ra, rc, er⟩ := rd_len hr
  obtain ⟨xa, xc, ex⟩ := rd_len hx
  obtain ⟨sa, sc, es⟩ := rd_len_s hs
  subst er; subst ex; subst es
  obtain ⟨nR, hnR⟩ : ∃ n, n = R.length := ⟨_, rfl⟩
  obtain ⟨nX, hnX⟩ : ∃ n, n = X.length := ⟨_, rfl⟩
  obtain ⟨nS, hnS⟩ : ∃ n, n = S.length := ⟨_, rfl⟩
  rw [← hnR] at hR hr ⊢
  rw [← hnX] at hX hx ⊢
  rw [← hnS] at hS hs ⊢
  have LR : Hid (nR = R.length) := hnR
  have LX : Hid (nX = X.length) := hnX
  have LS : Hid (nS = S.length) := hnS
  have DR : Aside _ := hr
  have DX : Aside _ := hx
  have DS : Aside _ := hs
  clear hnR hnX hnS hr hx hs
  obtain ⟨F, hF⟩ : ∃ F, F = fmtOf p (reqs R) (excs X) (reps S) := ⟨_, rfl⟩
  have HE : Hid (lineOf [wModule, p] ++ (reqs R).flatMap reqLine ++ (excs X).flatMap excLine ++ (reps S).flatMap repLine = F) := hF.symm
  have HL : Hid (F.length ≤ 140737488355328) := by rw [hF]; exact hlen
  obtain ⟨P0, P1, P2⟩ := fmt_parts p (reqs R) (excs X) (reps S) _ hlen
  have hp : p.size ≤ 140737488355328 := by
    rw [len_mod] at P0
    omega
  have N1 : Hid ((lineOf [wModule, p] ++ (reqs R).flatMap reqLine).length ≤ 140737488355328) := P1
  have N2 : Hid ((lineOf [wModule, p] ++ (reqs R).flatMap reqLine ++ (excs X).flatMap excLine).length ≤ 140737488355328) := P2
  rw [← hF]
  clear hF hlen P0 P1 P2
  have a1 : ¬ 9223372036854775807 < 7 + p.size := by omega
  have a2 : ¬ 9223372036854775807 < 7 + p.size + 1 := by omega
  have HB0 : Hid (Below w.heap.size w (w.alloc (.cells #[.string p, .slice ra nR rc, .slice xa nX xc, .slice sa nS sc] 26))) := (Below.refl _ _).alloc (Nat.le_refl _) _
  have V0 : Hid (ValsAt (w.alloc (.cells #[.string p, .slice ra nR rc, .slice xa nX xc, .slice sa nS sc] 26)) w.heap.size 4 (fun f => if f = 0 then .string p else if f = 1 then .slice ra nR rc else if f = 2 then .slice xa nX xc else .slice sa nS sc)) := vals4 w _ _ _ _ 26
  have HZ0 : Hid ((w.alloc (.cells #[.string p, .slice ra nR rc, .slice xa nX xc, .slice sa nS sc] 26)).heap.size = w.heap.size + 1) := by show _ = _; simp
  have T0 : Hid (((⟨#[109, 111, 100, 117, 108, 101, 32]⟩ : ByteArray) ++ p ++ ⟨#[10]⟩).data.toList = lineOf [wModule, p]) := by
    exact text_mod p
  go_enter Tryz.func48, Tryz.ntmps48
  go_wp2
  generalize (⟨#[109, 111, 100, 117, 108, 101, 32]⟩ : ByteArray) ++ p ++ ⟨#[10]⟩ = t0 at *
  generalize w.alloc (.cells #[.string p, .slice ra nR rc, .slice xa nX xc, .slice sa nS sc] 26) = W0 at *
  have BX : Hid (∀ W, Below (w.heap.size + 1) W0 W → (W.cell? ⟨w.heap.size, 0, none⟩ = some (.string p) ∧ W.cell? ⟨w.heap.size, 1, none⟩ = some (.slice ra nR rc) ∧ W.cell? ⟨w.heap.size, 2, none⟩ = some (.slice xa nX xc) ∧ W.cell? ⟨w.heap.size, 3, none⟩ = some (.slice sa nS sc))) := fun W hb => by
    have v := V0.out.of_block (hb.block _ (Nat.lt_succ_self _))
    exact ⟨v.at' 0 (by omega), v.at' 1 (by omega), v.at' 2 (by omega), v.at' 3 (by omega)⟩
  have BW : Hid (∀ W, Below (w.heap.size + 1) W0 W → Below w.heap.size w W) := fun W hb => HB0.out.trans (hb.mono (by omega))
  have S0 : Aside (Below (w.heap.size + 1) W0 W0 ∧ W0.ownsRow (w.heap.size + 1) 29 2 (.slice none 0 0) 0 (mcs (Ss.insAll (fun a b => aheadB a b false) (R.take 0)))) := ⟨Below.refl _ _, own_nil _ _ _ _⟩
  clear V0 HB0 a1 a2 hp
  go_loopg [4, 7] nR (fun kx s4 s7 wr => ∃ (i c : Nat) (a : Option Addr), s4 = .slice a i c ∧ s7 = .int .i64 i ∧ i ≤ nR ∧ nR - i ≤ kx ∧ Aside (Below (w.heap.size + 1) W0 wr ∧ wr.ownsRow (w.heap.size + 1) 29 2 (.slice a i c) i (mcs (Ss.insAll (fun a b => aheadB a b false) (R.take i)))))
  case atStart => exact ⟨0, 0, none, rfl, rfl, by omega, by omega, S0⟩
  case round =>
    clear S0
    obtain ⟨i, c, a, rfl, rfl, hi, hkx, Z⟩ := hrel
    obtain ⟨z0, z1, z2, z3⟩ := BX.out wr Z.out.1
    by_cases hlt : i < nR
    · have hltI : (i : Int) < (nR : Int) := by omega
      obtain ⟨b, off, rc', eg, x0, x1⟩ := rd_mod DR.out (BW.out wr Z.out.1) i (by have := LR.out; omega)
      injection eg with eg1 eg2 eg3
      subst eg1; subst eg3
      have KP : Aside (Calls Tryz.prog 79 #[.slice a i c, .agg #[.string R[i]!.1, .string R[i]!.2], .bool false] wr fun e w' => ∃ a' c', e = .returned (.slice a' (i + 1) c') ∧ (Below (w.heap.size + 1) W0 w' ∧ w'.ownsRow (w.heap.size + 1) 29 2 (.slice a' (i + 1) c') (i + 1) (mcs (Ss.insAll (fun a b => aheadB a b false) (R.take (i + 1)))))) := by
        have hl := ins_take_len (fun a b => aheadB a b false) R i (by have := LR.out; omega)
        have hB : w.heap.size + 1 ≤ wr.heap.size := by have := Z.out.1.size; have := HZ0.out; omega
        have k := put_all R[i]!.1 R[i]!.2 false (.slice a i c) (Ss.insAll (fun a b => aheadB a b false) (R.take i)) wr (w.heap.size + 1) hB (by rw [hl]; exact Z.out.2) (by rw [hl]; omega)
        rw [hl] at k
        refine k.mono ?_
        rintro e w' ⟨g, c', rfl, ho, ht, _⟩
        rw [ins_take (fun a b => aheadB a b false) R i (by have := LR.out; omega)] at ho
        exact ⟨_, _, rfl, Z.out.1.trans (turn_below Z.out.2 ht hB), ho⟩
      generalize R[i]!.1 = y0 at x0 KP
      generalize R[i]!.2 = y1 at x1 KP
      clear Z eg2
      go_wp2_with (go_at_call 79; fail)
      go_at_call 79
      refine Calls.mono KP.out ?_
      rintro e w2 ⟨a', c', rfl, Z2⟩
      have ZB : Aside _ := Z2
      clear Z2 KP x0 x1 z0 z1 z2 z3
      go_wp2
      go_roundg (nR - (i + 1))
      case measure => omega
      case rel => exact ⟨i + 1, c', a', by rfl, by go_num, by omega, Nat.le_refl _, ZB⟩
    · have hltI : ¬ ((i : Int) < (nR : Int)) := by omega
      obtain rfl : i = nR := by omega
      have A1 : Aside (Ahead wr wr.heap.size 29 2 (.slice a i c) i (mcs (reqs R))) := by
        have h := ahead_own Z.out.2
        have e1 : R.take i = R := List.take_of_length_le (by have := LR.out; omega)
        rw [e1] at h
        exact h
      have Z1 : Aside (Below (w.heap.size + 1) W0 wr) := Z.out.1
      have HZ1 : Hid (w.heap.size + 1 ≤ wr.heap.size) := by have := Z.out.1.size; have := HZ0.out; show _ ≤ _; omega
      clear Z DR HZ0 hkx hi hlt
      go_wp2
      clear hltI z0 z1 z2 z3
      generalize hW1 : wr = W1 at *
      clear hW1
      have S0 : Aside (Below W1.heap.size W1 W1 ∧ W1.ownsRow W1.heap.size 29 2 (.slice none 0 0) 0 (mcs (Ss.insAll (fun a b => aheadB a b true) (X.take 0)))) := ⟨Below.refl _ _, own_nil _ _ _ _⟩
      go_loopg [5, 8] nX (fun kx s5 s8 wr => ∃ (i c : Nat) (a : Option Addr), s5 = .slice a i c ∧ s8 = .int .i64 i ∧ i ≤ nX ∧ nX - i ≤ kx ∧ Aside (Below W1.heap.size W1 wr ∧ wr.ownsRow W1.heap.size 29 2 (.slice a i c) i (mcs (Ss.insAll (fun a b => aheadB a b true) (X.take i)))))
      case atStart => exact ⟨0, 0, none, rfl, rfl, by omega, by omega, S0⟩
      case round =>
        clear S0
        obtain ⟨j, cx, ax, rfl, rfl, hi, hkx, Z⟩ := hrel
        have Z01 : Aside (Below (w.heap.size + 1) W0 wr) := Z1.out.trans (Z.out.1.mono HZ1.out)
        obtain ⟨z0, z1, z2, z3⟩ := BX.out wr Z01.out
        by_cases hlt : j < nX
        · have hltI : (j : Int) < (nX : Int) := by omega
          obtain ⟨b, off, xc', eg, x0, x1⟩ := rd_mod DX.out (BW.out wr Z01.out) j (by have := LX.out; omega)
          injection eg with eg1 eg2 eg3
          subst eg1; subst eg3
          have KP : Aside (Calls Tryz.prog 79 #[.slice ax j cx, .agg #[.string X[j]!.1, .string X[j]!.2], .bool true] wr fun e w' => ∃ a' c', e = .returned (.slice a' (j + 1) c') ∧ (Below W1.heap.size W1 w' ∧ w'.ownsRow W1.heap.size 29 2 (.slice a' (j + 1) c') (j + 1) (mcs (Ss.insAll (fun a b => aheadB a b true) (X.take (j + 1)))))) := by
            have hl := ins_take_len (fun a b => aheadB a b true) X j (by have := LX.out; omega)
            have hB : W1.heap.size ≤ wr.heap.size := Z.out.1.size
            have k := put_all X[j]!.1 X[j]!.2 true (.slice ax j cx) (Ss.insAll (fun a b => aheadB a b true) (X.take j)) wr W1.heap.size hB (by rw [hl]; exact Z.out.2) (by rw [hl]; omega)
            rw [hl] at k
            refine k.mono ?_
            rintro e w' ⟨g, c', rfl, ho, ht, _⟩
            rw [ins_take (fun a b => aheadB a b true) X j (by have := LX.out; omega)] at ho
            exact ⟨_, _, rfl, Z.out.1.trans (turn_below Z.out.2 ht hB), ho⟩
          generalize X[j]!.1 = y0 at x0 KP
          generalize X[j]!.2 = y1 at x1 KP
          clear Z eg2 Z01
          go_wp2_with (go_at_call 79; fail)
          go_at_call 79
          refine Calls.mono KP.out ?_
          rintro e w2 ⟨a', c', rfl, Z2⟩
          have ZB : Aside _ := Z2
          clear Z2 KP x0 x1 z0 z1 z2 z3
          go_wp2
          go_roundg (nX - (j + 1))
          case measure => omega
          case rel => exact ⟨j + 1, c', a', by rfl, by go_num, by omega, Nat.le_refl _, ZB⟩
        · have hltI : ¬ ((j : Int) < (nX : Int)) := by omega
          obtain rfl : j = nX := by omega
          have A2 : Aside (Ahead wr wr.heap.size 29 2 (.slice ax j cx) j (mcs (excs X))) := by
            have h := ahead_own Z.out.2
            have e1 : X.take j = X := List.take_of_length_le (by have := LX.out; omega)
            rw [e1] at h
            exact h
          have A1' : Aside (Ahead wr wr.heap.size 29 2 (.slice a i c) i (mcs (reqs R))) := A1.out.on Z.out.1 Z.out.1.size
          have HZ2 : Hid (w.heap.size + 1 ≤ wr.heap.size) := Nat.le_trans HZ1.out Z.out.1.size
          clear Z DX HZ1 hkx hi hlt A1 Z1
          go_wp2
          clear hltI z0 z1 z2 z3
          generalize hW2 : wr = W2 at *
          clear hW2
          have S0 : Aside (Below W2.heap.size W2 W2 ∧ W2.ownsRow W2.heap.size 137 3 (.slice none 0 0) 0 (scs (Ss.insAll (ltOf Sw.cmpS) (S.take 0)))) := ⟨Below.refl _ _, own_nil _ _ _ _⟩
          go_loopg [6, 9] nS (fun kx s6 s9 wr => ∃ (i c : Nat) (a : Option Addr), s6 = .slice a i c ∧ s9 = .int .i64 i ∧ i ≤ nS ∧ nS - i ≤ kx ∧ Aside (Below W2.heap.size W2 wr ∧ wr.ownsRow W2.heap.size 137 3 (.slice a i c) i (scs (Ss.insAll (ltOf Sw.cmpS) (S.take i)))))
          case atStart => exact ⟨0, 0, none, rfl, rfl, by omega, by omega, S0⟩
          case round =>
            clear S0
            obtain ⟨k, cs, aw, rfl, rfl, hi, hkx, Z⟩ := hrel
            have Z02 : Aside (Below (w.heap.size + 1) W0 wr) := Z01.out.trans (Z.out.1.mono HZ2.out)
            obtain ⟨z0, z1, z2, z3⟩ := BX.out wr Z02.out
            by_cases hlt : k < nS
            · have hltI : (k : Int) < (nS : Int) := by omega
              obtain ⟨b, off, sc', eg, x0, x1, x2⟩ := rd_swp DS.out (BW.out wr Z02.out) k (by have := LS.out; omega)
              injection eg with eg1 eg2 eg3
              subst eg1; subst eg3
              have KP : Aside (Calls Tryz.prog 80 #[.slice aw k cs, .agg #[.string S[k]!.1, .string S[k]!.2.1, .string S[k]!.2.2]] wr fun e w' => ∃ a' c', e = .returned (.slice a' (k + 1) c') ∧ (Below W2.heap.size W2 w' ∧ w'.ownsRow W2.heap.size 137 3 (.slice a' (k + 1) c') (k + 1) (scs (Ss.insAll (ltOf Sw.cmpS) (S.take (k + 1)))))) := by
                have hl := ins_take_len (ltOf Sw.cmpS) S k (by have := LS.out; omega)
                have hB : W2.heap.size ≤ wr.heap.size := Z.out.1.size
                have kk := putSwap_all S[k]!.1 S[k]!.2.1 S[k]!.2.2 (.slice aw k cs) (Ss.insAll (ltOf Sw.cmpS) (S.take k)) wr W2.heap.size hB (by rw [hl]; exact Z.out.2) (by rw [hl]; omega)
                rw [hl] at kk
                refine kk.mono ?_
                rintro e w' ⟨g, c', rfl, ho, ht, _⟩
                rw [ins_take (ltOf Sw.cmpS) S k (by have := LS.out; omega)] at ho
                exact ⟨_, _, rfl, Z.out.1.trans (turn_below Z.out.2 ht hB), ho⟩
              generalize S[k]!.1 = y0 at x0 KP
              generalize S[k]!.2.1 = y1 at x1 KP
              generalize S[k]!.2.2 = y2 at x2 KP
              clear Z eg2 Z02
              go_wp2_with (go_at_call 80; fail)
              go_at_call 80
              refine Calls.mono KP.out ?_
              rintro e w2 ⟨a', c', rfl, Z2⟩
              have ZB : Aside _ := Z2
              clear Z2 KP x0 x1 x2 z0 z1 z2 z3
              go_wp2
              go_roundg (nS - (k + 1))
              case measure => omega
              case rel => exact ⟨k + 1, c', a', by rfl, by go_num, by omega, Nat.le_refl _, ZB⟩
            · have hltI : ¬ ((k : Int) < (nS : Int)) := by omega
              obtain rfl : k = nS := by omega
              have A3 : Aside (Ahead wr wr.heap.size 137 3 (.slice aw k cs) k (scs (reps S))) := by
                have h := ahead_own Z.out.2
                have e1 : S.take k = S := List.take_of_length_le (by have := LS.out; omega)
                rw [e1] at h
                exact h
              have A1 : Aside (Ahead wr wr.heap.size 29 2 (.slice a i c) i (mcs (reqs R))) := A1'.out.on Z.out.1 Z.out.1.size
              have A2' : Aside (Ahead wr wr.heap.size 29 2 (.slice ax j cx) j (mcs (excs X))) := A2.out.on Z.out.1 Z.out.1.size
              have HF : Hid (∀ W, Below wr.heap.size wr W → Below w.heap.size w W) := fun W hb => BW.out W (Z02.out.trans (hb.mono (Nat.le_trans HZ2.out Z.out.1.size)))
              have lr : Hid (i = (reqs R).length) := by show _ = _; rw [Ss.insAll_len]; exact LR.out
              have lx : Hid (j = (excs X).length) := by show _ = _; rw [Ss.insAll_len]; exact LX.out
              have ls : Hid (k = (reps S).length) := by show _ = _; rw [Ss.insAll_len]; exact LS.out
              clear Z DS HZ2 hkx hi hlt A1' A2 Z01 Z02 LR LX LS BX BW
              go_wp2
              clear hltI z0 z1 z2 z3
              generalize hW3 : wr = W3 at *
              clear hW3
              generalize reqs R = R' at *
              generalize excs X = X' at *
              generalize reps S = S' at *
              have N3 : Hid ((lineOf [wModule, p] ++ R'.flatMap reqLine ++ X'.flatMap excLine ++ S'.flatMap repLine).length ≤ 140737488355328) := by rw [HE.out]; exact HL.out
              have S0 : Aside (Below W3.heap.size W3 W3) := Below.refl _ _
              have T1 : Hid (t0.data.toList = lineOf [wModule, p] ++ (R'.take 0).flatMap reqLine) := by rw [List.take_zero, List.flatMap_nil, List.append_nil]; exact T0
              clear T0 HL
              go_loopg [3, 10] i (fun kx s3 s10 wr => ∃ (t : ByteArray) (q : Nat), s3 = .string t ∧ s10 = .int .i64 q ∧ q ≤ i ∧ i - q ≤ kx ∧ Hid (t.data.toList = lineOf [wModule, p] ++ (R'.take q).flatMap reqLine) ∧ Aside (Below W3.heap.size W3 wr))
              case atStart => exact ⟨t0, 0, rfl, rfl, by omega, by omega, T1, S0⟩
              case round =>
                clear S0 T1
                obtain ⟨t, q, rfl, rfl, hq, hkx, HT, Z⟩ := hrel
                by_cases hlt : q < i
                · have hltI : (q : Int) < (i : Int) := by omega
                  obtain ⟨g, eg, x0, x1⟩ := A1.out.mod Z.out q hlt lr.out
                  subst eg
                  obtain ⟨q1, q2⟩ := step_line reqLine _ R' _ N1.out q (by have := lr.out; omega)
                  have TN : Hid ((t ++ ⟨#[114, 101, 113, 117, 105, 114, 101, 32]⟩ ++ R'[q]!.1 ++ ⟨#[32]⟩ ++ R'[q]!.2 ++ ⟨#[10]⟩).data.toList = lineOf [wModule, p] ++ (R'.take (q + 1)).flatMap reqLine) := by
                    show _ = _
                    rw [text_req, HT.out, ← q2]
                  rw [List.length_append, ← HT.out, ← Lib.size_eq, len_req] at q1
                  generalize R'[q]!.1 = y0 at x0 q1 TN
                  generalize R'[q]!.2 = y1 at x1 q1 TN
                  have b1 : ¬ 9223372036854775807 < t.size + 8 := by omega
                  have b2 : ¬ 9223372036854775807 < t.size + 8 + y0.size := by omega
                  have b3 : ¬ 9223372036854775807 < t.size + 8 + y0.size + 1 := by omega
                  have b4 : ¬ 9223372036854775807 < t.size + 8 + y0.size + 1 + y1.size := by omega
                  have b5 : ¬ 9223372036854775807 < t.size + 8 + y0.size + 1 + y1.size + 1 := by omega
                  clear q1 q2 HT
                  have ZQ : Hid (∀ n, Below W3.heap.size W3 (wr.drewN n)) := fun n => ⟨Z.out.os, Z.out.tape, Z.out.output, Z.out.size, Z.out.block⟩
                  clear Z
                  go_wp2_with fail
                  go_quiet (fail)
                  go_wp2
                  go_roundg (i - (q + 1))
                  case measure => omega
                  case rel => exact ⟨t ++ ⟨#[114, 101, 113, 117, 105, 114, 101, 32]⟩ ++ y0 ++ ⟨#[32]⟩ ++ y1 ++ ⟨#[10]⟩, q + 1, rfl, by go_num, by omega, Nat.le_refl _, TN, ZQ.out _⟩
                · have hltI : ¬ ((q : Int) < (i : Int)) := by omega
                  have T1 : Hid (t.data.toList = lineOf [wModule, p] ++ R'.flatMap reqLine ++ (X'.take 0).flatMap excLine) := by
                    have e1 : R'.take q = R' := List.take_of_length_le (by have := lr.out; omega)
                    have h := HT.out
                    rw [e1] at h
                    rw [List.take_zero, List.flatMap_nil, List.append_nil]
                    exact h
                  clear HT A1 lr hkx hq hlt
                  go_wp2
                  clear hltI
                  generalize lineOf [wModule, p] ++ R'.flatMap reqLine = l1 at *
                  go_loopg [3, 11] j (fun kx s3 s11 wr => ∃ (t : ByteArray) (q : Nat), s3 = .string t ∧ s11 = .int .i64 q ∧ q ≤ j ∧ j - q ≤ kx ∧ Hid (t.data.toList = l1 ++ (X'.take q).flatMap excLine) ∧ Aside (Below W3.heap.size W3 wr))
                  case atStart => exact ⟨t, 0, rfl, rfl, by omega, by omega, T1, Z⟩
                  case round =>
                    clear T1 Z
                    obtain ⟨t, q, rfl, rfl, hq, hkx, HT, Z⟩ := hrel
                    by_cases hlt : q < j
                    · have hltI : (q : Int) < (j : Int) := by omega
                      obtain ⟨g, eg, x0, x1⟩ := A2'.out.mod Z.out q hlt lx.out
                      subst eg
                      obtain ⟨q1, q2⟩ := step_line excLine _ X' _ N2.out q (by have := lx.out; omega)
                      have TN : Hid ((t ++ ⟨#[101, 120, 99, 108, 117, 100, 101, 32]⟩ ++ X'[q]!.1 ++ ⟨#[32]⟩ ++ X'[q]!.2 ++ ⟨#[10]⟩).data.toList = l1 ++ (X'.take (q + 1)).flatMap excLine) := by
                        show _ = _
                        rw [text_exc, HT.out, ← q2]
                      rw [List.length_append, ← HT.out, ← Lib.size_eq, len_exc] at q1
                      generalize X'[q]!.1 = y0 at x0 q1 TN
                      generalize X'[q]!.2 = y1 at x1 q1 TN
                      have b1 : ¬ 9223372036854775807 < t.size + 8 := by omega
                      have b2 : ¬ 9223372036854775807 < t.size + 8 + y0.size := by omega
                      have b3 : ¬ 9223372036854775807 < t.size + 8 + y0.size + 1 := by omega
                      have b4 : ¬ 9223372036854775807 < t.size + 8 + y0.size + 1 + y1.size := by omega
                      have b5 : ¬ 9223372036854775807 < t.size + 8 + y0.size + 1 + y1.size + 1 := by omega
                      clear q1 q2 HT
                      have ZQ : Hid (∀ n, Below W3.heap.size W3 (wr.drewN n)) := fun n => ⟨Z.out.os, Z.out.tape, Z.out.output, Z.out.size, Z.out.block⟩
                      clear Z
                      go_wp2_with fail
                      go_quiet (fail)
                      go_wp2
                      go_roundg (j - (q + 1))
                      case measure => omega
                      case rel => exact ⟨t ++ ⟨#[101, 120, 99, 108, 117, 100, 101, 32]⟩ ++ y0 ++ ⟨#[32]⟩ ++ y1 ++ ⟨#[10]⟩, q + 1, rfl, by go_num, by omega, Nat.le_refl _, TN, ZQ.out _⟩
                    · have hltI : ¬ ((q : Int) < (j : Int)) := by omega
                      have T1 : Hid (t.data.toList = l1 ++ X'.flatMap excLine ++ (S'.take 0).flatMap repLine) := by
                        have e1 : X'.take q = X' := List.take_of_length_le (by have := lx.out; omega)
                        have h := HT.out
                        rw [e1] at h
                        rw [List.take_zero, List.flatMap_nil, List.append_nil]
                        exact h
                      clear HT A2' lx hkx hq hlt
                      go_wp2
                      clear hltI
                      generalize l1 ++ X'.flatMap excLine = l2 at *
                      go_loopg [3, 12] k (fun kx s3 s12 wr => ∃ (t : ByteArray) (q : Nat), s3 = .string t ∧ s12 = .int .i64 q ∧ q ≤ k ∧ k - q ≤ kx ∧ Hid (t.data.toList = l2 ++ (S'.take q).flatMap repLine) ∧ Aside (Below W3.heap.size W3 wr))
                      case atStart => exact ⟨t, 0, rfl, rfl, by omega, by omega, T1, Z⟩
                      case round =>
                        clear T1 Z
                        obtain ⟨t, q, rfl, rfl, hq, hkx, HT, Z⟩ := hrel
                        by_cases hlt : q < k
                        · have hltI : (q : Int) < (k : Int) := by omega
                          obtain ⟨g, eg, x0, x1, x2⟩ := A3.out.swp Z.out q hlt ls.out
                          subst eg
                          obtain ⟨q1, q2⟩ := step_line repLine _ S' _ N3.out q (by have := ls.out; omega)
                          have TN : Hid ((t ++ ⟨#[114, 101, 112, 108, 97, 99, 101, 32]⟩ ++ S'[q]!.1 ++ ⟨#[32]⟩ ++ S'[q]!.2.1 ++ ⟨#[32, 61, 62, 32]⟩ ++ S'[q]!.2.2 ++ ⟨#[10]⟩).data.toList = l2 ++ (S'.take (q + 1)).flatMap repLine) := by
                            show _ = _
                            rw [text_rep, HT.out, ← q2]
                          rw [List.length_append, ← HT.out, ← Lib.size_eq, len_rep] at q1
                          generalize S'[q]!.1 = y0 at x0 q1 TN
                          generalize S'[q]!.2.1 = y1 at x1 q1 TN
                          generalize S'[q]!.2.2 = y2 at x2 q1 TN
                          have b1 : ¬ 9223372036854775807 < t.size + 8 := by omega
                          have b2 : ¬ 9223372036854775807 < t.size + 8 + y0.size := by omega
                          have b3 : ¬ 9223372036854775807 < t.size + 8 + y0.size + 1 := by omega
                          have b4 : ¬ 9223372036854775807 < t.size + 8 + y0.size + 1 + y1.size := by omega
                          have b5 : ¬ 9223372036854775807 < t.size + 8 + y0.size + 1 + y1.size + 4 := by omega
                          have b6 : ¬ 9223372036854775807 < t.size + 8 + y0.size + 1 + y1.size + 4 + y2.size := by omega
                          have b7 : ¬ 9223372036854775807 < t.size + 8 + y0.size + 1 + y1.size + 4 + y2.size + 1 := by omega
                          clear q1 q2 HT
                          have ZQ : Hid (∀ n, Below W3.heap.size W3 (wr.drewN n)) := fun n => ⟨Z.out.os, Z.out.tape, Z.out.output, Z.out.size, Z.out.block⟩
                          clear Z
                          go_wp2_with fail
                          go_quiet (fail)
                          go_wp2
                          go_roundg (k - (q + 1))
                          case measure => omega
                          case rel => exact ⟨t ++ ⟨#[114, 101, 112, 108, 97, 99, 101, 32]⟩ ++ y0 ++ ⟨#[32]⟩ ++ y1 ++ ⟨#[32, 61, 62, 32]⟩ ++ y2 ++ ⟨#[10]⟩, q + 1, rfl, by go_num, by omega, Nat.le_refl _, TN, ZQ.out _⟩
                        · have hltI : ¬ ((q : Int) < (k : Int)) := by omega
                          have T1 : Hid (t = ⟨F.toArray⟩) := by
                            have e1 : S'.take q = S' := List.take_of_length_le (by have := ls.out; omega)
                            have h := HT.out
                            rw [e1, HE.out] at h
                            exact ByteArray.ext (by show t.data = F.toArray; rw [← h])
                          have HB : Hid (Below w.heap.size w wr) := HF.out wr Z.out
                          clear HT A3 ls hkx hq hlt Z
                          go_wp2
                          go_ret
                          exact ⟨by rw [T1.out]; rfl, HB.out⟩

end Go.Proofs.YtelmkfkgpnadnaaGreatDoor

namespace Go.Proofs.YtelmkfkgpnadnaaGreatDoor
open Go.RowKit

set_option maxRecDepth 100000 in
set_option maxHeartbeats 1000000 in
theorem sameModules_any (u v : Value) (L : List Mo) (w : World) (hL : L.length ≤ 16777216) (h1 : Sm.Rd w u L) (h2 : Sm.Rd w v L) :
    Calls Tryz.prog 118 #[u, v] w fun e w' => e = .returned (.bool true) ∧ Below w.heap.size w w' := by
  obtain ⟨a1, c1, e1⟩ := rd_len h1
  obtain ⟨a2, c2, e2⟩ := rd_len h2
  subst e1; subst e2
  obtain ⟨m, hm⟩ : ∃ m, m = L.length := ⟨_, rfl⟩
  rw [← hm] at hL h1 h2 ⊢
  have D1 : Aside _ := h1
  have D2 : Aside _ := h2
  have LM : Hid (m = L.length) := hm
  clear hm h1 h2
  have qm : (((m : Nat) : Int) == (m : Int)) = true := by simp
  go_enter Tryz.func118, Tryz.ntmps118
  go_wp2
  go_loopg [5] m (fun gg s wr => ∃ i : Nat, i ≤ m ∧ m - i ≤ gg ∧ s = .int .i64 i ∧ Below w.heap.size w wr)
  case atStart => exact ⟨0, by omega, by omega, rfl, Below.refl _ _⟩
  case round =>
    obtain ⟨i, hi, hg, rfl, hbw⟩ := hrel
    by_cases hin : i < m
    · obtain ⟨b, o, c, eg, x0, x1⟩ := rd_mod D1.out hbw i (by have := LM.out; omega)
      injection eg with eg1 _ eg3
      subst eg1; subst eg3
      obtain ⟨b', o', c', eg, y0, y1⟩ := rd_mod D2.out hbw i (by have := LM.out; omega)
      injection eg with eg1 _ eg3
      subst eg1; subst eg3
      have hil : ((i : Nat) : Int) < (m : Int) := by omega
      generalize L[i]!.1 = x at x0 y0
      generalize L[i]!.2 = y at x1 y1
      have q1 : (x.toList == x.toList) = true := by simp
      have q2 : (y.toList == y.toList) = true := by simp
      go_upto_region 6 with fail
      go_region
      go_wp2
      go_roundg (m - (i + 1))
      case measure => omega
      case rel => exact ⟨i + 1, by omega, by omega, by go_num, hbw.drew⟩
    · have hil : (((i : Nat) : Int) < (m : Int)) = False := by simp; omega
      go_wp2
      go_ret
      exact ⟨rfl, hbw⟩

set_option maxRecDepth 100000 in
set_option maxHeartbeats 1000000 in
theorem sameSwaps_any (u v : Value) (L : List So) (w : World) (hL : L.length ≤ 16777216) (h1 : Sw.Rd w u L) (h2 : Sw.Rd w v L) :
    Calls Tryz.prog 119 #[u, v] w fun e w' => e = .returned (.bool true) ∧ Below w.heap.size w w' := by
  obtain ⟨a1, c1, e1⟩ := rd_len_s h1
  obtain ⟨a2, c2, e2⟩ := rd_len_s h2
  subst e1; subst e2
  obtain ⟨m, hm⟩ : ∃ m, m = L.length := ⟨_, rfl⟩
  rw [← hm] at hL h1 h2 ⊢
  have D1 : Aside _ := h1
  have D2 : Aside _ := h2
  have LM : Hid (m = L.length) := hm
  clear hm h1 h2
  have qm : (((m : Nat) : Int) == (m : Int)) = true := by simp
  go_enter Tryz.func119, Tryz.ntmps119
  go_wp2
  go_loopg [5] m (fun gg s wr => ∃ i : Nat, i ≤ m ∧ m - i ≤ gg ∧ s = .int .i64 i ∧ Below w.heap.size w wr)
  case atStart => exact ⟨0, by omega, by omega, rfl, Below.refl _ _⟩
  case round =>
    obtain ⟨i, hi, hg, rfl, hbw⟩ := hrel
    by_cases hin : i < m
    · obtain ⟨b, o, c, eg, x0, x1, x2⟩ := rd_swp D1.out hbw i (by have := LM.out; omega)
      injection eg with eg1 _ eg3
      subst eg1; subst eg3
      obtain ⟨b', o', c', eg, y0, y1, y2⟩ := rd_swp D2.out hbw i (by have := LM.out; omega)
      injection eg with eg1 _ eg3
      subst eg1; subst eg3
      have hil : ((i : Nat) : Int) < (m : Int) := by omega
      generalize L[i]!.1 = x at x0 y0
      generalize L[i]!.2.1 = y at x1 y1
      generalize L[i]!.2.2 = z at x2 y2
      have q1 : (x.toList == x.toList) = true := by simp
      have q2 : (y.toList == y.toList) = true := by simp
      have q3 : (z.toList == z.toList) = true := by simp
      go_upto_region 6 with fail
      go_region
      go_wp2
      go_roundg (m - (i + 1))
      case measure => omega
      case rel => exact ⟨i + 1, by omega, by omega, by go_num, hbw.drew⟩
    · have hil : (((i : Nat) : Int) < (m : Int)) = False := by simp; omega
      go_wp2
      go_ret
      exact ⟨rfl, hbw⟩

/-- sameManifest, of two that read the same. -/
theorem sameManifest_any (p : ByteArray) (rv xv sv rv' xv' sv' : Value) (R X : List Mo) (S : List So) (w : World) (hR : R.length ≤ 16777216) (hX : X.length ≤ 16777216) (hS : S.length ≤ 16777216) (hr : Sm.Rd w rv R) (hx : Sm.Rd w xv X) (hs : Sw.Rd w sv S) (hr' : Sm.Rd w rv' R) (hx' : Sm.Rd w xv' X) (hs' : Sw.Rd w sv' S) :
    Calls Tryz.prog 73 #[.agg #[.string p, rv, xv, sv], .agg #[.string p, rv', xv', sv']] w fun e w' => e = .returned (.bool true) ∧ Below w.heap.size w w' := by
  have KR : Aside (∀ W, Below w.heap.size w W → Calls Tryz.prog 118 #[rv, rv'] W fun e w' => e = .returned (.bool true) ∧ Below W.heap.size W w') := fun W hb => sameModules_any rv rv' R W hR (hr.below hb) (hr'.below hb)
  have KX : Aside (∀ W, Below w.heap.size w W → Calls Tryz.prog 118 #[xv, xv'] W fun e w' => e = .returned (.bool true) ∧ Below W.heap.size W w') := fun W hb => sameModules_any xv xv' X W hX (hx.below hb) (hx'.below hb)
  have KS : Aside (∀ W, Below w.heap.size w W → Calls Tryz.prog 119 #[sv, sv'] W fun e w' => e = .returned (.bool true) ∧ Below W.heap.size W w') := fun W hb => sameSwaps_any sv sv' S W hS (hs.below hb) (hs'.below hb)
  obtain ⟨ra, rn, rc, e1⟩ := hr.shape
  obtain ⟨xa, xn, xc, e2⟩ := hx.shape
  obtain ⟨sa, sn, sc, e3⟩ := hs.shape
  obtain ⟨ra', rn', rc', e4⟩ := hr'.shape
  obtain ⟨xa', xn', xc', e5⟩ := hx'.shape
  obtain ⟨sa', sn', sc', e6⟩ := hs'.shape
  clear hr hx hs hr' hx' hs'
  subst e1; subst e2; subst e3; subst e4; subst e5; subst e6
  have B0 : Hid (Below w.heap.size w ((w.alloc (.cells #[.string p, .slice ra rn rc, .slice xa xn xc, .slice sa sn sc] 26)).alloc (.cells #[.string p, .slice ra' rn' rc', .slice xa' xn' xc', .slice sa' sn' sc'] 26))) := ((Below.refl _ _).alloc (Nat.le_refl _) _).alloc (by simp) _
  have V1 : Hid (ValsAt ((w.alloc (.cells #[.string p, .slice ra rn rc, .slice xa xn xc, .slice sa sn sc] 26)).alloc (.cells #[.string p, .slice ra' rn' rc', .slice xa' xn' xc', .slice sa' sn' sc'] 26)) w.heap.size 4 (fun f => if f = 0 then .string p else if f = 1 then .slice ra rn rc else if f = 2 then .slice xa xn xc else .slice sa sn sc)) := (vals4 w _ _ _ _ 26).of_block (heap_alloc_old _ _ (by simp))
  have V2 : Hid (ValsAt ((w.alloc (.cells #[.string p, .slice ra rn rc, .slice xa xn xc, .slice sa sn sc] 26)).alloc (.cells #[.string p, .slice ra' rn' rc', .slice xa' xn' xc', .slice sa' sn' sc'] 26)) (w.heap.size + 1) 4 (fun f => if f = 0 then .string p else if f = 1 then .slice ra' rn' rc' else if f = 2 then .slice xa' xn' xc' else .slice sa' sn' sc')) := by
    show ValsAt _ _ _ _
    have := vals4 (w.alloc (.cells #[.string p, .slice ra rn rc, .slice xa xn xc, .slice sa sn sc] 26)) (.string p) (.slice ra' rn' rc') (.slice xa' xn' xc') (.slice sa' sn' sc') 26
    simpa using this
  have HZ : Hid (w.heap.size + 2 ≤ ((w.alloc (.cells #[.string p, .slice ra rn rc, .slice xa xn xc, .slice sa sn sc] 26)).alloc (.cells #[.string p, .slice ra' rn' rc', .slice xa' xn' xc', .slice sa' sn' sc'] 26)).heap.size) := by show _ ≤ _; simp
  go_enter Tryz.func73, Tryz.ntmps73
  go_wp2_with (go_at_call 118; fail)
  generalize (w.alloc (.cells #[.string p, .slice ra rn rc, .slice xa xn xc, .slice sa sn sc] 26)).alloc (.cells #[.string p, .slice ra' rn' rc', .slice xa' xn' xc', .slice sa' sn' sc'] 26) = W0 at *
  have BX : Hid (∀ W, Below W0.heap.size W0 W → (W.cell? ⟨w.heap.size, 0, none⟩ = some (.string p) ∧ W.cell? ⟨w.heap.size, 1, none⟩ = some (.slice ra rn rc) ∧ W.cell? ⟨w.heap.size, 2, none⟩ = some (.slice xa xn xc) ∧ W.cell? ⟨w.heap.size, 3, none⟩ = some (.slice sa sn sc)) ∧ (W.cell? ⟨w.heap.size + 1, 0, none⟩ = some (.string p) ∧ W.cell? ⟨w.heap.size + 1, 1, none⟩ = some (.slice ra' rn' rc') ∧ W.cell? ⟨w.heap.size + 1, 2, none⟩ = some (.slice xa' xn' xc') ∧ W.cell? ⟨w.heap.size + 1, 3, none⟩ = some (.slice sa' sn' sc'))) := fun W hb => by
    have v := V1.out.of_block (hb.block _ (by have := HZ.out; omega))
    have v' := V2.out.of_block (hb.block _ (by have := HZ.out; omega))
    exact ⟨⟨v.at' 0 (by omega), v.at' 1 (by omega), v.at' 2 (by omega), v.at' 3 (by omega)⟩, v'.at' 0 (by omega), v'.at' 1 (by omega), v'.at' 2 (by omega), v'.at' 3 (by omega)⟩
  clear V1 V2 HZ
  go_at_call 118
  refine (KR.out _ B0.out).mono ?_
  rintro e w1 ⟨rfl, hb1⟩
  have B1 : Hid (Below W0.heap.size W0 w1) := hb1
  clear hb1 KR
  obtain ⟨⟨z0, z1, z2, z3⟩, y0, y1, y2, y3⟩ := BX.out w1 B1.out
  go_wp2_with (go_at_call 118; fail)
  go_at_call 118
  refine (KX.out _ (B0.out.trans (B1.out.mono B0.out.size))).mono ?_
  rintro e w2 ⟨rfl, hb2⟩
  have B2 : Hid (Below W0.heap.size W0 w2) := B1.out.trans (hb2.mono B1.out.size)
  clear hb2 KX z0 z1 z2 z3 y0 y1 y2 y3 B1
  obtain ⟨⟨z0, z1, z2, z3⟩, y0, y1, y2, y3⟩ := BX.out w2 B2.out
  go_wp2_with (go_at_call 119; fail)
  go_at_call 119
  refine (KS.out _ (B0.out.trans (B2.out.mono B0.out.size))).mono ?_
  rintro e w3 ⟨rfl, hb3⟩
  have B3 : Hid (Below W0.heap.size W0 w3) := B2.out.trans (hb3.mono B2.out.size)
  clear hb3 KS z0 z1 z2 z3 y0 y1 y2 y3 B2
  obtain ⟨⟨z0, z1, z2, z3⟩, y0, y1, y2, y3⟩ := BX.out w3 B3.out
  have HF : Hid (Below w.heap.size w w3) := B0.out.trans (B3.out.mono B0.out.size)
  have q0 : (p.toList == p.toList) = true := by simp
  clear BX B0 B3
  go_wp2
  go_ret
  exact ⟨rfl, HF.out⟩

end Go.Proofs.YtelmkfkgpnadnaaGreatDoor
