/-
  Edits: the program's shelf: places, texts, the map of them.
-/
import Derived.Test.YtiamomiafekihaaGreatDoorE5
import Derived.Test.YtiamomiafekihaaGreatDoorM0
import Derived.Test.YtiamomiafekihaaGreatDoorI1
import Derived.DeepKeys4
namespace Go.Proofs.YtiamomiafekihaaGreatDoor
open Go.RowKit
namespace Ed

variable {w w' : World}

theorem laidOutE : laidOutB Tryz.prog = true := by kernel_rfl
theorem row188 : (110 : TypeId) < Tryz.prog.types.size := of_decide_eq_true (by kernel_rfl)
theorem wide188 : (match Tryz.prog.underlying 110 with | some (.array _ _) | some (.struct _) => true | _ => false) = true := by kernel_rfl
theorem keyT188 : Tryz.prog.keyTypeAt 3 110 = true := by kernel_rfl
theorem keyTy188 : Tryz.prog.keyType 110 = true := by kernel_rfl
theorem size466 : Tryz.prog.types.size = 418 := by kernel_rfl
theorem cells188 : Tryz.prog.cellsOf 110 = 3 := by kernel_rfl
theorem cells186 : Tryz.prog.cellsOf 108 = 1 := by kernel_rfl
theorem cells9e : Tryz.prog.cellsOf 9 = 1 := by kernel_rfl
set_option maxRecDepth 100000 in
theorem law188 : WideMaps.KeyLaw Tryz.prog 110 := deep_law_laid laidOutE (m := 3) (Nat.le_of_ble_eq_true rfl) row188 keyT188 wide188
theorem keyed188 : Maps.Keyed Tryz.prog 110 := Maps.Keyed.of_law law188

theorem keyLits9e (d : Nat) (s : ByteArray) (h : s.size ≤ maxLen) : Tryz.prog.keyLits (d + 1) 9 [.string s] = some [.string s.data.toList] := by
  unfold Program.keyLits
  rw [Tryz.underlying9]
  show (if s.size ≤ maxLen then some [Lit.string s.data.toList] else none) = _
  rw [if_pos h]

theorem keyLits186 (d : Nat) (k : Int) (h : (Lit.int .i64 k).wf = true) : Tryz.prog.keyLits (d + 1) 108 [.int .i64 k] = some [.int .i64 k] := by
  unfold Program.keyLits
  rw [Tryz.underlying108]
  show (if IntKind.i64 = IntKind.i64 ∧ (Lit.int .i64 k).wf = true then some [Lit.int .i64 k] else none) = _
  rw [if_pos ⟨rfl, h⟩]

/-- A place; a text that lies there. -/
abbrev plc (k : Int) (p v : ByteArray) : Value := .agg #[.int .i64 k, .string p, .string v]
abbrev txt (s : ByteArray) : Value := .agg #[.string s, .bool true]

theorem key_plc (k : Int) (p v : ByteArray) (hk : (Lit.int .i64 k).wf = true) (hp : p.size ≤ maxLen) (hv : v.size ≤ maxLen) : ∃ l, keyOf Tryz.prog 110 (plc k p v) = some l := by
  have h1 : Tryz.prog.keyLits (Tryz.prog.types.size + 1) 110 [.int .i64 k, .string p, .string v] = some [.int .i64 k, .string p.data.toList, .string v.data.toList] := by
    rw [size466]
    unfold Program.keyLits
    rw [Tryz.underlying110]
    simp only [cells188, List.length_cons, List.length_nil]
    rw [if_pos ⟨trivial, by kernel_rfl⟩]
    simp only [List.mapM_cons, List.mapM_nil, cells9e, cells186, List.drop, List.take, keyLits186 417 k hk, keyLits9e 417 p hp, keyLits9e 417 v hv]
    rfl
  refine ⟨.string (keyBytes [.int .i64 k, .string p.data.toList, .string v.data.toList]), ?_⟩
  unfold keyOf
  rw [Tryz.underlying110]
  show (if (Tryz.prog.keyType 110 && (Value.agg #[.int .i64 k, .string p, .string v]).formed Tryz.prog 110) = true then (Tryz.prog.keyLits (Tryz.prog.types.size + 1) 110 [.int .i64 k, .string p, .string v]).map (fun ls => Lit.string (keyBytes ls)) else none) = _
  rw [keyTy188, h1]
  rw [if_pos (by simp [Value.formed, Tryz.underlying110, cells188])]
  rfl

theorem zero255 (w : World) : (zeroValue 137).run Tryz.prog w = .ok (.agg #[.string ⟨#[]⟩, .bool false]) w := by kernel_rfl

/-- The map of texts. -/
abbrev TextsAt (w : World) (b : Nat) (L : List (Value × Value)) : Prop := Mp.MapAt Tryz.prog 110 w b L

/-- All are places with texts. -/
def Good (L : List (Value × Value)) : Prop := ∀ x ∈ L, ∃ (k : Int) (p v s : ByteArray), x = (plc k p v, txt s)

/-- Is it of this kind? -/
def kindIs (k : Int) : List Value → Bool
  | .int .i64 q :: _ => q == k
  | _ => false
def ofKind (k : Int) (x : Value × Value) : Bool := match x.1 with
  | .agg cs => kindIs k cs.toList
  | _ => false

/-- The shelf in memory. -/
structure ShelfAt (w : World) (sb mb rev : Nat) (L : List (Value × Value)) : Prop where
  f0 : Fd w sb 0 (.map (some mb))
  f1 : Fd w sb 1 (.int .i64 rev)
  map : TextsAt w mb L
  good : Good L
  ne : sb ≠ mb

variable {sb mb rev : Nat} {L : List (Value × Value)}

theorem ShelfAt.of_block (h : ShelfAt w sb mb rev L) (e1 : w'.heap[sb]? = w.heap[sb]?) (e2 : w'.heap[mb]? = w.heap[mb]?) : ShelfAt w' sb mb rev L :=
  ⟨h.f0.of_block e1, h.f1.of_block e1, h.map.of_block e2, h.good, h.ne⟩

theorem ShelfAt.below (h : ShelfAt w sb mb rev L) (hb : Below w.heap.size w w') : ShelfAt w' sb mb rev L :=
  h.of_block (hb.block sb h.f0.lt) (hb.block mb h.map.lt)

end Ed
end Go.Proofs.YtiamomiafekihaaGreatDoor
