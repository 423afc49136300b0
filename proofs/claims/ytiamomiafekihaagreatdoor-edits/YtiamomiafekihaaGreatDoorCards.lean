/-
  DERIVED. GIVEN WITH THE SEED: THE CARDS: each row of YtiamomiafekihaaGreatDoorRows.lean that lists a variable, with what it lists TIED to the program's text (the seventh form; the later family's looks); each row that meets fmt, with fmt's text TOLD by the authors' own Lean function (tested against real Go, not proved from fmt's source: count such statements apart). THE CARD IS WHAT COUNTS. Prove the row's statement (the work); the ties are given (YtiamomiafekihaaGreatDoorTie.lean); close each card by the builder's one call (the guide's Derived/Test/ToyasCard.lean, 'card_holds'). Laid BY PROGRAM, IN A SANDBOX (cutbox-door.mjs). By AI agents, Wed Nov 11 2026. No macro, syntax, notation, axiom, sorry.
-/
import Derived.Test.YtiamomiafekihaaGreatDoorRows
import GoSem.ClaimSeven
namespace Go.Proofs.YtiamomiafekihaaGreatDoor
namespace Rows

/-- THE TIED CARD OF 'pinsetlaw.Edits'. -/
def editsCard : Claim7 := { stood := { row := editsRow, standIns := [], harness := (true, "40048e0e78486dc448d5bff27ef8343e0ee6785847ea2e779e6525fdc19318f2"), looks := true }, kinds := [], alts := [], laidByText := true, laidKinds := [.data, .data, .data, .data, .sentinel, .sentinel, .pinned], laidTests := true, laidLooks := .later }
def EditsCardSaid : Prop := Claim7.holds Tryz.pinned (.plain (OpenSpec.ofChange editsSpec)) editsCard

/-- THE SECOND FORM's CARD OF 'pinsetlaw.Edits'. -/
def editsUptoCard : Claim7 := { stood := { row := editsUptoRow, standIns := [], harness := (true, "40048e0e78486dc448d5bff27ef8343e0ee6785847ea2e779e6525fdc19318f2"), looks := true }, kinds := [], alts := [], laidByText := true, laidKinds := [.data, .data, .data, .data, .sentinel, .sentinel, .pinned], laidTests := true, laidLooks := .later }
def EditsUptoCardSaid : Prop := Claim7.holds Tryz.pinned (.plain (OpenSpec.upto editsSpec)) editsUptoCard
end Rows
end Go.Proofs.YtiamomiafekihaaGreatDoor
