/-
  DERIVED. GIVEN WITH THE SEED: THE CARDS: each row of YtooabooekgphpaaGreatDoorRows.lean that lists a variable, with what it lists TIED to the program's text (the seventh form; the later family's looks); each row that meets fmt, with fmt's text TOLD by the authors' own Lean function (tested against real Go, not proved from fmt's source: count such statements apart). THE CARD IS WHAT COUNTS. Prove the row's statement (the work); the ties are given (YtooabooekgphpaaGreatDoorTie.lean); close each card by the builder's one call (the guide's Derived/Test/ToyasCard.lean, 'card_holds'). Laid BY PROGRAM, IN A SANDBOX (cutbox-door.mjs). By AI agents, Wed Nov 11 2026. No macro, syntax, notation, axiom, sorry.
-/
import Derived.Test.YtooabooekgphpaaGreatDoorRows
import GoSem.ClaimSeven
namespace Go.Proofs.YtooabooekgphpaaGreatDoor
namespace Rows

/-- THE TIED CARD OF 'pinsetkeep.Folded'. -/
def foldedCard : Claim7 := { stood := { row := foldedRow, standIns := [], harness := (true, "85c8d6bea3adf227b627fa59c28c5eca6c1b8fa694d0d5db23a053aabaf321df"), looks := true }, kinds := [], alts := [], laidByText := true, laidKinds := [.data, .data, .data, .data, .sentinel, .sentinel, .pinned], laidTests := true, laidLooks := .later }
def FoldedCardSaid : Prop := Claim7.holds Tryz.pinned (.plain (OpenSpec.ofChange foldedSpec)) foldedCard

/-- THE SECOND FORM's CARD OF 'pinsetkeep.Folded'. -/
def foldedUptoCard : Claim7 := { stood := { row := foldedUptoRow, standIns := [], harness := (true, "85c8d6bea3adf227b627fa59c28c5eca6c1b8fa694d0d5db23a053aabaf321df"), looks := true }, kinds := [], alts := [], laidByText := true, laidKinds := [.data, .data, .data, .data, .sentinel, .sentinel, .pinned], laidTests := true, laidLooks := .later }
def FoldedUptoCardSaid : Prop := Claim7.holds Tryz.pinned (.plain (OpenSpec.upto foldedSpec)) foldedUptoCard
end Rows
end Go.Proofs.YtooabooekgphpaaGreatDoor
