/-
  DERIVED. GIVEN WITH THE SEED: THE CARDS: each row of YtkfobfbiblgohaaGreatDoorRows.lean that lists a variable, with what it lists TIED to the program's text (the seventh form; the later family's looks); each row that meets fmt, with fmt's text TOLD by the authors' own Lean function (tested against real Go, not proved from fmt's source: count such statements apart). THE CARD IS WHAT COUNTS. Prove the row's statement (the work); the ties are given (YtkfobfbiblgohaaGreatDoorTie.lean); close each card by the builder's one call (the guide's Derived/Test/ToyasCard.lean, 'card_holds'). Laid BY PROGRAM, IN A SANDBOX (cutbox-door.mjs). By AI agents, Wed Nov 11 2026. No macro, syntax, notation, axiom, sorry.
-/
import Derived.Test.YtkfobfbiblgohaaGreatDoorRows
import GoSem.ClaimSeven
namespace Go.Proofs.YtkfobfbiblgohaaGreatDoor
namespace Rows

/-- THE TIED CARD OF 'pinsetkeep.Frugal'. -/
def frugalCard : Claim7 := { stood := { row := frugalRow, standIns := [], harness := (true, "85448179aa56e7621f65217fb02ea86f8c2b0cd84f7cd93b7d0161947f4263f1"), looks := true }, kinds := [], alts := [], laidByText := true, laidKinds := [.data, .data, .data, .data, .sentinel, .sentinel, .pinned], laidTests := true, laidLooks := .later }
def FrugalCardSaid : Prop := Claim7.holds Tryz.pinned (.plain (OpenSpec.ofChange frugalSpec)) frugalCard

/-- THE SECOND FORM's CARD OF 'pinsetkeep.Frugal'. -/
def frugalUptoCard : Claim7 := { stood := { row := frugalUptoRow, standIns := [], harness := (true, "85448179aa56e7621f65217fb02ea86f8c2b0cd84f7cd93b7d0161947f4263f1"), looks := true }, kinds := [], alts := [], laidByText := true, laidKinds := [.data, .data, .data, .data, .sentinel, .sentinel, .pinned], laidTests := true, laidLooks := .later }
def FrugalUptoCardSaid : Prop := Claim7.holds Tryz.pinned (.plain (OpenSpec.upto frugalSpec)) frugalUptoCard
end Rows
end Go.Proofs.YtkfobfbiblgohaaGreatDoor
