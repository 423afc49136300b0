/-
  DERIVED. GIVEN WITH THE SEED: THE CARDS: each row of YtelmkfkgpnadnaaDoorRows.lean that lists a variable, with what it lists TIED to the program's text (the seventh form; the later family's looks); each row that meets fmt, with fmt's text TOLD by the authors' own Lean function (tested against real Go, not proved from fmt's source: count such statements apart). THE CARD IS WHAT COUNTS. Prove the row's statement (the work); the ties are given (YtelmkfkgpnadnaaDoorTie.lean); close each card by the builder's one call (the guide's Derived/Test/ToyasCard.lean, 'card_holds'). Laid BY PROGRAM, IN A SANDBOX (cutbox-door.mjs). By AI agents, Wed Nov 11 2026. No macro, syntax, notation, axiom, sorry.
-/
import Derived.Test.YtelmkfkgpnadnaaDoorRows
import GoSem.ClaimSeven
namespace Go.Proofs.YtelmkfkgpnadnaaDoor
namespace Rows

/-- THE TIED CARD OF 'pinsetlaw.Compares'. -/
def comparesCard : Claim7 := { stood := { row := comparesRow, standIns := [], harness := (true, "e01dfff65f0704b03ea3bd5bc01efd018079e5c6eff112c7030417ae7a37f30b"), looks := true }, kinds := [], alts := [], laidByText := true, laidKinds := [.data, .data, .data, .data, .sentinel, .sentinel, .pinned], laidTests := true, laidLooks := .later }
def ComparesCardSaid : Prop := Claim7.holds Tryd.pinned (.plain (OpenSpec.ofChange comparesSpec)) comparesCard

/-- THE TIED CARD OF 'pinsetkeep.Rankings'. -/
def rankingsCard : Claim7 := { stood := { row := rankingsRow, standIns := [], harness := (true, "e01dfff65f0704b03ea3bd5bc01efd018079e5c6eff112c7030417ae7a37f30b"), looks := true }, kinds := [], alts := [], laidByText := true, laidKinds := [.data, .data, .data, .data, .sentinel, .sentinel, .pinned], laidTests := true, laidLooks := .later }
def RankingsCardSaid : Prop := Claim7.holds Tryd.pinned (.plain (OpenSpec.ofChange rankingsSpec)) rankingsCard

/-- THE SECOND FORM's CARD OF 'pinsetlaw.Compares'. -/
def comparesUptoCard : Claim7 := { stood := { row := comparesUptoRow, standIns := [], harness := (true, "e01dfff65f0704b03ea3bd5bc01efd018079e5c6eff112c7030417ae7a37f30b"), looks := true }, kinds := [], alts := [], laidByText := true, laidKinds := [.data, .data, .data, .data, .sentinel, .sentinel, .pinned], laidTests := true, laidLooks := .later }
def ComparesUptoCardSaid : Prop := Claim7.holds Tryd.pinned (.plain (OpenSpec.upto comparesSpec)) comparesUptoCard

/-- THE SECOND FORM's CARD OF 'pinsetkeep.Rankings'. -/
def rankingsUptoCard : Claim7 := { stood := { row := rankingsUptoRow, standIns := [], harness := (true, "e01dfff65f0704b03ea3bd5bc01efd018079e5c6eff112c7030417ae7a37f30b"), looks := true }, kinds := [], alts := [], laidByText := true, laidKinds := [.data, .data, .data, .data, .sentinel, .sentinel, .pinned], laidTests := true, laidLooks := .later }
def RankingsUptoCardSaid : Prop := Claim7.holds Tryd.pinned (.plain (OpenSpec.upto rankingsSpec)) rankingsUptoCard
end Rows
end Go.Proofs.YtelmkfkgpnadnaaDoor
