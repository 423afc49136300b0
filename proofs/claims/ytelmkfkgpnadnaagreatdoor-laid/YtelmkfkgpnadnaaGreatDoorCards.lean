/-
  DERIVED. GIVEN WITH THE SEED: THE CARDS: each row of YtelmkfkgpnadnaaGreatDoorRows.lean that lists a variable, with what it lists TIED to the program's text (the seventh form; the later family's looks); each row that meets fmt, with fmt's text TOLD by the authors' own Lean function (tested against real Go, not proved from fmt's source: count such statements apart). THE CARD IS WHAT COUNTS. Prove the row's statement (the work); the ties are given (YtelmkfkgpnadnaaGreatDoorTie.lean); close each card by the builder's one call (the guide's Derived/Test/ToyasCard.lean, 'card_holds'). Laid BY PROGRAM, IN A SANDBOX (cutbox-door.mjs). By AI agents, Wed Nov 11 2026. No macro, syntax, notation, axiom, sorry.
-/
import Derived.Test.YtelmkfkgpnadnaaGreatDoorRows
import GoSem.ClaimSeven
namespace Go.Proofs.YtelmkfkgpnadnaaGreatDoor
namespace Rows

/-- THE TIED CARD OF 'pinsetlaw.Manifests'. -/
def manifestsCard : Claim7 := { stood := { row := manifestsRow, standIns := [], harness := (true, "c142141feae90094ad59e468be483a9733162d08cb4a97ce71b5ba5e2d658a56"), looks := true }, kinds := [], alts := [], laidByText := true, laidKinds := [.data, .data, .data, .data, .sentinel, .sentinel, .pinned], laidTests := true, laidLooks := .later }
def ManifestsCardSaid : Prop := Claim7.holds Tryz.pinned (.plain (OpenSpec.ofChange manifestsSpec)) manifestsCard

/-- THE TIED CARD OF 'pinsetlaw.Formats'. -/
def formatsCard : Claim7 := { stood := { row := formatsRow, standIns := [], harness := (true, "c142141feae90094ad59e468be483a9733162d08cb4a97ce71b5ba5e2d658a56"), looks := true }, kinds := [], alts := [], laidByText := true, laidKinds := [.data, .data, .data, .data, .sentinel, .sentinel, .pinned], laidTests := true, laidLooks := .later }
def FormatsCardSaid : Prop := Claim7.holds Tryz.pinned (.plain (OpenSpec.ofChange formatsSpec)) formatsCard

/-- THE TIED CARD OF 'pinsetlaw.Indexes'. -/
def indexesCard : Claim7 := { stood := { row := indexesRow, standIns := [], harness := (true, "c142141feae90094ad59e468be483a9733162d08cb4a97ce71b5ba5e2d658a56"), looks := true }, kinds := [], alts := [], laidByText := true, laidKinds := [.data, .data, .data, .data, .sentinel, .sentinel, .pinned], laidTests := true, laidLooks := .later }
def IndexesCardSaid : Prop := Claim7.holds Tryz.pinned (.plain (OpenSpec.ofChange indexesSpec)) indexesCard

/-- THE TIED CARD OF 'pinsetkeep.Rounded'. -/
def roundedCard : Claim7 := { stood := { row := roundedRow, standIns := [], harness := (true, "c142141feae90094ad59e468be483a9733162d08cb4a97ce71b5ba5e2d658a56"), looks := true }, kinds := [], alts := [], laidByText := true, laidKinds := [.data, .data, .data, .data, .sentinel, .sentinel, .pinned], laidTests := true, laidLooks := .later }
def RoundedCardSaid : Prop := Claim7.holds Tryz.pinned (.plain (OpenSpec.ofChange roundedSpec)) roundedCard

/-- THE TIED CARD OF 'pinsetlaw.Edits'. -/
def editsCard : Claim7 := { stood := { row := editsRow, standIns := [], harness := (true, "c142141feae90094ad59e468be483a9733162d08cb4a97ce71b5ba5e2d658a56"), looks := true }, kinds := [], alts := [], laidByText := true, laidKinds := [.data, .data, .data, .data, .sentinel, .sentinel, .pinned], laidTests := true, laidLooks := .later }
def EditsCardSaid : Prop := Claim7.holds Tryz.pinned (.plain (OpenSpec.ofChange editsSpec)) editsCard

/-- THE TIED CARD OF 'pinsetkeep.Least'. -/
def leastCard : Claim7 := { stood := { row := leastRow, standIns := [], harness := (true, "c142141feae90094ad59e468be483a9733162d08cb4a97ce71b5ba5e2d658a56"), looks := true }, kinds := [], alts := [], laidByText := true, laidKinds := [.data, .data, .data, .data, .sentinel, .sentinel, .pinned], laidTests := true, laidLooks := .later }
def LeastCardSaid : Prop := Claim7.holds Tryz.pinned (.plain (OpenSpec.ofChange leastSpec)) leastCard

/-- THE TIED CARD OF 'pinsetkeep.Laid'. -/
def laidCard : Claim7 := { stood := { row := laidRow, standIns := [], harness := (true, "c142141feae90094ad59e468be483a9733162d08cb4a97ce71b5ba5e2d658a56"), looks := true }, kinds := [], alts := [], laidByText := true, laidKinds := [.data, .data, .data, .data, .sentinel, .sentinel, .pinned], laidTests := true, laidLooks := .later }
def LaidCardSaid : Prop := Claim7.holds Tryz.pinned (.plain (OpenSpec.ofChange laidSpec)) laidCard

/-- THE TIED CARD OF 'pinsetkeep.Folded'. -/
def foldedCard : Claim7 := { stood := { row := foldedRow, standIns := [], harness := (true, "c142141feae90094ad59e468be483a9733162d08cb4a97ce71b5ba5e2d658a56"), looks := true }, kinds := [], alts := [], laidByText := true, laidKinds := [.data, .data, .data, .data, .sentinel, .sentinel, .pinned], laidTests := true, laidLooks := .later }
def FoldedCardSaid : Prop := Claim7.holds Tryz.pinned (.plain (OpenSpec.ofChange foldedSpec)) foldedCard

/-- THE SECOND FORM's CARD OF 'pinsetlaw.Manifests'. -/
def manifestsUptoCard : Claim7 := { stood := { row := manifestsUptoRow, standIns := [], harness := (true, "c142141feae90094ad59e468be483a9733162d08cb4a97ce71b5ba5e2d658a56"), looks := true }, kinds := [], alts := [], laidByText := true, laidKinds := [.data, .data, .data, .data, .sentinel, .sentinel, .pinned], laidTests := true, laidLooks := .later }
def ManifestsUptoCardSaid : Prop := Claim7.holds Tryz.pinned (.plain (OpenSpec.upto manifestsSpec)) manifestsUptoCard

/-- THE SECOND FORM's CARD OF 'pinsetlaw.Formats'. -/
def formatsUptoCard : Claim7 := { stood := { row := formatsUptoRow, standIns := [], harness := (true, "c142141feae90094ad59e468be483a9733162d08cb4a97ce71b5ba5e2d658a56"), looks := true }, kinds := [], alts := [], laidByText := true, laidKinds := [.data, .data, .data, .data, .sentinel, .sentinel, .pinned], laidTests := true, laidLooks := .later }
def FormatsUptoCardSaid : Prop := Claim7.holds Tryz.pinned (.plain (OpenSpec.upto formatsSpec)) formatsUptoCard

/-- THE SECOND FORM's CARD OF 'pinsetlaw.Indexes'. -/
def indexesUptoCard : Claim7 := { stood := { row := indexesUptoRow, standIns := [], harness := (true, "c142141feae90094ad59e468be483a9733162d08cb4a97ce71b5ba5e2d658a56"), looks := true }, kinds := [], alts := [], laidByText := true, laidKinds := [.data, .data, .data, .data, .sentinel, .sentinel, .pinned], laidTests := true, laidLooks := .later }
def IndexesUptoCardSaid : Prop := Claim7.holds Tryz.pinned (.plain (OpenSpec.upto indexesSpec)) indexesUptoCard

/-- THE SECOND FORM's CARD OF 'pinsetkeep.Rounded'. -/
def roundedUptoCard : Claim7 := { stood := { row := roundedUptoRow, standIns := [], harness := (true, "c142141feae90094ad59e468be483a9733162d08cb4a97ce71b5ba5e2d658a56"), looks := true }, kinds := [], alts := [], laidByText := true, laidKinds := [.data, .data, .data, .data, .sentinel, .sentinel, .pinned], laidTests := true, laidLooks := .later }
def RoundedUptoCardSaid : Prop := Claim7.holds Tryz.pinned (.plain (OpenSpec.upto roundedSpec)) roundedUptoCard

/-- THE SECOND FORM's CARD OF 'pinsetlaw.Edits'. -/
def editsUptoCard : Claim7 := { stood := { row := editsUptoRow, standIns := [], harness := (true, "c142141feae90094ad59e468be483a9733162d08cb4a97ce71b5ba5e2d658a56"), looks := true }, kinds := [], alts := [], laidByText := true, laidKinds := [.data, .data, .data, .data, .sentinel, .sentinel, .pinned], laidTests := true, laidLooks := .later }
def EditsUptoCardSaid : Prop := Claim7.holds Tryz.pinned (.plain (OpenSpec.upto editsSpec)) editsUptoCard

/-- THE SECOND FORM's CARD OF 'pinsetkeep.Least'. -/
def leastUptoCard : Claim7 := { stood := { row := leastUptoRow, standIns := [], harness := (true, "c142141feae90094ad59e468be483a9733162d08cb4a97ce71b5ba5e2d658a56"), looks := true }, kinds := [], alts := [], laidByText := true, laidKinds := [.data, .data, .data, .data, .sentinel, .sentinel, .pinned], laidTests := true, laidLooks := .later }
def LeastUptoCardSaid : Prop := Claim7.holds Tryz.pinned (.plain (OpenSpec.upto leastSpec)) leastUptoCard

/-- THE SECOND FORM's CARD OF 'pinsetkeep.Laid'. -/
def laidUptoCard : Claim7 := { stood := { row := laidUptoRow, standIns := [], harness := (true, "c142141feae90094ad59e468be483a9733162d08cb4a97ce71b5ba5e2d658a56"), looks := true }, kinds := [], alts := [], laidByText := true, laidKinds := [.data, .data, .data, .data, .sentinel, .sentinel, .pinned], laidTests := true, laidLooks := .later }
def LaidUptoCardSaid : Prop := Claim7.holds Tryz.pinned (.plain (OpenSpec.upto laidSpec)) laidUptoCard

/-- THE SECOND FORM's CARD OF 'pinsetkeep.Folded'. -/
def foldedUptoCard : Claim7 := { stood := { row := foldedUptoRow, standIns := [], harness := (true, "c142141feae90094ad59e468be483a9733162d08cb4a97ce71b5ba5e2d658a56"), looks := true }, kinds := [], alts := [], laidByText := true, laidKinds := [.data, .data, .data, .data, .sentinel, .sentinel, .pinned], laidTests := true, laidLooks := .later }
def FoldedUptoCardSaid : Prop := Claim7.holds Tryz.pinned (.plain (OpenSpec.upto foldedSpec)) foldedUptoCard
end Rows
end Go.Proofs.YtelmkfkgpnadnaaGreatDoor
