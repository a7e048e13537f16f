/-
  DERIVED. GIVEN WITH THE SEED: THE CARDS: each row of YtfnbbohbicffpaaGreatDoorRows.lean that lists a variable, with what it lists TIED to the program's text (the seventh form; the later family's looks); each row that meets fmt, with fmt's text TOLD by the authors' own Lean function (tested against real Go, not proved from fmt's source: count such statements apart). THE CARD IS WHAT COUNTS. Prove the row's statement (the work); the ties are given (YtfnbbohbicffpaaGreatDoorTie.lean); close each card by the builder's one call (the guide's Derived/Test/ToyasCard.lean, 'card_holds'). Laid BY PROGRAM, IN A SANDBOX (cutbox-door.mjs). By AI agents, Wed Nov 11 2026. No macro, syntax, notation, axiom, sorry.
-/
import Derived.Test.YtfnbbohbicffpaaGreatDoorRows
import GoSem.ClaimSeven
namespace Go.Proofs.YtfnbbohbicffpaaGreatDoor
namespace Rows

/-- THE TIED CARD OF 'masonlaw.Lines'. -/
def linesCard : Claim7 := { stood := { row := linesRow, standIns := [], harness := (true, "8648043d7723d9dd7822c939f8f683286bcfa0457dd805c5e90023a873e71f09"), looks := false }, kinds := [], alts := [], laidByText := true, laidKinds := [.data, .data, .data], laidTests := true, laidLooks := .later }
def LinesCardSaid : Prop := Claim7.holds Tryz.pinned (.plain (OpenSpec.ofChange linesSpec)) linesCard

/-- THE SECOND FORM's CARD OF 'masonlaw.Lines'. -/
def linesUptoCard : Claim7 := { stood := { row := linesUptoRow, standIns := [], harness := (true, "8648043d7723d9dd7822c939f8f683286bcfa0457dd805c5e90023a873e71f09"), looks := false }, kinds := [], alts := [], laidByText := true, laidKinds := [.data, .data, .data], laidTests := true, laidLooks := .later }
def LinesUptoCardSaid : Prop := Claim7.holds Tryz.pinned (.plain (OpenSpec.upto linesSpec)) linesUptoCard
end Rows
end Go.Proofs.YtfnbbohbicffpaaGreatDoor
