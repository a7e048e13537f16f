/-
  DERIVED. GIVEN WITH THE SEED: THE CARDS: each row of YtfmcgdglalljgaaGreatDoorRows.lean that lists a variable, with what it lists TIED to the program's text (the seventh form; the later family's looks); each row that meets fmt, with fmt's text TOLD by the authors' own Lean function (tested against real Go, not proved from fmt's source: count such statements apart). THE CARD IS WHAT COUNTS. Prove the row's statement (the work); the ties are given (YtfmcgdglalljgaaGreatDoorTie.lean); close each card by the builder's one call (the guide's Derived/Test/ToyasCard.lean, 'card_holds'). Laid BY PROGRAM, IN A SANDBOX (cutbox-door.mjs). By AI agents, Wed Nov 11 2026. No macro, syntax, notation, axiom, sorry.
-/
import Derived.Test.YtfmcgdglalljgaaGreatDoorRows
import GoSem.ClaimSeven
namespace Go.Proofs.YtfmcgdglalljgaaGreatDoor
namespace Rows

/-- THE TIED CARD OF 'masonlaw.Back'. -/
def backCard : Claim7 := { stood := { row := backRow, standIns := [], harness := (true, "c60d2e215121ab49bcd924713baff2f351e5c38435a46c1d1fa709f4809282d9"), looks := false }, kinds := [], alts := [], laidByText := true, laidKinds := [.data, .data, .data], laidTests := true, laidLooks := .later }
def BackCardSaid : Prop := Claim7.holds Tryz.pinned (.plain (OpenSpec.ofChange backSpec)) backCard

/-- THE SECOND FORM's CARD OF 'masonlaw.Back'. -/
def backUptoCard : Claim7 := { stood := { row := backUptoRow, standIns := [], harness := (true, "c60d2e215121ab49bcd924713baff2f351e5c38435a46c1d1fa709f4809282d9"), looks := false }, kinds := [], alts := [], laidByText := true, laidKinds := [.data, .data, .data], laidTests := true, laidLooks := .later }
def BackUptoCardSaid : Prop := Claim7.holds Tryz.pinned (.plain (OpenSpec.upto backSpec)) backUptoCard
end Rows
end Go.Proofs.YtfmcgdglalljgaaGreatDoor
