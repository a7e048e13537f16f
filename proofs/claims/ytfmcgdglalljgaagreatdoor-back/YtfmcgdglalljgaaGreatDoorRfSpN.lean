/-
  The reference: Steps refuses lists that may not be, or are not whole.
-/
import Derived.Test.YtfmcgdglalljgaaGreatDoorJ10
import Derived.Test.YtfmcgdglalljgaaGreatDoorJ5
import Derived.Test.YtfmcgdglalljgaaGreatDoorJ14
import Derived.Deep.DeepCutAuto
namespace Go.Proofs.YtfmcgdglalljgaaGreatDoor
open Go.RowKit

/-- A list that may be, and is whole. -/
def FineP (l : List Resd) : Prop := mayAllB l = true ∧ WholeP l
end Go.Proofs.YtfmcgdglalljgaaGreatDoor
