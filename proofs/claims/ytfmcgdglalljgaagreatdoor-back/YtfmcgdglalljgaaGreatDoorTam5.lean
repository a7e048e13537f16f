/-
  Resources without one, and whether one is there.
-/
import Derived.Test.YtfmcgdglalljgaaGreatDoorTam4
namespace Go.Proofs.YtfmcgdglalljgaaGreatDoor
open Go.RowKit

attribute [local go_sem] Go.World.cell?_alloc_some
end Go.Proofs.YtfmcgdglalljgaaGreatDoor
