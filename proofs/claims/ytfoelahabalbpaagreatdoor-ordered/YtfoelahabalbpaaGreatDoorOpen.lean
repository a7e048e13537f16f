/-
  The argument of Prints, opened: a list of resources.
-/
import Derived.Test.YtfoelahabalbpaaGreatDoorJ7
import Derived.Test.YtfoelahabalbpaaGreatDoorJ1
import Derived.Test.YtfoelahabalbpaaGreatDoorRows
import Derived.ProofKit
import Derived.OpenShut
import Derived.Deep.Strs
namespace Go.Proofs.YtfoelahabalbpaaGreatDoor
open Go.ChangeShapes Go.WideShapes Go.ChangeAt Go.RowKit Go.Deep

instance : Inhabited IDd := ⟨markI⟩
instance : Inhabited Attrd := ⟨markA⟩
instance : Inhabited Resd := ⟨markR⟩
theorem cellsInt : Tryz.prog.cellsOf 3 = 1 := by kernel_rfl
section
variable {H : Type} {enc : TypeId × Value → H} {w : World} {base : Nat} {spare : Nat → Bool} {held : Bool}
end
end Go.Proofs.YtfoelahabalbpaaGreatDoor
