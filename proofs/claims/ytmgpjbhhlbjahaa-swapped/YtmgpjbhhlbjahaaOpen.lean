/-
  The argument of Prints, opened: a list of resources.
-/
import Derived.Test.YtmgpjbhhlbjahaaCells
import Derived.Test.YtmgpjbhhlbjahaaConv
import Derived.Test.YtmgpjbhhlbjahaaRows
import Derived.ProofKit
import Derived.OpenShut
import Derived.Deep.Strs
namespace Go.Proofs.Ytmgpjbhhlbjahaa
open Go.ChangeShapes Go.WideShapes Go.ChangeAt Go.RowKit Go.Deep

instance : Inhabited IDd := ⟨markI⟩
instance : Inhabited Attrd := ⟨markA⟩
instance : Inhabited Resd := ⟨markR⟩
section
variable {H : Type} {enc : TypeId × Value → H} {w : World} {base : Nat} {spare : Nat → Bool} {held : Bool}
end
end Go.Proofs.Ytmgpjbhhlbjahaa
