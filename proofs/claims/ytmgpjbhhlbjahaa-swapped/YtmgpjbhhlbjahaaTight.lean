/-
  append onto a row of our own: what the old row is behind it.
-/
import Derived.Test.YtmgpjbhhlbjahaaCells
import Derived.Deep.AppendLies
namespace Go.Proofs.Ytmgpjbhhlbjahaa
open Go.RowKit

end Go.Proofs.Ytmgpjbhhlbjahaa
