/-
  IDs, Attrs and resources as bytes: what the program's functions that write them answer.
-/
import Derived.Test.YtmgpjbhhlbjahaaWire
import Derived.Test.YtmgpjbhhlbjahaaJ3
namespace Go.Proofs.Ytmgpjbhhlbjahaa
open Go.RowKit

end Go.Proofs.Ytmgpjbhhlbjahaa
