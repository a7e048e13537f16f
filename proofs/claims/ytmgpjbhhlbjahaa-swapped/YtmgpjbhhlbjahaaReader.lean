/-
  The reader of bytes: what its methods answer.
-/
import Derived.Test.YtmgpjbhhlbjahaaWrote
import Derived.Test.YtmgpjbhhlbjahaaWire
import Derived.Laws.BitsAllLaws
namespace Go.Proofs.Ytmgpjbhhlbjahaa
open Go.RowKit

end Go.Proofs.Ytmgpjbhhlbjahaa
