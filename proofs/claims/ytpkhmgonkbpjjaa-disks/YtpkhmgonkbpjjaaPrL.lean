/-
  The text of resources, as a function of them.
-/
import Derived.Test.YtpkhmgonkbpjjaaJ1
import Derived.Lib.ItoaNum
import Derived.Lib.Join
namespace Go.Proofs.Ytpkhmgonkbpjjaa
open Go.RowKit

end Go.Proofs.Ytpkhmgonkbpjjaa
