/-
  A value and refs as text: what the functions answer.
-/
import Derived.Test.YtpkhmgonkbpjjaaQuote
import Derived.Test.YtpkhmgonkbpjjaaJ1
import Derived.Test.YtpkhmgonkbpjjaaShelf
import Derived.Lib.ItoaNum
import Derived.Lib.AppendIntMem
namespace Go.Proofs.Ytpkhmgonkbpjjaa
open Go.RowKit

/-- The table of powers of ten lies there. -/
def TabP (w : World) : Prop := Lib.TabIs Try.prog w "internal/strconv.uint64pow10" .u64 Lib.pow10Tab
theorem TabP.ext {w w' : World} (h : TabP w) (e : Ext w w') : TabP w' := (Lib.tabBelow_of_tabIs h) w' e

theorem infoString : (Try.prog.info? 9).map (fun i => (i.zero, i.size, i.bytes)) = some (some (.string ⟨#[]⟩), 1, 16) := by kernel_rfl

end Go.Proofs.Ytpkhmgonkbpjjaa
