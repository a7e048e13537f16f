/-
  The order of IDs and the marks: what each function answers.
-/
/-
  Lists of IDs and Attrs: what the functions that look through them answer.
-/
/-
  Lists of Attrs: what the functions that look through them answer.
-/
/-
  Lists that rise: what the function that looks for it answers.
-/
/-
  Resources that may be: what the program's functions answer.
-/
/-
  The two orders of keys.
-/
import Derived.Test.YtmgpjbhhlbjahaaJ2
import Derived.Deep.QuietTactic
import Derived.BigQuiet
import Derived.Deep.RegionHeld3
import Derived.Test.YtmgpjbhhlbjahaaShelf
import Derived.Test.YtmgpjbhhlbjahaaMem
import Derived.Test.YtmgpjbhhlbjahaaKeyG
import Derived.Test.YtmgpjbhhlbjahaaKeys
namespace Go.Proofs.Ytmgpjbhhlbjahaa
open Go.RowKit

end Go.Proofs.Ytmgpjbhhlbjahaa

namespace Go.Proofs.Ytmgpjbhhlbjahaa
open Go.RowKit

end Go.Proofs.Ytmgpjbhhlbjahaa

namespace Go.Proofs.Ytmgpjbhhlbjahaa
open Go.RowKit

end Go.Proofs.Ytmgpjbhhlbjahaa

namespace Go.Proofs.Ytmgpjbhhlbjahaa
open Go.RowKit

end Go.Proofs.Ytmgpjbhhlbjahaa

namespace Go.Proofs.Ytmgpjbhhlbjahaa
open Go.RowKit

theorem AttrsV.form {w : World} {v : Value} {l : List Attrd} (h : AttrsV w v l) : ∃ a cap, v = .slice a l.length cap := by
  obtain ⟨⟨a, cap, hv, _⟩, _⟩ := h; exact ⟨a, cap, hv⟩
theorem IDsV.form {w : World} {v : Value} {l : List IDd} (h : IDsV w v l) : ∃ a cap, v = .slice a l.length cap := by
  obtain ⟨⟨a, cap, hv, _⟩, _⟩ := h; exact ⟨a, cap, hv⟩

end Go.Proofs.Ytmgpjbhhlbjahaa

namespace Go.Proofs.Ytmgpjbhhlbjahaa
open Go.RowKit

theorem ordS : OrdK cmpS := ⟨cmpS_zero, cmpS_flip, cmpS_trans⟩
end Go.Proofs.Ytmgpjbhhlbjahaa
