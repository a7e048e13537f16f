/-
  IDs and Attrs out of bytes: what the program's functions that read them answer.
-/
import Derived.Test.YtmgpjbhhlbjahaaReader
import Derived.Test.YtmgpjbhhlbjahaaEnc
import Derived.Deep.RegionHeld3
namespace Go.Proofs.Ytmgpjbhhlbjahaa
open Go.RowKit

theorem row_frozen {w : World} {b : Nat} {cs : Array Value} {t : TypeId} (h : w.heap[b]? = some (.cells cs t (0, 0))) (j : Nat) : w.frozen? ⟨b, j, none⟩ = false := by simp [World.frozen?, h]
end Go.Proofs.Ytmgpjbhhlbjahaa
