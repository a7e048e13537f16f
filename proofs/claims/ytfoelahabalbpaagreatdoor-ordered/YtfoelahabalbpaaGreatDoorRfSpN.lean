/-
  The reference: Steps refuses lists that may not be, or are not whole.
-/
import Derived.Test.YtfoelahabalbpaaGreatDoorJ7
import Derived.Test.YtfoelahabalbpaaGreatDoorJ5
import Derived.Test.YtfoelahabalbpaaGreatDoorJ11
import Derived.Deep.DeepCutAuto
namespace Go.Proofs.YtfoelahabalbpaaGreatDoor
open Go.RowKit

/-- A list that may be, and is whole. -/
def FineP (l : List Resd) : Prop := mayAllB l = true ∧ WholeP l
theorem may_few {l : List Resd} (h : mayAllB l = true) : l.length ≤ 12 := by
  simp only [mayAllB, Bool.and_eq_true, decide_eq_true_eq] at h
  exact h.1.1

end Go.Proofs.YtfoelahabalbpaaGreatDoor
