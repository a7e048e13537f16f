/-
  The document's find: the place of an ID.
-/
import Derived.Test.YtfnbbohbicffpaaGreatDoorJ3
import Derived.Deep.QuietTactic
import Derived.BigQuiet
namespace Go.Proofs.YtfnbbohbicffpaaGreatDoor
open Go.RowKit

theorem ba_ne {a b : ByteArray} (h : ¬ a = b) : ¬ a.toList = b.toList := fun e => h (by
  rw [ByteArray.toList_eq, ByteArray.toList_eq] at e
  apply ByteArray.ext; apply Array.toList_inj.1; exact e)
end Go.Proofs.YtfnbbohbicffpaaGreatDoor
