/-
  A number as digits: what the reference's function answers; the marks.
-/
import Derived.Test.YtfmcgdglalljgaaGreatDoorJ1
import Derived.Lib.ItoaNum
import Derived.Deep.QuietTactic
import Derived.BigQuiet
import Derived.Deep.RegionHeld3
import Derived.Deep.RegionWith
import Derived.Deep.DrawnRows
namespace Go.Proofs.YtfmcgdglalljgaaGreatDoor
open Go.RowKit

attribute [local go_sem ↓] Go.wp_at_zero Go.wp_at_succ
theorem decLen (q : Nat) (this : q ≤ 100000000000) : (Lib.decDigits q).length ≤ 13 := by
  rw [Lib.decDigits_length]
  rw [Lib.nDigits]; split; · omega
  rw [Lib.nDigits]; split; · omega
  rw [Lib.nDigits]; split; · omega
  rw [Lib.nDigits]; split; · omega
  rw [Lib.nDigits]; split; · omega
  rw [Lib.nDigits]; split; · omega
  rw [Lib.nDigits]; split; · omega
  rw [Lib.nDigits]; split; · omega
  rw [Lib.nDigits]; split; · omega
  rw [Lib.nDigits]; split; · omega
  rw [Lib.nDigits]; split; · omega
  rw [Lib.nDigits]; split; · omega
  rw [Lib.nDigits]; split
  · omega
  · omega
end Go.Proofs.YtfmcgdglalljgaaGreatDoor
