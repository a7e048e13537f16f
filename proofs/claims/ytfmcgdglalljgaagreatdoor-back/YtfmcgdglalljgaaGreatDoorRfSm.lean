/-
  The reference: the same resource?
-/
import Derived.Test.YtfmcgdglalljgaaGreatDoorJ1
import Derived.Test.YtfmcgdglalljgaaGreatDoorJ6
import Derived.Deep.QuietTactic
import Derived.BigQuiet
import Derived.Deep.DeepCutAuto
import Derived.Deep.CutBlock
namespace Go.Proofs.YtfmcgdglalljgaaGreatDoor
open Go.RowKit

theorem ba_inj {a b : ByteArray} (h : a.toList = b.toList) : a = b := by
  rw [ByteArray.toList_eq, ByteArray.toList_eq] at h
  cases a with | mk x => cases b with | mk y => simp only at h; rw [Array.toList_inj.1 h]
theorem boxIs {w : World} {k : Nat} {a b c d : Value} {t : TypeId} {fz : Nat × Nat} (hk : w.heap[k]? = some (.cells #[a, b, c, d] t fz)) :
    w.cell? ⟨k, 0, none⟩ = some a ∧ w.cell? ⟨k, 1, none⟩ = some b ∧ w.cell? ⟨k, 2, none⟩ = some c ∧ w.cell? ⟨k, 3, none⟩ = some d := by
  refine ⟨?_, ?_, ?_, ?_⟩ <;> simp [World.cell?, hk]
theorem ext_at {w w' : World} {k : Nat} {o : Obj} (h : Ext w w') (hk : w.heap[k]? = some o) : w'.heap[k]? = some o := by
  rw [Below.block h _ (Array.getElem?_eq_some_iff.1 hk).1]; exact hk

end Go.Proofs.YtfmcgdglalljgaaGreatDoor
