/-
  Bytes as cells: rows of bytes of our own, as strings.
-/
import Derived.Test.YtmgpjbhhlbjahaaConv
import Derived.Deep.AppendLies
namespace Go.Proofs.Ytmgpjbhhlbjahaa
open Go.RowKit

theorem info_of {P : Program} {t : TypeId} {z : Value} {s b : Nat} (h : (P.info? t).map (fun i => (i.zero, i.size, i.bytes)) = some (some z, s, b)) :
    ∃ i, P.info? t = some i ∧ i.zero = some z ∧ i.size = s ∧ i.bytes = b := by
  cases hi : P.info? t with
  | none => rw [hi] at h; cases h
  | some i => rw [hi] at h; simp at h; exact ⟨i, rfl, h.1, h.2.1, h.2.2⟩
def cellsB (l : List UInt8) : List Value := l.map fun c => .int .u8 (c.toNat : Int)
theorem cellsB_append (a b : List UInt8) : cellsB (a ++ b) = cellsB a ++ cellsB b := by simp [cellsB]
theorem cellsB_length (a : List UInt8) : (cellsB a).length = a.length := by simp [cellsB]
end Go.Proofs.Ytmgpjbhhlbjahaa
