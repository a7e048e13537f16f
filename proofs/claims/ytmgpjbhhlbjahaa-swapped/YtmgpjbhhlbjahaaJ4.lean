/-
  Lists out of bytes: what the program's functions that read them answer.
-/
/-
  Resources out of bytes: what the program's function that reads them answers.
-/
import Derived.Test.YtmgpjbhhlbjahaaRead
import Derived.Test.YtmgpjbhhlbjahaaCells
namespace Go.Proofs.Ytmgpjbhhlbjahaa
open Go.RowKit

end Go.Proofs.Ytmgpjbhhlbjahaa

namespace Go.Proofs.Ytmgpjbhhlbjahaa
open Go.RowKit

theorem ownsRow_low {w : World} {base base' : Nat} {e : TypeId} {size : Nat} {v : Value} {n : Nat} {xs : List Value} (h : w.ownsRow base e size v n xs) (hb : base' ≤ base) : w.ownsRow base' e size v n xs := by
  obtain ⟨h1, h2⟩ := h
  refine ⟨h1, h2.imp id ?_⟩
  rintro ⟨g, cap, cur, hv, hg, r⟩
  exact ⟨g, cap, cur, hv, Nat.le_trans hb hg, r⟩
theorem ownsRow_set {w : World} {I j : Nat} {c : Array Value} {t : TypeId} {fz : Nat × Nat} {base : Nat} {e : TypeId} {size : Nat} {v : Value} {n : Nat} {xs : List Value} (h : w.ownsRow base e size v n xs) (hI : w.heap[I]? = some (.cells c t fz)) (hne : t ≠ e) (u : Value) : (w.setCell ⟨I, j, none⟩ u).ownsRow base e size v n xs :=
  ownsRow_wrote h ((Wrote.refl 0 (· = t) w).setCell (p := ⟨I, j, none⟩) (Nat.zero_le _) hI rfl u) (fun h => hne h.symm) rfl

end Go.Proofs.Ytmgpjbhhlbjahaa
