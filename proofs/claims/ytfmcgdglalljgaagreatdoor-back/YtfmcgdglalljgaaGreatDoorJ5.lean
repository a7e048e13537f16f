/-
  The document's circles: who waits for itself.
-/
/-
  The document's Whole.
-/
import Derived.Test.YtfmcgdglalljgaaGreatDoorJ4
import Derived.Test.YtfmcgdglalljgaaGreatDoorJ1
import Derived.Deep.OwnRows
namespace Go.Proofs.YtfmcgdglalljgaaGreatDoor
open Go.RowKit

def rowB (w : World) (b : Nat) (r : List Bool) : Prop := w.rowIs b 4 r.length (fun j => .bool (r.getD j false))
theorem rowB.cell {w : World} {b : Nat} {r : List Bool} (h : rowB w b r) {i : Nat} {q : Bool} (hi : r[i]? = some q) : w.cell? ⟨b, i, none⟩ = some (.bool q) := by
  rw [World.rowIs.cell h (List.getElem?_eq_some_iff.1 hi).1, List.getD_eq_getElem?_getD, hi]; rfl
theorem rowB.set {w : World} {b : Nat} {r : List Bool} (h : rowB w b r) (i : Nat) (q : Bool) : rowB (w.setCell ⟨b, i, none⟩ (.bool q)) b (r.set i q) := by
  have := World.rowIs.set h i (.bool q)
  unfold rowB
  rw [List.length_set]
  refine World.rowIs.congr this fun j hj => ?_
  simp only [List.getD_eq_getElem?_getD, List.getElem?_set]
  split
  · rename_i e; subst e; simp [hj]
  · rename_i e; rw [if_neg (fun e' => e e'.symm)]
theorem rowB.ext {w w' : World} {b : Nat} {r : List Bool} (h : rowB w b r) (e : Ext w w') : rowB w' b r := World.rowIs.of_block h (Below.block e b (World.rowIs.lt h))
def InC (w : World) (i Rb : Nat) (q : List Bool) (wr : World) (r : List Bool) (qi : Bool) : Prop := rowB wr w.heap.size (q.set i qi) ∧ rowB wr Rb r ∧ Ext w wr
theorem InC.ext {w wr wr' : World} {i Rb : Nat} {q r : List Bool} {qi : Bool} (h : InC w i Rb q wr r qi) (e : Ext wr wr') : InC w i Rb q wr' r qi := ⟨h.1.ext e, h.2.1.ext e, h.2.2.trans e⟩
theorem InC.mark {w wr : World} {i Rb : Nat} {q r : List Bool} {qi : Bool} (h : InC w i Rb q wr r qi) (hlt : w.heap.size < Rb) (b : Bool) (j : Nat) : InC w i Rb q ((wr.setCell ⟨w.heap.size, i, none⟩ (.bool b)).setCell ⟨Rb, j, none⟩ (.bool true)) (r.set j true) b := by
  obtain ⟨h1, h2, h3⟩ := h
  have k1 := h1.set i b
  rw [List.set_set] at k1
  have k2 : rowB (wr.setCell ⟨w.heap.size, i, none⟩ (.bool b)) Rb r := World.rowIs.setOther h2 (show Rb ≠ w.heap.size by omega) _
  refine ⟨World.rowIs.setOther k1 (show w.heap.size ≠ Rb by omega) _, k2.set j true, ?_⟩
  have e1 : Ext w (wr.setCell ⟨w.heap.size, i, none⟩ (.bool b)) := h3.since (kept_setCell wr _ _) (fun j hj => by subst hj; exact Nat.le_refl _)
  exact e1.since (kept_setCell _ _ _) (fun j hj => by subst hj; exact Nat.le_of_lt hlt)
theorem Rounds.begin {l : List Resd} {i : Nat} (hi : i < l.length) : Rounds l i 0 ((List.replicate l.length false).set i true) false := by
  refine ⟨by simp, by simp [hi], fun k hk => ?_, fun h => (by cases h), .inr ?_⟩
  · rw [List.getElem?_set] at hk
    split at hk
    · rename_i e; subst e; exact .here
    · simp [List.getElem?_replicate] at hk
  · rw [marks_set (by simp [hi])]; omega

end Go.Proofs.YtfmcgdglalljgaaGreatDoor

namespace Go.Proofs.YtfmcgdglalljgaaGreatDoor
open Go.RowKit

/-- What is waited for is there, and nobody waits for itself. -/
def WholeP (l : List Resd) : Prop := (∀ (i : Nat) x, l[i]? = some x → ∀ (k : Nat) a, x.after[k]? = some a → ∃ j, placeL l a = some j) ∧ ∀ i, i < l.length → ¬ Circ l i

end Go.Proofs.YtfmcgdglalljgaaGreatDoor
