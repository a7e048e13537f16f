/-
  The document's find: the place of an ID.
-/
/-
  The plain plan by marks: what is to be made, what is to be taken away.
-/
import Derived.Test.YtfmcgdglalljgaaGreatDoorJ1
import Derived.Deep.QuietTactic
import Derived.BigQuiet
import Derived.Test.YtfmcgdglalljgaaGreatDoorJ3
namespace Go.Proofs.YtfmcgdglalljgaaGreatDoor
open Go.RowKit

theorem ba_ne {a b : ByteArray} (h : ¬ a = b) : ¬ a.toList = b.toList := fun e => h (by
  rw [ByteArray.toList_eq, ByteArray.toList_eq] at e
  apply ByteArray.ext; apply Array.toList_inj.1; exact e)
def placeI (l : List Resd) (a : IDd) : Int := match placeL l a with
  | some j => (j : Int)
  | none => -1
def hitI (x : Resd) (a : IDd) : Bool := decide (x.id.kind = a.kind ∧ x.id.name = a.name)
theorem place_at {l : List Resd} {a : IDd} {j : Nat} {x : Resd} (h : ∀ i y, i < j → l[i]? = some y → hitI y a = false) (hx : l[j]? = some x) (hh : hitI x a = true) : placeI l a = j := by
  obtain ⟨hj, rfl⟩ := List.getElem?_eq_some_iff.1 hx
  have : placeL l a = some j := List.findIdx?_eq_some_iff_getElem.2 ⟨hj, hh, fun i hi => by
    have := h i l[i] hi (List.getElem?_eq_getElem (by omega))
    simpa [hitI] using this⟩
  unfold placeI; rw [this]
theorem place_no {l : List Resd} {a : IDd} (h : ∀ (i : Nat) y, l[i]? = some y → hitI y a = false) : placeI l a = -1 := by
  have : placeL l a = none := List.findIdx?_eq_none_iff.2 fun y hy => by
    obtain ⟨i, hi, rfl⟩ := List.getElem_of_mem hy
    exact h i _ (List.getElem?_eq_getElem hi)
  unfold placeI; rw [this]

end Go.Proofs.YtfmcgdglalljgaaGreatDoor

namespace Go.Proofs.YtfmcgdglalljgaaGreatDoor
open Go.RowKit

end Go.Proofs.YtfmcgdglalljgaaGreatDoor
