/-
  The document's find: the place of an ID.
-/
/-
  The plain plan by marks: what is to be made, what is to be taken away.
-/
import Derived.Test.YtfoelahabalbpaaGreatDoorJ3
import Derived.Deep.QuietTactic
import Derived.BigQuiet
namespace Go.Proofs.YtfoelahabalbpaaGreatDoor
open Go.RowKit

theorem ba_ne {a b : ByteArray} (h : ¬ a = b) : ¬ a.toList = b.toList := fun e => h (by
  rw [ByteArray.toList_eq, ByteArray.toList_eq] at e
  apply ByteArray.ext; apply Array.toList_inj.1; exact e)
def placeI (l : List Resd) (a : IDd) : Int := match placeL l a with
  | some j => (j : Int)
  | none => -1
def hitI (x : Resd) (a : IDd) : Bool := decide (x.id.kind = a.kind ∧ x.id.name = a.name)
theorem place_at {l : List Resd} {a : IDd} {j : Nat} {x : Resd} (h : ∀ i y, i < j → l[i]? = some y → hitI y a = false) (hx : l[j]? = some x) (hh : hitI x a = true) : placeI l a = j := by
  obtain ⟨hj, rfl⟩ := List.getElem?_eq_some_iff.1 hx
  have : placeL l a = some j := List.findIdx?_eq_some_iff_getElem.2 ⟨hj, hh, fun i hi => by
    have := h i l[i] hi (List.getElem?_eq_getElem (by omega))
    simpa [hitI] using this⟩
  unfold placeI; rw [this]
theorem place_no {l : List Resd} {a : IDd} (h : ∀ (i : Nat) y, l[i]? = some y → hitI y a = false) : placeI l a = -1 := by
  have : placeL l a = none := List.findIdx?_eq_none_iff.2 fun y hy => by
    obtain ⟨i, hi, rfl⟩ := List.getElem_of_mem hy
    exact h i _ (List.getElem?_eq_getElem hi)
  unfold placeI; rw [this]

end Go.Proofs.YtfoelahabalbpaaGreatDoor

namespace Go.Proofs.YtfoelahabalbpaaGreatDoor
open Go.RowKit

theorem id_hit {x : Resd} {a : IDd} : (x.id.kind = a.kind ∧ x.id.name = a.name) ↔ x.id = a := by
  constructor
  · intro h
    cases hq : x.id; cases a; rw [hq] at h; dsimp only at h; rw [h.1, h.2]
  · intro h; rw [h]; exact ⟨rfl, rfl⟩
open Classical in
theorem find_place {l : List Resd} {a : IDd} : l.find? (fun o => decide (o.id = a)) = match placeL l a with
    | some j => l[j]?
    | none => none := by
  have hp : (fun o : Resd => decide (o.id = a)) = fun o : Resd => decide (o.id.kind = a.kind ∧ o.id.name = a.name) := by
    funext o
    exact decide_eq_decide.2 id_hit.symm
  rw [hp]
  unfold placeL
  induction l with
  | nil => rfl
  | cons x l ih =>
    by_cases hx : (x.id.kind = a.kind ∧ x.id.name = a.name)
    · rw [List.find?_cons_of_pos (by simpa using hx), List.findIdx?_cons, if_pos (by simpa using hx)]
      rfl
    · rw [List.find?_cons_of_neg (by simpa using hx), List.findIdx?_cons, if_neg (by simpa using hx), ih]
      cases List.findIdx? (fun o : Resd => decide (o.id.kind = a.kind ∧ o.id.name = a.name)) l with
      | none => rfl
      | some j => simp
/-- What is done to a resource that is to be made. -/
def opOf (old : List Resd) (r : Resd) : Nat := match placeL old r.id with
  | some _ => 2
  | none => 1
open Classical in
/-- Is a resource to be made? -/
noncomputable def isMake (old : List Resd) (r : Resd) : Bool := match placeL old r.id with
  | some j => decide (old[j]? ≠ some r)
  | none => true
theorem make_is (old : List Resd) (r : Resd) : makeOf old r = if isMake old r = true then some ⟨opOf old r, r⟩ else none := by
  classical
  unfold makeOf isMake opOf
  rw [find_place]
  cases hp : placeL old r.id with
  | none => rfl
  | some j =>
    obtain ⟨o, ho, -⟩ := place_id hp
    by_cases h : o = r
    · simp [ho, h]
    · simp [ho, h]
open Classical in
/-- Is a resource to be taken away? -/
noncomputable def isGone (want : List Resd) (r : Resd) : Bool := decide (r.id ∉ want.map Resd.id)
theorem dels_flag (old want : List Resd) : delsL old want = flagT (fun _ => 3) old (old.map (isGone want)) := by
  unfold delsL
  exact flag_filter (op := fun _ => 3) (p := isGone want) old
end Go.Proofs.YtfoelahabalbpaaGreatDoor
