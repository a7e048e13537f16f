/-
  The document's find: the place of an ID.
-/
/-
  The plain plan by marks: what is to be made, what is to be taken away.
-/
import Derived.Test.YtodhhjlemmmjcaaGreatJ2
import Derived.Deep.QuietTactic
import Derived.BigQuiet
import Derived.Test.YtodhhjlemmmjcaaGreatJ3
namespace Go.Proofs.YtodhhjlemmmjcaaGreat
open Go.RowKit

theorem ba_ne {a b : ByteArray} (h : ¬ a = b) : ¬ a.toList = b.toList := fun e => h (by
  rw [ByteArray.toList_eq, ByteArray.toList_eq] at e
  apply ByteArray.ext; apply Array.toList_inj.1; exact e)
def placeI (l : List Resd) (a : IDd) : Int := match placeL l a with
  | some j => (j : Int)
  | none => -1
def hitI (x : Resd) (a : IDd) : Bool := decide (x.id.kind = a.kind ∧ x.id.name = a.name)
theorem place_at {l : List Resd} {a : IDd} {j : Nat} {x : Resd} (h : ∀ i y, i < j → l[i]? = some y → hitI y a = false) (hx : l[j]? = some x) (hh : hitI x a = true) : placeI l a = j := by
  obtain ⟨hj, rfl⟩ := List.getElem?_eq_some_iff.1 hx
  have : placeL l a = some j := List.findIdx?_eq_some_iff_getElem.2 ⟨hj, hh, fun i hi => by
    have := h i l[i] hi (List.getElem?_eq_getElem (by omega))
    simpa [hitI] using this⟩
  unfold placeI; rw [this]
theorem place_no {l : List Resd} {a : IDd} (h : ∀ (i : Nat) y, l[i]? = some y → hitI y a = false) : placeI l a = -1 := by
  have : placeL l a = none := List.findIdx?_eq_none_iff.2 fun y hy => by
    obtain ⟨i, hi, rfl⟩ := List.getElem_of_mem hy
    exact h i _ (List.getElem?_eq_getElem hi)
  unfold placeI; rw [this]

set_option maxRecDepth 100000 in
set_option maxHeartbeats 1600000 in
theorem refFind (v : Value) (l : List Resd) (a : IDd) (w : World) (hv : RessV w v l) :
    Calls Tryz.prog 13 #[v, .agg #[.string a.kind, .string a.name]] w fun e w' => e = .returned (.int .i64 (placeI l a)) ∧ Ext w w' := by
  obtain ⟨⟨pa, cap, rfl, hc1, hc2, hin⟩, hfew⟩ := hv
  replace hin := hide hin
  go_enter Tryz.func13, Tryz.ntmps13
  go_wp2_with fail
  have X0 := hide ((Ext.refl w).alloc (.cells #[.string a.kind, .string a.name] 52))
  go_loopw [5] (fun i wr => ∃ j : Nat, j ≤ l.length ∧ i = .int .i64 j ∧ Hid (∀ i y, i < j → l[i]? = some y → hitI y a = false) ∧ Hid (Ext (w.alloc (.cells #[.string a.kind, .string a.name] 52)) wr)) (fun i _ => l.length - (intOf i).toNat)
  case atStart => exact ⟨0, Nat.zero_le _, rfl, fun _ _ h => (by omega), Ext.refl _⟩
  case round =>
    obtain ⟨j, hj, rfl, hno, hx⟩ := hrel
    have m0 := hx.out.cells (p := ⟨w.heap.size, 0, none⟩) (v := .string a.kind) (by simp [go_sem])
    have m1 := hx.out.cells (p := ⟨w.heap.size, 1, none⟩) (v := .string a.name) (by simp [go_sem])
    by_cases hlt : j < l.length
    · obtain ⟨x, hxj⟩ := some_of_lt hlt
      rcases hin.out with h | ⟨b, off, rfl, h⟩
      · rw [h] at hlt; simp at hlt
      obtain ⟨k0, k1, _⟩ := h j x hxj
      replace k0 := (X0.out.trans hx.out).cells k0
      replace k1 := (X0.out.trans hx.out).cells k1
      have j2 : (j : Int) < (l.length : Int) := by omega
      have j4 : (0 : Int) ≤ (j : Int) := by omega
      replace h := hide h; replace hxj := hide hxj
      by_cases e1 : x.id.kind = a.kind
      · by_cases e2 : x.id.name = a.name
        · have hh : Hid (hitI x a = true) := by show _ = _; simp [hitI, e1, e2]
          have hp := hide (place_at hno.out hxj.out hh.out)
          go_wp2_with fail
          go_quiet (fail)
          go_wp2_with fail
          go_ret
          exact ⟨by rw [hp.out]; rfl, (X0.out.trans hx.out).drewN _⟩
        · have hh : Hid (hitI x a = false) := by show _ = _; simp [hitI, e2]
          have e3 := ba_ne e2
          go_wp2_with fail
          go_quiet (fail)
          go_wp2_with fail
          go_roundw
          case rel =>
            refine ⟨j + 1, by omega, by go_num, fun i y hi hy => ?_, hx.out.drewN _⟩
            by_cases hij : i = j
            · subst hij
              obtain rfl : x = y := by simpa [hxj.out] using hy
              exact hh.out
            · exact hno.out i y (by omega) hy
          case measure => simp [intOf]; omega
      · have hh : Hid (hitI x a = false) := by show _ = _; simp [hitI, e1]
        have e3 := ba_ne e1
        go_wp2_with fail
        go_quiet (fail)
        go_wp2_with fail
        go_roundw
        case rel =>
          refine ⟨j + 1, by omega, by go_num, fun i y hi hy => ?_, hx.out.drewN _⟩
          by_cases hij : i = j
          · subst hij
            obtain rfl : x = y := by simpa [hxj.out] using hy
            exact hh.out
          · exact hno.out i y (by omega) hy
        case measure => simp [intOf]; omega
    · have hp := hide (place_no (l := l) (a := a) fun i y hy => hno.out i y (by have := (List.getElem?_eq_some_iff.1 hy).1; omega) hy)
      go_wp2_with fail
      go_ret
      exact ⟨by rw [hp.out]; rfl, X0.out.trans hx.out⟩
end Go.Proofs.YtodhhjlemmmjcaaGreat

namespace Go.Proofs.YtodhhjlemmmjcaaGreat
open Go.RowKit

theorem id_hit {x : Resd} {a : IDd} : (x.id.kind = a.kind ∧ x.id.name = a.name) ↔ x.id = a := by
  constructor
  · intro h
    cases hq : x.id; cases a; rw [hq] at h; dsimp only at h; rw [h.1, h.2]
  · intro h; rw [h]; exact ⟨rfl, rfl⟩
open Classical in
theorem find_place {l : List Resd} {a : IDd} : l.find? (fun o => decide (o.id = a)) = match placeL l a with
    | some j => l[j]?
    | none => none := by
  have hp : (fun o : Resd => decide (o.id = a)) = fun o : Resd => decide (o.id.kind = a.kind ∧ o.id.name = a.name) := by
    funext o
    exact decide_eq_decide.2 id_hit.symm
  rw [hp]
  unfold placeL
  induction l with
  | nil => rfl
  | cons x l ih =>
    by_cases hx : (x.id.kind = a.kind ∧ x.id.name = a.name)
    · rw [List.find?_cons_of_pos (by simpa using hx), List.findIdx?_cons, if_pos (by simpa using hx)]
      rfl
    · rw [List.find?_cons_of_neg (by simpa using hx), List.findIdx?_cons, if_neg (by simpa using hx), ih]
      cases List.findIdx? (fun o : Resd => decide (o.id.kind = a.kind ∧ o.id.name = a.name)) l with
      | none => rfl
      | some j => simp
/-- What is done to a resource that is to be made. -/
def opOf (old : List Resd) (r : Resd) : Nat := match placeL old r.id with
  | some _ => 2
  | none => 1
open Classical in
/-- Is a resource to be made? -/
noncomputable def isMake (old : List Resd) (r : Resd) : Bool := match placeL old r.id with
  | some j => decide (old[j]? ≠ some r)
  | none => true
theorem make_is (old : List Resd) (r : Resd) : makeOf old r = if isMake old r = true then some ⟨opOf old r, r⟩ else none := by
  classical
  unfold makeOf isMake opOf
  rw [find_place]
  cases hp : placeL old r.id with
  | none => rfl
  | some j =>
    obtain ⟨o, ho, -⟩ := place_id hp
    by_cases h : o = r
    · simp [ho, h]
    · simp [ho, h]
theorem makes_flag (old want : List Resd) : makesL old want = flagT (opOf old) want (want.map (isMake old)) :=
  flag_map fun x _ => make_is old x
open Classical in
/-- Is a resource to be taken away? -/
noncomputable def isGone (want : List Resd) (r : Resd) : Bool := decide (r.id ∉ want.map Resd.id)
theorem dels_flag (old want : List Resd) : delsL old want = flagT (fun _ => 3) old (old.map (isGone want)) := by
  unfold delsL
  exact flag_filter (op := fun _ => 3) (p := isGone want) old
/-- One that is to be taken away is still needed by another. -/
def NeededI (l : List Resd) (fl : List Bool) (i : Nat) : Prop := ∃ (k : Nat) (y x : Resd), l[k]? = some y ∧ fl[k]? = some true ∧ l[i]? = some x ∧ x.id ∈ y.after
theorem needed_iff {l : List Resd} {fl : List Bool} {op : Resd → Nat} {i : Nat} {x : Resd} (hx : l[i]? = some x) : (∃ o ∈ flagT op l fl, x.id ∈ o.x.after) ↔ NeededI l fl i := by
  constructor
  · rintro ⟨o, ho, hm⟩
    obtain ⟨k, y, h1, h2, rfl⟩ := flag_mem.1 ho
    exact ⟨k, y, x, h1, h2, hx, hm⟩
  · rintro ⟨k, y, x', h1, h2, h3, h4⟩
    obtain rfl : x = x' := by simpa using hx.symm.trans h3
    exact ⟨⟨op y, y⟩, flag_mem.2 ⟨k, y, h1, h2, rfl⟩, h4⟩
/-- The least that is marked and not held is taken; the rest is as if it were not there. -/
theorem ord_make {want : List Resd} (hd : Apart want) {op : Resd → Nat} {fl : List Bool} {i n : Nat} {x : Resd} (hx : want[i]? = some x) (hf : fl[i]? = some true) (hh : ¬ HeldI want fl i) (hno : ∀ j : Nat, j < i → fl[j]? = some true → HeldI want fl j) : ordF (mayMake want) (n + 1) (flagT op want fl) = ⟨op x, x⟩ :: ordF (mayMake want) n (flagT op want (fl.set i false)) := by
  have hp := pick_flag (op := op) (p := mayMake want (flagT op want fl)) hx hf (fun h => hh ((held_iff hd hx).1 h)) (fun j y hj hy hfj h => h ((held_iff hd hy).2 (hno j hj hfj)))
  simp only [ordF]
  rw [hp]
theorem ord_make_end {want : List Resd} (hd : Apart want) {op : Resd → Nat} {fl : List Bool} {n : Nat} (hno : ∀ j : Nat, j < want.length → fl[j]? = some true → HeldI want fl j) : ordF (mayMake want) n (flagT op want fl) = [] := by
  cases n with
  | zero => rfl
  | succ n =>
    have hp := pick_none (p := mayMake want (flagT op want fl)) (l := flagT op want fl) (fun s hs h => by
      obtain ⟨j, y, h1, h2, rfl⟩ := flag_mem.1 hs
      exact h ((held_iff hd h1).2 (hno j (List.getElem?_eq_some_iff.1 h1).1 h2)))
    simp only [ordF]
    rw [hp]
theorem ord_del {old : List Resd} {op : Resd → Nat} {fl : List Bool} {i n : Nat} {x : Resd} (hx : old[i]? = some x) (hf : fl[i]? = some true) (hh : ¬ NeededI old fl i) (hno : ∀ j : Nat, j < i → fl[j]? = some true → NeededI old fl j) : ordF mayDel (n + 1) (flagT op old fl) = ⟨op x, x⟩ :: ordF mayDel n (flagT op old (fl.set i false)) := by
  have hp := pick_flag (op := op) (p := mayDel (flagT op old fl)) hx hf (fun h => hh ((needed_iff hx).1 h)) (fun j y hj hy hfj h => h ((needed_iff hy).2 (hno j hj hfj)))
  simp only [ordF]
  rw [hp]
theorem ord_del_end {old : List Resd} {op : Resd → Nat} {fl : List Bool} {n : Nat} (hno : ∀ j : Nat, j < old.length → fl[j]? = some true → NeededI old fl j) : ordF mayDel n (flagT op old fl) = [] := by
  cases n with
  | zero => rfl
  | succ n =>
    have hp := pick_none (p := mayDel (flagT op old fl)) (l := flagT op old fl) (fun s hs h => by
      obtain ⟨j, y, h1, h2, rfl⟩ := flag_mem.1 hs
      exact h ((needed_iff h1).2 (hno j (List.getElem?_eq_some_iff.1 h1).1 h2)))
    simp only [ordF]
    rw [hp]
end Go.Proofs.YtodhhjlemmmjcaaGreat
