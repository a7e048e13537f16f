/-
  The document's find: the place of an ID.
-/
import Derived.Test.YtkjjfdejfihpfaaGreatReach
import Derived.Deep.QuietTactic
import Derived.BigQuiet
namespace Go.Proofs.YtkjjfdejfihpfaaGreat
open Go.RowKit

theorem ba_ne {a b : ByteArray} (h : ¬ a = b) : ¬ a.toList = b.toList := fun e => h (by
  rw [ByteArray.toList_eq, ByteArray.toList_eq] at e
  apply ByteArray.ext; apply Array.toList_inj.1; exact e)
def placeI (l : List Resd) (a : IDd) : Int := match placeL l a with
  | some j => (j : Int)
  | none => -1
def hitI (x : Resd) (a : IDd) : Bool := decide (x.id.kind = a.kind ∧ x.id.name = a.name)
theorem place_at {l : List Resd} {a : IDd} {j : Nat} {x : Resd} (h : ∀ i y, i < j → l[i]? = some y → hitI y a = false) (hx : l[j]? = some x) (hh : hitI x a = true) : placeI l a = j := by
  obtain ⟨hj, rfl⟩ := List.getElem?_eq_some_iff.1 hx
  have : placeL l a = some j := List.findIdx?_eq_some_iff_getElem.2 ⟨hj, hh, fun i hi => by
    have := h i l[i] hi (List.getElem?_eq_getElem (by omega))
    simpa [hitI] using this⟩
  unfold placeI; rw [this]
theorem place_no {l : List Resd} {a : IDd} (h : ∀ (i : Nat) y, l[i]? = some y → hitI y a = false) : placeI l a = -1 := by
  have : placeL l a = none := List.findIdx?_eq_none_iff.2 fun y hy => by
    obtain ⟨i, hi, rfl⟩ := List.getElem_of_mem hy
    exact h i _ (List.getElem?_eq_getElem hi)
  unfold placeI; rw [this]

set_option maxRecDepth 100000 in
set_option maxHeartbeats 1600000 in
theorem refFind (v : Value) (l : List Resd) (a : IDd) (w : World) (hv : RessV w v l) :
    Calls Tryz.prog 39 #[v, .agg #[.string a.kind, .string a.name]] w fun e w' => e = .returned (.int .i64 (placeI l a)) ∧ Ext w w' := by
  obtain ⟨⟨pa, cap, rfl, hc1, hc2, hin⟩, hfew⟩ := hv
  replace hin := hide hin
  go_enter Tryz.func39, Tryz.ntmps39
  go_wp2_with fail
  have X0 := hide ((Ext.refl w).alloc (.cells #[.string a.kind, .string a.name] 37))
  go_loopw [5] (fun i wr => ∃ j : Nat, j ≤ l.length ∧ i = .int .i64 j ∧ Hid (∀ i y, i < j → l[i]? = some y → hitI y a = false) ∧ Hid (Ext (w.alloc (.cells #[.string a.kind, .string a.name] 37)) wr)) (fun i _ => l.length - (intOf i).toNat)
  case atStart => exact ⟨0, Nat.zero_le _, rfl, fun _ _ h => (by omega), Ext.refl _⟩
  case round =>
    obtain ⟨j, hj, rfl, hno, hx⟩ := hrel
    have m0 := hx.out.cells (p := ⟨w.heap.size, 0, none⟩) (v := .string a.kind) (by simp [go_sem])
    have m1 := hx.out.cells (p := ⟨w.heap.size, 1, none⟩) (v := .string a.name) (by simp [go_sem])
    by_cases hlt : j < l.length
    · obtain ⟨x, hxj⟩ := some_of_lt hlt
      rcases hin.out with h | ⟨b, off, rfl, h⟩
      · rw [h] at hlt; simp at hlt
      obtain ⟨k0, k1, _⟩ := h j x hxj
      replace k0 := (X0.out.trans hx.out).cells k0
      replace k1 := (X0.out.trans hx.out).cells k1
      have j2 : (j : Int) < (l.length : Int) := by omega
      have j4 : (0 : Int) ≤ (j : Int) := by omega
      replace h := hide h; replace hxj := hide hxj
      by_cases e1 : x.id.kind = a.kind
      · by_cases e2 : x.id.name = a.name
        · have hh : Hid (hitI x a = true) := by show _ = _; simp [hitI, e1, e2]
          have hp := hide (place_at hno.out hxj.out hh.out)
          go_wp2_with fail
          go_quiet (fail)
          go_wp2_with fail
          go_ret
          exact ⟨by rw [hp.out]; rfl, (X0.out.trans hx.out).drewN _⟩
        · have hh : Hid (hitI x a = false) := by show _ = _; simp [hitI, e2]
          have e3 := ba_ne e2
          go_wp2_with fail
          go_quiet (fail)
          go_wp2_with fail
          go_roundw
          case rel =>
            refine ⟨j + 1, by omega, by go_num, fun i y hi hy => ?_, hx.out.drewN _⟩
            by_cases hij : i = j
            · subst hij
              obtain rfl : x = y := by simpa [hxj.out] using hy
              exact hh.out
            · exact hno.out i y (by omega) hy
          case measure => simp [intOf]; omega
      · have hh : Hid (hitI x a = false) := by show _ = _; simp [hitI, e1]
        have e3 := ba_ne e1
        go_wp2_with fail
        go_quiet (fail)
        go_wp2_with fail
        go_roundw
        case rel =>
          refine ⟨j + 1, by omega, by go_num, fun i y hi hy => ?_, hx.out.drewN _⟩
          by_cases hij : i = j
          · subst hij
            obtain rfl : x = y := by simpa [hxj.out] using hy
            exact hh.out
          · exact hno.out i y (by omega) hy
        case measure => simp [intOf]; omega
    · have hp := hide (place_no (l := l) (a := a) fun i y hy => hno.out i y (by have := (List.getElem?_eq_some_iff.1 hy).1; omega) hy)
      go_wp2_with fail
      go_ret
      exact ⟨by rw [hp.out]; rfl, X0.out.trans hx.out⟩
end Go.Proofs.YtkjjfdejfihpfaaGreat
