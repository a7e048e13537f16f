/-
  The document's Whole.
-/
import Derived.Test.YtkjjfdejfihpfaaGreatRefCirc
namespace Go.Proofs.YtkjjfdejfihpfaaGreat
open Go.RowKit

/-- What is waited for is there, and nobody waits for itself. -/
def WholeP (l : List Resd) : Prop := (∀ (i : Nat) x, l[i]? = some x → ∀ (k : Nat) a, x.after[k]? = some a → ∃ j, placeL l a = some j) ∧ ∀ i, i < l.length → ¬ Circ l i

set_option maxRecDepth 100000 in
set_option maxHeartbeats 3200000 in
theorem refWhole (v : Value) (l : List Resd) (w : World) (hv : RessV w v l) (hn : l.length ≤ 1000) :
    Calls Tryz.prog 16 #[v] w fun e w' => ∃ b : Bool, e = .returned (.bool b) ∧ (b = true ↔ WholeP l) ∧ Ext w w' := by
  obtain ⟨pa, cap, rfl, hc1, hc2, hin⟩ := hv.shape
  replace hin := hide hin; replace hv := hide hv
  go_enter Tryz.func16, Tryz.ntmps16
  go_wp2_with fail
  go_loopw [3] (fun iv wr => ∃ i : Nat, i ≤ l.length ∧ iv = .int .i64 i ∧ Hid (∀ (t : Nat) x, t < i → l[t]? = some x → ∀ (k : Nat) a, x.after[k]? = some a → ∃ j, placeL l a = some j) ∧ Hid (Ext w wr)) (fun iv _ => l.length - (intOf iv).toNat)
  case atStart => exact ⟨0, Nat.zero_le _, rfl, fun _ _ h => absurd h (by omega), Ext.refl _⟩
  case round =>
    obtain ⟨i, hi, rfl, hall, hx⟩ := hrel
    by_cases hlt : i < l.length
    · have i2 : (i : Int) < (l.length : Int) := by omega
      have i4 : (0 : Int) ≤ (i : Int) := by omega
      obtain ⟨wo, rfl⟩ : ∃ wo : World, wo = wr := ⟨_, rfl⟩
      obtain ⟨x, hxk⟩ := some_of_lt hlt
      rcases hin.out with h | ⟨b, off, rfl, hres⟩
      · rw [h] at hlt; simp at hlt
      obtain ⟨-, -, c2, c3, -, g3, hR⟩ := hres i x hxk
      obtain ⟨p3, t3, rfl, d1, d2, hids⟩ := hR.after.shape
      have G3 := hide g3
      have nF := hR.after.few
      replace hres := hide hres; replace hR := hide hR; replace hids := hide hids; replace hxk := hide hxk
      clear g3
      go_wp2_with fail
      go_loopw [4] (fun kv wr => ∃ k : Nat, k ≤ x.after.length ∧ kv = .int .i64 k ∧ Hid (∀ (t : Nat) a, t < k → x.after[t]? = some a → ∃ j, placeL l a = some j) ∧ Hid (Ext w wr)) (fun kv _ => x.after.length - (intOf kv).toNat)
      case atStart => exact ⟨0, Nat.zero_le _, rfl, fun _ _ h => absurd h (by omega), hx⟩
      case round =>
        obtain ⟨k, hk1, rfl, hin2, hx2⟩ := hrel
        have g3 := hx2.out.cells G3.out
        by_cases hltm : k < x.after.length
        · obtain ⟨a, ham⟩ := some_of_lt hltm
          rcases hids.out with h | ⟨b3, off3, rfl, hids3⟩
          · rw [h] at hltm; simp at hltm
          obtain ⟨e0, e1⟩ := hids3 k a ham
          replace e0 := hx2.out.cells e0
          replace e1 := hx2.out.cells e1
          have m2 : (k : Int) < (x.after.length : Int) := by omega
          have m4 : (0 : Int) ≤ (k : Int) := by omega
          replace ham := hide ham; replace hids3 := hide hids3
          go_wp2_with fail
          refine (refFind _ l a _ (hv.out.ext hx2.out)).mono ?_
          rintro e w1 ⟨rfl, he1⟩
          have X1 := hide (hx2.out.trans he1)
          clear he1 g3 e0 e1
          cases hpl : placeL l a with
          | none =>
            have hpi : placeI l a = -1 := by unfold placeI; rw [hpl]
            rw [hpi]
            replace hpl := hide hpl; replace hpi := hide hpi
            go_wp2_with fail
            go_ret
            refine ⟨false, rfl, ⟨fun h => (by cases h), fun h => ?_⟩, X1.out⟩
            obtain ⟨j, hj⟩ := h.1 i x hxk.out k a ham.out
            rw [hpl.out] at hj; cases hj
          | some j =>
            have hpi : placeI l a = (j : Int) := by unfold placeI; rw [hpl]
            rw [hpi]
            have j5 : ¬ (j : Int) < 0 := by omega
            replace hpl := hide hpl; replace hpi := hide hpi
            go_wp2_with fail
            go_roundw
            case rel =>
              refine ⟨k + 1, by omega, by go_num, fun t c ht hc => ?_, X1⟩
              by_cases htm : t = k
              · subst htm
                obtain rfl : a = c := by simpa using ham.out.symm.trans hc
                exact ⟨j, hpl.out⟩
              · exact hin2.out t c (by omega) hc
            case measure => simp [intOf]; omega
        · obtain rfl : k = x.after.length := by omega
          go_wp2_with fail
          go_roundw
          case rel =>
            refine ⟨i + 1, by omega, by go_num, fun t y ht hy k a ha => ?_, hx2⟩
            by_cases hti : t = i
            · subst hti
              obtain rfl : x = y := by simpa using hxk.out.symm.trans hy
              exact hin2.out k a (List.getElem?_eq_some_iff.1 ha).1 ha
            · exact hall.out t y (by omega) hy k a ha
          case measure => simp [intOf]; omega
    · obtain rfl : i = l.length := by omega
      go_wp2_with fail
      refine (refCircles _ l _ (hv.out.ext hx.out) hn).mono ?_
      rintro e w1 ⟨q, rfl, hq1, hq2, hq3, he1⟩
      have X1 := hide (hx.out.trans he1)
      clear he1
      replace hq1 := hide hq1; replace hq2 := hide hq2; replace hq3 := hide hq3
      go_wp2_with fail
      obtain ⟨wa, rfl⟩ : ∃ wa : World, wa = wr := ⟨_, rfl⟩
      go_loopw [6] (fun iv w2 => ∃ i : Nat, i ≤ l.length ∧ iv = .int .i64 i ∧ Hid (∀ t : Nat, t < i → ¬ Circ l t) ∧ w2 = w1) (fun iv _ => l.length - (intOf iv).toNat)
      case atStart => exact ⟨0, Nat.zero_le _, rfl, fun _ h => absurd h (by omega), rfl⟩
      case round =>
        obtain ⟨i, hi2, rfl, hno, rfl⟩ := hrel
        by_cases hlt2 : i < l.length
        · obtain ⟨b, hb⟩ : ∃ b, q[i]? = some b := ⟨_, List.getElem?_eq_getElem (by have := hq1.out; omega)⟩
          have cq := hq3.out.cell hb
          have i2 : (i : Int) < (l.length : Int) := by omega
          have i4 : (0 : Int) ≤ (i : Int) := by omega
          replace hb := hide hb
          cases b
          · go_wp2_with fail
            go_roundw
            case rel =>
              refine ⟨i + 1, by omega, by go_num, fun t ht => ?_, trivial⟩
              by_cases hti : t = i
              · subst hti
                intro hc
                have := (hq2.out t hlt2).2 hc
                rw [hb.out] at this; cases this
              · exact hno.out t (by omega)
            case measure => simp [intOf]; omega
          · go_wp2_with fail
            go_ret
            exact ⟨false, rfl, ⟨fun h => (by cases h), fun h => absurd ((hq2.out i hlt2).1 hb.out) (h.2 i hlt2)⟩, X1.out⟩
        · obtain rfl : i = l.length := by omega
          go_wp2_with fail
          go_ret
          exact ⟨true, rfl, ⟨fun _ => ⟨fun t x hx => hall.out t x (List.getElem?_eq_some_iff.1 hx).1 hx, hno.out⟩, fun _ => rfl⟩, X1.out⟩
end Go.Proofs.YtkjjfdejfihpfaaGreat
