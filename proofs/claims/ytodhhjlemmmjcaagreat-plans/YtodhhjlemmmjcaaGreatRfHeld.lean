/-
  The reference: does a resource wait for one that is marked, also through others?
-/
import Derived.Test.YtodhhjlemmmjcaaGreatJ3
import Derived.Test.YtodhhjlemmmjcaaGreatJ19
import Derived.Deep.DeepCutAuto
namespace Go.Proofs.YtodhhjlemmmjcaaGreat
open Go.RowKit

set_option maxRecDepth 100000 in
set_option maxHeartbeats 1600000 in
theorem refHeld (v : Value) (l : List Resd) (mb : Nat) (fl : List Bool) (hd : Apart l) (hc : ∀ i, i < l.length → ¬ Circ l i) (hall : ∀ x ∈ l, ∀ a ∈ x.after, ∃ j, placeL l a = some j) (hn : fl.length = l.length) : ∀ (r i : Nat) (w : World), rankI l i ≤ r → i < l.length → RessV w v l → rowB w mb fl →
    Calls Tryz.prog 15 #[v, .slice (some ⟨mb, 0, none⟩) l.length l.length, .int .i64 i] w fun e w' => ∃ b : Bool, e = .returned (.bool b) ∧ Hid (b = true ↔ HeldI l fl i) ∧ Hid (Ext w w') := by
  intro r
  induction r using Nat.strongRecOn with
  | ind r ih =>
    intro i w hr hi hv hm
    have hv0 := hide hv
    obtain ⟨pa, cap, rfl, hc1, hc2, hin⟩ := hv.shape
    obtain ⟨x, hxi⟩ := some_of_lt hi
    rcases hin with h | ⟨b, off, rfl, hres⟩
    · rw [h] at hi; simp at hi
    obtain ⟨-, -, c2, c3, -, g3, hR⟩ := hres i x hxi
    obtain ⟨p3, t3, rfl, d1, d2, hids⟩ := hR.after.shape
    have nF := hR.after.few
    have hall' : Hid (∀ a ∈ x.after, ∃ j, placeL l a = some j) := hall x (List.mem_of_getElem? hxi)
    have i2 : (i : Int) < (l.length : Int) := by omega
    have i4 : (0 : Int) ≤ (i : Int) := by omega
    have hlf := hv.few
    clear hv
    have G3 := hide g3
    replace hres := hide hres; replace hR := hide hR; replace hids := hide hids; replace hxi := hide hxi; replace hm := hide hm; replace ih := hide ih; replace hr := hide hr; replace hd := hide hd; replace hc := hide hc; replace hall := hide hall; replace hn := hide hn
    clear g3
    go_enter Tryz.func15, Tryz.ntmps15
    go_wp2_with fail
    go_loopw [7] (fun kv wr => ∃ k : Nat, k ≤ x.after.length ∧ kv = .int .i64 k ∧ Hid (∀ (t j : Nat) (a : IDd), t < k → x.after[t]? = some a → placeL l a = some j → ¬ (fl[j]? = some true ∨ HeldI l fl j)) ∧ Hid (Ext w wr)) (fun kv _ => x.after.length - (intOf kv).toNat)
    case atStart => exact ⟨0, Nat.zero_le _, rfl, fun _ _ _ h => absurd h (by omega), Ext.refl _⟩
    case round =>
      obtain ⟨k, hk, rfl, hno, hx⟩ := hrel
      have g3 := hx.out.cells G3.out
      by_cases hlt : k < x.after.length
      · obtain ⟨a, ha⟩ := some_of_lt hlt
        rcases hids.out with h | ⟨b3, off3, rfl, hid3⟩
        · rw [h] at hlt; simp at hlt
        obtain ⟨a0, a1⟩ := hid3 k a ha
        replace a0 := hx.out.cells a0; replace a1 := hx.out.cells a1
        have k2 : (k : Int) < (x.after.length : Int) := by omega
        have k4 : (0 : Int) ≤ (k : Int) := by omega
        obtain ⟨j, hj⟩ := hall'.out a (List.mem_of_getElem? ha)
        have hjl := place_lt hj
        have hpj : Hid (placeI l a = (j : Int)) := by show _ = _; unfold placeI; rw [hj]
        have hedge : Hid (Edge l i j) := ⟨x, a, hxi.out, List.mem_of_getElem? ha, hj⟩
        have hrk : Hid (rankI l j < r) := Nat.lt_of_lt_of_le (rank_less hedge.out (hc.out j hjl)) hr.out
        have j2 : (j : Int) < (l.length : Int) := by omega
        have j4 : (0 : Int) ≤ (j : Int) := by omega
        replace ha := hide ha; replace hj := hide hj
        go_wp2_with fail
        refine (refFind _ l a _ (hv0.out.ext hx.out)).mono ?_
        rintro e1 w1 ⟨rfl, he1⟩
        rw [hpj.out]
        replace he1 := hide he1
        have X1 := hide (hx.out.trans he1.out)
        obtain ⟨q, hq⟩ : ∃ q, fl[j]? = some q := ⟨_, List.getElem?_eq_getElem (by rw [hn.out]; exact hjl)⟩
        have mq := (hm.out.ext X1.out).cell hq
        cases q with
        | true =>
          have hyes : Hid (HeldI l fl i) := held_step.2 ⟨j, hedge.out, .inl hq⟩
          replace hq := hide hq
          go_wp2_with fail
          go_ret
          exact ⟨true, rfl, ⟨fun _ => hyes.out, fun _ => rfl⟩, X1⟩
        | false =>
          replace hq := hide hq
          go_wp2_with fail
          refine (ih.out (rankI l j) hrk.out j _ (Nat.le_refl _) hjl (hv0.out.ext X1.out) (hm.out.ext X1.out)).mono ?_
          rintro e2 w2 ⟨b2, rfl, hb2, he2⟩
          cases b2 with
          | true =>
            have hyes : Hid (HeldI l fl i) := held_step.2 ⟨j, hedge.out, .inr (hb2.out.1 rfl)⟩
            go_wp2_with fail
            go_ret
            exact ⟨true, rfl, ⟨fun _ => hyes.out, fun _ => rfl⟩, X1.out.trans he2.out⟩
          | false =>
            have hnot : Hid (¬ HeldI l fl j) := fun h => by have := hb2.out.2 h; cases this
            go_wp2_with fail
            go_roundw
            case rel =>
              refine ⟨k + 1, by omega, by go_num, fun t j' a' ht ha' hj' => ?_, X1.out.trans he2.out⟩
              by_cases htk : t = k
              · subst htk
                obtain rfl : a = a' := by simpa [ha.out] using ha'
                obtain rfl : j = j' := by simpa [hj.out] using hj'
                rintro (h | h)
                · rw [hq.out] at h; cases h
                · exact hnot.out h
              · exact hno.out t j' a' (by omega) ha' hj'
            case measure => simp [intOf]; omega
      · have hnot : Hid (¬ HeldI l fl i) := fun h => by
          obtain ⟨j, ⟨y, a, h1, h2, h3⟩, h4⟩ := held_step.1 h
          obtain rfl : x = y := by simpa [hxi.out] using h1
          obtain ⟨t, ht⟩ := List.mem_iff_getElem?.1 h2
          exact hno.out t j a (by have := (List.getElem?_eq_some_iff.1 ht).1; omega) ht h3 h4
        go_wp2_with fail
        go_ret
        exact ⟨false, rfl, ⟨fun h => (by cases h), fun h => absurd h hnot.out⟩, hx⟩
end Go.Proofs.YtodhhjlemmmjcaaGreat
