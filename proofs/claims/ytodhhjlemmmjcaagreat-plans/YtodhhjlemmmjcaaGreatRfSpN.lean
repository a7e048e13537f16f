/-
  The reference: Steps refuses lists that may not be, or are not whole.
-/
import Derived.Test.YtodhhjlemmmjcaaGreatJ12
import Derived.Test.YtodhhjlemmmjcaaGreatJ19
import Derived.Test.YtodhhjlemmmjcaaGreatJ14
import Derived.Deep.DeepCutAuto
namespace Go.Proofs.YtodhhjlemmmjcaaGreat
open Go.RowKit

/-- A list that may be, and is whole. -/
def FineP (l : List Resd) : Prop := mayAllB l = true ∧ WholeP l
theorem may_few {l : List Resd} (h : mayAllB l = true) : l.length ≤ 12 := by
  simp only [mayAllB, Bool.and_eq_true, decide_eq_true_eq] at h
  exact h.1.1

set_option maxRecDepth 100000 in
set_option maxHeartbeats 1600000 in
theorem refStepsNo (u v : Value) (l m : List Resd) (w : World) (hu : RessV w u l) (hv : RessV w v m) (hno : ¬ (FineP l ∧ FineP m)) :
    Calls Tryz.prog 4 #[u, v] w fun e w' => e = .returned (.tuple #[.slice none 0 0, .int .i64 11]) ∧ Ext w w' := by
  have hm1 := hide (refMays u l w hu)
  replace hu := hide hu; replace hv := hide hv; replace hno := hide hno
  go_enter Tryz.func4, Tryz.ntmps4
  go_upto_region 1 with fail
  go_cut [6] (fun bv wx => ∃ b : Bool, bv = .bool b ∧ Hid (b = true ↔ FineP l) ∧ Hid (Ext w wx))
  case first =>
    go_wp2_with fail
    refine hm1.out.mono ?_
    rintro e1 w1 ⟨rfl, he1⟩
    replace he1 := hide he1
    by_cases h1 : mayAllB l = true
    · rw [h1]
      go_wp2_with fail
      refine (refWhole u l _ (hu.out.ext he1.out) (Nat.le_trans (may_few h1) (by decide))).mono ?_
      rintro e2 w2 ⟨b2, rfl, hb2, he2⟩
      replace hb2 := hide hb2; replace he2 := hide he2
      go_wp2_with fail
      go_meet
      exact ⟨b2, rfl, ⟨fun h => ⟨h1, hb2.out.1 h⟩, fun h => hb2.out.2 h.2⟩, he1.out.trans he2.out⟩
    · have h1' : mayAllB l = false := by simpa using h1
      rw [h1']
      go_wp2_with fail
      go_meet
      exact ⟨false, rfl, ⟨fun h => (by cases h), fun h => absurd h.1 h1⟩, he1⟩
  case rest =>
    obtain ⟨b1, rfl, hb1, hx1⟩ := hcut
    obtain ⟨w1, rfl⟩ : ∃ w1 : World, w1 = wc := ⟨_, rfl⟩
    have hm2 := hide (refMays v m w1 (hv.out.ext hx1.out))
    go_upto_region 2 with fail
    go_cut [7] (fun bv wx => ∃ b : Bool, bv = .bool b ∧ Hid (b = true ↔ FineP m) ∧ Hid (Ext w1 wx))
    case first =>
      go_wp2_with fail
      refine hm2.out.mono ?_
      rintro e2 w2 ⟨rfl, he2⟩
      replace he2 := hide he2
      by_cases h1 : mayAllB m = true
      · rw [h1]
        go_wp2_with fail
        refine (refWhole v m _ ((hv.out.ext hx1.out).ext he2.out) (Nat.le_trans (may_few h1) (by decide))).mono ?_
        rintro e3 w3 ⟨b3, rfl, hb3, he3⟩
        replace hb3 := hide hb3; replace he3 := hide he3
        go_wp2_with fail
        go_meet
        exact ⟨b3, rfl, ⟨fun h => ⟨h1, hb3.out.1 h⟩, fun h => hb3.out.2 h.2⟩, he2.out.trans he3.out⟩
      · have h1' : mayAllB m = false := by simpa using h1
        rw [h1']
        go_wp2_with fail
        go_meet
        exact ⟨false, rfl, ⟨fun h => (by cases h), fun h => absurd h.1 h1⟩, he2⟩
    case rest =>
      obtain ⟨b2, rfl, hb2, hx2⟩ := hcut
      obtain ⟨w2, rfl⟩ : ∃ w2 : World, w2 = wc := ⟨_, rfl⟩
      cases b1 with
      | false =>
        go_wp2_with fail
        refine bodyPost_ret (v := .tuple #[.slice none 0 0, .int .i64 11]) (by simp [results, Tryz.results4, go_sem]) rfl ?_
        exact ⟨rfl, hx1.out.trans hx2.out⟩
      | true =>
        cases b2 with
        | false =>
          go_wp2_with fail
          refine bodyPost_ret (v := .tuple #[.slice none 0 0, .int .i64 11]) (by simp [results, Tryz.results4, go_sem]) rfl ?_
          exact ⟨rfl, hx1.out.trans hx2.out⟩
        | true => exact absurd ⟨hb1.out.1 rfl, hb2.out.1 rfl⟩ hno.out
end Go.Proofs.YtodhhjlemmmjcaaGreat
