/-
  Resources that may be: what the program's functions answer.
-/
/-
  The reference's word, the order of IDs, the marks: what each function answers.
-/
import Derived.Test.YtkjjfdejfihpfaaGreatJ6
import Derived.Test.YtkjjfdejfihpfaaGreatRises
import Derived.Test.YtkjjfdejfihpfaaGreatJ4
import Derived.Deep.QuietTactic
import Derived.BigQuiet
import Derived.Deep.RegionHeld3
import Derived.Test.YtkjjfdejfihpfaaGreatShelf
namespace Go.Proofs.YtkjjfdejfihpfaaGreat
open Go.RowKit

theorem AttrsV.form {w : World} {v : Value} {l : List Attrd} (h : AttrsV w v l) : ∃ a cap, v = .slice a l.length cap := by
  obtain ⟨⟨a, cap, hv, _⟩, _⟩ := h; exact ⟨a, cap, hv⟩
theorem IDsV.form {w : World} {v : Value} {l : List IDd} (h : IDsV w v l) : ∃ a cap, v = .slice a l.length cap := by
  obtain ⟨⟨a, cap, hv, _⟩, _⟩ := h; exact ⟨a, cap, hv⟩

set_option maxRecDepth 100000 in
set_option maxHeartbeats 3200000 in
theorem mayBe (c2 c3 : Value) (x : Resd) (w : World) (hr : ResV w c2 c3 x) :
    Calls Tryz.prog 52 #[.agg #[.string x.id.kind, .string x.id.name, c2, c3]] w fun e w' => e = .returned (.bool (mayB x)) ∧ Ext w w' := by
  obtain ⟨hI, hA, hF⟩ := hr
  obtain ⟨a2, p2, rfl⟩ := hA.form
  obtain ⟨a3, p3, rfl⟩ := hF.form
  have nA := hA.few
  have nF := hF.few
  by_cases h6 : 6 < x.attrs.length
  · have H := hide (show mayB x = false by simp [mayB]; omega)
    have h6' : (6 : Int) < (x.attrs.length : Int) := by omega
    replace hI := hide hI; replace hA := hide hA; replace hF := hide hF
    go_enter Tryz.func52, Tryz.ntmps52
    go_wp2_with fail
    go_ret
    exact ⟨retB (by rw [unhide H]), (Ext.refl _).alloc _⟩
  have h6' : decide ((6 : Int) < (x.attrs.length : Int)) = false := by simp; omega
  by_cases h7 : 6 < x.after.length
  · have H := hide (show mayB x = false by simp [mayB]; omega)
    have h7' : (6 : Int) < (x.after.length : Int) := by omega
    replace hI := hide hI; replace hA := hide hA; replace hF := hide hF
    go_enter Tryz.func52, Tryz.ntmps52
    go_wp2_with fail
    go_ret
    exact ⟨retB (by rw [unhide H]), (Ext.refl _).alloc _⟩
  have h7' : decide ((6 : Int) < (x.after.length : Int)) = false := by simp; omega
  have H := hide (show mayB x = (idB x.id && x.attrs.all attrB && risesB lessA x.attrs && x.after.all idB && risesB lessI x.after) by
    simp only [mayB]; rw [decide_eq_true (show x.attrs.length ≤ 6 by omega), decide_eq_true (show x.after.length ≤ 6 by omega)]; simp)
  replace hI := hide hI; replace hA := hide hA; replace hF := hide hF
  go_enter Tryz.func52, Tryz.ntmps52
  go_wp2_with fail
  refine (isID x.id _ hI.out).mono ?_
  rintro e w1 ⟨rfl, he1⟩
  have x1 : Ext w w1 := ((Ext.refl _).alloc _).trans he1
  have d2 : w1.cell? ⟨w.heap.size, 2, none⟩ = some (.slice a2 x.attrs.length p2) := he1.cells (by simp [go_sem])
  have d3 : w1.cell? ⟨w.heap.size, 3, none⟩ = some (.slice a3 x.after.length p3) := he1.cells (by simp [go_sem])
  have D2 := hide d2; have D3 := hide d3
  clear he1
  replace x1 := hide x1
  cases h1 : idB x.id
  · go_wp2_with fail
    go_ret
    exact ⟨retB (by rw [unhide H, h1]; rfl), x1.out⟩
  go_wp2_with fail
  refine (everyAttr _ x.attrs _ (hA.out.ext x1.out)).mono ?_
  rintro e w2 ⟨rfl, he2⟩
  clear d2 d3
  have d2 := he2.cells (unhide D2); have d3 := he2.cells (unhide D3); clear D2 D3; have D2 := hide d2; have D3 := hide d3
  have x2 := hide (x1.out.trans he2)
  clear he2
  cases h2 : x.attrs.all attrB
  · go_wp2_with fail
    go_ret
    exact ⟨retB (by rw [unhide H, h1, h2]; rfl), x2.out⟩
  go_wp2_with fail
  refine (risesAttr _ x.attrs _ (hA.out.ext x2.out)).mono ?_
  rintro e w3 ⟨rfl, he3⟩
  clear d2 d3
  have d2 := he3.cells (unhide D2); have d3 := he3.cells (unhide D3); clear D2 D3; have D2 := hide d2; have D3 := hide d3
  have x3 := hide (x2.out.trans he3)
  clear he3
  cases h3 : risesB lessA x.attrs
  · go_wp2_with fail
    go_ret
    exact ⟨retB (by rw [unhide H, h1, h2, h3]; rfl), x3.out⟩
  go_wp2_with fail
  refine (everyID _ x.after _ (hF.out.ext x3.out)).mono ?_
  rintro e w4 ⟨rfl, he4⟩
  clear d2 d3
  have d2 := he4.cells (unhide D2); have d3 := he4.cells (unhide D3); clear D2 D3; have D2 := hide d2; have D3 := hide d3
  have x4 := hide (x3.out.trans he4)
  clear he4
  cases h4 : x.after.all idB
  · go_wp2_with fail
    go_ret
    exact ⟨retB (by rw [unhide H, h1, h2, h3, h4]; rfl), x4.out⟩
  go_wp2_with fail
  refine (risesID _ x.after _ (hF.out.ext x4.out)).mono ?_
  rintro e w5 ⟨rfl, he5⟩
  have x5 := hide (x4.out.trans he5)
  clear he5
  go_wp2_with fail
  go_ret
  exact ⟨retB (by rw [unhide H, h1, h2, h3, h4]; simp), x5.out⟩

end Go.Proofs.YtkjjfdejfihpfaaGreat

namespace Go.Proofs.YtkjjfdejfihpfaaGreat
open Go.RowKit

theorem letter_of_inner {c : Int} (hi : isInnerB c = true) : isLetterB c = (!isDigitB c && !(c == 95) && !(c == 45)) := by
  by_cases h1 : isLetterB c = true
  · have : isDigitB c = false ∧ c ≠ 95 ∧ c ≠ 45 := by simp [isLetterB, isDigitB] at h1 ⊢; omega
    simp [h1, this]
  · simp only [Bool.not_eq_true] at h1
    simp only [isInnerB, h1, Bool.false_or] at hi
    rw [h1]
    by_cases h2 : isDigitB c = true
    · simp [h2]
    · simp only [Bool.not_eq_true] at h2
      rw [h2, Bool.false_or] at hi
      simp at hi
      rcases hi with rfl | rfl <;> simp

set_option maxRecDepth 100000 in
set_option maxHeartbeats 800000 in
theorem refWord (s : ByteArray) (w : World) (hm : s.size ≤ 9223372036854775807) :
    Calls Tryz.prog 62 #[.string s] w fun e w' => e = .returned (.bool (wordB s.data.toList)) ∧ w' = w := by
  by_cases h0 : s.size = 0
  · have he : s.toList = [] := by rw [ByteArray.toList_eq]; exact List.eq_nil_of_length_eq_zero (by rw [size_toList]; exact h0)
    have H := hide (show wordB s.data.toList = false by rw [← ByteArray.toList_eq, he]; rfl)
    have h1 : (s.size : Int) < 1 := by omega
    go_enter Tryz.func62, Tryz.ntmps62
    go_wp2
    go_ret
    exact ⟨retB (by rw [unhide H]), rfl⟩
  have h0 : 0 < s.size := by omega
  have h2 : decide ((s.size : Int) < 1) = false := by simp; omega
  by_cases h12 : 12 < s.size
  · have H := hide (show wordB s.data.toList = false from wordB_long (by rw [size_toList]; exact h12))
    have h1 : (12:Int) < (s.size : Int) := by omega
    go_enter Tryz.func62, Tryz.ntmps62
    go_wp2
    go_ret
    exact ⟨retB (by rw [unhide H]), rfl⟩
  have h1 : decide ((12:Int) < (s.size : Int)) = false := by simp; omega
  have H := hide (wordB_of h0 (by omega))
  have Hz := hide (size_toList s)
  have hhead := get_of_size h0
  have Hh := hide hhead; clear hhead
  have hin : isInnerB (s[0].toNat : Int) = false → wordB s.data.toList = false := by
    intro h; rw [unhide H, unhide Hh]; simp [h]
  have Hin := hide hin; clear hin
  have hlet := @letter_of_inner (s[0].toNat : Int)
  have Hlet := hide hlet; clear hlet
  by_cases hd : isDigitB (s[0].toNat : Int) = true
  · go_enter Tryz.func62, Tryz.ntmps62
    go_wp2_with (go_at_call 82; refine (refDigit _ _).mono ?_; rintro e w' ⟨rfl, rfl⟩)
    go_ret
    refine ⟨retB ?_, rfl⟩
    cases hi : isInnerB (s[0].toNat : Int)
    · rw [unhide Hin hi]
    · rw [unhide H, unhide Hlet hi, hd]; rfl
  have hd' : isDigitB (s[0].toNat : Int) = false := by simpa using hd
  by_cases hu : (s[0].toNat : Int) = 95
  · have hu' : ((s[0].toNat : Int) == 95) = true := by simpa using hu
    have Hu := hide hu; clear hu
    go_enter Tryz.func62, Tryz.ntmps62
    go_wp2_with (go_at_call 82; refine (refDigit _ _).mono ?_; rintro e w' ⟨rfl, rfl⟩)
    go_ret
    refine ⟨retB ?_, rfl⟩
    cases hi : isInnerB (s[0].toNat : Int)
    · rw [unhide Hin hi]
    · rw [unhide H, unhide Hlet hi, unhide Hu]; rfl
  have hu' : ((s[0].toNat : Int) == 95) = false := by simpa using hu
  by_cases hv : (s[0].toNat : Int) = 45
  · have hv' : ((s[0].toNat : Int) == 45) = true := by simpa using hv
    have Hu := hide hv; clear hv
    go_enter Tryz.func62, Tryz.ntmps62
    go_wp2_with (go_at_call 82; refine (refDigit _ _).mono ?_; rintro e w' ⟨rfl, rfl⟩)
    go_ret
    refine ⟨retB ?_, rfl⟩
    cases hi : isInnerB (s[0].toNat : Int)
    · rw [unhide Hin hi]
    · rw [unhide H, unhide Hlet hi, unhide Hu]; rfl
  have hv' : ((s[0].toNat : Int) == 45) = false := by simpa using hv
  have hfin : wordB s.data.toList = s.data.toList.all fun x => isInnerB x.toNat := by
    cases hi : isInnerB (s[0].toNat : Int)
    · rw [unhide Hin hi, unhide Hh]; simp [hi]
    · rw [unhide H, unhide Hlet hi, hd', hu', hv']; rfl
  have Hfin := hide hfin; clear hfin Hin Hlet H Hh
  go_enter Tryz.func62, Tryz.ntmps62
  go_wp2_with (go_at_call 82; refine (refDigit _ _).mono ?_; rintro e w' ⟨rfl, rfl⟩)
  go_loop [3] (fun i => ∃ k : Nat, k ≤ s.size ∧ i = .int .i64 k ∧ Hid ((s.data.toList.take k).all fun c => isInnerB (c.toNat : Int))) (fun i => s.size - (intOf i).toNat)
  case atStart => exact ⟨0, Nat.zero_le _, rfl, by simp [Hid]⟩
  case round =>
    obtain ⟨k, hk, rfl, hall⟩ := hrel
    by_cases hlt : k < s.size
    · have hlt' : k < s.data.toList.length := by rw [unhide Hz]; exact hlt
      have hs := all_take_succ (p := fun c => isInnerB (c.toNat : Int)) hlt' hall.out
      have hf := all_false_of (p := fun c => isInnerB (c.toNat : Int)) hlt'
      have hx : s.data.toList[k]?.getD 0 = s[k] := by rw [List.getElem?_eq_getElem hlt']; rfl
      rw [hx] at hs hf
      have Hs := hide hs; have Hf := hide hf; clear hs hf hx
      go_wp2_with (go_at_call 83; refine (refInner _ _).mono ?_; rintro e w' ⟨rfl, rfl⟩)
      · go_ret
        exact ⟨retB (by rw [unhide Hfin]; exact (unhide Hf (by simp_all)).symm), rfl⟩
      · go_round
        case rel => exact ⟨k + 1, by omega, by go_num, by rw [unhide Hs]; simp_all⟩
        case measure => simp [intOf]; omega
    · have Hl := hide (show s.data.toList.take k = s.data.toList from List.take_of_length_le (by rw [unhide Hz]; omega))
      go_wp2
      go_ret
      exact ⟨retB (by rw [unhide Hfin]; rw [unhide Hl] at hall; exact hall.out.symm), rfl⟩
end Go.Proofs.YtkjjfdejfihpfaaGreat
