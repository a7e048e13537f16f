/-
  Resources that may be: what the program's functions answer.
-/
import Derived.Test.YtokogjhcgdhapaaAttrs
import Derived.Test.YtokogjhcgdhapaaRises
namespace Go.Proofs.Ytokogjhcgdhapaa
open Go.RowKit

theorem AttrsV.form {w : World} {v : Value} {l : List Attrd} (h : AttrsV w v l) : ∃ a cap, v = .slice a l.length cap := by
  obtain ⟨⟨a, cap, hv, _⟩, _⟩ := h; exact ⟨a, cap, hv⟩
theorem IDsV.form {w : World} {v : Value} {l : List IDd} (h : IDsV w v l) : ∃ a cap, v = .slice a l.length cap := by
  obtain ⟨⟨a, cap, hv, _⟩, _⟩ := h; exact ⟨a, cap, hv⟩

set_option maxRecDepth 100000 in
set_option maxHeartbeats 3200000 in
theorem mayBe (c2 c3 : Value) (x : Resd) (w : World) (hr : ResV w c2 c3 x) :
    Calls Try.prog 46 #[.agg #[.string x.id.kind, .string x.id.name, c2, c3]] w fun e w' => e = .returned (.bool (mayB x)) ∧ Ext w w' := by
  obtain ⟨hI, hA, hF⟩ := hr
  obtain ⟨a2, p2, rfl⟩ := hA.form
  obtain ⟨a3, p3, rfl⟩ := hF.form
  have nA := hA.few
  have nF := hF.few
  by_cases h6 : 6 < x.attrs.length
  · have H := hide (show mayB x = false by simp [mayB]; omega)
    have h6' : (6 : Int) < (x.attrs.length : Int) := by omega
    replace hI := hide hI; replace hA := hide hA; replace hF := hide hF
    go_enter Try.func46, Try.ntmps46
    go_wp2_with fail
    go_ret
    exact ⟨retB (by rw [unhide H]), (Ext.refl _).alloc _⟩
  have h6' : decide ((6 : Int) < (x.attrs.length : Int)) = false := by simp; omega
  by_cases h7 : 6 < x.after.length
  · have H := hide (show mayB x = false by simp [mayB]; omega)
    have h7' : (6 : Int) < (x.after.length : Int) := by omega
    replace hI := hide hI; replace hA := hide hA; replace hF := hide hF
    go_enter Try.func46, Try.ntmps46
    go_wp2_with fail
    go_ret
    exact ⟨retB (by rw [unhide H]), (Ext.refl _).alloc _⟩
  have h7' : decide ((6 : Int) < (x.after.length : Int)) = false := by simp; omega
  have H := hide (show mayB x = (idB x.id && x.attrs.all attrB && risesB lessA x.attrs && x.after.all idB && risesB lessI x.after) by
    simp only [mayB]; rw [decide_eq_true (show x.attrs.length ≤ 6 by omega), decide_eq_true (show x.after.length ≤ 6 by omega)]; simp)
  replace hI := hide hI; replace hA := hide hA; replace hF := hide hF
  go_enter Try.func46, Try.ntmps46
  go_wp2_with fail
  refine (isID x.id _ hI.out).mono ?_
  rintro e w1 ⟨rfl, he1⟩
  have x1 : Ext w w1 := ((Ext.refl _).alloc _).trans he1
  have d2 : w1.cell? ⟨w.heap.size, 2, none⟩ = some (.slice a2 x.attrs.length p2) := he1.cells (by simp [go_sem])
  have d3 : w1.cell? ⟨w.heap.size, 3, none⟩ = some (.slice a3 x.after.length p3) := he1.cells (by simp [go_sem])
  have D2 := hide d2; have D3 := hide d3
  clear he1
  replace x1 := hide x1
  cases h1 : idB x.id
  · go_wp2_with fail
    go_ret
    exact ⟨retB (by rw [unhide H, h1]; rfl), x1.out⟩
  go_wp2_with fail
  refine (everyAttr _ x.attrs _ (hA.out.ext x1.out)).mono ?_
  rintro e w2 ⟨rfl, he2⟩
  clear d2 d3
  have d2 := he2.cells (unhide D2); have d3 := he2.cells (unhide D3); clear D2 D3; have D2 := hide d2; have D3 := hide d3
  have x2 := hide (x1.out.trans he2)
  clear he2
  cases h2 : x.attrs.all attrB
  · go_wp2_with fail
    go_ret
    exact ⟨retB (by rw [unhide H, h1, h2]; rfl), x2.out⟩
  go_wp2_with fail
  refine (risesAttr _ x.attrs _ (hA.out.ext x2.out)).mono ?_
  rintro e w3 ⟨rfl, he3⟩
  clear d2 d3
  have d2 := he3.cells (unhide D2); have d3 := he3.cells (unhide D3); clear D2 D3; have D2 := hide d2; have D3 := hide d3
  have x3 := hide (x2.out.trans he3)
  clear he3
  cases h3 : risesB lessA x.attrs
  · go_wp2_with fail
    go_ret
    exact ⟨retB (by rw [unhide H, h1, h2, h3]; rfl), x3.out⟩
  go_wp2_with fail
  refine (everyID _ x.after _ (hF.out.ext x3.out)).mono ?_
  rintro e w4 ⟨rfl, he4⟩
  clear d2 d3
  have d2 := he4.cells (unhide D2); have d3 := he4.cells (unhide D3); clear D2 D3; have D2 := hide d2; have D3 := hide d3
  have x4 := hide (x3.out.trans he4)
  clear he4
  cases h4 : x.after.all idB
  · go_wp2_with fail
    go_ret
    exact ⟨retB (by rw [unhide H, h1, h2, h3, h4]; rfl), x4.out⟩
  go_wp2_with fail
  refine (risesID _ x.after _ (hF.out.ext x4.out)).mono ?_
  rintro e w5 ⟨rfl, he5⟩
  have x5 := hide (x4.out.trans he5)
  clear he5
  go_wp2_with fail
  go_ret
  exact ⟨retB (by rw [unhide H, h1, h2, h3, h4]; simp), x5.out⟩

end Go.Proofs.Ytokogjhcgdhapaa
