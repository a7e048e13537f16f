/-
  Two lists of resources that are the same: what the functions that compare them answer.
-/
import Derived.Test.YtjebmabffocobaaDoorSame
import Derived.Test.YtjebmabffocobaaDoorMays
namespace Go.Proofs.YtjebmabffocobaaDoor
open Go.RowKit

set_option maxRecDepth 100000 in
set_option maxHeartbeats 1600000 in
theorem sameRes (c2 c3 d2 d3 : Value) (x : Resd) (w : World) (hu : ResV w c2 c3 x) (hv : ResV w d2 d3 x) :
    Calls Tryd.prog 27 #[.agg #[.string x.id.kind, .string x.id.name, c2, c3], .agg #[.string x.id.kind, .string x.id.name, d2, d3]] w fun e w' => e = .returned (.bool true) ∧ Ext w w' := by
  obtain ⟨a2, p2, rfl⟩ := hu.attrs.form
  obtain ⟨a3, p3, rfl⟩ := hu.after.form
  obtain ⟨b2, q2, rfl⟩ := hv.attrs.form
  obtain ⟨b3, q3, rfl⟩ := hv.after.form
  replace hu := hide hu; replace hv := hide hv
  go_enter Tryd.func27, Tryd.ntmps27
  go_wp2_with fail
  have x0 : Ext w ((w.alloc (.cells #[.string x.id.kind, .string x.id.name, .slice a2 x.attrs.length p2, .slice a3 x.after.length p3] 38)).alloc (.cells #[.string x.id.kind, .string x.id.name, .slice b2 x.attrs.length q2, .slice b3 x.after.length q3] 38)) := ((Ext.refl _).alloc _).alloc _
  replace x0 := hide x0
  refine (sameAttrs _ _ x.attrs _ (hu.out.attrs.ext x0.out) (hv.out.attrs.ext x0.out)).mono ?_
  rintro e w1 ⟨rfl, he1⟩
  have x1 := hide (x0.out.trans he1)
  have c0 := he1.cells (p := ⟨w.heap.size, 0, none⟩) (v := .string x.id.kind) (by simp [go_sem, World.cell?_alloc_past])
  have c1 := he1.cells (p := ⟨w.heap.size, 1, none⟩) (v := .string x.id.name) (by simp [go_sem, World.cell?_alloc_past])
  have c3 := he1.cells (p := ⟨w.heap.size, 3, none⟩) (v := .slice a3 x.after.length p3) (by simp [go_sem, World.cell?_alloc_past])
  have d0 := he1.cells (p := ⟨w.heap.size + 1, 0, none⟩) (v := .string x.id.kind) (by simp [go_sem])
  have d1 := he1.cells (p := ⟨w.heap.size + 1, 1, none⟩) (v := .string x.id.name) (by simp [go_sem])
  have d3 := he1.cells (p := ⟨w.heap.size + 1, 3, none⟩) (v := .slice b3 x.after.length q3) (by simp [go_sem])
  clear he1
  have C0 := hide c0; have C1 := hide c1; have D0 := hide d0; have D1 := hide d1
  go_wp2_with fail
  refine (sameIds _ _ x.after _ (hu.out.after.ext x1.out) (hv.out.after.ext x1.out)).mono ?_
  rintro e w2 ⟨rfl, he2⟩
  have x2 := hide (x1.out.trans he2)
  clear c0 c1 c3 d0 d1 d3
  have c0 := he2.cells C0.out; have c1 := he2.cells C1.out; have d0 := he2.cells D0.out; have d1 := he2.cells D1.out
  clear he2
  go_wp2
  go_ret
  exact ⟨rfl, x2.out⟩
end Go.Proofs.YtjebmabffocobaaDoor
