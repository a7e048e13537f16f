/-
  Records that are the same.
-/
import Derived.Test.YtmadjcnddokkoaaSame2
import Derived.Test.YtmadjcnddokkoaaRecMay
namespace Go.Proofs.Ytmadjcnddokkoaa
open Go.RowKit

set_option maxRecDepth 100000 in
set_option maxHeartbeats 800000 in
theorem sameStep (r : Recd) (c2 c3 d2 d3 : Value) (w : World) (hu : ResV w c2 c3 r.res) (hv : ResV w d2 d3 r.res) :
    Calls Try.prog 25 #[.agg #[.int .i64 r.op, .string r.res.id.kind, .string r.res.id.name, c2, c3], .agg #[.int .i64 r.op, .string r.res.id.kind, .string r.res.id.name, d2, d3]] w fun e w' => e = .returned (.bool true) ∧ Ext w w' := by
  obtain ⟨a2, p2, rfl⟩ := hu.attrs.form
  obtain ⟨a3, p3, rfl⟩ := hu.after.form
  obtain ⟨b2, q2, rfl⟩ := hv.attrs.form
  obtain ⟨b3, q3, rfl⟩ := hv.after.form
  replace hu := hide hu; replace hv := hide hv
  go_enter Try.func25, Try.ntmps25
  go_wp2_with fail
  refine (sameRes _ _ _ _ r.res _ (hu.out.ext (((Ext.refl _).alloc _).alloc _)) (hv.out.ext (((Ext.refl _).alloc _).alloc _))).mono ?_
  rintro e w1 ⟨rfl, he1⟩
  have k0 := he1.cells (p := ⟨w.heap.size, 0, none⟩) (v := .int .i64 r.op) (by simp [go_sem])
  have k1 := he1.cells (p := ⟨w.heap.size + 1, 0, none⟩) (v := .int .i64 r.op) (by simp [go_sem])
  have X1 := hide ((((Ext.refl w).alloc _).alloc _).trans he1)
  clear he1
  go_wp2_with fail
  all_goals go_ret
  all_goals exact ⟨rfl, X1.out⟩

set_option maxRecDepth 100000 in
set_option maxHeartbeats 1600000 in
theorem sameRecord (r : Recd) (c2 c3 d2 d3 : Value) (w : World) (hu : ResV w c2 c3 r.res) (hv : ResV w d2 d3 r.res) :
    Calls Try.prog 13 #[.agg #[.int .i64 r.kind, .int .i64 r.epoch, .int .i64 r.number, .int .i64 r.op, .string r.res.id.kind, .string r.res.id.name, c2, c3], .agg #[.int .i64 r.kind, .int .i64 r.epoch, .int .i64 r.number, .int .i64 r.op, .string r.res.id.kind, .string r.res.id.name, d2, d3]] w fun e w' => e = .returned (.bool true) ∧ Ext w w' := by
  obtain ⟨a2, p2, rfl⟩ := hu.attrs.form
  obtain ⟨a3, p3, rfl⟩ := hu.after.form
  obtain ⟨b2, q2, rfl⟩ := hv.attrs.form
  obtain ⟨b3, q3, rfl⟩ := hv.after.form
  replace hu := hide hu; replace hv := hide hv
  go_enter Try.func13, Try.ntmps13
  go_wp2_with fail
  refine (sameStep r _ _ _ _ _ (hu.out.ext (((Ext.refl _).alloc _).alloc _)) (hv.out.ext (((Ext.refl _).alloc _).alloc _))).mono ?_
  rintro e w1 ⟨rfl, he1⟩
  have k0 := he1.cells (p := ⟨w.heap.size, 0, none⟩) (v := .int .i64 r.kind) (by simp [go_sem])
  have k1 := he1.cells (p := ⟨w.heap.size + 1, 0, none⟩) (v := .int .i64 r.kind) (by simp [go_sem])
  have k2 := he1.cells (p := ⟨w.heap.size, 1, none⟩) (v := .int .i64 r.epoch) (by simp [go_sem])
  have k3 := he1.cells (p := ⟨w.heap.size + 1, 1, none⟩) (v := .int .i64 r.epoch) (by simp [go_sem])
  have k4 := he1.cells (p := ⟨w.heap.size, 2, none⟩) (v := .int .i64 r.number) (by simp [go_sem])
  have k5 := he1.cells (p := ⟨w.heap.size + 1, 2, none⟩) (v := .int .i64 r.number) (by simp [go_sem])
  have X1 := hide ((((Ext.refl w).alloc _).alloc _).trans he1)
  clear he1
  go_wp2_with fail
  all_goals go_ret
  all_goals exact ⟨rfl, X1.out⟩
end Go.Proofs.Ytmadjcnddokkoaa
