/-
  The books are looked at, where there are lists of Attrs and IDs alone; records that are the same.
-/
import Derived.Test.YtldcdcjmoabioaaLooks
import Derived.Test.YtldcdcjmoabioaaSame2
import Derived.Test.YtldcdcjmoabioaaRecMay
namespace Go.Proofs.Ytldcdcjmoabioaa
open Go.RowKit

set_option maxRecDepth 100000 in
set_option maxHeartbeats 3200000 in
theorem booksLook (B O : Nat) (w : World) (va vi : Value) (ea ei : List (Value × Nat)) (hb : BkAt B w O va vi (.slice none 0 0) (.slice none 0 0) (.slice none 0 0) (.slice none 0 0) ea ei) (he : ea.length ≤ 1000) (hf : ei.length ≤ 1000) (hA : ∀ x ∈ ea, MarkG 52 4 mkA w x) (hI : ∀ x ∈ ei, MarkG 25 2 mkI w x) :
    Calls Try.prog 25 #[.pointer (some ⟨O, 0, none⟩)] w fun e w' => e = .returned (.bool true) ∧ Ext w w' := by
  obtain ⟨o0, o1, o2, o3, o4, o5⟩ := six_cells hb.o
  replace hb := hide hb; replace hA := hide hA; replace hI := hide hI
  go_enter Try.func25, Try.ntmps25
  go_wp2_with fail
  go_loop [3] (fun i => i = .int .i64 0) (fun _ => 0)
  case atStart => rfl
  case round =>
    subst hrel
    go_wp2_with fail
    go_loop [7] (fun i => i = .int .i64 0) (fun _ => 0)
    case atStart => rfl
    case round =>
      subst hrel
      go_wp2_with fail
      go_loop [11] (fun i => i = .int .i64 0) (fun _ => 0)
      case atStart => rfl
      case round =>
        subst hrel
        go_wp2_with fail
        refine (bookLooks B O _ va vi _ _ _ ea ei hb.out he hf hA.out hI.out).mono ?_
        rintro e w1 ⟨rfl, he1⟩
        replace he1 := hide he1
        go_wp2_with fail
        go_ret
        exact ⟨rfl, he1.out⟩

set_option maxRecDepth 100000 in
set_option maxHeartbeats 800000 in
theorem sameStep (r : Recd) (c2 c3 d2 d3 : Value) (w : World) (hu : ResV w c2 c3 r.res) (hv : ResV w d2 d3 r.res) :
    Calls Try.prog 41 #[.agg #[.int .i64 r.op, .string r.res.id.kind, .string r.res.id.name, c2, c3], .agg #[.int .i64 r.op, .string r.res.id.kind, .string r.res.id.name, d2, d3]] w fun e w' => e = .returned (.bool true) ∧ Ext w w' := by
  obtain ⟨a2, p2, rfl⟩ := hu.attrs.form
  obtain ⟨a3, p3, rfl⟩ := hu.after.form
  obtain ⟨b2, q2, rfl⟩ := hv.attrs.form
  obtain ⟨b3, q3, rfl⟩ := hv.after.form
  replace hu := hide hu; replace hv := hide hv
  go_enter Try.func41, Try.ntmps41
  go_wp2_with fail
  refine (sameRes _ _ _ _ r.res _ (hu.out.ext (((Ext.refl _).alloc _).alloc _)) (hv.out.ext (((Ext.refl _).alloc _).alloc _))).mono ?_
  rintro e w1 ⟨rfl, he1⟩
  have k0 := he1.cells (p := ⟨w.heap.size, 0, none⟩) (v := .int .i64 r.op) (by simp [go_sem])
  have k1 := he1.cells (p := ⟨w.heap.size + 1, 0, none⟩) (v := .int .i64 r.op) (by simp [go_sem])
  have X1 := hide ((((Ext.refl w).alloc _).alloc _).trans he1)
  clear he1
  go_wp2_with fail
  all_goals go_ret
  all_goals exact ⟨rfl, X1.out⟩

set_option maxRecDepth 100000 in
set_option maxHeartbeats 1600000 in
theorem sameRecord (r : Recd) (c2 c3 d2 d3 : Value) (w : World) (hu : ResV w c2 c3 r.res) (hv : ResV w d2 d3 r.res) :
    Calls Try.prog 23 #[.agg #[.int .i64 r.kind, .int .i64 r.epoch, .int .i64 r.number, .int .i64 r.op, .string r.res.id.kind, .string r.res.id.name, c2, c3], .agg #[.int .i64 r.kind, .int .i64 r.epoch, .int .i64 r.number, .int .i64 r.op, .string r.res.id.kind, .string r.res.id.name, d2, d3]] w fun e w' => e = .returned (.bool true) ∧ Ext w w' := by
  obtain ⟨a2, p2, rfl⟩ := hu.attrs.form
  obtain ⟨a3, p3, rfl⟩ := hu.after.form
  obtain ⟨b2, q2, rfl⟩ := hv.attrs.form
  obtain ⟨b3, q3, rfl⟩ := hv.after.form
  replace hu := hide hu; replace hv := hide hv
  go_enter Try.func23, Try.ntmps23
  go_wp2_with fail
  refine (sameStep r _ _ _ _ _ (hu.out.ext (((Ext.refl _).alloc _).alloc _)) (hv.out.ext (((Ext.refl _).alloc _).alloc _))).mono ?_
  rintro e w1 ⟨rfl, he1⟩
  have k0 := he1.cells (p := ⟨w.heap.size, 0, none⟩) (v := .int .i64 r.kind) (by simp [go_sem])
  have k1 := he1.cells (p := ⟨w.heap.size + 1, 0, none⟩) (v := .int .i64 r.kind) (by simp [go_sem])
  have k2 := he1.cells (p := ⟨w.heap.size, 1, none⟩) (v := .int .i64 r.epoch) (by simp [go_sem])
  have k3 := he1.cells (p := ⟨w.heap.size + 1, 1, none⟩) (v := .int .i64 r.epoch) (by simp [go_sem])
  have k4 := he1.cells (p := ⟨w.heap.size, 2, none⟩) (v := .int .i64 r.number) (by simp [go_sem])
  have k5 := he1.cells (p := ⟨w.heap.size + 1, 2, none⟩) (v := .int .i64 r.number) (by simp [go_sem])
  have X1 := hide ((((Ext.refl w).alloc _).alloc _).trans he1)
  clear he1
  go_wp2_with fail
  all_goals go_ret
  all_goals exact ⟨rfl, X1.out⟩
end Go.Proofs.Ytldcdcjmoabioaa
