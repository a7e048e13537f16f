/-
  Records that are the same.
-/
/-
  Two lists of resources that are the same.
-/
import Derived.Test.YtokogjhcgdhapaaJ3
import Derived.Test.YtokogjhcgdhapaaRecMay
namespace Go.Proofs.Ytokogjhcgdhapaa
open Go.RowKit

set_option maxRecDepth 100000 in
set_option maxHeartbeats 800000 in
theorem sameStep (r : Recd) (c2 c3 d2 d3 : Value) (w : World) (hu : ResV w c2 c3 r.res) (hv : ResV w d2 d3 r.res) :
    Calls Try.prog 41 #[.agg #[.int .i64 r.op, .string r.res.id.kind, .string r.res.id.name, c2, c3], .agg #[.int .i64 r.op, .string r.res.id.kind, .string r.res.id.name, d2, d3]] w fun e w' => e = .returned (.bool true) ∧ Ext w w' := by
  obtain ⟨a2, p2, rfl⟩ := hu.attrs.form
  obtain ⟨a3, p3, rfl⟩ := hu.after.form
  obtain ⟨b2, q2, rfl⟩ := hv.attrs.form
  obtain ⟨b3, q3, rfl⟩ := hv.after.form
  replace hu := hide hu; replace hv := hide hv
  go_enter Try.func41, Try.ntmps41
  go_wp2_with fail
  refine (sameRes _ _ _ _ r.res _ (hu.out.ext (((Ext.refl _).alloc _).alloc _)) (hv.out.ext (((Ext.refl _).alloc _).alloc _))).mono ?_
  rintro e w1 ⟨rfl, he1⟩
  have k0 := he1.cells (p := ⟨w.heap.size, 0, none⟩) (v := .int .i64 r.op) (by simp [go_sem])
  have k1 := he1.cells (p := ⟨w.heap.size + 1, 0, none⟩) (v := .int .i64 r.op) (by simp [go_sem])
  have X1 := hide ((((Ext.refl w).alloc _).alloc _).trans he1)
  clear he1
  go_wp2_with fail
  all_goals go_ret
  all_goals exact ⟨rfl, X1.out⟩

set_option maxRecDepth 100000 in
set_option maxHeartbeats 1600000 in
theorem sameRecord (r : Recd) (c2 c3 d2 d3 : Value) (w : World) (hu : ResV w c2 c3 r.res) (hv : ResV w d2 d3 r.res) :
    Calls Try.prog 23 #[.agg #[.int .i64 r.kind, .int .i64 r.epoch, .int .i64 r.number, .int .i64 r.op, .string r.res.id.kind, .string r.res.id.name, c2, c3], .agg #[.int .i64 r.kind, .int .i64 r.epoch, .int .i64 r.number, .int .i64 r.op, .string r.res.id.kind, .string r.res.id.name, d2, d3]] w fun e w' => e = .returned (.bool true) ∧ Ext w w' := by
  obtain ⟨a2, p2, rfl⟩ := hu.attrs.form
  obtain ⟨a3, p3, rfl⟩ := hu.after.form
  obtain ⟨b2, q2, rfl⟩ := hv.attrs.form
  obtain ⟨b3, q3, rfl⟩ := hv.after.form
  replace hu := hide hu; replace hv := hide hv
  go_enter Try.func23, Try.ntmps23
  go_wp2_with fail
  refine (sameStep r _ _ _ _ _ (hu.out.ext (((Ext.refl _).alloc _).alloc _)) (hv.out.ext (((Ext.refl _).alloc _).alloc _))).mono ?_
  rintro e w1 ⟨rfl, he1⟩
  have k0 := he1.cells (p := ⟨w.heap.size, 0, none⟩) (v := .int .i64 r.kind) (by simp [go_sem])
  have k1 := he1.cells (p := ⟨w.heap.size + 1, 0, none⟩) (v := .int .i64 r.kind) (by simp [go_sem])
  have k2 := he1.cells (p := ⟨w.heap.size, 1, none⟩) (v := .int .i64 r.epoch) (by simp [go_sem])
  have k3 := he1.cells (p := ⟨w.heap.size + 1, 1, none⟩) (v := .int .i64 r.epoch) (by simp [go_sem])
  have k4 := he1.cells (p := ⟨w.heap.size, 2, none⟩) (v := .int .i64 r.number) (by simp [go_sem])
  have k5 := he1.cells (p := ⟨w.heap.size + 1, 2, none⟩) (v := .int .i64 r.number) (by simp [go_sem])
  have X1 := hide ((((Ext.refl w).alloc _).alloc _).trans he1)
  clear he1
  go_wp2_with fail
  all_goals go_ret
  all_goals exact ⟨rfl, X1.out⟩
end Go.Proofs.Ytokogjhcgdhapaa

namespace Go.Proofs.Ytokogjhcgdhapaa
open Go.RowKit

set_option maxRecDepth 100000 in
set_option maxHeartbeats 3200000 in
theorem sameRess (u v : Value) (l : List Resd) (w : World) (hu : RessV w u l) (hv : RessV w v l) :
    Calls Try.prog 18 #[u, v] w fun e w' => e = .returned (.bool true) ∧ Ext w w' := by
  obtain ⟨⟨a, cap, rfl, hcap, hmax, hs⟩, hfew⟩ := hu
  obtain ⟨⟨a', cap', rfl, hcap', hmax', hs'⟩, hfew'⟩ := hv
  go_enter Try.func18, Try.ntmps18
  go_wp2
  go_loopw [5] (fun i wr => ∃ k : Nat, k ≤ l.length ∧ i = .int .i64 k ∧ Ext w wr) (fun i _ => l.length - (intOf i).toNat)
  case atStart => exact ⟨0, Nat.zero_le _, rfl, Ext.refl _⟩
  case round =>
    obtain ⟨k, hk, rfl, he⟩ := hrel
    by_cases hlt : k < l.length
    · rcases hs with rfl | ⟨b, off, rfl, hin⟩
      · simp at hlt
      rcases hs' with rfl | ⟨b', off', rfl, hin'⟩
      · simp at hlt
      obtain ⟨x, hx⟩ := some_of_lt hlt
      obtain ⟨g0, g1, c2, c3, g2, g3, hres⟩ := (hin.ext he) k x hx
      obtain ⟨k0, k1, d2, d3, k2, k3, hres'⟩ := (hin'.ext he) k x hx
      have hr := hide hres; have hr' := hide hres'
      obtain ⟨a2, p2, rfl⟩ := hres.attrs.form
      obtain ⟨a3, p3, rfl⟩ := hres.after.form
      obtain ⟨b2, q2, rfl⟩ := hres'.attrs.form
      obtain ⟨b3, q3, rfl⟩ := hres'.after.form
      clear hres hres'
      have i2 : (k : Int) < (l.length : Int) := by omega
      have i4 : (0 : Int) ≤ (k : Int) := by omega
      replace hin := hide hin; replace hin' := hide hin'
      replace he := hide he
      replace hx := hide hx
      go_wp2_with fail
      go_region_held3 (fun w' => w'.cell? ⟨b, off + k * 4, none⟩ = some (.string x.id.kind) ∧ w'.cell? ⟨b, off + k * 4 + 1, none⟩ = some (.string x.id.name) ∧ w'.cell? ⟨b, off + k * 4 + 2, none⟩ = some (.slice a2 x.attrs.length p2) ∧ w'.cell? ⟨b, off + k * 4 + 3, none⟩ = some (.slice a3 x.after.length p3) ∧ w'.cell? ⟨b', off' + k * 4, none⟩ = some (.string x.id.kind) ∧ w'.cell? ⟨b', off' + k * 4 + 1, none⟩ = some (.string x.id.name) ∧ w'.cell? ⟨b', off' + k * 4 + 2, none⟩ = some (.slice b2 x.attrs.length q2) ∧ w'.cell? ⟨b', off' + k * 4 + 3, none⟩ = some (.slice b3 x.after.length q3)) (go_keep)
        ((go_at_call 36; refine (sameRes _ _ _ _ x _ (hr.out.ext (Ext.refl _).drew) (hr'.out.ext (Ext.refl _).drew)).mono ?_; rintro e w1 ⟨rfl, he1⟩; have q0 := he1.cells (p := ⟨b, off + k * 4, none⟩) (v := .string x.id.kind) (by simpa using g0); have q1 := he1.cells (p := ⟨b, off + k * 4 + 1, none⟩) (v := .string x.id.name) (by simpa using g1); have q4 := he1.cells (p := ⟨b, off + k * 4 + 2, none⟩) (v := .slice a2 x.attrs.length p2) (by simpa using g2); have q5 := he1.cells (p := ⟨b, off + k * 4 + 3, none⟩) (v := .slice a3 x.after.length p3) (by simpa using g3); have r0 := he1.cells (p := ⟨b', off' + k * 4, none⟩) (v := .string x.id.kind) (by simpa using k0); have r1 := he1.cells (p := ⟨b', off' + k * 4 + 1, none⟩) (v := .string x.id.name) (by simpa using k1); have r4 := he1.cells (p := ⟨b', off' + k * 4 + 2, none⟩) (v := .slice b2 x.attrs.length q2) (by simpa using k2); have r5 := he1.cells (p := ⟨b', off' + k * 4 + 3, none⟩) (v := .slice b3 x.after.length q3) (by simpa using k3); replace he1 := hide he1))
      go_wp2
      go_roundw
      case rel => exact ⟨k + 1, by omega, by go_num, he.out.drew.trans he1.out⟩
      case measure => simp [intOf]; omega
    · replace he := hide he
      replace hs := hide hs; replace hs' := hide hs'
      go_wp2
      go_ret
      exact ⟨rfl, he.out⟩
end Go.Proofs.Ytokogjhcgdhapaa
