/-
  Two lists of resources that are the same.
-/
import Derived.Test.YtjebmabffocobaaDoorSame2
namespace Go.Proofs.YtjebmabffocobaaDoor
open Go.RowKit

set_option maxRecDepth 100000 in
set_option maxHeartbeats 3200000 in
theorem sameRess (u v : Value) (l : List Resd) (w : World) (hu : RessV w u l) (hv : RessV w v l) :
    Calls Tryd.prog 14 #[u, v] w fun e w' => e = .returned (.bool true) ∧ Ext w w' := by
  obtain ⟨⟨a, cap, rfl, hcap, hmax, hs⟩, hfew⟩ := hu
  obtain ⟨⟨a', cap', rfl, hcap', hmax', hs'⟩, hfew'⟩ := hv
  go_enter Tryd.func14, Tryd.ntmps14
  go_wp2
  go_loopw [5] (fun i wr => ∃ k : Nat, k ≤ l.length ∧ i = .int .i64 k ∧ Ext w wr) (fun i _ => l.length - (intOf i).toNat)
  case atStart => exact ⟨0, Nat.zero_le _, rfl, Ext.refl _⟩
  case round =>
    obtain ⟨k, hk, rfl, he⟩ := hrel
    by_cases hlt : k < l.length
    · rcases hs with rfl | ⟨b, off, rfl, hin⟩
      · simp at hlt
      rcases hs' with rfl | ⟨b', off', rfl, hin'⟩
      · simp at hlt
      obtain ⟨x, hx⟩ := some_of_lt hlt
      obtain ⟨g0, g1, c2, c3, g2, g3, hres⟩ := (hin.ext he) k x hx
      obtain ⟨k0, k1, d2, d3, k2, k3, hres'⟩ := (hin'.ext he) k x hx
      have hr := hide hres; have hr' := hide hres'
      obtain ⟨a2, p2, rfl⟩ := hres.attrs.form
      obtain ⟨a3, p3, rfl⟩ := hres.after.form
      obtain ⟨b2, q2, rfl⟩ := hres'.attrs.form
      obtain ⟨b3, q3, rfl⟩ := hres'.after.form
      clear hres hres'
      have i2 : (k : Int) < (l.length : Int) := by omega
      have i4 : (0 : Int) ≤ (k : Int) := by omega
      replace hin := hide hin; replace hin' := hide hin'
      replace he := hide he
      replace hx := hide hx
      go_wp2_with fail
      go_region_held3 (fun w' => w'.cell? ⟨b, off + k * 4, none⟩ = some (.string x.id.kind) ∧ w'.cell? ⟨b, off + k * 4 + 1, none⟩ = some (.string x.id.name) ∧ w'.cell? ⟨b, off + k * 4 + 2, none⟩ = some (.slice a2 x.attrs.length p2) ∧ w'.cell? ⟨b, off + k * 4 + 3, none⟩ = some (.slice a3 x.after.length p3) ∧ w'.cell? ⟨b', off' + k * 4, none⟩ = some (.string x.id.kind) ∧ w'.cell? ⟨b', off' + k * 4 + 1, none⟩ = some (.string x.id.name) ∧ w'.cell? ⟨b', off' + k * 4 + 2, none⟩ = some (.slice b2 x.attrs.length q2) ∧ w'.cell? ⟨b', off' + k * 4 + 3, none⟩ = some (.slice b3 x.after.length q3)) (go_keep)
        ((go_at_call 27; refine (sameRes _ _ _ _ x _ (hr.out.ext (Ext.refl _).drew) (hr'.out.ext (Ext.refl _).drew)).mono ?_; rintro e w1 ⟨rfl, he1⟩; have q0 := he1.cells (p := ⟨b, off + k * 4, none⟩) (v := .string x.id.kind) (by simpa using g0); have q1 := he1.cells (p := ⟨b, off + k * 4 + 1, none⟩) (v := .string x.id.name) (by simpa using g1); have q4 := he1.cells (p := ⟨b, off + k * 4 + 2, none⟩) (v := .slice a2 x.attrs.length p2) (by simpa using g2); have q5 := he1.cells (p := ⟨b, off + k * 4 + 3, none⟩) (v := .slice a3 x.after.length p3) (by simpa using g3); have r0 := he1.cells (p := ⟨b', off' + k * 4, none⟩) (v := .string x.id.kind) (by simpa using k0); have r1 := he1.cells (p := ⟨b', off' + k * 4 + 1, none⟩) (v := .string x.id.name) (by simpa using k1); have r4 := he1.cells (p := ⟨b', off' + k * 4 + 2, none⟩) (v := .slice b2 x.attrs.length q2) (by simpa using k2); have r5 := he1.cells (p := ⟨b', off' + k * 4 + 3, none⟩) (v := .slice b3 x.after.length q3) (by simpa using k3); replace he1 := hide he1))
      go_wp2
      go_roundw
      case rel => exact ⟨k + 1, by omega, by go_num, he.out.drew.trans he1.out⟩
      case measure => simp [intOf]; omega
    · replace he := hide he
      replace hs := hide hs; replace hs' := hide hs'
      go_wp2
      go_ret
      exact ⟨rfl, he.out⟩
end Go.Proofs.YtjebmabffocobaaDoor
