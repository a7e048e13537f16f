/-
  Resources that may be: what the program's functions answer of a list.
-/
import Derived.Test.YtkjjfdejfihpfaaGreatJ7
namespace Go.Proofs.YtkjjfdejfihpfaaGreat
open Go.RowKit

set_option maxRecDepth 100000 in
set_option maxHeartbeats 800000 in
theorem everyRes (v : Value) (l : List Resd) (w : World) (hv : RessV w v l) :
    Calls Tryz.prog 29 #[v, .func (.func 52) #[] #[]] w fun e w' => e = .returned (.bool (l.all mayB)) ∧ Ext w w' := by
  obtain ⟨⟨a, cap, rfl, hcap, hmax, hs⟩, hfew⟩ := hv
  go_enter Tryz.func29, Tryz.ntmps29
  go_wp2
  go_loopw [9] (fun i wr => ∃ k : Nat, k ≤ l.length ∧ i = .int .i64 k ∧ Hid ((l.take k).all mayB = true) ∧ Ext w wr) (fun i _ => l.length - (intOf i).toNat)
  case atStart => exact ⟨0, Nat.zero_le _, rfl, by simp [Hid], Ext.refl _⟩
  case round =>
    obtain ⟨k, hk, rfl, hall, he⟩ := hrel
    by_cases hlt : k < l.length
    · rcases hs with rfl | ⟨b, off, rfl, hin⟩
      · simp at hlt
      obtain ⟨x, hx⟩ := some_of_lt hlt
      obtain ⟨g0, g1, c2, c3, g2, g3, hres⟩ := (hin.ext he) k x hx
      have hres0 := hide hres
      obtain ⟨a2, p2, rfl⟩ := hres.attrs.form
      obtain ⟨a3, p3, rfl⟩ := hres.after.form
      clear hres
      have Hs := hide (all_succ (p := mayB) hx hall.out)
      have Hf := hide (all_no (p := mayB) hx)
      replace hin := hide hin
      replace he := hide he
      replace hx := hide hx
      go_wp2_with fail
      refine (mayBe _ _ x _ (hres0.out.ext ((Ext.refl _).alloc _))).mono ?_
      rintro e w1 ⟨rfl, he1⟩
      replace he1 := hide he1
      cases hb : mayB x
      · go_wp2_with fail
        go_ret
        exact ⟨retB (unhide Hf hb).symm, (he.out.alloc _).trans he1.out⟩
      · go_wp2_with fail
        go_roundw
        case rel => exact ⟨k + 1, by omega, by go_num, by rw [unhide Hs]; exact hb, (he.out.alloc _).trans he1.out⟩
        case measure => simp [intOf]; omega
    · have Hl := hide (show l.take k = l from List.take_of_length_le (by omega))
      replace he := hide he
      replace hs := hide hs
      go_wp2
      go_ret
      exact ⟨retB (by rw [unhide Hl] at hall; exact hall.out.symm), he.out⟩

set_option maxRecDepth 100000 in
set_option maxHeartbeats 800000 in
theorem compareRes (i j : IDd) (a2 a3 b2 b3 : Option Addr) (n2 n3 m2 m3 p2 p3 q2 q3 : Nat) (w : World) :
    Calls Tryz.prog 54 #[.agg #[.string i.kind, .string i.name, .slice a2 n2 p2, .slice a3 n3 p3], .agg #[.string j.kind, .string j.name, .slice b2 m2 q2, .slice b3 m3 q3]] w fun e w' => e = .returned (.int .i64 (cmpI i j)) ∧ Ext w w' := by
  go_enter Tryz.func54, Tryz.ntmps54
  go_wp2_with fail
  refine (compareIDs i j _).mono ?_
  rintro e w1 ⟨rfl, he1⟩
  replace he1 := hide he1
  go_wp2_with fail
  go_ret
  exact ⟨rfl, (((Ext.refl _).alloc _).alloc _).trans he1.out⟩

set_option maxRecDepth 100000 in
set_option maxHeartbeats 3200000 in
theorem risesRes (v : Value) (l : List Resd) (w : World) (hv : RessV w v l) :
    Calls Tryz.prog 53 #[v, .func (.func 54) #[] #[]] w fun e w' => e = .returned (.bool (risesB lessR l)) ∧ Ext w w' := by
  obtain ⟨⟨a, cap, rfl, hcap, hmax, hs⟩, hfew⟩ := hv
  go_enter Tryz.func53, Tryz.ntmps53
  go_wp2
  go_loopw [5] (fun i wr => ∃ m : Nat, 1 ≤ m ∧ (m ≤ l.length ∨ m = 1) ∧ i = .int .i64 m ∧ Hid (risesB lessR (l.take m) = true) ∧ Ext w wr) (fun i _ => l.length - (intOf i).toNat)
  case atStart => exact ⟨1, Nat.le_refl _, .inr rfl, rfl, rises_one _, Ext.refl _⟩
  case round =>
    obtain ⟨m, hm1, hk, rfl, hall, he⟩ := hrel
    obtain ⟨k, hkm⟩ : ∃ k, m = k + 1 := ⟨m - 1, by omega⟩
    by_cases hlt : m < l.length
    · rcases hs with rfl | ⟨b, off, rfl, hin⟩
      · simp at hlt
      obtain ⟨x, hx⟩ := some_of_lt (show k < l.length by omega)
      obtain ⟨y, hy⟩ := some_of_lt hlt
      obtain ⟨g0, g1, c2, c3, g2, g3, hres⟩ := (hin.ext he) k x hx
      obtain ⟨k0, k1, d2, d3, k2, k3, hres'⟩ := (hin.ext he) m y hy
      obtain ⟨a2, p2, rfl⟩ := hres.attrs.form
      obtain ⟨a3, p3, rfl⟩ := hres.after.form
      obtain ⟨b2, q2, rfl⟩ := hres'.attrs.form
      obtain ⟨b3, q3, rfl⟩ := hres'.after.form
      clear hres hres'
      have Hs : Hid (risesB lessR (l.take (m + 1)) = (risesB lessR (l.take m) && lessR x y)) := by subst hkm; exact rises_take (lt := lessR) hx hy
      have Hf : Hid (lessR x y = false → risesB lessR l = false) := by subst hkm; exact rises_no (lt := lessR) hx hy
      have i1 : (0 : Int) ≤ (k : Int) := by omega
      have i2 : (m : Int) < (l.length : Int) := by omega
      have i3 : (k : Int) < (l.length : Int) := by omega
      have i4 : (0 : Int) ≤ (m : Int) := by omega
      have e1 : IntKind.i64.wrap ((m : Int) - 1) = (k : Int) := by rw [IntKind.wrap_i64]; omega
      replace hin := hide hin
      replace he := hide he
      replace hx := hide hx
      replace hy := hide hy
      replace hk := hide hk
      replace hkm := hide hkm
      generalize x.attrs.length = n2 at *
      generalize x.after.length = n3 at *
      generalize y.attrs.length = m2 at *
      generalize y.after.length = m3 at *
      go_wp2_with fail
      go_region_held3 (fun w' => w'.cell? ⟨b, off + k * 4, none⟩ = some (.string x.id.kind) ∧ w'.cell? ⟨b, off + k * 4 + 1, none⟩ = some (.string x.id.name) ∧ w'.cell? ⟨b, off + k * 4 + 2, none⟩ = some (.slice a2 n2 p2) ∧ w'.cell? ⟨b, off + k * 4 + 3, none⟩ = some (.slice a3 n3 p3) ∧ w'.cell? ⟨b, off + m * 4, none⟩ = some (.string y.id.kind) ∧ w'.cell? ⟨b, off + m * 4 + 1, none⟩ = some (.string y.id.name) ∧ w'.cell? ⟨b, off + m * 4 + 2, none⟩ = some (.slice b2 m2 q2) ∧ w'.cell? ⟨b, off + m * 4 + 3, none⟩ = some (.slice b3 m3 q3)) (go_keep)
        ((go_at_call 54; refine (compareRes x.id y.id _ _ _ _ _ _ _ _ _ _ _ _ _).mono ?_; rintro e w1 ⟨rfl, he1⟩; have q0 := he1.cells (p := ⟨b, off + k * 4, none⟩) (v := .string x.id.kind) (by simpa using g0); have q1 := he1.cells (p := ⟨b, off + k * 4 + 1, none⟩) (v := .string x.id.name) (by simpa using g1); have q4 := he1.cells (p := ⟨b, off + k * 4 + 2, none⟩) (v := .slice a2 n2 p2) (by simpa using g2); have q5 := he1.cells (p := ⟨b, off + k * 4 + 3, none⟩) (v := .slice a3 n3 p3) (by simpa using g3); have r0 := he1.cells (p := ⟨b, off + m * 4, none⟩) (v := .string y.id.kind) (by simpa using k0); have r1 := he1.cells (p := ⟨b, off + m * 4 + 1, none⟩) (v := .string y.id.name) (by simpa using k1); have r4 := he1.cells (p := ⟨b, off + m * 4 + 2, none⟩) (v := .slice b2 m2 q2) (by simpa using k2); have r5 := he1.cells (p := ⟨b, off + m * 4 + 3, none⟩) (v := .slice b3 m3 q3) (by simpa using k3); replace he1 := hide he1))
      by_cases hb : 0 ≤ cmpI x.id y.id
      · have Hb := hide (show lessR x y = false by simp [lessR, lessI]; omega)
        go_wp2
        go_ret
        exact ⟨retB (unhide Hf (unhide Hb)).symm, he.out.drew.trans he1.out⟩
      · have hd : decide (0 ≤ cmpI x.id y.id) = false := by simpa using hb
        have Hb := hide (show lessR x y = true by simp [lessR, lessI]; omega)
        go_wp2
        go_roundw
        case rel => exact ⟨m + 1, by omega, .inl (by omega), by go_num, by rw [unhide Hs]; simp [Hid, hall.out, unhide Hb], he.out.drew.trans he1.out⟩
        case measure => simp [intOf]; omega
    · have Hl : Hid (l.take m = l) := List.take_of_length_le (by omega)
      replace he := hide he
      replace hs := hide hs
      replace hkm := hide hkm
      go_wp2
      go_ret
      exact ⟨retB (by rw [unhide Hl] at hall; exact hall.out.symm), he.out⟩

set_option maxRecDepth 100000 in
set_option maxHeartbeats 800000 in
theorem allMayBe (v : Value) (l : List Resd) (w : World) (hv : RessV w v l) :
    Calls Tryz.prog 28 #[v] w fun e w' => e = .returned (.bool (mayAllB l)) ∧ Ext w w' := by
  have hv0 := hide hv
  obtain ⟨⟨a, cap, rfl, hcap, hmax, hs⟩, hfew⟩ := hv
  clear hs
  by_cases h12 : 12 < l.length
  · have H := hide (show mayAllB l = false by simp [mayAllB]; omega)
    have h' : decide ((l.length : Int) ≤ 12) = false := by simp; omega
    go_enter Tryz.func28, Tryz.ntmps28
    go_wp2_with fail
    go_ret
    exact ⟨retB (by rw [unhide H]), Ext.refl _⟩
  have h' : (l.length : Int) ≤ 12 := by omega
  have H := hide (show mayAllB l = (l.all mayB && risesB lessR l) by simp only [mayAllB]; rw [decide_eq_true (show l.length ≤ 12 by omega)]; simp)
  go_enter Tryz.func28, Tryz.ntmps28
  go_wp2_with fail
  refine (everyRes _ l _ hv0.out).mono ?_
  rintro e w1 ⟨rfl, he1⟩
  replace he1 := hide he1
  cases h1 : l.all mayB
  · go_wp2_with fail
    go_ret
    exact ⟨retB (by rw [unhide H, h1]; rfl), he1.out⟩
  go_wp2_with fail
  refine (risesRes _ l _ (hv0.out.ext he1.out)).mono ?_
  rintro e w2 ⟨rfl, he2⟩
  replace he2 := hide he2
  go_wp2_with fail
  go_ret
  exact ⟨retB (by rw [unhide H, h1]; simp), he1.out.trans he2.out⟩
end Go.Proofs.YtkjjfdejfihpfaaGreat
