/-
  Lists that rise: what the function that looks for it answers.
-/
import Derived.Test.YtkjjfdejfihpfaaGreatJ6
namespace Go.Proofs.YtkjjfdejfihpfaaGreat
open Go.RowKit

set_option maxRecDepth 100000 in
set_option maxHeartbeats 800000 in
theorem compareAttrs (x y : Attrd) (w : World) :
    Calls Tryz.prog 74 #[.agg #[.string x.name, .bool x.isText, .string x.text, .int .i64 x.number], .agg #[.string y.name, .bool y.isText, .string y.text, .int .i64 y.number]] w fun e w' => e = .returned (.int .i64 (cmpS x.name y.name)) ∧ Ext w w' := by
  go_enter Tryz.func74, Tryz.ntmps74
  go_wp2_with (go_at_call 87; refine (Tryz.strings_Compare _ _ _).mono ?_; rintro e w' ⟨rfl, rfl⟩)
  go_ret
  exact ⟨rfl, ((Ext.refl _).alloc _).alloc _⟩

set_option maxRecDepth 100000 in
set_option maxHeartbeats 1600000 in
theorem risesID (v : Value) (l : List IDd) (w : World) (hv : IDsV w v l) :
    Calls Tryz.prog 75 #[v, .func (.func 76) #[] #[]] w fun e w' => e = .returned (.bool (risesB lessI l)) ∧ Ext w w' := by
  obtain ⟨⟨a, cap, rfl, hcap, hmax, hs⟩, hfew, hok⟩ := hv
  replace hok := hide hok
  go_enter Tryz.func75, Tryz.ntmps75
  go_wp2
  go_loopw [5] (fun i wr => ∃ m : Nat, 1 ≤ m ∧ (m ≤ l.length ∨ m = 1) ∧ i = .int .i64 m ∧ Hid (risesB lessI (l.take m) = true) ∧ Ext w wr) (fun i _ => l.length - (intOf i).toNat)
  case atStart => exact ⟨1, Nat.le_refl _, .inr rfl, rfl, rises_one _, Ext.refl _⟩
  case round =>
    obtain ⟨m, hm1, hk, rfl, hall, he⟩ := hrel
    obtain ⟨k, hkm⟩ : ∃ k, m = k + 1 := ⟨m - 1, by omega⟩
    by_cases hlt : m < l.length
    · rcases hs with rfl | ⟨b, off, rfl, hin⟩
      · simp at hlt
      obtain ⟨x, hx⟩ := some_of_lt (show k < l.length by omega)
      obtain ⟨y, hy⟩ := some_of_lt hlt
      obtain ⟨g0, g1⟩ := (hin.ext he) k x hx
      obtain ⟨k0, k1⟩ := (hin.ext he) m y hy
      have Hs : Hid (risesB lessI (l.take (m + 1)) = (risesB lessI (l.take m) && lessI x y)) := by subst hkm; exact rises_take (lt := lessI) hx hy
      have Hf : Hid (lessI x y = false → risesB lessI l = false) := by subst hkm; exact rises_no (lt := lessI) hx hy
      have i1 : (0 : Int) ≤ (k : Int) := by omega
      have i2 : (m : Int) < (l.length : Int) := by omega
      have i3 : (k : Int) < (l.length : Int) := by omega
      have i4 : (0 : Int) ≤ (m : Int) := by omega
      have e1 : IntKind.i64.wrap ((m : Int) - 1) = (k : Int) := by rw [IntKind.wrap_i64]; omega
      replace hin := hide hin
      replace he := hide he
      replace hx := hide hx
      replace hy := hide hy
      replace hk := hide hk
      replace hkm := hide hkm
      go_wp2_with fail
      go_region_held3 (fun w' => w'.cell? ⟨b, off + k * 2, none⟩ = some (.string x.kind) ∧ w'.cell? ⟨b, off + k * 2 + 1, none⟩ = some (.string x.name) ∧ w'.cell? ⟨b, off + m * 2, none⟩ = some (.string y.kind) ∧ w'.cell? ⟨b, off + m * 2 + 1, none⟩ = some (.string y.name)) (go_keep)
        ((go_at_call 76; refine (compareIDs x y _).mono ?_; rintro e w1 ⟨rfl, he1⟩; have q0 := he1.cells (p := ⟨b, off + k * 2, none⟩) (v := .string x.kind) (by simpa using g0); have q1 := he1.cells (p := ⟨b, off + k * 2 + 1, none⟩) (v := .string x.name) (by simpa using g1); have q2 := he1.cells (p := ⟨b, off + m * 2, none⟩) (v := .string y.kind) (by simpa using k0); have q3 := he1.cells (p := ⟨b, off + m * 2 + 1, none⟩) (v := .string y.name) (by simpa using k1); replace he1 := hide he1))
      by_cases hb : 0 ≤ cmpI x y
      · have Hb := hide (show lessI x y = false by simp [lessI]; omega)
        go_wp2
        go_ret
        exact ⟨retB (unhide Hf (unhide Hb)).symm, he.out.drew.trans he1.out⟩
      · have hd : decide (0 ≤ cmpI x y) = false := by simpa using hb
        have Hb := hide (show lessI x y = true by simp [lessI]; omega)
        go_wp2
        go_roundw
        case rel => exact ⟨m + 1, by omega, .inl (by omega), by go_num, by rw [unhide Hs]; simp [Hid, hall.out, unhide Hb], he.out.drew.trans he1.out⟩
        case measure => simp [intOf]; omega
    · have Hl : Hid (l.take m = l) := List.take_of_length_le (by omega)
      replace he := hide he
      replace hs := hide hs
      replace hkm := hide hkm
      go_wp2
      go_ret
      exact ⟨retB (by rw [unhide Hl] at hall; exact hall.out.symm), he.out⟩
set_option maxRecDepth 100000 in
set_option maxHeartbeats 1600000 in
theorem risesAttr (v : Value) (l : List Attrd) (w : World) (hv : AttrsV w v l) :
    Calls Tryz.prog 73 #[v, .func (.func 74) #[] #[]] w fun e w' => e = .returned (.bool (risesB lessA l)) ∧ Ext w w' := by
  obtain ⟨⟨a, cap, rfl, hcap, hmax, hs⟩, hfew, hok⟩ := hv
  replace hok := hide hok
  go_enter Tryz.func73, Tryz.ntmps73
  go_wp2
  go_loopw [5] (fun i wr => ∃ m : Nat, 1 ≤ m ∧ (m ≤ l.length ∨ m = 1) ∧ i = .int .i64 m ∧ Hid (risesB lessA (l.take m) = true) ∧ Ext w wr) (fun i _ => l.length - (intOf i).toNat)
  case atStart => exact ⟨1, Nat.le_refl _, .inr rfl, rfl, rises_one _, Ext.refl _⟩
  case round =>
    obtain ⟨m, hm1, hk, rfl, hall, he⟩ := hrel
    obtain ⟨k, hkm⟩ : ∃ k, m = k + 1 := ⟨m - 1, by omega⟩
    by_cases hlt : m < l.length
    · rcases hs with rfl | ⟨b, off, rfl, hin⟩
      · simp at hlt
      obtain ⟨x, hx⟩ := some_of_lt (show k < l.length by omega)
      obtain ⟨y, hy⟩ := some_of_lt hlt
      obtain ⟨g0, g1, g2, g3⟩ := (hin.ext he) k x hx
      obtain ⟨k0, k1, k2, k3⟩ := (hin.ext he) m y hy
      have Hs : Hid (risesB lessA (l.take (m + 1)) = (risesB lessA (l.take m) && lessA x y)) := by subst hkm; exact rises_take (lt := lessA) hx hy
      have Hf : Hid (lessA x y = false → risesB lessA l = false) := by subst hkm; exact rises_no (lt := lessA) hx hy
      have i1 : (0 : Int) ≤ (k : Int) := by omega
      have i2 : (m : Int) < (l.length : Int) := by omega
      have i3 : (k : Int) < (l.length : Int) := by omega
      have i4 : (0 : Int) ≤ (m : Int) := by omega
      have e1 : IntKind.i64.wrap ((m : Int) - 1) = (k : Int) := by rw [IntKind.wrap_i64]; omega
      replace hin := hide hin
      replace he := hide he
      replace hx := hide hx
      replace hy := hide hy
      replace hk := hide hk
      replace hkm := hide hkm
      go_wp2_with fail
      go_region_held3 (fun w' => w'.cell? ⟨b, off + k * 4, none⟩ = some (.string x.name) ∧ w'.cell? ⟨b, off + k * 4 + 1, none⟩ = some (.bool x.isText) ∧ w'.cell? ⟨b, off + k * 4 + 2, none⟩ = some (.string x.text) ∧ w'.cell? ⟨b, off + k * 4 + 3, none⟩ = some (.int .i64 x.number) ∧ w'.cell? ⟨b, off + m * 4, none⟩ = some (.string y.name) ∧ w'.cell? ⟨b, off + m * 4 + 1, none⟩ = some (.bool y.isText) ∧ w'.cell? ⟨b, off + m * 4 + 2, none⟩ = some (.string y.text) ∧ w'.cell? ⟨b, off + m * 4 + 3, none⟩ = some (.int .i64 y.number)) (go_keep)
        ((go_at_call 74; refine (compareAttrs x y _).mono ?_; rintro e w1 ⟨rfl, he1⟩; have qk0 := he1.cells (p := ⟨b, off + k * 4, none⟩) (v := .string x.name) (by simpa using g0); have qk1 := he1.cells (p := ⟨b, off + k * 4 + 1, none⟩) (v := .bool x.isText) (by simpa using g1); have qk2 := he1.cells (p := ⟨b, off + k * 4 + 2, none⟩) (v := .string x.text) (by simpa using g2); have qk3 := he1.cells (p := ⟨b, off + k * 4 + 3, none⟩) (v := .int .i64 x.number) (by simpa using g3); have qm0 := he1.cells (p := ⟨b, off + m * 4, none⟩) (v := .string y.name) (by simpa using k0); have qm1 := he1.cells (p := ⟨b, off + m * 4 + 1, none⟩) (v := .bool y.isText) (by simpa using k1); have qm2 := he1.cells (p := ⟨b, off + m * 4 + 2, none⟩) (v := .string y.text) (by simpa using k2); have qm3 := he1.cells (p := ⟨b, off + m * 4 + 3, none⟩) (v := .int .i64 y.number) (by simpa using k3); replace he1 := hide he1))
      by_cases hb : 0 ≤ cmpS x.name y.name
      · have Hb := hide (show lessA x y = false by simp [lessA]; omega)
        go_wp2
        go_ret
        exact ⟨retB (unhide Hf (unhide Hb)).symm, he.out.drew.trans he1.out⟩
      · have hd : decide (0 ≤ cmpS x.name y.name) = false := by simpa using hb
        have Hb := hide (show lessA x y = true by simp [lessA]; omega)
        go_wp2
        go_roundw
        case rel => exact ⟨m + 1, by omega, .inl (by omega), by go_num, by rw [unhide Hs]; simp [Hid, hall.out, unhide Hb], he.out.drew.trans he1.out⟩
        case measure => simp [intOf]; omega
    · have Hl : Hid (l.take m = l) := List.take_of_length_le (by omega)
      replace he := hide he
      replace hs := hide hs
      replace hkm := hide hkm
      go_wp2
      go_ret
      exact ⟨retB (by rw [unhide Hl] at hall; exact hall.out.symm), he.out⟩
end Go.Proofs.YtkjjfdejfihpfaaGreat
