/-
  Lists that rise: what the function that looks for it answers.
-/
/-
  Resources that may be: what the program's functions answer.
-/
/-
  The reference's word, the order of IDs, the marks: what each function answers.
-/
import Derived.Test.YtodhhjlemmmjcaaGreatJ8
import Derived.Test.YtodhhjlemmmjcaaGreatJ7
import Derived.Deep.QuietTactic
import Derived.BigQuiet
import Derived.Deep.RegionHeld3
import Derived.Test.YtodhhjlemmmjcaaGreatShelf
namespace Go.Proofs.YtodhhjlemmmjcaaGreat
open Go.RowKit

set_option maxRecDepth 100000 in
set_option maxHeartbeats 800000 in
theorem compareAttrs (x y : Attrd) (w : World) :
    Calls Tryz.prog 100 #[.agg #[.string x.name, .bool x.isText, .string x.text, .int .i64 x.number], .agg #[.string y.name, .bool y.isText, .string y.text, .int .i64 y.number]] w fun e w' => e = .returned (.int .i64 (cmpS x.name y.name)) ∧ Ext w w' := by
  go_enter Tryz.func100, Tryz.ntmps100
  go_wp2_with (go_at_call 85; refine (Tryz.strings_Compare _ _ _).mono ?_; rintro e w' ⟨rfl, rfl⟩)
  go_ret
  exact ⟨rfl, ((Ext.refl _).alloc _).alloc _⟩

set_option maxRecDepth 100000 in
set_option maxHeartbeats 1600000 in
theorem risesID (v : Value) (l : List IDd) (w : World) (hv : IDsV w v l) :
    Calls Tryz.prog 101 #[v, .func (.func 53) #[] #[]] w fun e w' => e = .returned (.bool (risesB lessI l)) ∧ Ext w w' := by
  obtain ⟨⟨a, cap, rfl, hcap, hmax, hs⟩, hfew, hok⟩ := hv
  replace hok := hide hok
  go_enter Tryz.func101, Tryz.ntmps101
  go_wp2
  go_loopw [5] (fun i wr => ∃ m : Nat, 1 ≤ m ∧ (m ≤ l.length ∨ m = 1) ∧ i = .int .i64 m ∧ Hid (risesB lessI (l.take m) = true) ∧ Ext w wr) (fun i _ => l.length - (intOf i).toNat)
  case atStart => exact ⟨1, Nat.le_refl _, .inr rfl, rfl, rises_one _, Ext.refl _⟩
  case round =>
    obtain ⟨m, hm1, hk, rfl, hall, he⟩ := hrel
    obtain ⟨k, hkm⟩ : ∃ k, m = k + 1 := ⟨m - 1, by omega⟩
    by_cases hlt : m < l.length
    · rcases hs with rfl | ⟨b, off, rfl, hin⟩
      · simp at hlt
      obtain ⟨x, hx⟩ := some_of_lt (show k < l.length by omega)
      obtain ⟨y, hy⟩ := some_of_lt hlt
      obtain ⟨g0, g1⟩ := (hin.ext he) k x hx
      obtain ⟨k0, k1⟩ := (hin.ext he) m y hy
      have Hs : Hid (risesB lessI (l.take (m + 1)) = (risesB lessI (l.take m) && lessI x y)) := by subst hkm; exact rises_take (lt := lessI) hx hy
      have Hf : Hid (lessI x y = false → risesB lessI l = false) := by subst hkm; exact rises_no (lt := lessI) hx hy
      have i1 : (0 : Int) ≤ (k : Int) := by omega
      have i2 : (m : Int) < (l.length : Int) := by omega
      have i3 : (k : Int) < (l.length : Int) := by omega
      have i4 : (0 : Int) ≤ (m : Int) := by omega
      have e1 : IntKind.i64.wrap ((m : Int) - 1) = (k : Int) := by rw [IntKind.wrap_i64]; omega
      replace hin := hide hin
      replace he := hide he
      replace hx := hide hx
      replace hy := hide hy
      replace hk := hide hk
      replace hkm := hide hkm
      go_wp2_with fail
      go_region_held3 (fun w' => w'.cell? ⟨b, off + k * 2, none⟩ = some (.string x.kind) ∧ w'.cell? ⟨b, off + k * 2 + 1, none⟩ = some (.string x.name) ∧ w'.cell? ⟨b, off + m * 2, none⟩ = some (.string y.kind) ∧ w'.cell? ⟨b, off + m * 2 + 1, none⟩ = some (.string y.name)) (go_keep)
        ((go_at_call 53; refine (compareIDs x y _).mono ?_; rintro e w1 ⟨rfl, he1⟩; have q0 := he1.cells (p := ⟨b, off + k * 2, none⟩) (v := .string x.kind) (by simpa using g0); have q1 := he1.cells (p := ⟨b, off + k * 2 + 1, none⟩) (v := .string x.name) (by simpa using g1); have q2 := he1.cells (p := ⟨b, off + m * 2, none⟩) (v := .string y.kind) (by simpa using k0); have q3 := he1.cells (p := ⟨b, off + m * 2 + 1, none⟩) (v := .string y.name) (by simpa using k1); replace he1 := hide he1))
      by_cases hb : 0 ≤ cmpI x y
      · have Hb := hide (show lessI x y = false by simp [lessI]; omega)
        go_wp2
        go_ret
        exact ⟨retB (unhide Hf (unhide Hb)).symm, he.out.drew.trans he1.out⟩
      · have hd : decide (0 ≤ cmpI x y) = false := by simpa using hb
        have Hb := hide (show lessI x y = true by simp [lessI]; omega)
        go_wp2
        go_roundw
        case rel => exact ⟨m + 1, by omega, .inl (by omega), by go_num, by rw [unhide Hs]; simp [Hid, hall.out, unhide Hb], he.out.drew.trans he1.out⟩
        case measure => simp [intOf]; omega
    · have Hl : Hid (l.take m = l) := List.take_of_length_le (by omega)
      replace he := hide he
      replace hs := hide hs
      replace hkm := hide hkm
      go_wp2
      go_ret
      exact ⟨retB (by rw [unhide Hl] at hall; exact hall.out.symm), he.out⟩
set_option maxRecDepth 100000 in
set_option maxHeartbeats 1600000 in
theorem risesAttr (v : Value) (l : List Attrd) (w : World) (hv : AttrsV w v l) :
    Calls Tryz.prog 99 #[v, .func (.func 100) #[] #[]] w fun e w' => e = .returned (.bool (risesB lessA l)) ∧ Ext w w' := by
  obtain ⟨⟨a, cap, rfl, hcap, hmax, hs⟩, hfew, hok⟩ := hv
  replace hok := hide hok
  go_enter Tryz.func99, Tryz.ntmps99
  go_wp2
  go_loopw [5] (fun i wr => ∃ m : Nat, 1 ≤ m ∧ (m ≤ l.length ∨ m = 1) ∧ i = .int .i64 m ∧ Hid (risesB lessA (l.take m) = true) ∧ Ext w wr) (fun i _ => l.length - (intOf i).toNat)
  case atStart => exact ⟨1, Nat.le_refl _, .inr rfl, rfl, rises_one _, Ext.refl _⟩
  case round =>
    obtain ⟨m, hm1, hk, rfl, hall, he⟩ := hrel
    obtain ⟨k, hkm⟩ : ∃ k, m = k + 1 := ⟨m - 1, by omega⟩
    by_cases hlt : m < l.length
    · rcases hs with rfl | ⟨b, off, rfl, hin⟩
      · simp at hlt
      obtain ⟨x, hx⟩ := some_of_lt (show k < l.length by omega)
      obtain ⟨y, hy⟩ := some_of_lt hlt
      obtain ⟨g0, g1, g2, g3⟩ := (hin.ext he) k x hx
      obtain ⟨k0, k1, k2, k3⟩ := (hin.ext he) m y hy
      have Hs : Hid (risesB lessA (l.take (m + 1)) = (risesB lessA (l.take m) && lessA x y)) := by subst hkm; exact rises_take (lt := lessA) hx hy
      have Hf : Hid (lessA x y = false → risesB lessA l = false) := by subst hkm; exact rises_no (lt := lessA) hx hy
      have i1 : (0 : Int) ≤ (k : Int) := by omega
      have i2 : (m : Int) < (l.length : Int) := by omega
      have i3 : (k : Int) < (l.length : Int) := by omega
      have i4 : (0 : Int) ≤ (m : Int) := by omega
      have e1 : IntKind.i64.wrap ((m : Int) - 1) = (k : Int) := by rw [IntKind.wrap_i64]; omega
      replace hin := hide hin
      replace he := hide he
      replace hx := hide hx
      replace hy := hide hy
      replace hk := hide hk
      replace hkm := hide hkm
      go_wp2_with fail
      go_region_held3 (fun w' => w'.cell? ⟨b, off + k * 4, none⟩ = some (.string x.name) ∧ w'.cell? ⟨b, off + k * 4 + 1, none⟩ = some (.bool x.isText) ∧ w'.cell? ⟨b, off + k * 4 + 2, none⟩ = some (.string x.text) ∧ w'.cell? ⟨b, off + k * 4 + 3, none⟩ = some (.int .i64 x.number) ∧ w'.cell? ⟨b, off + m * 4, none⟩ = some (.string y.name) ∧ w'.cell? ⟨b, off + m * 4 + 1, none⟩ = some (.bool y.isText) ∧ w'.cell? ⟨b, off + m * 4 + 2, none⟩ = some (.string y.text) ∧ w'.cell? ⟨b, off + m * 4 + 3, none⟩ = some (.int .i64 y.number)) (go_keep)
        ((go_at_call 100; refine (compareAttrs x y _).mono ?_; rintro e w1 ⟨rfl, he1⟩; have qk0 := he1.cells (p := ⟨b, off + k * 4, none⟩) (v := .string x.name) (by simpa using g0); have qk1 := he1.cells (p := ⟨b, off + k * 4 + 1, none⟩) (v := .bool x.isText) (by simpa using g1); have qk2 := he1.cells (p := ⟨b, off + k * 4 + 2, none⟩) (v := .string x.text) (by simpa using g2); have qk3 := he1.cells (p := ⟨b, off + k * 4 + 3, none⟩) (v := .int .i64 x.number) (by simpa using g3); have qm0 := he1.cells (p := ⟨b, off + m * 4, none⟩) (v := .string y.name) (by simpa using k0); have qm1 := he1.cells (p := ⟨b, off + m * 4 + 1, none⟩) (v := .bool y.isText) (by simpa using k1); have qm2 := he1.cells (p := ⟨b, off + m * 4 + 2, none⟩) (v := .string y.text) (by simpa using k2); have qm3 := he1.cells (p := ⟨b, off + m * 4 + 3, none⟩) (v := .int .i64 y.number) (by simpa using k3); replace he1 := hide he1))
      by_cases hb : 0 ≤ cmpS x.name y.name
      · have Hb := hide (show lessA x y = false by simp [lessA]; omega)
        go_wp2
        go_ret
        exact ⟨retB (unhide Hf (unhide Hb)).symm, he.out.drew.trans he1.out⟩
      · have hd : decide (0 ≤ cmpS x.name y.name) = false := by simpa using hb
        have Hb := hide (show lessA x y = true by simp [lessA]; omega)
        go_wp2
        go_roundw
        case rel => exact ⟨m + 1, by omega, .inl (by omega), by go_num, by rw [unhide Hs]; simp [Hid, hall.out, unhide Hb], he.out.drew.trans he1.out⟩
        case measure => simp [intOf]; omega
    · have Hl : Hid (l.take m = l) := List.take_of_length_le (by omega)
      replace he := hide he
      replace hs := hide hs
      replace hkm := hide hkm
      go_wp2
      go_ret
      exact ⟨retB (by rw [unhide Hl] at hall; exact hall.out.symm), he.out⟩
end Go.Proofs.YtodhhjlemmmjcaaGreat

namespace Go.Proofs.YtodhhjlemmmjcaaGreat
open Go.RowKit

theorem AttrsV.form {w : World} {v : Value} {l : List Attrd} (h : AttrsV w v l) : ∃ a cap, v = .slice a l.length cap := by
  obtain ⟨⟨a, cap, hv, _⟩, _⟩ := h; exact ⟨a, cap, hv⟩
theorem IDsV.form {w : World} {v : Value} {l : List IDd} (h : IDsV w v l) : ∃ a cap, v = .slice a l.length cap := by
  obtain ⟨⟨a, cap, hv, _⟩, _⟩ := h; exact ⟨a, cap, hv⟩

set_option maxRecDepth 100000 in
set_option maxHeartbeats 3200000 in
theorem mayBe (c2 c3 : Value) (x : Resd) (w : World) (hr : ResV w c2 c3 x) :
    Calls Tryz.prog 65 #[.agg #[.string x.id.kind, .string x.id.name, c2, c3]] w fun e w' => e = .returned (.bool (mayB x)) ∧ Ext w w' := by
  obtain ⟨hI, hA, hF⟩ := hr
  obtain ⟨a2, p2, rfl⟩ := hA.form
  obtain ⟨a3, p3, rfl⟩ := hF.form
  have nA := hA.few
  have nF := hF.few
  by_cases h6 : 6 < x.attrs.length
  · have H := hide (show mayB x = false by simp [mayB]; omega)
    have h6' : (6 : Int) < (x.attrs.length : Int) := by omega
    replace hI := hide hI; replace hA := hide hA; replace hF := hide hF
    go_enter Tryz.func65, Tryz.ntmps65
    go_wp2_with fail
    go_ret
    exact ⟨retB (by rw [unhide H]), (Ext.refl _).alloc _⟩
  have h6' : decide ((6 : Int) < (x.attrs.length : Int)) = false := by simp; omega
  by_cases h7 : 6 < x.after.length
  · have H := hide (show mayB x = false by simp [mayB]; omega)
    have h7' : (6 : Int) < (x.after.length : Int) := by omega
    replace hI := hide hI; replace hA := hide hA; replace hF := hide hF
    go_enter Tryz.func65, Tryz.ntmps65
    go_wp2_with fail
    go_ret
    exact ⟨retB (by rw [unhide H]), (Ext.refl _).alloc _⟩
  have h7' : decide ((6 : Int) < (x.after.length : Int)) = false := by simp; omega
  have H := hide (show mayB x = (idB x.id && x.attrs.all attrB && risesB lessA x.attrs && x.after.all idB && risesB lessI x.after) by
    simp only [mayB]; rw [decide_eq_true (show x.attrs.length ≤ 6 by omega), decide_eq_true (show x.after.length ≤ 6 by omega)]; simp)
  replace hI := hide hI; replace hA := hide hA; replace hF := hide hF
  go_enter Tryz.func65, Tryz.ntmps65
  go_wp2_with fail
  refine (isID x.id _ hI.out).mono ?_
  rintro e w1 ⟨rfl, he1⟩
  have x1 : Ext w w1 := ((Ext.refl _).alloc _).trans he1
  have d2 : w1.cell? ⟨w.heap.size, 2, none⟩ = some (.slice a2 x.attrs.length p2) := he1.cells (by simp [go_sem])
  have d3 : w1.cell? ⟨w.heap.size, 3, none⟩ = some (.slice a3 x.after.length p3) := he1.cells (by simp [go_sem])
  have D2 := hide d2; have D3 := hide d3
  clear he1
  replace x1 := hide x1
  cases h1 : idB x.id
  · go_wp2_with fail
    go_ret
    exact ⟨retB (by rw [unhide H, h1]; rfl), x1.out⟩
  go_wp2_with fail
  refine (everyAttr _ x.attrs _ (hA.out.ext x1.out)).mono ?_
  rintro e w2 ⟨rfl, he2⟩
  clear d2 d3
  have d2 := he2.cells (unhide D2); have d3 := he2.cells (unhide D3); clear D2 D3; have D2 := hide d2; have D3 := hide d3
  have x2 := hide (x1.out.trans he2)
  clear he2
  cases h2 : x.attrs.all attrB
  · go_wp2_with fail
    go_ret
    exact ⟨retB (by rw [unhide H, h1, h2]; rfl), x2.out⟩
  go_wp2_with fail
  refine (risesAttr _ x.attrs _ (hA.out.ext x2.out)).mono ?_
  rintro e w3 ⟨rfl, he3⟩
  clear d2 d3
  have d2 := he3.cells (unhide D2); have d3 := he3.cells (unhide D3); clear D2 D3; have D2 := hide d2; have D3 := hide d3
  have x3 := hide (x2.out.trans he3)
  clear he3
  cases h3 : risesB lessA x.attrs
  · go_wp2_with fail
    go_ret
    exact ⟨retB (by rw [unhide H, h1, h2, h3]; rfl), x3.out⟩
  go_wp2_with fail
  refine (everyID _ x.after _ (hF.out.ext x3.out)).mono ?_
  rintro e w4 ⟨rfl, he4⟩
  clear d2 d3
  have d2 := he4.cells (unhide D2); have d3 := he4.cells (unhide D3); clear D2 D3; have D2 := hide d2; have D3 := hide d3
  have x4 := hide (x3.out.trans he4)
  clear he4
  cases h4 : x.after.all idB
  · go_wp2_with fail
    go_ret
    exact ⟨retB (by rw [unhide H, h1, h2, h3, h4]; rfl), x4.out⟩
  go_wp2_with fail
  refine (risesID _ x.after _ (hF.out.ext x4.out)).mono ?_
  rintro e w5 ⟨rfl, he5⟩
  have x5 := hide (x4.out.trans he5)
  clear he5
  go_wp2_with fail
  go_ret
  exact ⟨retB (by rw [unhide H, h1, h2, h3, h4]; simp), x5.out⟩

end Go.Proofs.YtodhhjlemmmjcaaGreat

namespace Go.Proofs.YtodhhjlemmmjcaaGreat
open Go.RowKit

theorem letter_of_inner {c : Int} (hi : isInnerB c = true) : isLetterB c = (!isDigitB c && !(c == 95) && !(c == 45)) := by
  by_cases h1 : isLetterB c = true
  · have : isDigitB c = false ∧ c ≠ 95 ∧ c ≠ 45 := by simp [isLetterB, isDigitB] at h1 ⊢; omega
    simp [h1, this]
  · simp only [Bool.not_eq_true] at h1
    simp only [isInnerB, h1, Bool.false_or] at hi
    rw [h1]
    by_cases h2 : isDigitB c = true
    · simp [h2]
    · simp only [Bool.not_eq_true] at h2
      rw [h2, Bool.false_or] at hi
      simp at hi
      rcases hi with rfl | rfl <;> simp

set_option maxRecDepth 100000 in
set_option maxHeartbeats 800000 in
theorem refWord (s : ByteArray) (w : World) (hm : s.size ≤ 9223372036854775807) :
    Calls Tryz.prog 64 #[.string s] w fun e w' => e = .returned (.bool (wordB s.data.toList)) ∧ w' = w := by
  by_cases h0 : s.size = 0
  · have he : s.toList = [] := by rw [ByteArray.toList_eq]; exact List.eq_nil_of_length_eq_zero (by rw [size_toList]; exact h0)
    have H := hide (show wordB s.data.toList = false by rw [← ByteArray.toList_eq, he]; rfl)
    have h1 : (s.size : Int) < 1 := by omega
    go_enter Tryz.func64, Tryz.ntmps64
    go_wp2
    go_ret
    exact ⟨retB (by rw [unhide H]), rfl⟩
  have h0 : 0 < s.size := by omega
  have h2 : decide ((s.size : Int) < 1) = false := by simp; omega
  by_cases h12 : 12 < s.size
  · have H := hide (show wordB s.data.toList = false from wordB_long (by rw [size_toList]; exact h12))
    have h1 : (12:Int) < (s.size : Int) := by omega
    go_enter Tryz.func64, Tryz.ntmps64
    go_wp2
    go_ret
    exact ⟨retB (by rw [unhide H]), rfl⟩
  have h1 : decide ((12:Int) < (s.size : Int)) = false := by simp; omega
  have H := hide (wordB_of h0 (by omega))
  have Hz := hide (size_toList s)
  have hhead := get_of_size h0
  have Hh := hide hhead; clear hhead
  have hin : isInnerB (s[0].toNat : Int) = false → wordB s.data.toList = false := by
    intro h; rw [unhide H, unhide Hh]; simp [h]
  have Hin := hide hin; clear hin
  have hlet := @letter_of_inner (s[0].toNat : Int)
  have Hlet := hide hlet; clear hlet
  by_cases hd : isDigitB (s[0].toNat : Int) = true
  · go_enter Tryz.func64, Tryz.ntmps64
    go_wp2_with (go_at_call 94; refine (refDigit _ _).mono ?_; rintro e w' ⟨rfl, rfl⟩)
    go_ret
    refine ⟨retB ?_, rfl⟩
    cases hi : isInnerB (s[0].toNat : Int)
    · rw [unhide Hin hi]
    · rw [unhide H, unhide Hlet hi, hd]; rfl
  have hd' : isDigitB (s[0].toNat : Int) = false := by simpa using hd
  by_cases hu : (s[0].toNat : Int) = 95
  · have hu' : ((s[0].toNat : Int) == 95) = true := by simpa using hu
    have Hu := hide hu; clear hu
    go_enter Tryz.func64, Tryz.ntmps64
    go_wp2_with (go_at_call 94; refine (refDigit _ _).mono ?_; rintro e w' ⟨rfl, rfl⟩)
    go_ret
    refine ⟨retB ?_, rfl⟩
    cases hi : isInnerB (s[0].toNat : Int)
    · rw [unhide Hin hi]
    · rw [unhide H, unhide Hlet hi, unhide Hu]; rfl
  have hu' : ((s[0].toNat : Int) == 95) = false := by simpa using hu
  by_cases hv : (s[0].toNat : Int) = 45
  · have hv' : ((s[0].toNat : Int) == 45) = true := by simpa using hv
    have Hu := hide hv; clear hv
    go_enter Tryz.func64, Tryz.ntmps64
    go_wp2_with (go_at_call 94; refine (refDigit _ _).mono ?_; rintro e w' ⟨rfl, rfl⟩)
    go_ret
    refine ⟨retB ?_, rfl⟩
    cases hi : isInnerB (s[0].toNat : Int)
    · rw [unhide Hin hi]
    · rw [unhide H, unhide Hlet hi, unhide Hu]; rfl
  have hv' : ((s[0].toNat : Int) == 45) = false := by simpa using hv
  have hfin : wordB s.data.toList = s.data.toList.all fun x => isInnerB x.toNat := by
    cases hi : isInnerB (s[0].toNat : Int)
    · rw [unhide Hin hi, unhide Hh]; simp [hi]
    · rw [unhide H, unhide Hlet hi, hd', hu', hv']; rfl
  have Hfin := hide hfin; clear hfin Hin Hlet H Hh
  go_enter Tryz.func64, Tryz.ntmps64
  go_wp2_with (go_at_call 94; refine (refDigit _ _).mono ?_; rintro e w' ⟨rfl, rfl⟩)
  go_loop [3] (fun i => ∃ k : Nat, k ≤ s.size ∧ i = .int .i64 k ∧ Hid ((s.data.toList.take k).all fun c => isInnerB (c.toNat : Int))) (fun i => s.size - (intOf i).toNat)
  case atStart => exact ⟨0, Nat.zero_le _, rfl, by simp [Hid]⟩
  case round =>
    obtain ⟨k, hk, rfl, hall⟩ := hrel
    by_cases hlt : k < s.size
    · have hlt' : k < s.data.toList.length := by rw [unhide Hz]; exact hlt
      have hs := all_take_succ (p := fun c => isInnerB (c.toNat : Int)) hlt' hall.out
      have hf := all_false_of (p := fun c => isInnerB (c.toNat : Int)) hlt'
      have hx : s.data.toList[k]?.getD 0 = s[k] := by rw [List.getElem?_eq_getElem hlt']; rfl
      rw [hx] at hs hf
      have Hs := hide hs; have Hf := hide hf; clear hs hf hx
      go_wp2_with (go_at_call 95; refine (refInner _ _).mono ?_; rintro e w' ⟨rfl, rfl⟩)
      · go_ret
        exact ⟨retB (by rw [unhide Hfin]; exact (unhide Hf (by simp_all)).symm), rfl⟩
      · go_round
        case rel => exact ⟨k + 1, by omega, by go_num, by rw [unhide Hs]; simp_all⟩
        case measure => simp [intOf]; omega
    · have Hl := hide (show s.data.toList.take k = s.data.toList from List.take_of_length_le (by rw [unhide Hz]; omega))
      go_wp2
      go_ret
      exact ⟨retB (by rw [unhide Hfin]; rw [unhide Hl] at hall; exact hall.out.symm), rfl⟩
end Go.Proofs.YtodhhjlemmmjcaaGreat
