/-
  The order of IDs and the marks: what each function answers.
-/
/-
  Lists of IDs and Attrs: what the functions that look through them answer.
-/
/-
  Lists of Attrs: what the functions that look through them answer.
-/
/-
  Lists that rise: what the function that looks for it answers.
-/
/-
  Resources that may be: what the program's functions answer.
-/
/-
  The reference's word, the order of IDs, the marks: what each function answers.
-/
/-
  Resources that may be: what the reference's function answers of one.
-/
import Derived.Test.YtfmcgdglalljgaaGreatDoorJ3
import Derived.Deep.QuietTactic
import Derived.BigQuiet
import Derived.Deep.RegionHeld3
import Derived.Test.YtfmcgdglalljgaaGreatDoorShelf
import Derived.Test.YtfmcgdglalljgaaGreatDoorJ1
namespace Go.Proofs.YtfmcgdglalljgaaGreatDoor
open Go.RowKit

def orI (x y : Int) : Int := if x = 0 then y else x
set_option maxRecDepth 100000 in
set_option maxHeartbeats 800000 in
theorem cmpOr (b cap : Nat) (x y : Int) (w : World) (h0 : w.cell? ⟨b, 0, none⟩ = some (.int .i64 x)) (h1 : w.cell? ⟨b, 1, none⟩ = some (.int .i64 y)) :
    Calls Tryz.prog 102 #[.slice (some ⟨b, 0, none⟩) 2 cap] w fun e w' => e = .returned (.int .i64 (orI x y)) ∧ w' = w := by
  go_enter Tryz.func102, Tryz.ntmps102
  go_wp2
  go_loop [8] (fun i => ∃ k : Nat, k ≤ 2 ∧ i = .int .i64 k ∧ Hid (1 ≤ k → x = 0) ∧ Hid (2 ≤ k → y = 0)) (fun i => 2 - (intOf i).toNat)
  case atStart => exact ⟨0, by omega, rfl, by simp [Hid], by simp [Hid]⟩
  case round =>
    obtain ⟨k, hk, rfl, k1, k2⟩ := hrel
    match k, hk with
    | 0, _ =>
      by_cases hx : x = 0
      · subst hx
        go_wp2
        go_round
        case rel => exact ⟨1, by omega, rfl, by simp [Hid], by simp [Hid]⟩
        case measure => simp [intOf]
      · have hb : (x != 0) = true := by simpa using hx
        go_wp2
        go_ret
        exact ⟨retI (by simp [orI, hx]), rfl⟩
    | 1, _ =>
      obtain rfl := k1.out (by omega)
      by_cases hy : y = 0
      · subst hy
        go_wp2
        go_round
        case rel => exact ⟨2, by omega, rfl, by simp [Hid], by simp [Hid]⟩
        case measure => simp [intOf]
      · have hb : (y != 0) = true := by simpa using hy
        go_wp2
        go_ret
        exact ⟨retI (by simp [orI]), rfl⟩
    | 2, _ =>
      obtain rfl := k1.out (by omega)
      obtain rfl := k2.out (by omega)
      go_wp2
      go_ret
      exact ⟨retI (by simp [orI]), rfl⟩

set_option maxRecDepth 100000 in
set_option maxHeartbeats 800000 in
theorem compareIDs (a b : IDd) (w : World) :
    Calls Tryz.prog 68 #[.agg #[.string a.kind, .string a.name], .agg #[.string b.kind, .string b.name]] w fun e w' => e = .returned (.int .i64 (cmpI a b)) ∧ Ext w w' := by
  go_enter Tryz.func68, Tryz.ntmps68
  go_wp2
  go_region_held3 (fun w' => w'.cell? ⟨w.heap.size, 0, none⟩ = some (.string a.kind) ∧ w'.cell? ⟨w.heap.size, 1, none⟩ = some (.string a.name) ∧ w'.cell? ⟨w.heap.size + 1, 0, none⟩ = some (.string b.kind) ∧ w'.cell? ⟨w.heap.size + 1, 1, none⟩ = some (.string b.name)) (simp [go_sem, World.cell?_alloc_past])
    (first
      | (go_at_call 103; refine (Tryz.strings_Compare _ _ _).mono ?_; rintro e w' ⟨rfl, rfl⟩)
      | (go_at_call 102; refine (cmpOr _ _ (cmpS a.kind b.kind) (cmpS a.name b.name) _ ?_ ?_).mono ?_; (simp [go_sem, cmpS]); (simp [go_sem, cmpS]); rintro e w' ⟨rfl, rfl⟩))
  all_goals go_wp2
  all_goals go_ret
  all_goals exact ⟨rfl, (((Ext.refl _).alloc _).alloc _).drew.alloc _⟩
end Go.Proofs.YtfmcgdglalljgaaGreatDoor

namespace Go.Proofs.YtfmcgdglalljgaaGreatDoor
open Go.RowKit

set_option maxRecDepth 100000 in
set_option maxHeartbeats 800000 in
theorem isID (x : IDd) (w : World) (hok : okI x) :
    Calls Tryz.prog 111 #[.agg #[.string x.kind, .string x.name]] w fun e w' => e = .returned (.bool (idB x)) ∧ Ext w w' := by
  obtain ⟨h1, h2⟩ := hok
  cases hk : wordB x.kind.data.toList
  · have H := hide (show idB x = false by simp [idB, hk])
    go_enter Tryz.func111, Tryz.ntmps111
    go_wp2_with fail
    refine (isWord _ _ (by omega)).mono ?_
    rintro e w1 ⟨rfl, he⟩
    replace he := hide he
    go_wp2_with fail
    go_ret
    exact ⟨retB (by rw [unhide H]), ((Ext.refl _).alloc _).trans he.out⟩
  · have H := hide (show idB x = wordB x.name.data.toList by simp [idB, hk])
    go_enter Tryz.func111, Tryz.ntmps111
    go_wp2_with fail
    refine (isWord _ _ (by omega)).mono ?_
    rintro e w1 ⟨rfl, he⟩
    have c1 : w1.cell? ⟨w.heap.size, 1, none⟩ = some (.string x.name) := he.cells (by simp [go_sem])
    replace he := hide he
    go_wp2_with fail
    refine (isWord _ _ (by omega)).mono ?_
    rintro e w2 ⟨rfl, he2⟩
    replace he2 := hide he2
    go_wp2_with fail
    go_ret
    exact ⟨retB (by rw [unhide H]), (((Ext.refl _).alloc _).trans he.out).trans he2.out⟩

set_option maxRecDepth 100000 in
set_option maxHeartbeats 800000 in
theorem everyID (v : Value) (l : List IDd) (w : World) (hv : IDsV w v l) :
    Calls Tryz.prog 85 #[v, .func (.func 111) #[] #[]] w fun e w' => e = .returned (.bool (l.all idB)) ∧ Ext w w' := by
  obtain ⟨⟨a, cap, rfl, hcap, hmax, hs⟩, hfew, hok⟩ := hv
  go_enter Tryz.func85, Tryz.ntmps85
  go_wp2
  go_loopw [9] (fun i wr => ∃ k : Nat, k ≤ l.length ∧ i = .int .i64 k ∧ Hid ((l.take k).all idB = true) ∧ Ext w wr) (fun i _ => l.length - (intOf i).toNat)
  case atStart => exact ⟨0, Nat.zero_le _, rfl, by simp [Hid], Ext.refl _⟩
  case round =>
    obtain ⟨k, hk, rfl, hall, he⟩ := hrel
    by_cases hlt : k < l.length
    · rcases hs with rfl | ⟨b, off, rfl, hin⟩
      · simp at hlt
      obtain ⟨x, hx⟩ := some_of_lt hlt
      obtain ⟨g0, g1⟩ := (hin.ext he) k x hx
      have hokx := hide (hok x (List.mem_of_getElem? hx))
      have Hs := hide (all_succ (p := idB) hx hall.out)
      have Hf := hide (all_no (p := idB) hx)
      replace hin := hide hin; replace hok := hide hok
      replace he := hide he
      replace hx := hide hx
      go_wp2_with fail
      refine (isID x _ hokx.out).mono ?_
      rintro e w1 ⟨rfl, he1⟩
      replace he1 := hide he1
      cases hb : idB x
      · go_wp2_with fail
        go_ret
        exact ⟨retB (unhide Hf hb).symm, (he.out.alloc _).trans he1.out⟩
      · go_wp2_with fail
        go_roundw
        case rel => exact ⟨k + 1, by omega, by go_num, by rw [unhide Hs]; exact hb, (he.out.alloc _).trans he1.out⟩
        case measure => simp [intOf]; omega
    · have Hl := hide (show l.take k = l from List.take_of_length_le (by omega))
      replace he := hide he
      replace hs := hide hs; replace hok := hide hok
      go_wp2
      go_ret
      exact ⟨retB (by rw [unhide Hl] at hall; exact hall.out.symm), he.out⟩
end Go.Proofs.YtfmcgdglalljgaaGreatDoor

namespace Go.Proofs.YtfmcgdglalljgaaGreatDoor
open Go.RowKit

theorem after_eq (s : ByteArray) : (s.toList = [97, 102, 116, 101, 114]) = (s.data.toList = afterW) := by rw [ByteArray.toList_eq]; rfl
theorem nil_eq (s : ByteArray) : (s.toList = []) = (s.data.toList = []) := by rw [ByteArray.toList_eq]

set_option maxRecDepth 100000 in
set_option maxHeartbeats 1600000 in
theorem isAttr (x : Attrd) (w : World) (hok : okA x) :
    Calls Tryz.prog 113 #[.agg #[.string x.name, .bool x.isText, .string x.text, .int .i64 x.number]] w fun e w' => e = .returned (.bool (attrB x)) ∧ Ext w w' := by
  obtain ⟨n, t, s, m⟩ := x
  obtain ⟨h1, h2, h3, h4⟩ := hok
  dsimp only at h1 h2 h3 h4 ⊢
  cases hk : wordB n.data.toList
  · have H := hide (show attrB ⟨n, t, s, m⟩ = false by simp [attrB, hk])
    go_enter Tryz.func113, Tryz.ntmps113
    go_wp2_with fail
    refine (isWord _ _ (by omega)).mono ?_
    rintro e w1 ⟨rfl, he⟩
    replace he := hide he
    go_wp2_with fail
    go_ret
    exact ⟨retB (by rw [unhide H]), ((Ext.refl _).alloc _).trans he.out⟩
  by_cases ha : n.data.toList = afterW
  · have H := hide (show attrB ⟨n, t, s, m⟩ = false by simp [attrB, ha])
    have ha' : n.toList = [97, 102, 116, 101, 114] := by rw [after_eq]; exact ha
    replace ha := hide ha
    go_enter Tryz.func113, Tryz.ntmps113
    go_wp2_with fail
    refine (isWord _ _ (by omega)).mono ?_
    rintro e w1 ⟨rfl, he⟩
    have c0 : w1.cell? ⟨w.heap.size, 0, none⟩ = some (.string n) := he.cells (by simp [go_sem])
    replace he := hide he
    go_wp2_with fail
    go_ret
    exact ⟨retB (by rw [unhide H]), ((Ext.refl _).alloc _).trans he.out⟩
  have ha' : ¬ n.toList = [97, 102, 116, 101, 114] := by rw [after_eq]; exact ha
  have ha'' : (n.toList == [97, 102, 116, 101, 114]) = false := by simpa using ha'
  have hA : (n.data.toList == afterW) = false := by simpa using ha
  replace ha := hide ha
  cases t
  · have H := hide (show attrB ⟨n, false, s, m⟩ = (s.data.toList.isEmpty && decide (-1000000000 ≤ m ∧ m ≤ 1000000000)) by simp [attrB, hk, hA])
    have Hn := hide (nil_eq s)
    replace hA := hide hA
    go_enter Tryz.func113, Tryz.ntmps113
    go_wp2_with fail
    refine (isWord _ _ (by omega)).mono ?_
    rintro e w1 ⟨rfl, he⟩
    have c0 : w1.cell? ⟨w.heap.size, 0, none⟩ = some (.string n) := he.cells (by simp [go_sem])
    have c1 : w1.cell? ⟨w.heap.size, 1, none⟩ = some (.bool false) := he.cells (by simp [go_sem])
    have c2 : w1.cell? ⟨w.heap.size, 2, none⟩ = some (.string s) := he.cells (by simp [go_sem])
    have c3 : w1.cell? ⟨w.heap.size, 3, none⟩ = some (.int .i64 m) := he.cells (by simp [go_sem])
    replace he := hide he
    go_wp2_with fail
    all_goals go_ret
    all_goals refine ⟨retB ?_, ((Ext.refl _).alloc _).trans he.out⟩
    all_goals rw [unhide H, Bool.eq_iff_iff]
    all_goals have Hn := unhide Hn
    all_goals simp_all
    all_goals omega
  · have H := hide (show attrB ⟨n, true, s, m⟩ = (stringB s.data.toList && m == 0) by simp [attrB, hk, hA])
    replace hA := hide hA
    go_enter Tryz.func113, Tryz.ntmps113
    go_wp2_with fail
    refine (isWord _ _ (by omega)).mono ?_
    rintro e w1 ⟨rfl, he⟩
    have c0 : w1.cell? ⟨w.heap.size, 0, none⟩ = some (.string n) := he.cells (by simp [go_sem])
    have c1 : w1.cell? ⟨w.heap.size, 1, none⟩ = some (.bool true) := he.cells (by simp [go_sem])
    have c2 : w1.cell? ⟨w.heap.size, 2, none⟩ = some (.string s) := he.cells (by simp [go_sem])
    have c3 : w1.cell? ⟨w.heap.size, 3, none⟩ = some (.int .i64 m) := he.cells (by simp [go_sem])
    replace he := hide he
    go_wp2_with fail
    refine (isString _ _ (by omega)).mono ?_
    rintro e w2 ⟨rfl, he2⟩
    have d3 : w2.cell? ⟨w.heap.size, 3, none⟩ = some (.int .i64 m) := he2.cells c3
    replace he2 := hide he2
    cases hb : stringB s.data.toList
    all_goals go_wp2_with fail
    all_goals go_ret
    all_goals refine ⟨retB ?_, (((Ext.refl _).alloc _).trans he.out).trans he2.out⟩
    all_goals rw [unhide H, hb]
    all_goals simp

set_option maxRecDepth 100000 in
set_option maxHeartbeats 800000 in
theorem everyAttr (v : Value) (l : List Attrd) (w : World) (hv : AttrsV w v l) :
    Calls Tryz.prog 112 #[v, .func (.func 113) #[] #[]] w fun e w' => e = .returned (.bool (l.all attrB)) ∧ Ext w w' := by
  obtain ⟨⟨a, cap, rfl, hcap, hmax, hs⟩, hfew, hok⟩ := hv
  go_enter Tryz.func112, Tryz.ntmps112
  go_wp2
  go_loopw [9] (fun i wr => ∃ k : Nat, k ≤ l.length ∧ i = .int .i64 k ∧ Hid ((l.take k).all attrB = true) ∧ Ext w wr) (fun i _ => l.length - (intOf i).toNat)
  case atStart => exact ⟨0, Nat.zero_le _, rfl, by simp [Hid], Ext.refl _⟩
  case round =>
    obtain ⟨k, hk, rfl, hall, he⟩ := hrel
    by_cases hlt : k < l.length
    · rcases hs with rfl | ⟨b, off, rfl, hin⟩
      · simp at hlt
      obtain ⟨x, hx⟩ := some_of_lt hlt
      obtain ⟨g0, g1, g2, g3⟩ := (hin.ext he) k x hx
      have hokx := hide (hok x (List.mem_of_getElem? hx))
      have Hs := hide (all_succ (p := attrB) hx hall.out)
      have Hf := hide (all_no (p := attrB) hx)
      replace hin := hide hin; replace hok := hide hok
      replace he := hide he
      replace hx := hide hx
      go_wp2_with fail
      refine (isAttr x _ hokx.out).mono ?_
      rintro e w1 ⟨rfl, he1⟩
      replace he1 := hide he1
      cases hb : attrB x
      · go_wp2_with fail
        go_ret
        exact ⟨retB (unhide Hf hb).symm, (he.out.alloc _).trans he1.out⟩
      · go_wp2_with fail
        go_roundw
        case rel => exact ⟨k + 1, by omega, by go_num, by rw [unhide Hs]; exact hb, (he.out.alloc _).trans he1.out⟩
        case measure => simp [intOf]; omega
    · have Hl := hide (show l.take k = l from List.take_of_length_le (by omega))
      replace he := hide he
      replace hs := hide hs; replace hok := hide hok
      go_wp2
      go_ret
      exact ⟨retB (by rw [unhide Hl] at hall; exact hall.out.symm), he.out⟩
end Go.Proofs.YtfmcgdglalljgaaGreatDoor

namespace Go.Proofs.YtfmcgdglalljgaaGreatDoor
open Go.RowKit

set_option maxRecDepth 100000 in
set_option maxHeartbeats 800000 in
theorem compareAttrs (x y : Attrd) (w : World) :
    Calls Tryz.prog 115 #[.agg #[.string x.name, .bool x.isText, .string x.text, .int .i64 x.number], .agg #[.string y.name, .bool y.isText, .string y.text, .int .i64 y.number]] w fun e w' => e = .returned (.int .i64 (cmpS x.name y.name)) ∧ Ext w w' := by
  go_enter Tryz.func115, Tryz.ntmps115
  go_wp2_with (go_at_call 103; refine (Tryz.strings_Compare _ _ _).mono ?_; rintro e w' ⟨rfl, rfl⟩)
  go_ret
  exact ⟨rfl, ((Ext.refl _).alloc _).alloc _⟩

set_option maxRecDepth 100000 in
set_option maxHeartbeats 1600000 in
theorem risesID (v : Value) (l : List IDd) (w : World) (hv : IDsV w v l) :
    Calls Tryz.prog 116 #[v, .func (.func 68) #[] #[]] w fun e w' => e = .returned (.bool (risesB lessI l)) ∧ Ext w w' := by
  obtain ⟨⟨a, cap, rfl, hcap, hmax, hs⟩, hfew, hok⟩ := hv
  replace hok := hide hok
  go_enter Tryz.func116, Tryz.ntmps116
  go_wp2
  go_loopw [5] (fun i wr => ∃ m : Nat, 1 ≤ m ∧ (m ≤ l.length ∨ m = 1) ∧ i = .int .i64 m ∧ Hid (risesB lessI (l.take m) = true) ∧ Ext w wr) (fun i _ => l.length - (intOf i).toNat)
  case atStart => exact ⟨1, Nat.le_refl _, .inr rfl, rfl, rises_one _, Ext.refl _⟩
  case round =>
    obtain ⟨m, hm1, hk, rfl, hall, he⟩ := hrel
    obtain ⟨k, hkm⟩ : ∃ k, m = k + 1 := ⟨m - 1, by omega⟩
    by_cases hlt : m < l.length
    · rcases hs with rfl | ⟨b, off, rfl, hin⟩
      · simp at hlt
      obtain ⟨x, hx⟩ := some_of_lt (show k < l.length by omega)
      obtain ⟨y, hy⟩ := some_of_lt hlt
      obtain ⟨g0, g1⟩ := (hin.ext he) k x hx
      obtain ⟨k0, k1⟩ := (hin.ext he) m y hy
      have Hs : Hid (risesB lessI (l.take (m + 1)) = (risesB lessI (l.take m) && lessI x y)) := by subst hkm; exact rises_take (lt := lessI) hx hy
      have Hf : Hid (lessI x y = false → risesB lessI l = false) := by subst hkm; exact rises_no (lt := lessI) hx hy
      have i1 : (0 : Int) ≤ (k : Int) := by omega
      have i2 : (m : Int) < (l.length : Int) := by omega
      have i3 : (k : Int) < (l.length : Int) := by omega
      have i4 : (0 : Int) ≤ (m : Int) := by omega
      have e1 : IntKind.i64.wrap ((m : Int) - 1) = (k : Int) := by rw [IntKind.wrap_i64]; omega
      replace hin := hide hin
      replace he := hide he
      replace hx := hide hx
      replace hy := hide hy
      replace hk := hide hk
      replace hkm := hide hkm
      go_wp2_with fail
      go_region_held3 (fun w' => w'.cell? ⟨b, off + k * 2, none⟩ = some (.string x.kind) ∧ w'.cell? ⟨b, off + k * 2 + 1, none⟩ = some (.string x.name) ∧ w'.cell? ⟨b, off + m * 2, none⟩ = some (.string y.kind) ∧ w'.cell? ⟨b, off + m * 2 + 1, none⟩ = some (.string y.name)) (go_keep)
        ((go_at_call 68; refine (compareIDs x y _).mono ?_; rintro e w1 ⟨rfl, he1⟩; have q0 := he1.cells (p := ⟨b, off + k * 2, none⟩) (v := .string x.kind) (by simpa using g0); have q1 := he1.cells (p := ⟨b, off + k * 2 + 1, none⟩) (v := .string x.name) (by simpa using g1); have q2 := he1.cells (p := ⟨b, off + m * 2, none⟩) (v := .string y.kind) (by simpa using k0); have q3 := he1.cells (p := ⟨b, off + m * 2 + 1, none⟩) (v := .string y.name) (by simpa using k1); replace he1 := hide he1))
      by_cases hb : 0 ≤ cmpI x y
      · have Hb := hide (show lessI x y = false by simp [lessI]; omega)
        go_wp2
        go_ret
        exact ⟨retB (unhide Hf (unhide Hb)).symm, he.out.drew.trans he1.out⟩
      · have hd : decide (0 ≤ cmpI x y) = false := by simpa using hb
        have Hb := hide (show lessI x y = true by simp [lessI]; omega)
        go_wp2
        go_roundw
        case rel => exact ⟨m + 1, by omega, .inl (by omega), by go_num, by rw [unhide Hs]; simp [Hid, hall.out, unhide Hb], he.out.drew.trans he1.out⟩
        case measure => simp [intOf]; omega
    · have Hl : Hid (l.take m = l) := List.take_of_length_le (by omega)
      replace he := hide he
      replace hs := hide hs
      replace hkm := hide hkm
      go_wp2
      go_ret
      exact ⟨retB (by rw [unhide Hl] at hall; exact hall.out.symm), he.out⟩
set_option maxRecDepth 100000 in
set_option maxHeartbeats 1600000 in
theorem risesAttr (v : Value) (l : List Attrd) (w : World) (hv : AttrsV w v l) :
    Calls Tryz.prog 114 #[v, .func (.func 115) #[] #[]] w fun e w' => e = .returned (.bool (risesB lessA l)) ∧ Ext w w' := by
  obtain ⟨⟨a, cap, rfl, hcap, hmax, hs⟩, hfew, hok⟩ := hv
  replace hok := hide hok
  go_enter Tryz.func114, Tryz.ntmps114
  go_wp2
  go_loopw [5] (fun i wr => ∃ m : Nat, 1 ≤ m ∧ (m ≤ l.length ∨ m = 1) ∧ i = .int .i64 m ∧ Hid (risesB lessA (l.take m) = true) ∧ Ext w wr) (fun i _ => l.length - (intOf i).toNat)
  case atStart => exact ⟨1, Nat.le_refl _, .inr rfl, rfl, rises_one _, Ext.refl _⟩
  case round =>
    obtain ⟨m, hm1, hk, rfl, hall, he⟩ := hrel
    obtain ⟨k, hkm⟩ : ∃ k, m = k + 1 := ⟨m - 1, by omega⟩
    by_cases hlt : m < l.length
    · rcases hs with rfl | ⟨b, off, rfl, hin⟩
      · simp at hlt
      obtain ⟨x, hx⟩ := some_of_lt (show k < l.length by omega)
      obtain ⟨y, hy⟩ := some_of_lt hlt
      obtain ⟨g0, g1, g2, g3⟩ := (hin.ext he) k x hx
      obtain ⟨k0, k1, k2, k3⟩ := (hin.ext he) m y hy
      have Hs : Hid (risesB lessA (l.take (m + 1)) = (risesB lessA (l.take m) && lessA x y)) := by subst hkm; exact rises_take (lt := lessA) hx hy
      have Hf : Hid (lessA x y = false → risesB lessA l = false) := by subst hkm; exact rises_no (lt := lessA) hx hy
      have i1 : (0 : Int) ≤ (k : Int) := by omega
      have i2 : (m : Int) < (l.length : Int) := by omega
      have i3 : (k : Int) < (l.length : Int) := by omega
      have i4 : (0 : Int) ≤ (m : Int) := by omega
      have e1 : IntKind.i64.wrap ((m : Int) - 1) = (k : Int) := by rw [IntKind.wrap_i64]; omega
      replace hin := hide hin
      replace he := hide he
      replace hx := hide hx
      replace hy := hide hy
      replace hk := hide hk
      replace hkm := hide hkm
      go_wp2_with fail
      go_region_held3 (fun w' => w'.cell? ⟨b, off + k * 4, none⟩ = some (.string x.name) ∧ w'.cell? ⟨b, off + k * 4 + 1, none⟩ = some (.bool x.isText) ∧ w'.cell? ⟨b, off + k * 4 + 2, none⟩ = some (.string x.text) ∧ w'.cell? ⟨b, off + k * 4 + 3, none⟩ = some (.int .i64 x.number) ∧ w'.cell? ⟨b, off + m * 4, none⟩ = some (.string y.name) ∧ w'.cell? ⟨b, off + m * 4 + 1, none⟩ = some (.bool y.isText) ∧ w'.cell? ⟨b, off + m * 4 + 2, none⟩ = some (.string y.text) ∧ w'.cell? ⟨b, off + m * 4 + 3, none⟩ = some (.int .i64 y.number)) (go_keep)
        ((go_at_call 115; refine (compareAttrs x y _).mono ?_; rintro e w1 ⟨rfl, he1⟩; have qk0 := he1.cells (p := ⟨b, off + k * 4, none⟩) (v := .string x.name) (by simpa using g0); have qk1 := he1.cells (p := ⟨b, off + k * 4 + 1, none⟩) (v := .bool x.isText) (by simpa using g1); have qk2 := he1.cells (p := ⟨b, off + k * 4 + 2, none⟩) (v := .string x.text) (by simpa using g2); have qk3 := he1.cells (p := ⟨b, off + k * 4 + 3, none⟩) (v := .int .i64 x.number) (by simpa using g3); have qm0 := he1.cells (p := ⟨b, off + m * 4, none⟩) (v := .string y.name) (by simpa using k0); have qm1 := he1.cells (p := ⟨b, off + m * 4 + 1, none⟩) (v := .bool y.isText) (by simpa using k1); have qm2 := he1.cells (p := ⟨b, off + m * 4 + 2, none⟩) (v := .string y.text) (by simpa using k2); have qm3 := he1.cells (p := ⟨b, off + m * 4 + 3, none⟩) (v := .int .i64 y.number) (by simpa using k3); replace he1 := hide he1))
      by_cases hb : 0 ≤ cmpS x.name y.name
      · have Hb := hide (show lessA x y = false by simp [lessA]; omega)
        go_wp2
        go_ret
        exact ⟨retB (unhide Hf (unhide Hb)).symm, he.out.drew.trans he1.out⟩
      · have hd : decide (0 ≤ cmpS x.name y.name) = false := by simpa using hb
        have Hb := hide (show lessA x y = true by simp [lessA]; omega)
        go_wp2
        go_roundw
        case rel => exact ⟨m + 1, by omega, .inl (by omega), by go_num, by rw [unhide Hs]; simp [Hid, hall.out, unhide Hb], he.out.drew.trans he1.out⟩
        case measure => simp [intOf]; omega
    · have Hl : Hid (l.take m = l) := List.take_of_length_le (by omega)
      replace he := hide he
      replace hs := hide hs
      replace hkm := hide hkm
      go_wp2
      go_ret
      exact ⟨retB (by rw [unhide Hl] at hall; exact hall.out.symm), he.out⟩
end Go.Proofs.YtfmcgdglalljgaaGreatDoor

namespace Go.Proofs.YtfmcgdglalljgaaGreatDoor
open Go.RowKit

theorem AttrsV.form {w : World} {v : Value} {l : List Attrd} (h : AttrsV w v l) : ∃ a cap, v = .slice a l.length cap := by
  obtain ⟨⟨a, cap, hv, _⟩, _⟩ := h; exact ⟨a, cap, hv⟩
theorem IDsV.form {w : World} {v : Value} {l : List IDd} (h : IDsV w v l) : ∃ a cap, v = .slice a l.length cap := by
  obtain ⟨⟨a, cap, hv, _⟩, _⟩ := h; exact ⟨a, cap, hv⟩

set_option maxRecDepth 100000 in
set_option maxHeartbeats 3200000 in
theorem mayBe (c2 c3 : Value) (x : Resd) (w : World) (hr : ResV w c2 c3 x) :
    Calls Tryz.prog 79 #[.agg #[.string x.id.kind, .string x.id.name, c2, c3]] w fun e w' => e = .returned (.bool (mayB x)) ∧ Ext w w' := by
  obtain ⟨hI, hA, hF⟩ := hr
  obtain ⟨a2, p2, rfl⟩ := hA.form
  obtain ⟨a3, p3, rfl⟩ := hF.form
  have nA := hA.few
  have nF := hF.few
  by_cases h6 : 6 < x.attrs.length
  · have H := hide (show mayB x = false by simp [mayB]; omega)
    have h6' : (6 : Int) < (x.attrs.length : Int) := by omega
    replace hI := hide hI; replace hA := hide hA; replace hF := hide hF
    go_enter Tryz.func79, Tryz.ntmps79
    go_wp2_with fail
    go_ret
    exact ⟨retB (by rw [unhide H]), (Ext.refl _).alloc _⟩
  have h6' : decide ((6 : Int) < (x.attrs.length : Int)) = false := by simp; omega
  by_cases h7 : 6 < x.after.length
  · have H := hide (show mayB x = false by simp [mayB]; omega)
    have h7' : (6 : Int) < (x.after.length : Int) := by omega
    replace hI := hide hI; replace hA := hide hA; replace hF := hide hF
    go_enter Tryz.func79, Tryz.ntmps79
    go_wp2_with fail
    go_ret
    exact ⟨retB (by rw [unhide H]), (Ext.refl _).alloc _⟩
  have h7' : decide ((6 : Int) < (x.after.length : Int)) = false := by simp; omega
  have H := hide (show mayB x = (idB x.id && x.attrs.all attrB && risesB lessA x.attrs && x.after.all idB && risesB lessI x.after) by
    simp only [mayB]; rw [decide_eq_true (show x.attrs.length ≤ 6 by omega), decide_eq_true (show x.after.length ≤ 6 by omega)]; simp)
  replace hI := hide hI; replace hA := hide hA; replace hF := hide hF
  go_enter Tryz.func79, Tryz.ntmps79
  go_wp2_with fail
  refine (isID x.id _ hI.out).mono ?_
  rintro e w1 ⟨rfl, he1⟩
  have x1 : Ext w w1 := ((Ext.refl _).alloc _).trans he1
  have d2 : w1.cell? ⟨w.heap.size, 2, none⟩ = some (.slice a2 x.attrs.length p2) := he1.cells (by simp [go_sem])
  have d3 : w1.cell? ⟨w.heap.size, 3, none⟩ = some (.slice a3 x.after.length p3) := he1.cells (by simp [go_sem])
  have D2 := hide d2; have D3 := hide d3
  clear he1
  replace x1 := hide x1
  cases h1 : idB x.id
  · go_wp2_with fail
    go_ret
    exact ⟨retB (by rw [unhide H, h1]; rfl), x1.out⟩
  go_wp2_with fail
  refine (everyAttr _ x.attrs _ (hA.out.ext x1.out)).mono ?_
  rintro e w2 ⟨rfl, he2⟩
  clear d2 d3
  have d2 := he2.cells (unhide D2); have d3 := he2.cells (unhide D3); clear D2 D3; have D2 := hide d2; have D3 := hide d3
  have x2 := hide (x1.out.trans he2)
  clear he2
  cases h2 : x.attrs.all attrB
  · go_wp2_with fail
    go_ret
    exact ⟨retB (by rw [unhide H, h1, h2]; rfl), x2.out⟩
  go_wp2_with fail
  refine (risesAttr _ x.attrs _ (hA.out.ext x2.out)).mono ?_
  rintro e w3 ⟨rfl, he3⟩
  clear d2 d3
  have d2 := he3.cells (unhide D2); have d3 := he3.cells (unhide D3); clear D2 D3; have D2 := hide d2; have D3 := hide d3
  have x3 := hide (x2.out.trans he3)
  clear he3
  cases h3 : risesB lessA x.attrs
  · go_wp2_with fail
    go_ret
    exact ⟨retB (by rw [unhide H, h1, h2, h3]; rfl), x3.out⟩
  go_wp2_with fail
  refine (everyID _ x.after _ (hF.out.ext x3.out)).mono ?_
  rintro e w4 ⟨rfl, he4⟩
  clear d2 d3
  have d2 := he4.cells (unhide D2); have d3 := he4.cells (unhide D3); clear D2 D3; have D2 := hide d2; have D3 := hide d3
  have x4 := hide (x3.out.trans he4)
  clear he4
  cases h4 : x.after.all idB
  · go_wp2_with fail
    go_ret
    exact ⟨retB (by rw [unhide H, h1, h2, h3, h4]; rfl), x4.out⟩
  go_wp2_with fail
  refine (risesID _ x.after _ (hF.out.ext x4.out)).mono ?_
  rintro e w5 ⟨rfl, he5⟩
  have x5 := hide (x4.out.trans he5)
  clear he5
  go_wp2_with fail
  go_ret
  exact ⟨retB (by rw [unhide H, h1, h2, h3, h4]; simp), x5.out⟩

end Go.Proofs.YtfmcgdglalljgaaGreatDoor

namespace Go.Proofs.YtfmcgdglalljgaaGreatDoor
open Go.RowKit

end Go.Proofs.YtfmcgdglalljgaaGreatDoor

namespace Go.Proofs.YtfmcgdglalljgaaGreatDoor
open Go.RowKit

end Go.Proofs.YtfmcgdglalljgaaGreatDoor
