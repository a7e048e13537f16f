/-
  The order of IDs and the marks: what each function answers.
-/
/-
  Lists of IDs and Attrs: what the functions that look through them answer.
-/
/-
  Lists of Attrs: what the functions that look through them answer.
-/
import Derived.Test.YtodhhjlemmmjcaaGreatJ7
import Derived.Deep.QuietTactic
import Derived.BigQuiet
import Derived.Deep.RegionHeld3
import Derived.Test.YtodhhjlemmmjcaaGreatShelf
import Derived.Test.YtodhhjlemmmjcaaGreatJ2
namespace Go.Proofs.YtodhhjlemmmjcaaGreat
open Go.RowKit

set_option maxRecDepth 100000 in
set_option maxHeartbeats 800000 in
theorem refLess (a b : IDd) (w : World) :
    Calls Tryz.prog 34 #[.agg #[.string a.kind, .string a.name], .agg #[.string b.kind, .string b.name]] w fun e w' => e = .returned (.bool (lessI a b)) ∧ Ext w w' := by
  have H := hide (lessI_eq a b)
  go_enter Tryz.func34, Tryz.ntmps34
  go_wp2
  all_goals go_ret
  all_goals refine ⟨retB ?_, ((Ext.refl _).alloc _).alloc _⟩
  all_goals rw [unhide H]
  all_goals simp_all

def orI (x y : Int) : Int := if x = 0 then y else x
set_option maxRecDepth 100000 in
set_option maxHeartbeats 800000 in
theorem cmpOr (b cap : Nat) (x y : Int) (w : World) (h0 : w.cell? ⟨b, 0, none⟩ = some (.int .i64 x)) (h1 : w.cell? ⟨b, 1, none⟩ = some (.int .i64 y)) :
    Calls Tryz.prog 84 #[.slice (some ⟨b, 0, none⟩) 2 cap] w fun e w' => e = .returned (.int .i64 (orI x y)) ∧ w' = w := by
  go_enter Tryz.func84, Tryz.ntmps84
  go_wp2
  go_loop [8] (fun i => ∃ k : Nat, k ≤ 2 ∧ i = .int .i64 k ∧ Hid (1 ≤ k → x = 0) ∧ Hid (2 ≤ k → y = 0)) (fun i => 2 - (intOf i).toNat)
  case atStart => exact ⟨0, by omega, rfl, by simp [Hid], by simp [Hid]⟩
  case round =>
    obtain ⟨k, hk, rfl, k1, k2⟩ := hrel
    match k, hk with
    | 0, _ =>
      by_cases hx : x = 0
      · subst hx
        go_wp2
        go_round
        case rel => exact ⟨1, by omega, rfl, by simp [Hid], by simp [Hid]⟩
        case measure => simp [intOf]
      · have hb : (x != 0) = true := by simpa using hx
        go_wp2
        go_ret
        exact ⟨retI (by simp [orI, hx]), rfl⟩
    | 1, _ =>
      obtain rfl := k1.out (by omega)
      by_cases hy : y = 0
      · subst hy
        go_wp2
        go_round
        case rel => exact ⟨2, by omega, rfl, by simp [Hid], by simp [Hid]⟩
        case measure => simp [intOf]
      · have hb : (y != 0) = true := by simpa using hy
        go_wp2
        go_ret
        exact ⟨retI (by simp [orI]), rfl⟩
    | 2, _ =>
      obtain rfl := k1.out (by omega)
      obtain rfl := k2.out (by omega)
      go_wp2
      go_ret
      exact ⟨retI (by simp [orI]), rfl⟩

set_option maxRecDepth 100000 in
set_option maxHeartbeats 800000 in
theorem compareIDs (a b : IDd) (w : World) :
    Calls Tryz.prog 53 #[.agg #[.string a.kind, .string a.name], .agg #[.string b.kind, .string b.name]] w fun e w' => e = .returned (.int .i64 (cmpI a b)) ∧ Ext w w' := by
  go_enter Tryz.func53, Tryz.ntmps53
  go_wp2
  go_region_held3 (fun w' => w'.cell? ⟨w.heap.size, 0, none⟩ = some (.string a.kind) ∧ w'.cell? ⟨w.heap.size, 1, none⟩ = some (.string a.name) ∧ w'.cell? ⟨w.heap.size + 1, 0, none⟩ = some (.string b.kind) ∧ w'.cell? ⟨w.heap.size + 1, 1, none⟩ = some (.string b.name)) (simp [go_sem, World.cell?_alloc_past])
    (first
      | (go_at_call 85; refine (Tryz.strings_Compare _ _ _).mono ?_; rintro e w' ⟨rfl, rfl⟩)
      | (go_at_call 84; refine (cmpOr _ _ (cmpS a.kind b.kind) (cmpS a.name b.name) _ ?_ ?_).mono ?_; (simp [go_sem, cmpS]); (simp [go_sem, cmpS]); rintro e w' ⟨rfl, rfl⟩))
  all_goals go_wp2
  all_goals go_ret
  all_goals exact ⟨rfl, (((Ext.refl _).alloc _).alloc _).drew.alloc _⟩
end Go.Proofs.YtodhhjlemmmjcaaGreat

namespace Go.Proofs.YtodhhjlemmmjcaaGreat
open Go.RowKit

set_option maxRecDepth 100000 in
set_option maxHeartbeats 800000 in
theorem isID (x : IDd) (w : World) (hok : okI x) :
    Calls Tryz.prog 96 #[.agg #[.string x.kind, .string x.name]] w fun e w' => e = .returned (.bool (idB x)) ∧ Ext w w' := by
  obtain ⟨h1, h2⟩ := hok
  cases hk : wordB x.kind.data.toList
  · have H := hide (show idB x = false by simp [idB, hk])
    go_enter Tryz.func96, Tryz.ntmps96
    go_wp2_with fail
    refine (isWord _ _ (by omega)).mono ?_
    rintro e w1 ⟨rfl, he⟩
    replace he := hide he
    go_wp2_with fail
    go_ret
    exact ⟨retB (by rw [unhide H]), ((Ext.refl _).alloc _).trans he.out⟩
  · have H := hide (show idB x = wordB x.name.data.toList by simp [idB, hk])
    go_enter Tryz.func96, Tryz.ntmps96
    go_wp2_with fail
    refine (isWord _ _ (by omega)).mono ?_
    rintro e w1 ⟨rfl, he⟩
    have c1 : w1.cell? ⟨w.heap.size, 1, none⟩ = some (.string x.name) := he.cells (by simp [go_sem])
    replace he := hide he
    go_wp2_with fail
    refine (isWord _ _ (by omega)).mono ?_
    rintro e w2 ⟨rfl, he2⟩
    replace he2 := hide he2
    go_wp2_with fail
    go_ret
    exact ⟨retB (by rw [unhide H]), (((Ext.refl _).alloc _).trans he.out).trans he2.out⟩

set_option maxRecDepth 100000 in
set_option maxHeartbeats 800000 in
theorem everyID (v : Value) (l : List IDd) (w : World) (hv : IDsV w v l) :
    Calls Tryz.prog 68 #[v, .func (.func 96) #[] #[]] w fun e w' => e = .returned (.bool (l.all idB)) ∧ Ext w w' := by
  obtain ⟨⟨a, cap, rfl, hcap, hmax, hs⟩, hfew, hok⟩ := hv
  go_enter Tryz.func68, Tryz.ntmps68
  go_wp2
  go_loopw [9] (fun i wr => ∃ k : Nat, k ≤ l.length ∧ i = .int .i64 k ∧ Hid ((l.take k).all idB = true) ∧ Ext w wr) (fun i _ => l.length - (intOf i).toNat)
  case atStart => exact ⟨0, Nat.zero_le _, rfl, by simp [Hid], Ext.refl _⟩
  case round =>
    obtain ⟨k, hk, rfl, hall, he⟩ := hrel
    by_cases hlt : k < l.length
    · rcases hs with rfl | ⟨b, off, rfl, hin⟩
      · simp at hlt
      obtain ⟨x, hx⟩ := some_of_lt hlt
      obtain ⟨g0, g1⟩ := (hin.ext he) k x hx
      have hokx := hide (hok x (List.mem_of_getElem? hx))
      have Hs := hide (all_succ (p := idB) hx hall.out)
      have Hf := hide (all_no (p := idB) hx)
      replace hin := hide hin; replace hok := hide hok
      replace he := hide he
      replace hx := hide hx
      go_wp2_with fail
      refine (isID x _ hokx.out).mono ?_
      rintro e w1 ⟨rfl, he1⟩
      replace he1 := hide he1
      cases hb : idB x
      · go_wp2_with fail
        go_ret
        exact ⟨retB (unhide Hf hb).symm, (he.out.alloc _).trans he1.out⟩
      · go_wp2_with fail
        go_roundw
        case rel => exact ⟨k + 1, by omega, by go_num, by rw [unhide Hs]; exact hb, (he.out.alloc _).trans he1.out⟩
        case measure => simp [intOf]; omega
    · have Hl := hide (show l.take k = l from List.take_of_length_le (by omega))
      replace he := hide he
      replace hs := hide hs; replace hok := hide hok
      go_wp2
      go_ret
      exact ⟨retB (by rw [unhide Hl] at hall; exact hall.out.symm), he.out⟩
end Go.Proofs.YtodhhjlemmmjcaaGreat

namespace Go.Proofs.YtodhhjlemmmjcaaGreat
open Go.RowKit

theorem after_eq (s : ByteArray) : (s.toList = [97, 102, 116, 101, 114]) = (s.data.toList = afterW) := by rw [ByteArray.toList_eq]; rfl
theorem nil_eq (s : ByteArray) : (s.toList = []) = (s.data.toList = []) := by rw [ByteArray.toList_eq]

set_option maxRecDepth 100000 in
set_option maxHeartbeats 1600000 in
theorem isAttr (x : Attrd) (w : World) (hok : okA x) :
    Calls Tryz.prog 98 #[.agg #[.string x.name, .bool x.isText, .string x.text, .int .i64 x.number]] w fun e w' => e = .returned (.bool (attrB x)) ∧ Ext w w' := by
  obtain ⟨n, t, s, m⟩ := x
  obtain ⟨h1, h2, h3, h4⟩ := hok
  dsimp only at h1 h2 h3 h4 ⊢
  cases hk : wordB n.data.toList
  · have H := hide (show attrB ⟨n, t, s, m⟩ = false by simp [attrB, hk])
    go_enter Tryz.func98, Tryz.ntmps98
    go_wp2_with fail
    refine (isWord _ _ (by omega)).mono ?_
    rintro e w1 ⟨rfl, he⟩
    replace he := hide he
    go_wp2_with fail
    go_ret
    exact ⟨retB (by rw [unhide H]), ((Ext.refl _).alloc _).trans he.out⟩
  by_cases ha : n.data.toList = afterW
  · have H := hide (show attrB ⟨n, t, s, m⟩ = false by simp [attrB, ha])
    have ha' : n.toList = [97, 102, 116, 101, 114] := by rw [after_eq]; exact ha
    replace ha := hide ha
    go_enter Tryz.func98, Tryz.ntmps98
    go_wp2_with fail
    refine (isWord _ _ (by omega)).mono ?_
    rintro e w1 ⟨rfl, he⟩
    have c0 : w1.cell? ⟨w.heap.size, 0, none⟩ = some (.string n) := he.cells (by simp [go_sem])
    replace he := hide he
    go_wp2_with fail
    go_ret
    exact ⟨retB (by rw [unhide H]), ((Ext.refl _).alloc _).trans he.out⟩
  have ha' : ¬ n.toList = [97, 102, 116, 101, 114] := by rw [after_eq]; exact ha
  have ha'' : (n.toList == [97, 102, 116, 101, 114]) = false := by simpa using ha'
  have hA : (n.data.toList == afterW) = false := by simpa using ha
  replace ha := hide ha
  cases t
  · have H := hide (show attrB ⟨n, false, s, m⟩ = (s.data.toList.isEmpty && decide (-1000000000 ≤ m ∧ m ≤ 1000000000)) by simp [attrB, hk, hA])
    have Hn := hide (nil_eq s)
    replace hA := hide hA
    go_enter Tryz.func98, Tryz.ntmps98
    go_wp2_with fail
    refine (isWord _ _ (by omega)).mono ?_
    rintro e w1 ⟨rfl, he⟩
    have c0 : w1.cell? ⟨w.heap.size, 0, none⟩ = some (.string n) := he.cells (by simp [go_sem])
    have c1 : w1.cell? ⟨w.heap.size, 1, none⟩ = some (.bool false) := he.cells (by simp [go_sem])
    have c2 : w1.cell? ⟨w.heap.size, 2, none⟩ = some (.string s) := he.cells (by simp [go_sem])
    have c3 : w1.cell? ⟨w.heap.size, 3, none⟩ = some (.int .i64 m) := he.cells (by simp [go_sem])
    replace he := hide he
    go_wp2_with fail
    all_goals go_ret
    all_goals refine ⟨retB ?_, ((Ext.refl _).alloc _).trans he.out⟩
    all_goals rw [unhide H, Bool.eq_iff_iff]
    all_goals have Hn := unhide Hn
    all_goals simp_all
    all_goals omega
  · have H := hide (show attrB ⟨n, true, s, m⟩ = (stringB s.data.toList && m == 0) by simp [attrB, hk, hA])
    replace hA := hide hA
    go_enter Tryz.func98, Tryz.ntmps98
    go_wp2_with fail
    refine (isWord _ _ (by omega)).mono ?_
    rintro e w1 ⟨rfl, he⟩
    have c0 : w1.cell? ⟨w.heap.size, 0, none⟩ = some (.string n) := he.cells (by simp [go_sem])
    have c1 : w1.cell? ⟨w.heap.size, 1, none⟩ = some (.bool true) := he.cells (by simp [go_sem])
    have c2 : w1.cell? ⟨w.heap.size, 2, none⟩ = some (.string s) := he.cells (by simp [go_sem])
    have c3 : w1.cell? ⟨w.heap.size, 3, none⟩ = some (.int .i64 m) := he.cells (by simp [go_sem])
    replace he := hide he
    go_wp2_with fail
    refine (isString _ _ (by omega)).mono ?_
    rintro e w2 ⟨rfl, he2⟩
    have d3 : w2.cell? ⟨w.heap.size, 3, none⟩ = some (.int .i64 m) := he2.cells c3
    replace he2 := hide he2
    cases hb : stringB s.data.toList
    all_goals go_wp2_with fail
    all_goals go_ret
    all_goals refine ⟨retB ?_, (((Ext.refl _).alloc _).trans he.out).trans he2.out⟩
    all_goals rw [unhide H, hb]
    all_goals simp

set_option maxRecDepth 100000 in
set_option maxHeartbeats 800000 in
theorem everyAttr (v : Value) (l : List Attrd) (w : World) (hv : AttrsV w v l) :
    Calls Tryz.prog 97 #[v, .func (.func 98) #[] #[]] w fun e w' => e = .returned (.bool (l.all attrB)) ∧ Ext w w' := by
  obtain ⟨⟨a, cap, rfl, hcap, hmax, hs⟩, hfew, hok⟩ := hv
  go_enter Tryz.func97, Tryz.ntmps97
  go_wp2
  go_loopw [9] (fun i wr => ∃ k : Nat, k ≤ l.length ∧ i = .int .i64 k ∧ Hid ((l.take k).all attrB = true) ∧ Ext w wr) (fun i _ => l.length - (intOf i).toNat)
  case atStart => exact ⟨0, Nat.zero_le _, rfl, by simp [Hid], Ext.refl _⟩
  case round =>
    obtain ⟨k, hk, rfl, hall, he⟩ := hrel
    by_cases hlt : k < l.length
    · rcases hs with rfl | ⟨b, off, rfl, hin⟩
      · simp at hlt
      obtain ⟨x, hx⟩ := some_of_lt hlt
      obtain ⟨g0, g1, g2, g3⟩ := (hin.ext he) k x hx
      have hokx := hide (hok x (List.mem_of_getElem? hx))
      have Hs := hide (all_succ (p := attrB) hx hall.out)
      have Hf := hide (all_no (p := attrB) hx)
      replace hin := hide hin; replace hok := hide hok
      replace he := hide he
      replace hx := hide hx
      go_wp2_with fail
      refine (isAttr x _ hokx.out).mono ?_
      rintro e w1 ⟨rfl, he1⟩
      replace he1 := hide he1
      cases hb : attrB x
      · go_wp2_with fail
        go_ret
        exact ⟨retB (unhide Hf hb).symm, (he.out.alloc _).trans he1.out⟩
      · go_wp2_with fail
        go_roundw
        case rel => exact ⟨k + 1, by omega, by go_num, by rw [unhide Hs]; exact hb, (he.out.alloc _).trans he1.out⟩
        case measure => simp [intOf]; omega
    · have Hl := hide (show l.take k = l from List.take_of_length_le (by omega))
      replace he := hide he
      replace hs := hide hs; replace hok := hide hok
      go_wp2
      go_ret
      exact ⟨retB (by rw [unhide Hl] at hall; exact hall.out.symm), he.out⟩
end Go.Proofs.YtodhhjlemmmjcaaGreat
