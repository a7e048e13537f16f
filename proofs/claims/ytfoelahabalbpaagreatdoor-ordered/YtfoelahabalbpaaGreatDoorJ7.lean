/-
  The order of IDs and the marks: what each function answers.
-/
/-
  Lists of IDs and Attrs: what the functions that look through them answer.
-/
/-
  Lists of Attrs: what the functions that look through them answer.
-/
/-
  Lists that rise: what the function that looks for it answers.
-/
/-
  Resources that may be: what the program's functions answer.
-/
/-
  Cells of IDs, Attrs and resources; rows that are kept.
-/
/-
  Resources that may be: what the program's functions answer of a list.
-/
/-
  The reference's word, the order of IDs, the marks: what each function answers.
-/
/-
  Resources that may be: what the reference's function answers of one.
-/
/-
  Resources that may be: what the reference's function answers of a list.
-/
/-
  The two orders of keys.
-/
/-
  Two lists of resources that are the same: what the functions that compare them answer.
-/
/-
  Two lists of resources that are the same.
-/
import Derived.Test.YtfoelahabalbpaaGreatDoorJ3
import Derived.Deep.QuietTactic
import Derived.BigQuiet
import Derived.Deep.RegionHeld3
import Derived.Test.YtfoelahabalbpaaGreatDoorShelf
import Derived.Test.YtfoelahabalbpaaGreatDoorJ1
import Derived.Test.YtfoelahabalbpaaGreatDoorSame
namespace Go.Proofs.YtfoelahabalbpaaGreatDoor
open Go.RowKit

def orI (x y : Int) : Int := if x = 0 then y else x
set_option maxRecDepth 100000 in
set_option maxHeartbeats 800000 in
theorem cmpOr (b cap : Nat) (x y : Int) (w : World) (h0 : w.cell? ⟨b, 0, none⟩ = some (.int .i64 x)) (h1 : w.cell? ⟨b, 1, none⟩ = some (.int .i64 y)) :
    Calls Tryz.prog 103 #[.slice (some ⟨b, 0, none⟩) 2 cap] w fun e w' => e = .returned (.int .i64 (orI x y)) ∧ w' = w := by
  go_enter Tryz.func103, Tryz.ntmps103
  go_wp2
  go_loop [8] (fun i => ∃ k : Nat, k ≤ 2 ∧ i = .int .i64 k ∧ Hid (1 ≤ k → x = 0) ∧ Hid (2 ≤ k → y = 0)) (fun i => 2 - (intOf i).toNat)
  case atStart => exact ⟨0, by omega, rfl, by simp [Hid], by simp [Hid]⟩
  case round =>
    obtain ⟨k, hk, rfl, k1, k2⟩ := hrel
    match k, hk with
    | 0, _ =>
      by_cases hx : x = 0
      · subst hx
        go_wp2
        go_round
        case rel => exact ⟨1, by omega, rfl, by simp [Hid], by simp [Hid]⟩
        case measure => simp [intOf]
      · have hb : (x != 0) = true := by simpa using hx
        go_wp2
        go_ret
        exact ⟨retI (by simp [orI, hx]), rfl⟩
    | 1, _ =>
      obtain rfl := k1.out (by omega)
      by_cases hy : y = 0
      · subst hy
        go_wp2
        go_round
        case rel => exact ⟨2, by omega, rfl, by simp [Hid], by simp [Hid]⟩
        case measure => simp [intOf]
      · have hb : (y != 0) = true := by simpa using hy
        go_wp2
        go_ret
        exact ⟨retI (by simp [orI]), rfl⟩
    | 2, _ =>
      obtain rfl := k1.out (by omega)
      obtain rfl := k2.out (by omega)
      go_wp2
      go_ret
      exact ⟨retI (by simp [orI]), rfl⟩

set_option maxRecDepth 100000 in
set_option maxHeartbeats 800000 in
theorem compareIDs (a b : IDd) (w : World) :
    Calls Tryz.prog 59 #[.agg #[.string a.kind, .string a.name], .agg #[.string b.kind, .string b.name]] w fun e w' => e = .returned (.int .i64 (cmpI a b)) ∧ Ext w w' := by
  go_enter Tryz.func59, Tryz.ntmps59
  go_wp2
  go_region_held3 (fun w' => w'.cell? ⟨w.heap.size, 0, none⟩ = some (.string a.kind) ∧ w'.cell? ⟨w.heap.size, 1, none⟩ = some (.string a.name) ∧ w'.cell? ⟨w.heap.size + 1, 0, none⟩ = some (.string b.kind) ∧ w'.cell? ⟨w.heap.size + 1, 1, none⟩ = some (.string b.name)) (simp [go_sem, World.cell?_alloc_past])
    (first
      | (go_at_call 104; refine (Tryz.strings_Compare _ _ _).mono ?_; rintro e w' ⟨rfl, rfl⟩)
      | (go_at_call 103; refine (cmpOr _ _ (cmpS a.kind b.kind) (cmpS a.name b.name) _ ?_ ?_).mono ?_; (simp [go_sem, cmpS]); (simp [go_sem, cmpS]); rintro e w' ⟨rfl, rfl⟩))
  all_goals go_wp2
  all_goals go_ret
  all_goals exact ⟨rfl, (((Ext.refl _).alloc _).alloc _).drew.alloc _⟩
end Go.Proofs.YtfoelahabalbpaaGreatDoor

namespace Go.Proofs.YtfoelahabalbpaaGreatDoor
open Go.RowKit

set_option maxRecDepth 100000 in
set_option maxHeartbeats 800000 in
theorem isID (x : IDd) (w : World) (hok : okI x) :
    Calls Tryz.prog 128 #[.agg #[.string x.kind, .string x.name]] w fun e w' => e = .returned (.bool (idB x)) ∧ Ext w w' := by
  obtain ⟨h1, h2⟩ := hok
  cases hk : wordB x.kind.data.toList
  · have H := hide (show idB x = false by simp [idB, hk])
    go_enter Tryz.func128, Tryz.ntmps128
    go_wp2_with fail
    refine (isWord _ _ (by omega)).mono ?_
    rintro e w1 ⟨rfl, he⟩
    replace he := hide he
    go_wp2_with fail
    go_ret
    exact ⟨retB (by rw [unhide H]), ((Ext.refl _).alloc _).trans he.out⟩
  · have H := hide (show idB x = wordB x.name.data.toList by simp [idB, hk])
    go_enter Tryz.func128, Tryz.ntmps128
    go_wp2_with fail
    refine (isWord _ _ (by omega)).mono ?_
    rintro e w1 ⟨rfl, he⟩
    have c1 : w1.cell? ⟨w.heap.size, 1, none⟩ = some (.string x.name) := he.cells (by simp [go_sem])
    replace he := hide he
    go_wp2_with fail
    refine (isWord _ _ (by omega)).mono ?_
    rintro e w2 ⟨rfl, he2⟩
    replace he2 := hide he2
    go_wp2_with fail
    go_ret
    exact ⟨retB (by rw [unhide H]), (((Ext.refl _).alloc _).trans he.out).trans he2.out⟩

set_option maxRecDepth 100000 in
set_option maxHeartbeats 800000 in
theorem everyID (v : Value) (l : List IDd) (w : World) (hv : IDsV w v l) :
    Calls Tryz.prog 87 #[v, .func (.func 128) #[] #[]] w fun e w' => e = .returned (.bool (l.all idB)) ∧ Ext w w' := by
  obtain ⟨⟨a, cap, rfl, hcap, hmax, hs⟩, hfew, hok⟩ := hv
  go_enter Tryz.func87, Tryz.ntmps87
  go_wp2
  go_loopw [9] (fun i wr => ∃ k : Nat, k ≤ l.length ∧ i = .int .i64 k ∧ Hid ((l.take k).all idB = true) ∧ Ext w wr) (fun i _ => l.length - (intOf i).toNat)
  case atStart => exact ⟨0, Nat.zero_le _, rfl, by simp [Hid], Ext.refl _⟩
  case round =>
    obtain ⟨k, hk, rfl, hall, he⟩ := hrel
    by_cases hlt : k < l.length
    · rcases hs with rfl | ⟨b, off, rfl, hin⟩
      · simp at hlt
      obtain ⟨x, hx⟩ := some_of_lt hlt
      obtain ⟨g0, g1⟩ := (hin.ext he) k x hx
      have hokx := hide (hok x (List.mem_of_getElem? hx))
      have Hs := hide (all_succ (p := idB) hx hall.out)
      have Hf := hide (all_no (p := idB) hx)
      replace hin := hide hin; replace hok := hide hok
      replace he := hide he
      replace hx := hide hx
      go_wp2_with fail
      refine (isID x _ hokx.out).mono ?_
      rintro e w1 ⟨rfl, he1⟩
      replace he1 := hide he1
      cases hb : idB x
      · go_wp2_with fail
        go_ret
        exact ⟨retB (unhide Hf hb).symm, (he.out.alloc _).trans he1.out⟩
      · go_wp2_with fail
        go_roundw
        case rel => exact ⟨k + 1, by omega, by go_num, by rw [unhide Hs]; exact hb, (he.out.alloc _).trans he1.out⟩
        case measure => simp [intOf]; omega
    · have Hl := hide (show l.take k = l from List.take_of_length_le (by omega))
      replace he := hide he
      replace hs := hide hs; replace hok := hide hok
      go_wp2
      go_ret
      exact ⟨retB (by rw [unhide Hl] at hall; exact hall.out.symm), he.out⟩
end Go.Proofs.YtfoelahabalbpaaGreatDoor

namespace Go.Proofs.YtfoelahabalbpaaGreatDoor
open Go.RowKit

theorem after_eq (s : ByteArray) : (s.toList = [97, 102, 116, 101, 114]) = (s.data.toList = afterW) := by rw [ByteArray.toList_eq]; rfl
theorem nil_eq (s : ByteArray) : (s.toList = []) = (s.data.toList = []) := by rw [ByteArray.toList_eq]

set_option maxRecDepth 100000 in
set_option maxHeartbeats 1600000 in
theorem isAttr (x : Attrd) (w : World) (hok : okA x) :
    Calls Tryz.prog 130 #[.agg #[.string x.name, .bool x.isText, .string x.text, .int .i64 x.number]] w fun e w' => e = .returned (.bool (attrB x)) ∧ Ext w w' := by
  obtain ⟨n, t, s, m⟩ := x
  obtain ⟨h1, h2, h3, h4⟩ := hok
  dsimp only at h1 h2 h3 h4 ⊢
  cases hk : wordB n.data.toList
  · have H := hide (show attrB ⟨n, t, s, m⟩ = false by simp [attrB, hk])
    go_enter Tryz.func130, Tryz.ntmps130
    go_wp2_with fail
    refine (isWord _ _ (by omega)).mono ?_
    rintro e w1 ⟨rfl, he⟩
    replace he := hide he
    go_wp2_with fail
    go_ret
    exact ⟨retB (by rw [unhide H]), ((Ext.refl _).alloc _).trans he.out⟩
  by_cases ha : n.data.toList = afterW
  · have H := hide (show attrB ⟨n, t, s, m⟩ = false by simp [attrB, ha])
    have ha' : n.toList = [97, 102, 116, 101, 114] := by rw [after_eq]; exact ha
    replace ha := hide ha
    go_enter Tryz.func130, Tryz.ntmps130
    go_wp2_with fail
    refine (isWord _ _ (by omega)).mono ?_
    rintro e w1 ⟨rfl, he⟩
    have c0 : w1.cell? ⟨w.heap.size, 0, none⟩ = some (.string n) := he.cells (by simp [go_sem])
    replace he := hide he
    go_wp2_with fail
    go_ret
    exact ⟨retB (by rw [unhide H]), ((Ext.refl _).alloc _).trans he.out⟩
  have ha' : ¬ n.toList = [97, 102, 116, 101, 114] := by rw [after_eq]; exact ha
  have ha'' : (n.toList == [97, 102, 116, 101, 114]) = false := by simpa using ha'
  have hA : (n.data.toList == afterW) = false := by simpa using ha
  replace ha := hide ha
  cases t
  · have H := hide (show attrB ⟨n, false, s, m⟩ = (s.data.toList.isEmpty && decide (-1000000000 ≤ m ∧ m ≤ 1000000000)) by simp [attrB, hk, hA])
    have Hn := hide (nil_eq s)
    replace hA := hide hA
    go_enter Tryz.func130, Tryz.ntmps130
    go_wp2_with fail
    refine (isWord _ _ (by omega)).mono ?_
    rintro e w1 ⟨rfl, he⟩
    have c0 : w1.cell? ⟨w.heap.size, 0, none⟩ = some (.string n) := he.cells (by simp [go_sem])
    have c1 : w1.cell? ⟨w.heap.size, 1, none⟩ = some (.bool false) := he.cells (by simp [go_sem])
    have c2 : w1.cell? ⟨w.heap.size, 2, none⟩ = some (.string s) := he.cells (by simp [go_sem])
    have c3 : w1.cell? ⟨w.heap.size, 3, none⟩ = some (.int .i64 m) := he.cells (by simp [go_sem])
    replace he := hide he
    go_wp2_with fail
    all_goals go_ret
    all_goals refine ⟨retB ?_, ((Ext.refl _).alloc _).trans he.out⟩
    all_goals rw [unhide H, Bool.eq_iff_iff]
    all_goals have Hn := unhide Hn
    all_goals simp_all
    all_goals omega
  · have H := hide (show attrB ⟨n, true, s, m⟩ = (stringB s.data.toList && m == 0) by simp [attrB, hk, hA])
    replace hA := hide hA
    go_enter Tryz.func130, Tryz.ntmps130
    go_wp2_with fail
    refine (isWord _ _ (by omega)).mono ?_
    rintro e w1 ⟨rfl, he⟩
    have c0 : w1.cell? ⟨w.heap.size, 0, none⟩ = some (.string n) := he.cells (by simp [go_sem])
    have c1 : w1.cell? ⟨w.heap.size, 1, none⟩ = some (.bool true) := he.cells (by simp [go_sem])
    have c2 : w1.cell? ⟨w.heap.size, 2, none⟩ = some (.string s) := he.cells (by simp [go_sem])
    have c3 : w1.cell? ⟨w.heap.size, 3, none⟩ = some (.int .i64 m) := he.cells (by simp [go_sem])
    replace he := hide he
    go_wp2_with fail
    refine (isString _ _ (by omega)).mono ?_
    rintro e w2 ⟨rfl, he2⟩
    have d3 : w2.cell? ⟨w.heap.size, 3, none⟩ = some (.int .i64 m) := he2.cells c3
    replace he2 := hide he2
    cases hb : stringB s.data.toList
    all_goals go_wp2_with fail
    all_goals go_ret
    all_goals refine ⟨retB ?_, (((Ext.refl _).alloc _).trans he.out).trans he2.out⟩
    all_goals rw [unhide H, hb]
    all_goals simp

set_option maxRecDepth 100000 in
set_option maxHeartbeats 800000 in
theorem everyAttr (v : Value) (l : List Attrd) (w : World) (hv : AttrsV w v l) :
    Calls Tryz.prog 129 #[v, .func (.func 130) #[] #[]] w fun e w' => e = .returned (.bool (l.all attrB)) ∧ Ext w w' := by
  obtain ⟨⟨a, cap, rfl, hcap, hmax, hs⟩, hfew, hok⟩ := hv
  go_enter Tryz.func129, Tryz.ntmps129
  go_wp2
  go_loopw [9] (fun i wr => ∃ k : Nat, k ≤ l.length ∧ i = .int .i64 k ∧ Hid ((l.take k).all attrB = true) ∧ Ext w wr) (fun i _ => l.length - (intOf i).toNat)
  case atStart => exact ⟨0, Nat.zero_le _, rfl, by simp [Hid], Ext.refl _⟩
  case round =>
    obtain ⟨k, hk, rfl, hall, he⟩ := hrel
    by_cases hlt : k < l.length
    · rcases hs with rfl | ⟨b, off, rfl, hin⟩
      · simp at hlt
      obtain ⟨x, hx⟩ := some_of_lt hlt
      obtain ⟨g0, g1, g2, g3⟩ := (hin.ext he) k x hx
      have hokx := hide (hok x (List.mem_of_getElem? hx))
      have Hs := hide (all_succ (p := attrB) hx hall.out)
      have Hf := hide (all_no (p := attrB) hx)
      replace hin := hide hin; replace hok := hide hok
      replace he := hide he
      replace hx := hide hx
      go_wp2_with fail
      refine (isAttr x _ hokx.out).mono ?_
      rintro e w1 ⟨rfl, he1⟩
      replace he1 := hide he1
      cases hb : attrB x
      · go_wp2_with fail
        go_ret
        exact ⟨retB (unhide Hf hb).symm, (he.out.alloc _).trans he1.out⟩
      · go_wp2_with fail
        go_roundw
        case rel => exact ⟨k + 1, by omega, by go_num, by rw [unhide Hs]; exact hb, (he.out.alloc _).trans he1.out⟩
        case measure => simp [intOf]; omega
    · have Hl := hide (show l.take k = l from List.take_of_length_le (by omega))
      replace he := hide he
      replace hs := hide hs; replace hok := hide hok
      go_wp2
      go_ret
      exact ⟨retB (by rw [unhide Hl] at hall; exact hall.out.symm), he.out⟩
end Go.Proofs.YtfoelahabalbpaaGreatDoor

namespace Go.Proofs.YtfoelahabalbpaaGreatDoor
open Go.RowKit

set_option maxRecDepth 100000 in
set_option maxHeartbeats 800000 in
theorem compareAttrs (x y : Attrd) (w : World) :
    Calls Tryz.prog 132 #[.agg #[.string x.name, .bool x.isText, .string x.text, .int .i64 x.number], .agg #[.string y.name, .bool y.isText, .string y.text, .int .i64 y.number]] w fun e w' => e = .returned (.int .i64 (cmpS x.name y.name)) ∧ Ext w w' := by
  go_enter Tryz.func132, Tryz.ntmps132
  go_wp2_with (go_at_call 104; refine (Tryz.strings_Compare _ _ _).mono ?_; rintro e w' ⟨rfl, rfl⟩)
  go_ret
  exact ⟨rfl, ((Ext.refl _).alloc _).alloc _⟩

set_option maxRecDepth 100000 in
set_option maxHeartbeats 1600000 in
theorem risesID (v : Value) (l : List IDd) (w : World) (hv : IDsV w v l) :
    Calls Tryz.prog 133 #[v, .func (.func 59) #[] #[]] w fun e w' => e = .returned (.bool (risesB lessI l)) ∧ Ext w w' := by
  obtain ⟨⟨a, cap, rfl, hcap, hmax, hs⟩, hfew, hok⟩ := hv
  replace hok := hide hok
  go_enter Tryz.func133, Tryz.ntmps133
  go_wp2
  go_loopw [5] (fun i wr => ∃ m : Nat, 1 ≤ m ∧ (m ≤ l.length ∨ m = 1) ∧ i = .int .i64 m ∧ Hid (risesB lessI (l.take m) = true) ∧ Ext w wr) (fun i _ => l.length - (intOf i).toNat)
  case atStart => exact ⟨1, Nat.le_refl _, .inr rfl, rfl, rises_one _, Ext.refl _⟩
  case round =>
    obtain ⟨m, hm1, hk, rfl, hall, he⟩ := hrel
    obtain ⟨k, hkm⟩ : ∃ k, m = k + 1 := ⟨m - 1, by omega⟩
    by_cases hlt : m < l.length
    · rcases hs with rfl | ⟨b, off, rfl, hin⟩
      · simp at hlt
      obtain ⟨x, hx⟩ := some_of_lt (show k < l.length by omega)
      obtain ⟨y, hy⟩ := some_of_lt hlt
      obtain ⟨g0, g1⟩ := (hin.ext he) k x hx
      obtain ⟨k0, k1⟩ := (hin.ext he) m y hy
      have Hs : Hid (risesB lessI (l.take (m + 1)) = (risesB lessI (l.take m) && lessI x y)) := by subst hkm; exact rises_take (lt := lessI) hx hy
      have Hf : Hid (lessI x y = false → risesB lessI l = false) := by subst hkm; exact rises_no (lt := lessI) hx hy
      have i1 : (0 : Int) ≤ (k : Int) := by omega
      have i2 : (m : Int) < (l.length : Int) := by omega
      have i3 : (k : Int) < (l.length : Int) := by omega
      have i4 : (0 : Int) ≤ (m : Int) := by omega
      have e1 : IntKind.i64.wrap ((m : Int) - 1) = (k : Int) := by rw [IntKind.wrap_i64]; omega
      replace hin := hide hin
      replace he := hide he
      replace hx := hide hx
      replace hy := hide hy
      replace hk := hide hk
      replace hkm := hide hkm
      go_wp2_with fail
      go_region_held3 (fun w' => w'.cell? ⟨b, off + k * 2, none⟩ = some (.string x.kind) ∧ w'.cell? ⟨b, off + k * 2 + 1, none⟩ = some (.string x.name) ∧ w'.cell? ⟨b, off + m * 2, none⟩ = some (.string y.kind) ∧ w'.cell? ⟨b, off + m * 2 + 1, none⟩ = some (.string y.name)) (go_keep)
        ((go_at_call 59; refine (compareIDs x y _).mono ?_; rintro e w1 ⟨rfl, he1⟩; have q0 := he1.cells (p := ⟨b, off + k * 2, none⟩) (v := .string x.kind) (by simpa using g0); have q1 := he1.cells (p := ⟨b, off + k * 2 + 1, none⟩) (v := .string x.name) (by simpa using g1); have q2 := he1.cells (p := ⟨b, off + m * 2, none⟩) (v := .string y.kind) (by simpa using k0); have q3 := he1.cells (p := ⟨b, off + m * 2 + 1, none⟩) (v := .string y.name) (by simpa using k1); replace he1 := hide he1))
      by_cases hb : 0 ≤ cmpI x y
      · have Hb := hide (show lessI x y = false by simp [lessI]; omega)
        go_wp2
        go_ret
        exact ⟨retB (unhide Hf (unhide Hb)).symm, he.out.drew.trans he1.out⟩
      · have hd : decide (0 ≤ cmpI x y) = false := by simpa using hb
        have Hb := hide (show lessI x y = true by simp [lessI]; omega)
        go_wp2
        go_roundw
        case rel => exact ⟨m + 1, by omega, .inl (by omega), by go_num, by rw [unhide Hs]; simp [Hid, hall.out, unhide Hb], he.out.drew.trans he1.out⟩
        case measure => simp [intOf]; omega
    · have Hl : Hid (l.take m = l) := List.take_of_length_le (by omega)
      replace he := hide he
      replace hs := hide hs
      replace hkm := hide hkm
      go_wp2
      go_ret
      exact ⟨retB (by rw [unhide Hl] at hall; exact hall.out.symm), he.out⟩
set_option maxRecDepth 100000 in
set_option maxHeartbeats 1600000 in
theorem risesAttr (v : Value) (l : List Attrd) (w : World) (hv : AttrsV w v l) :
    Calls Tryz.prog 131 #[v, .func (.func 132) #[] #[]] w fun e w' => e = .returned (.bool (risesB lessA l)) ∧ Ext w w' := by
  obtain ⟨⟨a, cap, rfl, hcap, hmax, hs⟩, hfew, hok⟩ := hv
  replace hok := hide hok
  go_enter Tryz.func131, Tryz.ntmps131
  go_wp2
  go_loopw [5] (fun i wr => ∃ m : Nat, 1 ≤ m ∧ (m ≤ l.length ∨ m = 1) ∧ i = .int .i64 m ∧ Hid (risesB lessA (l.take m) = true) ∧ Ext w wr) (fun i _ => l.length - (intOf i).toNat)
  case atStart => exact ⟨1, Nat.le_refl _, .inr rfl, rfl, rises_one _, Ext.refl _⟩
  case round =>
    obtain ⟨m, hm1, hk, rfl, hall, he⟩ := hrel
    obtain ⟨k, hkm⟩ : ∃ k, m = k + 1 := ⟨m - 1, by omega⟩
    by_cases hlt : m < l.length
    · rcases hs with rfl | ⟨b, off, rfl, hin⟩
      · simp at hlt
      obtain ⟨x, hx⟩ := some_of_lt (show k < l.length by omega)
      obtain ⟨y, hy⟩ := some_of_lt hlt
      obtain ⟨g0, g1, g2, g3⟩ := (hin.ext he) k x hx
      obtain ⟨k0, k1, k2, k3⟩ := (hin.ext he) m y hy
      have Hs : Hid (risesB lessA (l.take (m + 1)) = (risesB lessA (l.take m) && lessA x y)) := by subst hkm; exact rises_take (lt := lessA) hx hy
      have Hf : Hid (lessA x y = false → risesB lessA l = false) := by subst hkm; exact rises_no (lt := lessA) hx hy
      have i1 : (0 : Int) ≤ (k : Int) := by omega
      have i2 : (m : Int) < (l.length : Int) := by omega
      have i3 : (k : Int) < (l.length : Int) := by omega
      have i4 : (0 : Int) ≤ (m : Int) := by omega
      have e1 : IntKind.i64.wrap ((m : Int) - 1) = (k : Int) := by rw [IntKind.wrap_i64]; omega
      replace hin := hide hin
      replace he := hide he
      replace hx := hide hx
      replace hy := hide hy
      replace hk := hide hk
      replace hkm := hide hkm
      go_wp2_with fail
      go_region_held3 (fun w' => w'.cell? ⟨b, off + k * 4, none⟩ = some (.string x.name) ∧ w'.cell? ⟨b, off + k * 4 + 1, none⟩ = some (.bool x.isText) ∧ w'.cell? ⟨b, off + k * 4 + 2, none⟩ = some (.string x.text) ∧ w'.cell? ⟨b, off + k * 4 + 3, none⟩ = some (.int .i64 x.number) ∧ w'.cell? ⟨b, off + m * 4, none⟩ = some (.string y.name) ∧ w'.cell? ⟨b, off + m * 4 + 1, none⟩ = some (.bool y.isText) ∧ w'.cell? ⟨b, off + m * 4 + 2, none⟩ = some (.string y.text) ∧ w'.cell? ⟨b, off + m * 4 + 3, none⟩ = some (.int .i64 y.number)) (go_keep)
        ((go_at_call 132; refine (compareAttrs x y _).mono ?_; rintro e w1 ⟨rfl, he1⟩; have qk0 := he1.cells (p := ⟨b, off + k * 4, none⟩) (v := .string x.name) (by simpa using g0); have qk1 := he1.cells (p := ⟨b, off + k * 4 + 1, none⟩) (v := .bool x.isText) (by simpa using g1); have qk2 := he1.cells (p := ⟨b, off + k * 4 + 2, none⟩) (v := .string x.text) (by simpa using g2); have qk3 := he1.cells (p := ⟨b, off + k * 4 + 3, none⟩) (v := .int .i64 x.number) (by simpa using g3); have qm0 := he1.cells (p := ⟨b, off + m * 4, none⟩) (v := .string y.name) (by simpa using k0); have qm1 := he1.cells (p := ⟨b, off + m * 4 + 1, none⟩) (v := .bool y.isText) (by simpa using k1); have qm2 := he1.cells (p := ⟨b, off + m * 4 + 2, none⟩) (v := .string y.text) (by simpa using k2); have qm3 := he1.cells (p := ⟨b, off + m * 4 + 3, none⟩) (v := .int .i64 y.number) (by simpa using k3); replace he1 := hide he1))
      by_cases hb : 0 ≤ cmpS x.name y.name
      · have Hb := hide (show lessA x y = false by simp [lessA]; omega)
        go_wp2
        go_ret
        exact ⟨retB (unhide Hf (unhide Hb)).symm, he.out.drew.trans he1.out⟩
      · have hd : decide (0 ≤ cmpS x.name y.name) = false := by simpa using hb
        have Hb := hide (show lessA x y = true by simp [lessA]; omega)
        go_wp2
        go_roundw
        case rel => exact ⟨m + 1, by omega, .inl (by omega), by go_num, by rw [unhide Hs]; simp [Hid, hall.out, unhide Hb], he.out.drew.trans he1.out⟩
        case measure => simp [intOf]; omega
    · have Hl : Hid (l.take m = l) := List.take_of_length_le (by omega)
      replace he := hide he
      replace hs := hide hs
      replace hkm := hide hkm
      go_wp2
      go_ret
      exact ⟨retB (by rw [unhide Hl] at hall; exact hall.out.symm), he.out⟩
end Go.Proofs.YtfoelahabalbpaaGreatDoor

namespace Go.Proofs.YtfoelahabalbpaaGreatDoor
open Go.RowKit

theorem AttrsV.form {w : World} {v : Value} {l : List Attrd} (h : AttrsV w v l) : ∃ a cap, v = .slice a l.length cap := by
  obtain ⟨⟨a, cap, hv, _⟩, _⟩ := h; exact ⟨a, cap, hv⟩
theorem IDsV.form {w : World} {v : Value} {l : List IDd} (h : IDsV w v l) : ∃ a cap, v = .slice a l.length cap := by
  obtain ⟨⟨a, cap, hv, _⟩, _⟩ := h; exact ⟨a, cap, hv⟩

set_option maxRecDepth 100000 in
set_option maxHeartbeats 3200000 in
theorem mayBe (c2 c3 : Value) (x : Resd) (w : World) (hr : ResV w c2 c3 x) :
    Calls Tryz.prog 81 #[.agg #[.string x.id.kind, .string x.id.name, c2, c3]] w fun e w' => e = .returned (.bool (mayB x)) ∧ Ext w w' := by
  obtain ⟨hI, hA, hF⟩ := hr
  obtain ⟨a2, p2, rfl⟩ := hA.form
  obtain ⟨a3, p3, rfl⟩ := hF.form
  have nA := hA.few
  have nF := hF.few
  by_cases h6 : 6 < x.attrs.length
  · have H := hide (show mayB x = false by simp [mayB]; omega)
    have h6' : (6 : Int) < (x.attrs.length : Int) := by omega
    replace hI := hide hI; replace hA := hide hA; replace hF := hide hF
    go_enter Tryz.func81, Tryz.ntmps81
    go_wp2_with fail
    go_ret
    exact ⟨retB (by rw [unhide H]), (Ext.refl _).alloc _⟩
  have h6' : decide ((6 : Int) < (x.attrs.length : Int)) = false := by simp; omega
  by_cases h7 : 6 < x.after.length
  · have H := hide (show mayB x = false by simp [mayB]; omega)
    have h7' : (6 : Int) < (x.after.length : Int) := by omega
    replace hI := hide hI; replace hA := hide hA; replace hF := hide hF
    go_enter Tryz.func81, Tryz.ntmps81
    go_wp2_with fail
    go_ret
    exact ⟨retB (by rw [unhide H]), (Ext.refl _).alloc _⟩
  have h7' : decide ((6 : Int) < (x.after.length : Int)) = false := by simp; omega
  have H := hide (show mayB x = (idB x.id && x.attrs.all attrB && risesB lessA x.attrs && x.after.all idB && risesB lessI x.after) by
    simp only [mayB]; rw [decide_eq_true (show x.attrs.length ≤ 6 by omega), decide_eq_true (show x.after.length ≤ 6 by omega)]; simp)
  replace hI := hide hI; replace hA := hide hA; replace hF := hide hF
  go_enter Tryz.func81, Tryz.ntmps81
  go_wp2_with fail
  refine (isID x.id _ hI.out).mono ?_
  rintro e w1 ⟨rfl, he1⟩
  have x1 : Ext w w1 := ((Ext.refl _).alloc _).trans he1
  have d2 : w1.cell? ⟨w.heap.size, 2, none⟩ = some (.slice a2 x.attrs.length p2) := he1.cells (by simp [go_sem])
  have d3 : w1.cell? ⟨w.heap.size, 3, none⟩ = some (.slice a3 x.after.length p3) := he1.cells (by simp [go_sem])
  have D2 := hide d2; have D3 := hide d3
  clear he1
  replace x1 := hide x1
  cases h1 : idB x.id
  · go_wp2_with fail
    go_ret
    exact ⟨retB (by rw [unhide H, h1]; rfl), x1.out⟩
  go_wp2_with fail
  refine (everyAttr _ x.attrs _ (hA.out.ext x1.out)).mono ?_
  rintro e w2 ⟨rfl, he2⟩
  clear d2 d3
  have d2 := he2.cells (unhide D2); have d3 := he2.cells (unhide D3); clear D2 D3; have D2 := hide d2; have D3 := hide d3
  have x2 := hide (x1.out.trans he2)
  clear he2
  cases h2 : x.attrs.all attrB
  · go_wp2_with fail
    go_ret
    exact ⟨retB (by rw [unhide H, h1, h2]; rfl), x2.out⟩
  go_wp2_with fail
  refine (risesAttr _ x.attrs _ (hA.out.ext x2.out)).mono ?_
  rintro e w3 ⟨rfl, he3⟩
  clear d2 d3
  have d2 := he3.cells (unhide D2); have d3 := he3.cells (unhide D3); clear D2 D3; have D2 := hide d2; have D3 := hide d3
  have x3 := hide (x2.out.trans he3)
  clear he3
  cases h3 : risesB lessA x.attrs
  · go_wp2_with fail
    go_ret
    exact ⟨retB (by rw [unhide H, h1, h2, h3]; rfl), x3.out⟩
  go_wp2_with fail
  refine (everyID _ x.after _ (hF.out.ext x3.out)).mono ?_
  rintro e w4 ⟨rfl, he4⟩
  clear d2 d3
  have d2 := he4.cells (unhide D2); have d3 := he4.cells (unhide D3); clear D2 D3; have D2 := hide d2; have D3 := hide d3
  have x4 := hide (x3.out.trans he4)
  clear he4
  cases h4 : x.after.all idB
  · go_wp2_with fail
    go_ret
    exact ⟨retB (by rw [unhide H, h1, h2, h3, h4]; rfl), x4.out⟩
  go_wp2_with fail
  refine (risesID _ x.after _ (hF.out.ext x4.out)).mono ?_
  rintro e w5 ⟨rfl, he5⟩
  have x5 := hide (x4.out.trans he5)
  clear he5
  go_wp2_with fail
  go_ret
  exact ⟨retB (by rw [unhide H, h1, h2, h3, h4]; simp), x5.out⟩

end Go.Proofs.YtfoelahabalbpaaGreatDoor

namespace Go.Proofs.YtfoelahabalbpaaGreatDoor
open Go.RowKit

def cA (x : Attrd) : List Value := [.string x.name, .bool x.isText, .string x.text, .int .i64 x.number]
def cI (x : IDd) : List Value := [.string x.kind, .string x.name]
def cellsA (l : List Attrd) : List Value := l.flatMap cA
def cellsI (l : List IDd) : List Value := l.flatMap cI
def markA : Attrd := ⟨⟨#[]⟩, false, ⟨#[]⟩, -77⟩
def markI : IDd := ⟨⟨#[98, 101, 121, 111, 110, 100]⟩, ⟨#[]⟩⟩
def markR : Resd := ⟨⟨textD 77, ⟨#[]⟩⟩, [], []⟩

theorem flat_get {α β : Type} {f : α → List β} {n : Nat} (hf : ∀ x, (f x).length = n) : ∀ {l : List α} {i : Nat} {x : α} {r : Nat}, l[i]? = some x → r < n → (l.flatMap f)[i * n + r]? = (f x)[r]?
  | [], _, _, _, h, _ => by simp at h
  | y :: l, 0, x, r, h, hr => by
    simp at h; subst h
    rw [List.flatMap_cons, Nat.zero_mul, Nat.zero_add, List.getElem?_append_left (by rw [hf]; exact hr)]
  | y :: l, i + 1, x, r, h, hr => by
    have ih := flat_get hf (l := l) (i := i) (x := x) (r := r) (by simpa using h) hr
    rw [List.flatMap_cons, List.getElem?_append_right (by rw [hf, Nat.succ_mul]; omega), hf, ← ih]
    congr 1
    rw [Nat.succ_mul]; omega
theorem flat_length {α β : Type} {f : α → List β} {n : Nat} (hf : ∀ x, (f x).length = n) : ∀ l : List α, (l.flatMap f).length = l.length * n
  | [] => by simp
  | y :: l => by rw [List.flatMap_cons, List.length_append, hf, flat_length hf l, List.length_cons, Nat.succ_mul]; omega
theorem flat_mem {α β : Type} {f : α → List β} {n : Nat} (hf : ∀ x, (f x).length = n) (hn : 0 < n) {l : List α} {j : Nat} {v : β} (h : (l.flatMap f)[j]? = some v) : ∃ x, l[j / n]? = some x ∧ (f x)[j % n]? = some v := by
  have hlt : j < l.length * n := by rw [← flat_length hf l]; exact (List.getElem?_eq_some_iff.1 h).1
  have hi : j / n < l.length := Nat.div_lt_of_lt_mul (by rw [Nat.mul_comm]; exact hlt)
  refine ⟨l[j / n], List.getElem?_eq_getElem hi, ?_⟩
  rw [← flat_get hf (List.getElem?_eq_getElem hi) (Nat.mod_lt _ hn), Nat.div_add_mod']
  exact h
theorem cA_len (x : Attrd) : (cA x).length = 4 := rfl
theorem cI_len (x : IDd) : (cI x).length = 2 := rfl
theorem cellsA_len (l : List Attrd) : (cellsA l).length = l.length * 4 := flat_length cA_len l
theorem cellsI_len (l : List IDd) : (cellsI l).length = l.length * 2 := flat_length cI_len l
theorem cellsA_one (l : List Attrd) : ∀ v ∈ cellsA l, v.oneCell' = true := by
  intro v hv
  obtain ⟨x, _, hx⟩ := List.mem_flatMap.1 hv
  simp [cA] at hx
  rcases hx with rfl | rfl | rfl | rfl <;> rfl
theorem cellsI_one (l : List IDd) : ∀ v ∈ cellsI l, v.oneCell' = true := by
  intro v hv
  obtain ⟨x, _, hx⟩ := List.mem_flatMap.1 hv
  simp [cI] at hx
  rcases hx with rfl | rfl <;> rfl
/-- The cells of Attrs that lie there. -/
theorem AttrsIn.src {w : World} {b off : Nat} {l : List Attrd} (h : AttrsIn w b off l) : ∀ j v, (cellsA l)[j]? = some v → w.cell? ⟨b, off + j, none⟩ = some v := by
  intro j v hj
  obtain ⟨x, hx, hv⟩ := flat_mem cA_len (by omega) hj
  obtain ⟨h0, h1, h2, h3⟩ := h _ x hx
  have hr : j % 4 = 0 ∨ j % 4 = 1 ∨ j % 4 = 2 ∨ j % 4 = 3 := by omega
  have hj' : j = j / 4 * 4 + j % 4 := by omega
  rcases hr with e | e | e | e <;> rw [e] at hv <;> simp [cA] at hv <;> subst hv
  · rw [show off + j = off + j / 4 * 4 by omega]; exact h0
  · rw [show off + j = off + j / 4 * 4 + 1 by omega]; exact h1
  · rw [show off + j = off + j / 4 * 4 + 2 by omega]; exact h2
  · rw [show off + j = off + j / 4 * 4 + 3 by omega]; exact h3
theorem IDsIn.src {w : World} {b off : Nat} {l : List IDd} (h : IDsIn w b off l) : ∀ j v, (cellsI l)[j]? = some v → w.cell? ⟨b, off + j, none⟩ = some v := by
  intro j v hj
  obtain ⟨x, hx, hv⟩ := flat_mem cI_len (by omega) hj
  obtain ⟨h0, h1⟩ := h _ x hx
  have hr : j % 2 = 0 ∨ j % 2 = 1 := by omega
  rcases hr with e | e <;> rw [e] at hv <;> simp [cI] at hv <;> subst hv
  · rw [show off + j = off + j / 2 * 2 by omega]; exact h0
  · rw [show off + j = off + j / 2 * 2 + 1 by omega]; exact h1
theorem blk_cell {w : World} {b : Nat} {cs : List Value} {t : TypeId} {fz : Nat × Nat} (h : w.heap[b]? = some (.cells cs.toArray t fz)) (j : Nat) : w.cell? ⟨b, j, none⟩ = cs[j]? := by simp [World.cell?, h]
theorem block_cell' {w : World} {k : Nat} {c : Array Value} {t : TypeId} {fz : Nat × Nat} (h : w.heap[k]? = some (.cells c t fz)) (j : Nat) : w.cell? ⟨k, j, none⟩ = c[j]? := by simp [World.cell?, h]
theorem attrsIn_of {w : World} {b : Nat} {l : List Attrd} {rest : List Value} {t : TypeId} {fz : Nat × Nat} (h : w.heap[b]? = some (.cells (cellsA l ++ rest).toArray t fz)) : AttrsIn w b 0 l := by
  intro i x hx
  have hlt : i < l.length := (List.getElem?_eq_some_iff.1 hx).1
  have key : ∀ r, r < 4 → w.cell? ⟨b, i * 4 + r, none⟩ = (cA x)[r]? := by
    intro r hr
    rw [blk_cell h, List.getElem?_append_left (by rw [cellsA_len]; omega)]
    exact flat_get cA_len hx hr
  refine ⟨?_, ?_, ?_, ?_⟩
  · rw [show 0 + i * 4 = i * 4 + 0 by omega]; exact key 0 (by omega)
  · rw [show 0 + i * 4 + 1 = i * 4 + 1 by omega]; exact key 1 (by omega)
  · rw [show 0 + i * 4 + 2 = i * 4 + 2 by omega]; exact key 2 (by omega)
  · rw [show 0 + i * 4 + 3 = i * 4 + 3 by omega]; exact key 3 (by omega)
theorem idsIn_of {w : World} {b : Nat} {l : List IDd} {rest : List Value} {t : TypeId} {fz : Nat × Nat} (h : w.heap[b]? = some (.cells (cellsI l ++ rest).toArray t fz)) : IDsIn w b 0 l := by
  intro i x hx
  have hlt : i < l.length := (List.getElem?_eq_some_iff.1 hx).1
  have key : ∀ r, r < 2 → w.cell? ⟨b, i * 2 + r, none⟩ = (cI x)[r]? := by
    intro r hr
    rw [blk_cell h, List.getElem?_append_left (by rw [cellsI_len]; omega)]
    exact flat_get cI_len hx hr
  refine ⟨?_, ?_⟩
  · rw [show 0 + i * 2 = i * 2 + 0 by omega]; exact key 0 (by omega)
  · rw [show 0 + i * 2 + 1 = i * 2 + 1 by omega]; exact key 1 (by omega)
theorem ownsRow_keep {D : Nat → Prop} {w w' : World} {base : Nat} {e : TypeId} {size : Nat} {v : Value} {n : Nat} {xs : List Value} (h : w.ownsRow base e size v n xs) (k : Kept D w w') (hd : ∀ g c, w.heap[g]? = some (.cells c e (0, 0)) → ¬ D g) : w'.ownsRow base e size v n xs := by
  obtain ⟨h1, h2⟩ := h
  refine ⟨h1, ?_⟩
  rcases h2 with h2 | ⟨g, cap, cur, hv, hg, hh, r⟩
  · exact .inl h2
  · exact .inr ⟨g, cap, cur, hv, hg, k.heap hh (hd g cur hh), r⟩
theorem ownsRow_form {w : World} {base : Nat} {e : TypeId} {size : Nat} {v : Value} {n : Nat} {xs : List Value} (h : w.ownsRow base e size v n xs) : ∃ pa cap, v = .slice pa n cap := by
  rcases h.2 with ⟨rfl, rfl⟩ | ⟨g, cap, cur, rfl, _⟩
  · exact ⟨none, 0, rfl⟩
  · exact ⟨_, cap, rfl⟩
theorem ownsRow_ne {w : World} {base : Nat} {e : TypeId} {size : Nat} {v : Value} {n : Nat} {xs : List Value} (h : w.ownsRow base e size v n xs) {k : Nat} {c : Array Value} {t : TypeId} {fz : Nat × Nat} (hk : w.heap[k]? = some (.cells c t fz)) (ht : t ≠ e) : some k ≠ v.ownBlock := by
  intro hv
  rcases h.2 with ⟨rfl, _⟩ | ⟨g, cap, cur, rfl, _, hg, _⟩
  · simp [Value.ownBlock] at hv
  · simp [Value.ownBlock] at hv
    subst hv
    rw [hg] at hk
    cases hk; exact ht rfl
theorem grown_kept {w w' : World} {o : Obj} {row : Option Nat} (h : (w.alloc o).grownBy w' row) : Kept (fun k => some k = row) w w' :=
  ⟨h.os, h.tape, h.output, by have := h.size; simp at this; omega, fun k hk hn => (h.block k (by simp; omega) hn).trans (Below.heap_alloc w o k hk)⟩
theorem infoAttr : (Tryz.prog.info? 56).map (fun i => (i.zero, i.size, i.bytes)) = some (some (.agg #[.string ⟨#[]⟩, .bool false, .string ⟨#[]⟩, .int .i64 0]), 4, 48) := by kernel_rfl
theorem infoID : (Tryz.prog.info? 31).map (fun i => (i.zero, i.size, i.bytes)) = some (some (.agg #[.string ⟨#[]⟩, .string ⟨#[]⟩]), 2, 32) := by kernel_rfl
theorem infoRes : (Tryz.prog.info? 35).map (fun i => (i.zero, i.size, i.bytes)) = some (some (.agg #[.string ⟨#[]⟩, .string ⟨#[]⟩, .slice none 0 0, .slice none 0 0]), 4, 80) := by kernel_rfl
end Go.Proofs.YtfoelahabalbpaaGreatDoor

namespace Go.Proofs.YtfoelahabalbpaaGreatDoor
open Go.RowKit

set_option maxRecDepth 100000 in
set_option maxHeartbeats 800000 in
theorem everyRes (v : Value) (l : List Resd) (w : World) (hv : RessV w v l) :
    Calls Tryz.prog 44 #[v, .func (.func 81) #[] #[]] w fun e w' => e = .returned (.bool (l.all mayB)) ∧ Ext w w' := by
  obtain ⟨⟨a, cap, rfl, hcap, hmax, hs⟩, hfew⟩ := hv
  go_enter Tryz.func44, Tryz.ntmps44
  go_wp2
  go_loopw [9] (fun i wr => ∃ k : Nat, k ≤ l.length ∧ i = .int .i64 k ∧ Hid ((l.take k).all mayB = true) ∧ Ext w wr) (fun i _ => l.length - (intOf i).toNat)
  case atStart => exact ⟨0, Nat.zero_le _, rfl, by simp [Hid], Ext.refl _⟩
  case round =>
    obtain ⟨k, hk, rfl, hall, he⟩ := hrel
    by_cases hlt : k < l.length
    · rcases hs with rfl | ⟨b, off, rfl, hin⟩
      · simp at hlt
      obtain ⟨x, hx⟩ := some_of_lt hlt
      obtain ⟨g0, g1, c2, c3, g2, g3, hres⟩ := (hin.ext he) k x hx
      have hres0 := hide hres
      obtain ⟨a2, p2, rfl⟩ := hres.attrs.form
      obtain ⟨a3, p3, rfl⟩ := hres.after.form
      clear hres
      have Hs := hide (all_succ (p := mayB) hx hall.out)
      have Hf := hide (all_no (p := mayB) hx)
      replace hin := hide hin
      replace he := hide he
      replace hx := hide hx
      go_wp2_with fail
      refine (mayBe _ _ x _ (hres0.out.ext ((Ext.refl _).alloc _))).mono ?_
      rintro e w1 ⟨rfl, he1⟩
      replace he1 := hide he1
      cases hb : mayB x
      · go_wp2_with fail
        go_ret
        exact ⟨retB (unhide Hf hb).symm, (he.out.alloc _).trans he1.out⟩
      · go_wp2_with fail
        go_roundw
        case rel => exact ⟨k + 1, by omega, by go_num, by rw [unhide Hs]; exact hb, (he.out.alloc _).trans he1.out⟩
        case measure => simp [intOf]; omega
    · have Hl := hide (show l.take k = l from List.take_of_length_le (by omega))
      replace he := hide he
      replace hs := hide hs
      go_wp2
      go_ret
      exact ⟨retB (by rw [unhide Hl] at hall; exact hall.out.symm), he.out⟩

set_option maxRecDepth 100000 in
set_option maxHeartbeats 800000 in
theorem compareRes (i j : IDd) (a2 a3 b2 b3 : Option Addr) (n2 n3 m2 m3 p2 p3 q2 q3 : Nat) (w : World) :
    Calls Tryz.prog 83 #[.agg #[.string i.kind, .string i.name, .slice a2 n2 p2, .slice a3 n3 p3], .agg #[.string j.kind, .string j.name, .slice b2 m2 q2, .slice b3 m3 q3]] w fun e w' => e = .returned (.int .i64 (cmpI i j)) ∧ Ext w w' := by
  go_enter Tryz.func83, Tryz.ntmps83
  go_wp2_with fail
  refine (compareIDs i j _).mono ?_
  rintro e w1 ⟨rfl, he1⟩
  replace he1 := hide he1
  go_wp2_with fail
  go_ret
  exact ⟨rfl, (((Ext.refl _).alloc _).alloc _).trans he1.out⟩

set_option maxRecDepth 100000 in
set_option maxHeartbeats 3200000 in
theorem risesRes (v : Value) (l : List Resd) (w : World) (hv : RessV w v l) :
    Calls Tryz.prog 82 #[v, .func (.func 83) #[] #[]] w fun e w' => e = .returned (.bool (risesB lessR l)) ∧ Ext w w' := by
  obtain ⟨⟨a, cap, rfl, hcap, hmax, hs⟩, hfew⟩ := hv
  go_enter Tryz.func82, Tryz.ntmps82
  go_wp2
  go_loopw [5] (fun i wr => ∃ m : Nat, 1 ≤ m ∧ (m ≤ l.length ∨ m = 1) ∧ i = .int .i64 m ∧ Hid (risesB lessR (l.take m) = true) ∧ Ext w wr) (fun i _ => l.length - (intOf i).toNat)
  case atStart => exact ⟨1, Nat.le_refl _, .inr rfl, rfl, rises_one _, Ext.refl _⟩
  case round =>
    obtain ⟨m, hm1, hk, rfl, hall, he⟩ := hrel
    obtain ⟨k, hkm⟩ : ∃ k, m = k + 1 := ⟨m - 1, by omega⟩
    by_cases hlt : m < l.length
    · rcases hs with rfl | ⟨b, off, rfl, hin⟩
      · simp at hlt
      obtain ⟨x, hx⟩ := some_of_lt (show k < l.length by omega)
      obtain ⟨y, hy⟩ := some_of_lt hlt
      obtain ⟨g0, g1, c2, c3, g2, g3, hres⟩ := (hin.ext he) k x hx
      obtain ⟨k0, k1, d2, d3, k2, k3, hres'⟩ := (hin.ext he) m y hy
      obtain ⟨a2, p2, rfl⟩ := hres.attrs.form
      obtain ⟨a3, p3, rfl⟩ := hres.after.form
      obtain ⟨b2, q2, rfl⟩ := hres'.attrs.form
      obtain ⟨b3, q3, rfl⟩ := hres'.after.form
      clear hres hres'
      have Hs : Hid (risesB lessR (l.take (m + 1)) = (risesB lessR (l.take m) && lessR x y)) := by subst hkm; exact rises_take (lt := lessR) hx hy
      have Hf : Hid (lessR x y = false → risesB lessR l = false) := by subst hkm; exact rises_no (lt := lessR) hx hy
      have i1 : (0 : Int) ≤ (k : Int) := by omega
      have i2 : (m : Int) < (l.length : Int) := by omega
      have i3 : (k : Int) < (l.length : Int) := by omega
      have i4 : (0 : Int) ≤ (m : Int) := by omega
      have e1 : IntKind.i64.wrap ((m : Int) - 1) = (k : Int) := by rw [IntKind.wrap_i64]; omega
      replace hin := hide hin
      replace he := hide he
      replace hx := hide hx
      replace hy := hide hy
      replace hk := hide hk
      replace hkm := hide hkm
      generalize x.attrs.length = n2 at *
      generalize x.after.length = n3 at *
      generalize y.attrs.length = m2 at *
      generalize y.after.length = m3 at *
      go_wp2_with fail
      go_region_held3 (fun w' => w'.cell? ⟨b, off + k * 4, none⟩ = some (.string x.id.kind) ∧ w'.cell? ⟨b, off + k * 4 + 1, none⟩ = some (.string x.id.name) ∧ w'.cell? ⟨b, off + k * 4 + 2, none⟩ = some (.slice a2 n2 p2) ∧ w'.cell? ⟨b, off + k * 4 + 3, none⟩ = some (.slice a3 n3 p3) ∧ w'.cell? ⟨b, off + m * 4, none⟩ = some (.string y.id.kind) ∧ w'.cell? ⟨b, off + m * 4 + 1, none⟩ = some (.string y.id.name) ∧ w'.cell? ⟨b, off + m * 4 + 2, none⟩ = some (.slice b2 m2 q2) ∧ w'.cell? ⟨b, off + m * 4 + 3, none⟩ = some (.slice b3 m3 q3)) (go_keep)
        ((go_at_call 83; refine (compareRes x.id y.id _ _ _ _ _ _ _ _ _ _ _ _ _).mono ?_; rintro e w1 ⟨rfl, he1⟩; have q0 := he1.cells (p := ⟨b, off + k * 4, none⟩) (v := .string x.id.kind) (by simpa using g0); have q1 := he1.cells (p := ⟨b, off + k * 4 + 1, none⟩) (v := .string x.id.name) (by simpa using g1); have q4 := he1.cells (p := ⟨b, off + k * 4 + 2, none⟩) (v := .slice a2 n2 p2) (by simpa using g2); have q5 := he1.cells (p := ⟨b, off + k * 4 + 3, none⟩) (v := .slice a3 n3 p3) (by simpa using g3); have r0 := he1.cells (p := ⟨b, off + m * 4, none⟩) (v := .string y.id.kind) (by simpa using k0); have r1 := he1.cells (p := ⟨b, off + m * 4 + 1, none⟩) (v := .string y.id.name) (by simpa using k1); have r4 := he1.cells (p := ⟨b, off + m * 4 + 2, none⟩) (v := .slice b2 m2 q2) (by simpa using k2); have r5 := he1.cells (p := ⟨b, off + m * 4 + 3, none⟩) (v := .slice b3 m3 q3) (by simpa using k3); replace he1 := hide he1))
      by_cases hb : 0 ≤ cmpI x.id y.id
      · have Hb := hide (show lessR x y = false by simp [lessR, lessI]; omega)
        go_wp2
        go_ret
        exact ⟨retB (unhide Hf (unhide Hb)).symm, he.out.drew.trans he1.out⟩
      · have hd : decide (0 ≤ cmpI x.id y.id) = false := by simpa using hb
        have Hb := hide (show lessR x y = true by simp [lessR, lessI]; omega)
        go_wp2
        go_roundw
        case rel => exact ⟨m + 1, by omega, .inl (by omega), by go_num, by rw [unhide Hs]; simp [Hid, hall.out, unhide Hb], he.out.drew.trans he1.out⟩
        case measure => simp [intOf]; omega
    · have Hl : Hid (l.take m = l) := List.take_of_length_le (by omega)
      replace he := hide he
      replace hs := hide hs
      replace hkm := hide hkm
      go_wp2
      go_ret
      exact ⟨retB (by rw [unhide Hl] at hall; exact hall.out.symm), he.out⟩

set_option maxRecDepth 100000 in
set_option maxHeartbeats 800000 in
theorem allMayBe (v : Value) (l : List Resd) (w : World) (hv : RessV w v l) :
    Calls Tryz.prog 39 #[v] w fun e w' => e = .returned (.bool (mayAllB l)) ∧ Ext w w' := by
  have hv0 := hide hv
  obtain ⟨⟨a, cap, rfl, hcap, hmax, hs⟩, hfew⟩ := hv
  clear hs
  by_cases h12 : 12 < l.length
  · have H := hide (show mayAllB l = false by simp [mayAllB]; omega)
    have h' : decide ((l.length : Int) ≤ 12) = false := by simp; omega
    go_enter Tryz.func39, Tryz.ntmps39
    go_wp2_with fail
    go_ret
    exact ⟨retB (by rw [unhide H]), Ext.refl _⟩
  have h' : (l.length : Int) ≤ 12 := by omega
  have H := hide (show mayAllB l = (l.all mayB && risesB lessR l) by simp only [mayAllB]; rw [decide_eq_true (show l.length ≤ 12 by omega)]; simp)
  go_enter Tryz.func39, Tryz.ntmps39
  go_wp2_with fail
  refine (everyRes _ l _ hv0.out).mono ?_
  rintro e w1 ⟨rfl, he1⟩
  replace he1 := hide he1
  cases h1 : l.all mayB
  · go_wp2_with fail
    go_ret
    exact ⟨retB (by rw [unhide H, h1]; rfl), he1.out⟩
  go_wp2_with fail
  refine (risesRes _ l _ (hv0.out.ext he1.out)).mono ?_
  rintro e w2 ⟨rfl, he2⟩
  replace he2 := hide he2
  go_wp2_with fail
  go_ret
  exact ⟨retB (by rw [unhide H, h1]; simp), he1.out.trans he2.out⟩
end Go.Proofs.YtfoelahabalbpaaGreatDoor

namespace Go.Proofs.YtfoelahabalbpaaGreatDoor
open Go.RowKit

end Go.Proofs.YtfoelahabalbpaaGreatDoor

namespace Go.Proofs.YtfoelahabalbpaaGreatDoor
open Go.RowKit

end Go.Proofs.YtfoelahabalbpaaGreatDoor

namespace Go.Proofs.YtfoelahabalbpaaGreatDoor
open Go.RowKit

end Go.Proofs.YtfoelahabalbpaaGreatDoor

namespace Go.Proofs.YtfoelahabalbpaaGreatDoor
open Go.RowKit

theorem ordI : OrdK cmpI := ⟨cmpI_zero, cmpI_flip, cmpI_trans⟩
theorem ordS : OrdK cmpS := ⟨cmpS_zero, cmpS_flip, cmpS_trans⟩
end Go.Proofs.YtfoelahabalbpaaGreatDoor

namespace Go.Proofs.YtfoelahabalbpaaGreatDoor
open Go.RowKit

set_option maxRecDepth 100000 in
set_option maxHeartbeats 1600000 in
theorem sameRes (c2 c3 d2 d3 : Value) (x : Resd) (w : World) (hu : ResV w c2 c3 x) (hv : ResV w d2 d3 x) :
    Calls Tryz.prog 11 #[.agg #[.string x.id.kind, .string x.id.name, c2, c3], .agg #[.string x.id.kind, .string x.id.name, d2, d3]] w fun e w' => e = .returned (.bool true) ∧ Ext w w' := by
  obtain ⟨a2, p2, rfl⟩ := hu.attrs.form
  obtain ⟨a3, p3, rfl⟩ := hu.after.form
  obtain ⟨b2, q2, rfl⟩ := hv.attrs.form
  obtain ⟨b3, q3, rfl⟩ := hv.after.form
  replace hu := hide hu; replace hv := hide hv
  go_enter Tryz.func11, Tryz.ntmps11
  go_wp2_with fail
  have x0 : Ext w ((w.alloc (.cells #[.string x.id.kind, .string x.id.name, .slice a2 x.attrs.length p2, .slice a3 x.after.length p3] 35)).alloc (.cells #[.string x.id.kind, .string x.id.name, .slice b2 x.attrs.length q2, .slice b3 x.after.length q3] 35)) := ((Ext.refl _).alloc _).alloc _
  replace x0 := hide x0
  refine (sameAttrs _ _ x.attrs _ (hu.out.attrs.ext x0.out) (hv.out.attrs.ext x0.out)).mono ?_
  rintro e w1 ⟨rfl, he1⟩
  have x1 := hide (x0.out.trans he1)
  have c0 := he1.cells (p := ⟨w.heap.size, 0, none⟩) (v := .string x.id.kind) (by simp [go_sem, World.cell?_alloc_past])
  have c1 := he1.cells (p := ⟨w.heap.size, 1, none⟩) (v := .string x.id.name) (by simp [go_sem, World.cell?_alloc_past])
  have c3 := he1.cells (p := ⟨w.heap.size, 3, none⟩) (v := .slice a3 x.after.length p3) (by simp [go_sem, World.cell?_alloc_past])
  have d0 := he1.cells (p := ⟨w.heap.size + 1, 0, none⟩) (v := .string x.id.kind) (by simp [go_sem])
  have d1 := he1.cells (p := ⟨w.heap.size + 1, 1, none⟩) (v := .string x.id.name) (by simp [go_sem])
  have d3 := he1.cells (p := ⟨w.heap.size + 1, 3, none⟩) (v := .slice b3 x.after.length q3) (by simp [go_sem])
  clear he1
  have C0 := hide c0; have C1 := hide c1; have D0 := hide d0; have D1 := hide d1
  go_wp2_with fail
  refine (sameIds _ _ x.after _ (hu.out.after.ext x1.out) (hv.out.after.ext x1.out)).mono ?_
  rintro e w2 ⟨rfl, he2⟩
  have x2 := hide (x1.out.trans he2)
  clear c0 c1 c3 d0 d1 d3
  have c0 := he2.cells C0.out; have c1 := he2.cells C1.out; have d0 := he2.cells D0.out; have d1 := he2.cells D1.out
  clear he2
  go_wp2
  go_ret
  exact ⟨rfl, x2.out⟩
end Go.Proofs.YtfoelahabalbpaaGreatDoor

namespace Go.Proofs.YtfoelahabalbpaaGreatDoor
open Go.RowKit

set_option maxRecDepth 100000 in
set_option maxHeartbeats 3200000 in
theorem sameRess (u v : Value) (l : List Resd) (w : World) (hu : RessV w u l) (hv : RessV w v l) :
    Calls Tryz.prog 12 #[u, v] w fun e w' => e = .returned (.bool true) ∧ Ext w w' := by
  obtain ⟨⟨a, cap, rfl, hcap, hmax, hs⟩, hfew⟩ := hu
  obtain ⟨⟨a', cap', rfl, hcap', hmax', hs'⟩, hfew'⟩ := hv
  go_enter Tryz.func12, Tryz.ntmps12
  go_wp2
  go_loopw [5] (fun i wr => ∃ k : Nat, k ≤ l.length ∧ i = .int .i64 k ∧ Ext w wr) (fun i _ => l.length - (intOf i).toNat)
  case atStart => exact ⟨0, Nat.zero_le _, rfl, Ext.refl _⟩
  case round =>
    obtain ⟨k, hk, rfl, he⟩ := hrel
    by_cases hlt : k < l.length
    · rcases hs with rfl | ⟨b, off, rfl, hin⟩
      · simp at hlt
      rcases hs' with rfl | ⟨b', off', rfl, hin'⟩
      · simp at hlt
      obtain ⟨x, hx⟩ := some_of_lt hlt
      obtain ⟨g0, g1, c2, c3, g2, g3, hres⟩ := (hin.ext he) k x hx
      obtain ⟨k0, k1, d2, d3, k2, k3, hres'⟩ := (hin'.ext he) k x hx
      have hr := hide hres; have hr' := hide hres'
      obtain ⟨a2, p2, rfl⟩ := hres.attrs.form
      obtain ⟨a3, p3, rfl⟩ := hres.after.form
      obtain ⟨b2, q2, rfl⟩ := hres'.attrs.form
      obtain ⟨b3, q3, rfl⟩ := hres'.after.form
      clear hres hres'
      have i2 : (k : Int) < (l.length : Int) := by omega
      have i4 : (0 : Int) ≤ (k : Int) := by omega
      replace hin := hide hin; replace hin' := hide hin'
      replace he := hide he
      replace hx := hide hx
      go_wp2_with fail
      go_region_held3 (fun w' => w'.cell? ⟨b, off + k * 4, none⟩ = some (.string x.id.kind) ∧ w'.cell? ⟨b, off + k * 4 + 1, none⟩ = some (.string x.id.name) ∧ w'.cell? ⟨b, off + k * 4 + 2, none⟩ = some (.slice a2 x.attrs.length p2) ∧ w'.cell? ⟨b, off + k * 4 + 3, none⟩ = some (.slice a3 x.after.length p3) ∧ w'.cell? ⟨b', off' + k * 4, none⟩ = some (.string x.id.kind) ∧ w'.cell? ⟨b', off' + k * 4 + 1, none⟩ = some (.string x.id.name) ∧ w'.cell? ⟨b', off' + k * 4 + 2, none⟩ = some (.slice b2 x.attrs.length q2) ∧ w'.cell? ⟨b', off' + k * 4 + 3, none⟩ = some (.slice b3 x.after.length q3)) (go_keep)
        ((go_at_call 11; refine (sameRes _ _ _ _ x _ (hr.out.ext (Ext.refl _).drew) (hr'.out.ext (Ext.refl _).drew)).mono ?_; rintro e w1 ⟨rfl, he1⟩; have q0 := he1.cells (p := ⟨b, off + k * 4, none⟩) (v := .string x.id.kind) (by simpa using g0); have q1 := he1.cells (p := ⟨b, off + k * 4 + 1, none⟩) (v := .string x.id.name) (by simpa using g1); have q4 := he1.cells (p := ⟨b, off + k * 4 + 2, none⟩) (v := .slice a2 x.attrs.length p2) (by simpa using g2); have q5 := he1.cells (p := ⟨b, off + k * 4 + 3, none⟩) (v := .slice a3 x.after.length p3) (by simpa using g3); have r0 := he1.cells (p := ⟨b', off' + k * 4, none⟩) (v := .string x.id.kind) (by simpa using k0); have r1 := he1.cells (p := ⟨b', off' + k * 4 + 1, none⟩) (v := .string x.id.name) (by simpa using k1); have r4 := he1.cells (p := ⟨b', off' + k * 4 + 2, none⟩) (v := .slice b2 x.attrs.length q2) (by simpa using k2); have r5 := he1.cells (p := ⟨b', off' + k * 4 + 3, none⟩) (v := .slice b3 x.after.length q3) (by simpa using k3); replace he1 := hide he1))
      go_wp2
      go_roundw
      case rel => exact ⟨k + 1, by omega, by go_num, he.out.drew.trans he1.out⟩
      case measure => simp [intOf]; omega
    · replace he := hide he
      replace hs := hide hs; replace hs' := hide hs'
      go_wp2
      go_ret
      exact ⟨rfl, he.out⟩
end Go.Proofs.YtfoelahabalbpaaGreatDoor
