/-
  The order of IDs and the marks: what each function answers.
-/
/-
  Lists of IDs and Attrs: what the functions that look through them answer.
-/
import Derived.Test.YtokogjhcgdhapaaWords
import Derived.Deep.QuietTactic
import Derived.BigQuiet
import Derived.Deep.RegionHeld3
import Derived.Test.YtokogjhcgdhapaaShelf
import Derived.Test.YtokogjhcgdhapaaMem
namespace Go.Proofs.Ytokogjhcgdhapaa
open Go.RowKit

set_option maxRecDepth 100000 in
set_option maxHeartbeats 800000 in
theorem refLess (a b : IDd) (w : World) :
    Calls Try.prog 49 #[.agg #[.string a.kind, .string a.name], .agg #[.string b.kind, .string b.name]] w fun e w' => e = .returned (.bool (lessI a b)) ∧ Ext w w' := by
  have H := hide (lessI_eq a b)
  go_enter Try.func49, Try.ntmps49
  go_wp2
  all_goals go_ret
  all_goals refine ⟨retB ?_, ((Ext.refl _).alloc _).alloc _⟩
  all_goals rw [unhide H]
  all_goals simp_all

def orI (x y : Int) : Int := if x = 0 then y else x
set_option maxRecDepth 100000 in
set_option maxHeartbeats 800000 in
theorem cmpOr (b cap : Nat) (x y : Int) (w : World) (h0 : w.cell? ⟨b, 0, none⟩ = some (.int .i64 x)) (h1 : w.cell? ⟨b, 1, none⟩ = some (.int .i64 y)) :
    Calls Try.prog 73 #[.slice (some ⟨b, 0, none⟩) 2 cap] w fun e w' => e = .returned (.int .i64 (orI x y)) ∧ w' = w := by
  go_enter Try.func73, Try.ntmps73
  go_wp2
  go_loop [8] (fun i => ∃ k : Nat, k ≤ 2 ∧ i = .int .i64 k ∧ Hid (1 ≤ k → x = 0) ∧ Hid (2 ≤ k → y = 0)) (fun i => 2 - (intOf i).toNat)
  case atStart => exact ⟨0, by omega, rfl, by simp [Hid], by simp [Hid]⟩
  case round =>
    obtain ⟨k, hk, rfl, k1, k2⟩ := hrel
    match k, hk with
    | 0, _ =>
      by_cases hx : x = 0
      · subst hx
        go_wp2
        go_round
        case rel => exact ⟨1, by omega, rfl, by simp [Hid], by simp [Hid]⟩
        case measure => simp [intOf]
      · have hb : (x != 0) = true := by simpa using hx
        go_wp2
        go_ret
        exact ⟨retI (by simp [orI, hx]), rfl⟩
    | 1, _ =>
      obtain rfl := k1.out (by omega)
      by_cases hy : y = 0
      · subst hy
        go_wp2
        go_round
        case rel => exact ⟨2, by omega, rfl, by simp [Hid], by simp [Hid]⟩
        case measure => simp [intOf]
      · have hb : (y != 0) = true := by simpa using hy
        go_wp2
        go_ret
        exact ⟨retI (by simp [orI]), rfl⟩
    | 2, _ =>
      obtain rfl := k1.out (by omega)
      obtain rfl := k2.out (by omega)
      go_wp2
      go_ret
      exact ⟨retI (by simp [orI]), rfl⟩

set_option maxRecDepth 100000 in
set_option maxHeartbeats 800000 in
theorem compareIDs (a b : IDd) (w : World) :
    Calls Try.prog 62 #[.agg #[.string a.kind, .string a.name], .agg #[.string b.kind, .string b.name]] w fun e w' => e = .returned (.int .i64 (cmpI a b)) ∧ Ext w w' := by
  go_enter Try.func62, Try.ntmps62
  go_wp2
  go_region_held3 (fun w' => w'.cell? ⟨w.heap.size, 0, none⟩ = some (.string a.kind) ∧ w'.cell? ⟨w.heap.size, 1, none⟩ = some (.string a.name) ∧ w'.cell? ⟨w.heap.size + 1, 0, none⟩ = some (.string b.kind) ∧ w'.cell? ⟨w.heap.size + 1, 1, none⟩ = some (.string b.name)) (simp [go_sem, World.cell?_alloc_past])
    (first
      | (go_at_call 72; refine (Try.strings_Compare _ _ _).mono ?_; rintro e w' ⟨rfl, rfl⟩)
      | (go_at_call 73; refine (cmpOr _ _ (cmpS a.kind b.kind) (cmpS a.name b.name) _ ?_ ?_).mono ?_; (simp [go_sem, cmpS]); (simp [go_sem, cmpS]); rintro e w' ⟨rfl, rfl⟩))
  all_goals go_wp2
  all_goals go_ret
  all_goals exact ⟨rfl, (((Ext.refl _).alloc _).alloc _).drew.alloc _⟩
end Go.Proofs.Ytokogjhcgdhapaa

namespace Go.Proofs.Ytokogjhcgdhapaa
open Go.RowKit

set_option maxRecDepth 100000 in
set_option maxHeartbeats 800000 in
theorem isID (x : IDd) (w : World) (hok : okI x) :
    Calls Try.prog 55 #[.agg #[.string x.kind, .string x.name]] w fun e w' => e = .returned (.bool (idB x)) ∧ Ext w w' := by
  obtain ⟨h1, h2⟩ := hok
  cases hk : wordB x.kind.data.toList
  · have H := hide (show idB x = false by simp [idB, hk])
    go_enter Try.func55, Try.ntmps55
    go_wp2_with fail
    refine (isWord _ _ (by omega)).mono ?_
    rintro e w1 ⟨rfl, he⟩
    replace he := hide he
    go_wp2_with fail
    go_ret
    exact ⟨retB (by rw [unhide H]), ((Ext.refl _).alloc _).trans he.out⟩
  · have H := hide (show idB x = wordB x.name.data.toList by simp [idB, hk])
    go_enter Try.func55, Try.ntmps55
    go_wp2_with fail
    refine (isWord _ _ (by omega)).mono ?_
    rintro e w1 ⟨rfl, he⟩
    have c1 : w1.cell? ⟨w.heap.size, 1, none⟩ = some (.string x.name) := he.cells (by simp [go_sem])
    replace he := hide he
    go_wp2_with fail
    refine (isWord _ _ (by omega)).mono ?_
    rintro e w2 ⟨rfl, he2⟩
    replace he2 := hide he2
    go_wp2_with fail
    go_ret
    exact ⟨retB (by rw [unhide H]), (((Ext.refl _).alloc _).trans he.out).trans he2.out⟩

set_option maxRecDepth 100000 in
set_option maxHeartbeats 800000 in
theorem everyID (v : Value) (l : List IDd) (w : World) (hv : IDsV w v l) :
    Calls Try.prog 60 #[v, .func (.func 55) #[] #[]] w fun e w' => e = .returned (.bool (l.all idB)) ∧ Ext w w' := by
  obtain ⟨⟨a, cap, rfl, hcap, hmax, hs⟩, hfew, hok⟩ := hv
  go_enter Try.func60, Try.ntmps60
  go_wp2
  go_loopw [9] (fun i wr => ∃ k : Nat, k ≤ l.length ∧ i = .int .i64 k ∧ Hid ((l.take k).all idB = true) ∧ Ext w wr) (fun i _ => l.length - (intOf i).toNat)
  case atStart => exact ⟨0, Nat.zero_le _, rfl, by simp [Hid], Ext.refl _⟩
  case round =>
    obtain ⟨k, hk, rfl, hall, he⟩ := hrel
    by_cases hlt : k < l.length
    · rcases hs with rfl | ⟨b, off, rfl, hin⟩
      · simp at hlt
      obtain ⟨x, hx⟩ := some_of_lt hlt
      obtain ⟨g0, g1⟩ := (hin.ext he) k x hx
      have hokx := hide (hok x (List.mem_of_getElem? hx))
      have Hs := hide (all_succ (p := idB) hx hall.out)
      have Hf := hide (all_no (p := idB) hx)
      replace hin := hide hin; replace hok := hide hok
      replace he := hide he
      replace hx := hide hx
      go_wp2_with fail
      refine (isID x _ hokx.out).mono ?_
      rintro e w1 ⟨rfl, he1⟩
      replace he1 := hide he1
      cases hb : idB x
      · go_wp2_with fail
        go_ret
        exact ⟨retB (unhide Hf hb).symm, (he.out.alloc _).trans he1.out⟩
      · go_wp2_with fail
        go_roundw
        case rel => exact ⟨k + 1, by omega, by go_num, by rw [unhide Hs]; exact hb, (he.out.alloc _).trans he1.out⟩
        case measure => simp [intOf]; omega
    · have Hl := hide (show l.take k = l from List.take_of_length_le (by omega))
      replace he := hide he
      replace hs := hide hs; replace hok := hide hok
      go_wp2
      go_ret
      exact ⟨retB (by rw [unhide Hl] at hall; exact hall.out.symm), he.out⟩
end Go.Proofs.Ytokogjhcgdhapaa
