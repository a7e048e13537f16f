/-
  The order of IDs and the marks: what each function answers.
-/
import Derived.Test.YtjebmabffocobaaDoorWords
import Derived.Deep.QuietTactic
import Derived.BigQuiet
import Derived.Deep.RegionHeld3
import Derived.Test.YtjebmabffocobaaDoorShelf
namespace Go.Proofs.YtjebmabffocobaaDoor
open Go.RowKit

set_option maxRecDepth 100000 in
set_option maxHeartbeats 800000 in
theorem refLess (a b : IDd) (w : World) :
    Calls Tryd.prog 26 #[.agg #[.string a.kind, .string a.name], .agg #[.string b.kind, .string b.name]] w fun e w' => e = .returned (.bool (lessI a b)) ∧ Ext w w' := by
  have H := hide (lessI_eq a b)
  go_enter Tryd.func26, Tryd.ntmps26
  go_wp2
  all_goals go_ret
  all_goals refine ⟨retB ?_, ((Ext.refl _).alloc _).alloc _⟩
  all_goals rw [unhide H]
  all_goals simp_all

def orI (x y : Int) : Int := if x = 0 then y else x
set_option maxRecDepth 100000 in
set_option maxHeartbeats 800000 in
theorem cmpOr (b cap : Nat) (x y : Int) (w : World) (h0 : w.cell? ⟨b, 0, none⟩ = some (.int .i64 x)) (h1 : w.cell? ⟨b, 1, none⟩ = some (.int .i64 y)) :
    Calls Tryd.prog 44 #[.slice (some ⟨b, 0, none⟩) 2 cap] w fun e w' => e = .returned (.int .i64 (orI x y)) ∧ w' = w := by
  go_enter Tryd.func44, Tryd.ntmps44
  go_wp2
  go_loop [8] (fun i => ∃ k : Nat, k ≤ 2 ∧ i = .int .i64 k ∧ Hid (1 ≤ k → x = 0) ∧ Hid (2 ≤ k → y = 0)) (fun i => 2 - (intOf i).toNat)
  case atStart => exact ⟨0, by omega, rfl, by simp [Hid], by simp [Hid]⟩
  case round =>
    obtain ⟨k, hk, rfl, k1, k2⟩ := hrel
    match k, hk with
    | 0, _ =>
      by_cases hx : x = 0
      · subst hx
        go_wp2
        go_round
        case rel => exact ⟨1, by omega, rfl, by simp [Hid], by simp [Hid]⟩
        case measure => simp [intOf]
      · have hb : (x != 0) = true := by simpa using hx
        go_wp2
        go_ret
        exact ⟨retI (by simp [orI, hx]), rfl⟩
    | 1, _ =>
      obtain rfl := k1.out (by omega)
      by_cases hy : y = 0
      · subst hy
        go_wp2
        go_round
        case rel => exact ⟨2, by omega, rfl, by simp [Hid], by simp [Hid]⟩
        case measure => simp [intOf]
      · have hb : (y != 0) = true := by simpa using hy
        go_wp2
        go_ret
        exact ⟨retI (by simp [orI]), rfl⟩
    | 2, _ =>
      obtain rfl := k1.out (by omega)
      obtain rfl := k2.out (by omega)
      go_wp2
      go_ret
      exact ⟨retI (by simp [orI]), rfl⟩

set_option maxRecDepth 100000 in
set_option maxHeartbeats 800000 in
theorem compareIDs (a b : IDd) (w : World) :
    Calls Tryd.prog 35 #[.agg #[.string a.kind, .string a.name], .agg #[.string b.kind, .string b.name]] w fun e w' => e = .returned (.int .i64 (cmpI a b)) ∧ Ext w w' := by
  go_enter Tryd.func35, Tryd.ntmps35
  go_wp2
  go_region_held3 (fun w' => w'.cell? ⟨w.heap.size, 0, none⟩ = some (.string a.kind) ∧ w'.cell? ⟨w.heap.size, 1, none⟩ = some (.string a.name) ∧ w'.cell? ⟨w.heap.size + 1, 0, none⟩ = some (.string b.kind) ∧ w'.cell? ⟨w.heap.size + 1, 1, none⟩ = some (.string b.name)) (simp [go_sem, World.cell?_alloc_past])
    (first
      | (go_at_call 43; refine (Tryd.strings_Compare _ _ _).mono ?_; rintro e w' ⟨rfl, rfl⟩)
      | (go_at_call 44; refine (cmpOr _ _ (cmpS a.kind b.kind) (cmpS a.name b.name) _ ?_ ?_).mono ?_; (simp [go_sem, cmpS]); (simp [go_sem, cmpS]); rintro e w' ⟨rfl, rfl⟩))
  all_goals go_wp2
  all_goals go_ret
  all_goals exact ⟨rfl, (((Ext.refl _).alloc _).alloc _).drew.alloc _⟩
end Go.Proofs.YtjebmabffocobaaDoor
