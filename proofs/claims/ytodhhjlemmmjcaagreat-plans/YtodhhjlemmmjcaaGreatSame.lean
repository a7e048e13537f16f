/-
  Two lists that are the same: what the functions that compare them answer.
-/
import Derived.Test.YtodhhjlemmmjcaaGreatJ2
import Derived.Deep.QuietTactic
import Derived.BigQuiet
import Derived.Deep.RegionHeld3
namespace Go.Proofs.YtodhhjlemmmjcaaGreat
open Go.RowKit

set_option maxRecDepth 100000 in
set_option maxHeartbeats 800000 in
theorem sameIds (u v : Value) (l : List IDd) (w : World) (hu : IDsV w u l) (hv : IDsV w v l) :
    Calls Tryz.prog 28 #[u, v] w fun e w' => e = .returned (.bool true) ∧ Ext w w' := by
  obtain ⟨⟨a, cap, rfl, hcap, hmax, hs⟩, hfew, hok⟩ := hu
  obtain ⟨⟨a', cap', rfl, hcap', hmax', hs'⟩, hfew', hok'⟩ := hv
  clear hok hok'
  go_enter Tryz.func28, Tryz.ntmps28
  go_wp2
  go_loopw [5] (fun i wr => ∃ k : Nat, k ≤ l.length ∧ i = .int .i64 k ∧ Ext w wr) (fun i _ => l.length - (intOf i).toNat)
  case atStart => exact ⟨0, Nat.zero_le _, rfl, Ext.refl _⟩
  case round =>
    obtain ⟨k, hk, rfl, he⟩ := hrel
    by_cases hlt : k < l.length
    · rcases hs with rfl | ⟨b, off, rfl, hin⟩
      · simp at hlt
      rcases hs' with rfl | ⟨b', off', rfl, hin'⟩
      · simp at hlt
      obtain ⟨x, hx⟩ := some_of_lt hlt
      obtain ⟨g0, g1⟩ := (hin.ext he) k x hx
      obtain ⟨k0, k1⟩ := (hin'.ext he) k x hx
      have i2 : (k : Int) < (l.length : Int) := by omega
      have i4 : (0 : Int) ≤ (k : Int) := by omega
      replace hin := hide hin; replace hin' := hide hin'
      replace he := hide he
      replace hx := hide hx
      go_wp2_with fail
      go_quiet (fail)
      go_wp2
      go_roundw
      case rel => exact ⟨k + 1, by omega, by go_num, he.out.drewN _⟩
      case measure => simp [intOf]; omega
    · replace he := hide he
      replace hs := hide hs; replace hs' := hide hs'
      go_wp2
      go_ret
      exact ⟨rfl, he.out⟩

set_option maxRecDepth 100000 in
set_option maxHeartbeats 800000 in
theorem sameAttrs (u v : Value) (l : List Attrd) (w : World) (hu : AttrsV w u l) (hv : AttrsV w v l) :
    Calls Tryz.prog 27 #[u, v] w fun e w' => e = .returned (.bool true) ∧ Ext w w' := by
  obtain ⟨⟨a, cap, rfl, hcap, hmax, hs⟩, hfew, hok⟩ := hu
  obtain ⟨⟨a', cap', rfl, hcap', hmax', hs'⟩, hfew', hok'⟩ := hv
  clear hok hok'
  go_enter Tryz.func27, Tryz.ntmps27
  go_wp2
  go_loopw [5] (fun i wr => ∃ k : Nat, k ≤ l.length ∧ i = .int .i64 k ∧ Ext w wr) (fun i _ => l.length - (intOf i).toNat)
  case atStart => exact ⟨0, Nat.zero_le _, rfl, Ext.refl _⟩
  case round =>
    obtain ⟨k, hk, rfl, he⟩ := hrel
    by_cases hlt : k < l.length
    · rcases hs with rfl | ⟨b, off, rfl, hin⟩
      · simp at hlt
      rcases hs' with rfl | ⟨b', off', rfl, hin'⟩
      · simp at hlt
      obtain ⟨x, hx⟩ := some_of_lt hlt
      obtain ⟨g0, g1, g2, g3⟩ := (hin.ext he) k x hx
      obtain ⟨k0, k1, k2, k3⟩ := (hin'.ext he) k x hx
      have i2 : (k : Int) < (l.length : Int) := by omega
      have i4 : (0 : Int) ≤ (k : Int) := by omega
      replace hin := hide hin; replace hin' := hide hin'
      replace he := hide he
      replace hx := hide hx
      go_wp2_with fail
      go_quiet (fail)
      go_wp2
      go_roundw
      case rel => exact ⟨k + 1, by omega, by go_num, he.out.drewN _⟩
      case measure => simp [intOf]; omega
    · replace he := hide he
      replace hs := hide hs; replace hs' := hide hs'
      go_wp2
      go_ret
      exact ⟨rfl, he.out⟩
end Go.Proofs.YtodhhjlemmmjcaaGreat
