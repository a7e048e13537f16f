/-
  A number as digits: what the reference's function answers; the marks.
-/
import Derived.Test.YtjebmabffocobaaDoorConv
import Derived.Lib.ItoaNum
import Derived.Deep.QuietTactic
import Derived.BigQuiet
import Derived.Deep.RegionHeld3
import Derived.Deep.RegionWith
import Derived.Deep.DrawnRows
namespace Go.Proofs.YtjebmabffocobaaDoor
open Go.RowKit

attribute [local go_sem ↓] Go.wp_at_zero Go.wp_at_succ
theorem cell_new1 (w : World) (v : Value) (t : TypeId) : (w.alloc (.cells #[v] t)).drew.cell? ⟨w.heap.size, 0, none⟩ = some v := by simp [go_sem]
theorem ofNat_eq {a b : Nat} (h : a = b) : UInt8.ofNat a = UInt8.ofNat b := by rw [h]

set_option maxRecDepth 100000 in
set_option maxHeartbeats 800000 in
theorem decSmall (n : Int) (w : World) (h0 : 0 ≤ n) (h1 : n < 10) :
    Calls Tryd.prog 13 #[.int .i64 n] w fun e w' => e = .returned (.string ⟨(Lib.decDigits n.toNat).toArray⟩) ∧ Ext w w' := by
  have H := hide (Lib.decDigits_one (i := n.toNat) (by omega))
  have hcv := fun w => conv_one w (48 + n) (by omega) (by omega)
  have h0' : ¬ n < 0 := by omega
  go_enter Tryd.func13, Tryd.ntmps13
  go_wp2
  go_ret
  refine ⟨retS ?_, (Ext.refl _).alloc _⟩
  rw [unhide H, show (48 + n).toNat = 48 + n.toNat by omega]

theorem decLen (q : Nat) (this : q ≤ 100000000000) : (Lib.decDigits q).length ≤ 13 := by
  rw [Lib.decDigits_length]
  rw [Lib.nDigits]; split; · omega
  rw [Lib.nDigits]; split; · omega
  rw [Lib.nDigits]; split; · omega
  rw [Lib.nDigits]; split; · omega
  rw [Lib.nDigits]; split; · omega
  rw [Lib.nDigits]; split; · omega
  rw [Lib.nDigits]; split; · omega
  rw [Lib.nDigits]; split; · omega
  rw [Lib.nDigits]; split; · omega
  rw [Lib.nDigits]; split; · omega
  rw [Lib.nDigits]; split; · omega
  rw [Lib.nDigits]; split; · omega
  rw [Lib.nDigits]; split
  · omega
  · omega
set_option maxRecDepth 100000 in
set_option maxHeartbeats 1600000 in
theorem decPos : ∀ (m : Nat) (n : Int) (w : World), n.toNat ≤ m → 0 ≤ n → n ≤ 1000000000000 →
    Calls Tryd.prog 13 #[.int .i64 n] w fun e w' => e = .returned (.string ⟨(Lib.decDigits n.toNat).toArray⟩) ∧ Ext w w' := by
  intro m
  induction m with
  | zero =>
    intro n w hm h0 h1
    exact decSmall n w h0 (by omega)
  | succ m ih =>
    intro n w hm h0 h1
    by_cases hs : n < 10
    · exact decSmall n w h0 hs
    have ih' := ih (n / 10)
    replace ih := hide ih'
    clear ih'
    have H : Hid (Lib.decDigits n.toNat = Lib.decDigits (n / 10).toNat ++ [UInt8.ofNat (48 + n.toNat % 10)]) := by
      have : Lib.decDigits n.toNat = Lib.decDigits (n.toNat / 10) ++ [UInt8.ofNat (48 + n.toNat % 10)] := by
        conv => lhs; rw [Lib.decDigits, dif_neg (by omega)]
      rw [show (n / 10).toNat = n.toNat / 10 by omega]; exact this
    have hlen := decLen (n / 10).toNat (by omega)
    have hcv := fun w => conv_one w (48 + n % 10) (by omega) (by omega)
    have h0' : ¬ n < 0 := by omega
    have h1' : decide (n < 10) = false := by simp; omega
    have e1 : IntKind.i64.wrap (n.tdiv 10) = n / 10 := by rw [IntKind.wrap_i64, Int.tdiv_eq_ediv_of_nonneg h0]; omega
    have e2 : n.tmod 10 = n % 10 := Int.tmod_eq_emod_of_nonneg h0
    have e3 : IntKind.i64.wrap (48 + n % 10) = 48 + n % 10 := by rw [IntKind.wrap_i64]; omega
    have e4 : IntKind.u8.wrap (48 + n % 10) = 48 + n % 10 := by simp [IntKind.wrap, IntKind.signed, IntKind.bits]; omega
    have q0 : 0 ≤ n / 10 := by omega
    have q1 : n / 10 ≤ 1000000000000 := by omega
    have q2 : (n / 10).toNat ≤ m := by omega
    have r1 : 0 ≤ 48 + n % 10 := by omega
    have r2 : 48 + n % 10 ≤ 255 := by omega
    have hcvd := fun (w : World) => conv_at (w.alloc (.cells #[.int .u8 (48 + n % 10)] 5)).drew w.heap.size (48 + n % 10) r1 r2 (cell_new1 w _ _)
    have q3 : (48 + n % 10).toNat = 48 + n.toNat % 10 := by omega
    replace q3 := hide q3
    generalize n / 10 = q at *
    generalize n % 10 = r at *
    generalize hd : Lib.decDigits q.toNat = ds at *
    replace hd := hide hd
    have hsz : ds.length + 1 ≤ 9223372036854775807 := by omega
    go_enter Tryd.func13, Tryd.ntmps13
    go_wp2_with fail
    go_region_with (first
      | (go_at_call 13; refine (unhide ih _ q2 q0 q1).mono ?_; rintro e w1 ⟨rfl, he1⟩; have hcv2 := conv_at w1 w.heap.size (48 + r) r1 r2 (he1.cells (cell_new1 w _ _)); replace he1 := hide he1)
      | (go_at_call 13; refine (unhide ih _ q2 q0 q1).mono ?_; rintro e w1 ⟨rfl, he1⟩; replace he1 := hide he1))
    all_goals go_wp2
    all_goals go_ret
    all_goals refine ⟨retS ?_, ?_⟩
    all_goals first
      | exact (Ext.refl _).drew.trans he1.out
      | exact ((Ext.refl _).drew.trans he1.out).alloc _
      | exact ((Ext.refl _).alloc _).drew.trans he1.out
      | (rw [unhide H, unhide q3, ba_app2])

theorem refDecimal (n : Int) (w : World) (h0 : -1000000000 ≤ n) (h1 : n ≤ 1000000000) :
    Calls Tryd.prog 13 #[.int .i64 n] w fun e w' => e = .returned (.string ⟨(Lib.itoa n).toArray⟩) ∧ Ext w w' := by
  by_cases hn : n < 0
  · have H := hide (show Lib.itoa n = 45 :: Lib.decDigits (-n).toNat by unfold Lib.itoa; rw [if_pos hn, show n.natAbs = (-n).toNat by omega])
    have e1 : IntKind.i64.wrap (-n) = -n := by rw [IntKind.wrap_i64]; omega
    have q0 : 0 ≤ -n := by omega
    have q1 : -n ≤ 1000000000000 := by omega
    have hl := decLen (-n).toNat (by omega)
    have hp := hide (decPos (-n).toNat (-n))
    generalize Lib.decDigits (-n).toNat = ds at *
    have hn' : decide (n < 0) = true := by simpa using hn
    go_enter Tryd.func13, Tryd.ntmps13
    go_wp2_with fail
    refine (unhide hp _ (Nat.le_refl _) q0 q1).mono ?_
    rintro e w1 ⟨rfl, he1⟩
    replace he1 := hide he1
    go_wp2
    go_ret
    exact ⟨retS (by rw [unhide H, ba_app2]; rfl), he1.out⟩
  · have := decPos n.toNat n w (Nat.le_refl _) (by omega) (by omega)
    rw [show Lib.itoa n = Lib.decDigits n.toNat by unfold Lib.itoa; rw [if_neg hn]]
    exact this
end Go.Proofs.YtjebmabffocobaaDoor
