/-
  Records that may be: what the program's functions answer.
-/
import Derived.Test.YtokogjhcgdhapaaMays
import Derived.Deep.QuietTactic
import Derived.BigQuiet
namespace Go.Proofs.Ytokogjhcgdhapaa
open Go.RowKit

structure Recd where
  kind : Int
  epoch : Int
  number : Int
  op : Int
  res : Resd
def emptyB (x : Resd) : Bool := x.id.kind.data.toList.isEmpty && x.id.name.data.toList.isEmpty && x.attrs.isEmpty && x.after.isEmpty
def noneB (r : Recd) : Bool := r.op == 0 && emptyB r.res
def stepB (r : Recd) : Bool := decide (1 ≤ r.op) && decide (r.op ≤ 3) && mayB r.res
/-- A record that may be. -/
def recB (r : Recd) : Bool :=
  decide (1 ≤ r.epoch ∧ r.epoch ≤ 1000000 ∧ 0 ≤ r.number ∧ r.number ≤ 1000000) &&
    (if r.kind = 1 then r.number == 0 && noneB r else if r.kind = 2 then stepB r else if r.kind = 3 ∨ r.kind = 4 then noneB r else false)

set_option maxRecDepth 100000 in
set_option maxHeartbeats 400000 in
theorem eqNilA (a : Option Addr) (n cap : Nat) (w : World) (hn : n ≤ 4398046511200) :
    Calls Try.prog 53 #[.slice a n cap, .slice none 0 0] w fun e w' => e = .returned (.bool (decide (n = 0))) ∧ w' = w := by
  by_cases h0 : n = 0
  · subst h0
    go_enter Try.func53, Try.ntmps53
    go_wp2
    go_loop [13] (fun i => i = .int .i64 0) (fun _ => 0)
    case atStart => rfl
    case round =>
      subst hrel
      go_wp2
      go_ret
      exact ⟨rfl, rfl⟩
  · have h1 : ((n : Int) != 0) = true := by simp; omega
    have h2 := hide (show decide (n = 0) = false by simp [h0])
    go_enter Try.func53, Try.ntmps53
    go_wp2
    go_ret
    exact ⟨retB (by rw [h2.out]), rfl⟩

set_option maxRecDepth 100000 in
set_option maxHeartbeats 400000 in
theorem eqNilI (a : Option Addr) (n cap : Nat) (w : World) (hn : n ≤ 4398046511200) :
    Calls Try.prog 54 #[.slice a n cap, .slice none 0 0] w fun e w' => e = .returned (.bool (decide (n = 0))) ∧ w' = w := by
  by_cases h0 : n = 0
  · subst h0
    go_enter Try.func54, Try.ntmps54
    go_wp2
    go_loop [13] (fun i => i = .int .i64 0) (fun _ => 0)
    case atStart => rfl
    case round =>
      subst hrel
      go_wp2
      go_ret
      exact ⟨rfl, rfl⟩
  · have h1 : ((n : Int) != 0) = true := by simp; omega
    have h2 := hide (show decide (n = 0) = false by simp [h0])
    go_enter Try.func54, Try.ntmps54
    go_wp2
    go_ret
    exact ⟨retB (by rw [h2.out]), rfl⟩


set_option maxRecDepth 100000 in
set_option maxHeartbeats 800000 in
theorem sameNoneR (k n : ByteArray) (a2 a3 : Option Addr) (n2 n3 p2 p3 : Nat) (w : World) (h2 : n2 ≤ 4398046511200) (h3 : n3 ≤ 4398046511200) :
    Calls Try.prog 45 #[.agg #[.string k, .string n, .slice a2 n2 p2, .slice a3 n3 p3], .agg #[.string ⟨#[]⟩, .string ⟨#[]⟩, .slice none 0 0, .slice none 0 0]] w fun e w' => e = .returned (.bool (k.data.toList.isEmpty && n.data.toList.isEmpty && decide (n2 = 0) && decide (n3 = 0))) ∧ Ext w w' := by
  go_enter Try.func45, Try.ntmps45
  go_wp2_with (first
    | (go_at_call 53; refine (eqNilA _ _ _ _ h2).mono ?_; rintro e w' ⟨rfl, rfl⟩)
    | (go_at_call 54; refine (eqNilI _ _ _ _ h3).mono ?_; rintro e w' ⟨rfl, rfl⟩))
  all_goals go_ret
  all_goals refine ⟨retB ?_, ((Ext.refl _).alloc _).alloc _⟩
  all_goals simp_all [ByteArray.toList_eq]

set_option maxRecDepth 100000 in
set_option maxHeartbeats 800000 in
theorem isNoStep (r : Recd) (c2 c3 : Value) (w : World) (hr : ResV w c2 c3 r.res) :
    Calls Try.prog 27 #[.agg #[.int .i64 r.op, .string r.res.id.kind, .string r.res.id.name, c2, c3]] w fun e w' => e = .returned (.bool (noneB r)) ∧ Ext w w' := by
  obtain ⟨hI, hA, hF⟩ := hr
  obtain ⟨a2, p2, rfl⟩ := hA.form
  obtain ⟨a3, p3, rfl⟩ := hF.form
  have nA := hA.few
  have nF := hF.few
  replace hA := hide hA; replace hF := hide hF; replace hI := hide hI
  by_cases h0 : r.op = 0
  · have h0' : (r.op == 0) = true := by simpa using h0
    have H := hide (show noneB r = (r.res.id.kind.data.toList.isEmpty && r.res.id.name.data.toList.isEmpty && decide (r.res.attrs.length = 0) && decide (r.res.after.length = 0)) by
      simp [noneB, emptyB, h0, Bool.and_assoc]
      cases r.res.attrs <;> cases r.res.after <;> simp)
    clear h0
    go_enter Try.func27, Try.ntmps27
    go_wp2_with fail
    refine (sameNoneR _ _ _ _ _ _ _ _ _ nA nF).mono ?_
    rintro e w1 ⟨rfl, he1⟩
    replace he1 := hide he1
    go_wp2_with fail
    go_ret
    exact ⟨retB (by rw [H.out]; simp), ((Ext.refl _).alloc _).trans he1.out⟩
  · have h0' : (r.op == 0) = false := by simpa using h0
    have H := hide (show noneB r = false by simp [noneB, h0'])
    go_enter Try.func27, Try.ntmps27
    go_wp2_with fail
    go_ret
    exact ⟨retB (by rw [H.out]), (Ext.refl _).alloc _⟩

set_option maxRecDepth 100000 in
set_option maxHeartbeats 800000 in
theorem isStep (r : Recd) (c2 c3 : Value) (w : World) (hr : ResV w c2 c3 r.res) :
    Calls Try.prog 28 #[.agg #[.int .i64 r.op, .string r.res.id.kind, .string r.res.id.name, c2, c3]] w fun e w' => e = .returned (.bool (stepB r)) ∧ Ext w w' := by
  have hr0 := hide hr
  obtain ⟨hI, hA, hF⟩ := hr
  obtain ⟨a2, p2, rfl⟩ := hA.form
  obtain ⟨a3, p3, rfl⟩ := hF.form
  replace hA := hide hA; replace hF := hide hF; replace hI := hide hI
  by_cases h1 : 1 ≤ r.op ∧ r.op ≤ 3
  · obtain ⟨h1, h2⟩ := h1
    have H := hide (show stepB r = mayB r.res by simp [stepB, h1, h2])
    go_enter Try.func28, Try.ntmps28
    go_wp2_with fail
    refine (mayBe _ _ r.res _ (hr0.out.ext ((Ext.refl _).alloc _))).mono ?_
    rintro e w1 ⟨rfl, he1⟩
    replace he1 := hide he1
    go_wp2_with fail
    go_ret
    exact ⟨retB (by rw [H.out]), ((Ext.refl _).alloc _).trans he1.out⟩
  · have H := hide (show stepB r = false by simp [stepB]; omega)
    go_enter Try.func28, Try.ntmps28
    by_cases h2 : 1 ≤ r.op
    · have h3 : ¬ r.op ≤ 3 := fun h => h1 ⟨h2, h⟩
      have h3' : decide (r.op ≤ 3) = false := by simpa using h3
      clear h1
      go_wp2_with fail
      go_ret
      exact ⟨retB (by rw [H.out]), (Ext.refl _).alloc _⟩
    · have h2' : decide (1 ≤ r.op) = false := by simpa using h2
      clear h1
      go_wp2_with fail
      go_ret
      exact ⟨retB (by rw [H.out]), (Ext.refl _).alloc _⟩

theorem recB_in {r : Recd} (h : 1 ≤ r.epoch ∧ r.epoch ≤ 1000000 ∧ 0 ≤ r.number ∧ r.number ≤ 1000000) : recB r = (if r.kind = 1 then r.number == 0 && noneB r else if r.kind = 2 then stepB r else if r.kind = 3 ∨ r.kind = 4 then noneB r else false) := by
  simp [recB, h]
theorem recB_out {r : Recd} (h : ¬ (1 ≤ r.epoch ∧ r.epoch ≤ 1000000 ∧ 0 ≤ r.number ∧ r.number ≤ 1000000)) : recB r = false := by
  simp only [recB, decide_eq_false h]; rfl

set_option maxRecDepth 100000 in
set_option maxHeartbeats 1600000 in
theorem recMay (r : Recd) (c2 c3 : Value) (w : World) (hr : ResV w c2 c3 r.res) :
    Calls Try.prog 12 #[.agg #[.int .i64 r.kind, .int .i64 r.epoch, .int .i64 r.number, .int .i64 r.op, .string r.res.id.kind, .string r.res.id.name, c2, c3]] w fun e w' => e = .returned (.bool (recB r)) ∧ Ext w w' := by
  have hr0 := hide hr
  obtain ⟨hI, hA, hF⟩ := hr
  obtain ⟨a2, p2, rfl⟩ := hA.form
  obtain ⟨a3, p3, rfl⟩ := hF.form
  replace hA := hide hA; replace hF := hide hF; replace hI := hide hI
  go_enter Try.func12, Try.ntmps12
  have Ho := hide (@recB_out r)
  have Hi := hide (@recB_in r)
  by_cases h1 : r.epoch < 1
  · have h1' : decide (r.epoch < 1) = true := by simpa using h1
    go_wp2_with fail
    go_ret
    exact ⟨retB (by rw [Ho.out (by omega)]), (Ext.refl _).alloc _⟩
  have h1' : decide (r.epoch < 1) = false := by simpa using h1
  by_cases h2 : 1000000 < r.epoch
  · have h2' : decide (1000000 < r.epoch) = true := by simpa using h2
    go_wp2_with fail
    go_ret
    exact ⟨retB (by rw [Ho.out (by omega)]), (Ext.refl _).alloc _⟩
  have h2' : decide (1000000 < r.epoch) = false := by simpa using h2
  by_cases h3 : r.number < 0
  · have h3' : decide (r.number < 0) = true := by simpa using h3
    go_wp2_with fail
    go_ret
    exact ⟨retB (by rw [Ho.out (by omega)]), (Ext.refl _).alloc _⟩
  have h3' : decide (r.number < 0) = false := by simpa using h3
  by_cases h4 : 1000000 < r.number
  · have h4' : decide (1000000 < r.number) = true := by simpa using h4
    go_wp2_with fail
    go_ret
    exact ⟨retB (by rw [Ho.out (by omega)]), (Ext.refl _).alloc _⟩
  have h4' : decide (1000000 < r.number) = false := by simpa using h4
  have HI := hide (Hi.out (by omega))
  clear Ho Hi
  by_cases k1 : r.kind = 1
  · by_cases n0 : r.number = 0
    · have n0' : (r.number == 0) = true := by simpa using n0
      have k1' : (r.kind == 1) = true := by simpa using k1
      have HJ := hide (show recB r = noneB r by rw [HI.out, if_pos k1, n0']; rfl)
      clear n0 k1 h1 h2 h3 h4
      go_wp2_with fail
      refine (isNoStep r _ _ _ (hr0.out.ext ((Ext.refl _).alloc _))).mono ?_
      rintro e w1 ⟨rfl, he1⟩
      replace he1 := hide he1
      go_wp2_with fail
      go_ret
      exact ⟨retB (by rw [HJ.out]), ((Ext.refl _).alloc _).trans he1.out⟩
    · have n0' : (r.number == 0) = false := by simpa using n0
      have k1' : (r.kind == 1) = true := by simpa using k1
      have HJ := hide (show recB r = false by rw [HI.out, if_pos k1, n0']; rfl)
      clear n0 k1 h1 h2 h3 h4
      go_wp2_with fail
      go_ret
      exact ⟨retB (by rw [HJ.out]), (Ext.refl _).alloc _⟩
  have k1' : (r.kind == 1) = false := by simpa using k1
  by_cases k2 : r.kind = 2
  · have HJ := hide (show recB r = stepB r by rw [HI.out, if_neg k1, if_pos k2])
    have k2' : (r.kind == 2) = true := by simpa using k2
    clear k1 k2 h1 h2 h3 h4
    go_wp2_with fail
    refine (isStep r _ _ _ (hr0.out.ext ((Ext.refl _).alloc _))).mono ?_
    rintro e w1 ⟨rfl, he1⟩
    replace he1 := hide he1
    go_wp2_with fail
    go_ret
    exact ⟨retB (by rw [HJ.out]), ((Ext.refl _).alloc _).trans he1.out⟩
  have k2' : (r.kind == 2) = false := by simpa using k2
  by_cases k3 : r.kind = 3
  · have HJ := hide (show recB r = noneB r by rw [HI.out, if_neg k1, if_neg k2, if_pos (.inl k3)])
    have k3' : (r.kind == 3) = true := by simpa using k3
    clear k1 k2 k3 h1 h2 h3 h4
    go_wp2_with fail
    refine (isNoStep r _ _ _ (hr0.out.ext ((Ext.refl _).alloc _))).mono ?_
    rintro e w1 ⟨rfl, he1⟩
    replace he1 := hide he1
    go_wp2_with fail
    go_ret
    exact ⟨retB (by rw [HJ.out]), ((Ext.refl _).alloc _).trans he1.out⟩
  have k3' : (r.kind == 3) = false := by simpa using k3
  by_cases k4 : r.kind = 4
  · have HJ := hide (show recB r = noneB r by rw [HI.out, if_neg k1, if_neg k2, if_pos (.inr k4)])
    have k4' : (r.kind == 4) = true := by simpa using k4
    clear k1 k2 k3 k4 h1 h2 h3 h4
    go_wp2_with fail
    refine (isNoStep r _ _ _ (hr0.out.ext ((Ext.refl _).alloc _))).mono ?_
    rintro e w1 ⟨rfl, he1⟩
    replace he1 := hide he1
    go_wp2_with fail
    go_ret
    exact ⟨retB (by rw [HJ.out]), ((Ext.refl _).alloc _).trans he1.out⟩
  have k4' : (r.kind == 4) = false := by simpa using k4
  have HJ := hide (show recB r = false by rw [HI.out, if_neg k1, if_neg k2, if_neg (by omega)])
  clear k1 k2 k3 k4 h1 h2 h3 h4
  go_wp2_with fail
  go_ret
  exact ⟨retB (by rw [HJ.out]), (Ext.refl _).alloc _⟩
end Go.Proofs.Ytokogjhcgdhapaa
