/-
  Raw numbers; the order of IDs; is an ID in a list?
-/
/-
  The next raw number.
-/
import Derived.Test.YtfmcgdglalljgaaGreatDoorRfSm
import Derived.Test.YtfmcgdglalljgaaGreatDoorJ6
import Derived.Test.YtfmcgdglalljgaaGreatDoorJ7
import Derived.BigQuiet
import Derived.Test.YtfmcgdglalljgaaGreatDoorJ1
import Derived.Test.YtfmcgdglalljgaaGreatDoorJ12
import Derived.Deep.RegionHeld3
namespace Go.Proofs.YtfmcgdglalljgaaGreatDoor
open Go.RowKit

set_option maxRecDepth 100000 in
set_option maxHeartbeats 800000 in
theorem lessL (a b : IDd) (w : World) :
    Calls Tryz.prog 48 #[.agg #[.string a.kind, .string a.name], .agg #[.string b.kind, .string b.name]] w fun e w' => e = .returned (.bool (lessI a b)) ∧ Ext w w' := by
  have H := hide (lessI_eq a b)
  go_enter Tryz.func48, Tryz.ntmps48
  go_wp2
  all_goals go_ret
  all_goals refine ⟨retB ?_, ((Ext.refl _).alloc _).alloc _⟩
  all_goals rw [unhide H]
  all_goals simp_all

theorem pick_mod {c : Int} {n : Nat} (hc : 0 ≤ c) (hn : 0 < n) : ∃ z : Nat, z < n ∧ c.tmod (n : Int) = (z : Int) := by
  refine ⟨(c.tmod (n : Int)).toNat, ?_, ?_⟩
  · have h1 := Int.tmod_lt_of_pos c (show (0 : Int) < n by omega)
    have h2 := Int.tmod_nonneg (n : Int) hc
    omega
  · have h2 := Int.tmod_nonneg (n : Int) hc
    omega

/-- Numbers lie in a block, from a place on. -/
structure IntsV (w : World) (v : Value) (l : List Int) : Prop where
  shape : ∃ a cap, v = .slice a l.length cap ∧ l.length ≤ cap ∧ cap ≤ 9223372036854775807 ∧ (l = [] ∨ ∃ b off, a = some ⟨b, off, none⟩ ∧ ∀ (i : Nat) (x : Int), l[i]? = some x → w.cell? ⟨b, off + i, none⟩ = some (.int .i64 x))
  ok : ∀ x ∈ l, -9223372036854775808 ≤ x ∧ x ≤ 9223372036854775807
theorem IntsV.ext {w w' : World} {v : Value} {l : List Int} (h : IntsV w v l) (e : Ext w w') : IntsV w' v l := by
  obtain ⟨⟨a, cap, h1, h2, h3, h4⟩, h5⟩ := h
  refine ⟨⟨a, cap, h1, h2, h3, h4.imp id ?_⟩, h5⟩
  rintro ⟨b, off, ha, hi⟩
  exact ⟨b, off, ha, fun i x hx => e.cells (hi i x hx)⟩

theorem idEq {a b : IDd} (h1 : a.kind = b.kind) (h2 : a.name = b.name) : a = b := by cases a; cases b; simp only at h1 h2; rw [h1, h2]
theorem memStep {α : Type} {l : List α} {k : Nat} {x a : α} (hx : l[k]? = some x) (hne : ¬ a = x) (h : a ∉ l.take k) : a ∉ l.take (k + 1) := by
  rw [List.take_add_one, hx]
  simp
  exact ⟨h, hne⟩
theorem twoAt {w : World} {k : Nat} {a b : Value} {t : TypeId} {fz : Nat × Nat} (hk : w.heap[k]? = some (.cells #[a, b] t fz)) : w.cell? ⟨k, 0, none⟩ = some a ∧ w.cell? ⟨k, 1, none⟩ = some b := ⟨by simp [World.cell?, hk], by simp [World.cell?, hk]⟩
set_option maxRecDepth 100000 in
set_option maxHeartbeats 800000 in
theorem holdsL (v : Value) (l : List IDd) (a : IDd) (w : World) (hv : IDsV w v l) :
    Calls Tryz.prog 21 #[v, .agg #[.string a.kind, .string a.name]] w fun e w' => ∃ b : Bool, e = .returned (.bool b) ∧ Hid (b = true ↔ a ∈ l) ∧ Hid (Ext w w') := by
  obtain ⟨pa, cap, rfl, c1, c2, hin⟩ := hv.shape
  have hfew := hv.few
  replace hv := hide hv; replace hin := hide hin
  go_enter Tryz.func21, Tryz.ntmps21
  go_wp2_with fail
  go_loopw [5] (fun kv wr => ∃ k : Nat, k ≤ l.length ∧ kv = .int .i64 k ∧ Hid (a ∉ l.take k) ∧ Hid (Ext (w.alloc (.cells #[.string a.kind, .string a.name] 25)) wr)) (fun kv _ => l.length - (intOf kv).toNat)
  case atStart => exact ⟨0, Nat.zero_le _, rfl, by simp [Hid], Ext.refl _⟩
  case round =>
    obtain ⟨k, hk, rfl, hno, hxr⟩ := hrel
    have X := hide (((Ext.refl w).alloc (.cells #[.string a.kind, .string a.name] 25)).trans hxr.out)
    have bb := ext_at hxr.out (heap_alloc_new w _)
    obtain ⟨q0, q1⟩ := twoAt bb
    replace bb := hide bb
    by_cases hlt : k < l.length
    · obtain ⟨x, hx⟩ := some_of_lt hlt
      rcases hin.out with hh | ⟨bx, ox, rfl, hxi⟩
      · rw [hh] at hlt; simp at hlt
      obtain ⟨p0, p1⟩ := hxi k x hx
      replace p0 := X.out.cells p0; replace p1 := X.out.cells p1
      have k2 : (k : Int) < (l.length : Int) := by omega
      have k4 : (0 : Int) ≤ (k : Int) := by omega
      replace hx := hide hx; replace hxi := hide hxi
      by_cases h0 : x.kind = a.kind
      · by_cases h1 : x.name = a.name
        · have m0 : x.kind.toList = a.kind.toList := by rw [h0]
          have m1 : x.name.toList = a.name.toList := by rw [h1]
          have hmem : Hid (a ∈ l) := by show a ∈ l; rw [← idEq h0 h1]; exact List.mem_of_getElem? hx.out
          replace h0 := hide h0; replace h1 := hide h1
          go_wp2_with fail
          go_quiet (fail)
          go_wp2_with fail
          go_ret
          exact ⟨true, rfl, ⟨fun _ => hmem.out, fun _ => rfl⟩, X.out.drewN _⟩
        · have m0 : x.kind.toList = a.kind.toList := by rw [h0]
          have n1 : ¬ x.name.toList = a.name.toList := fun h => h1 (ba_inj h)
          have n2 : (x.name.toList == a.name.toList) = false := by simpa using n1
          have hne : Hid (¬ a = x) := fun h => h1 (by rw [h])
          replace h0 := hide h0; replace h1 := hide h1
          go_wp2_with fail
          go_quiet (fail)
          go_wp2_with fail
          go_roundw
          case rel => exact ⟨k + 1, by omega, by go_num, memStep hx.out hne.out hno.out, hxr.out.drewN _⟩
          case measure => simp [intOf]; omega
      · have n1 : ¬ x.kind.toList = a.kind.toList := fun h => h0 (ba_inj h)
        have n2 : (x.kind.toList == a.kind.toList) = false := by simpa using n1
        have hne : Hid (¬ a = x) := fun h => h0 (by rw [h])
        replace h0 := hide h0
        go_wp2_with fail
        go_quiet (fail)
        go_wp2_with fail
        go_roundw
        case rel => exact ⟨k + 1, by omega, by go_num, memStep hx.out hne.out hno.out, hxr.out.drewN _⟩
        case measure => simp [intOf]; omega
    · obtain rfl : k = l.length := by omega
      have hno' : Hid (a ∉ l) := fun h => hno.out (by rw [List.take_length]; exact h)
      go_wp2_with fail
      go_ret
      exact ⟨false, rfl, ⟨fun h => (by cases h), fun h => absurd h hno'.out⟩, X⟩
end Go.Proofs.YtfmcgdglalljgaaGreatDoor

namespace Go.Proofs.YtfmcgdglalljgaaGreatDoor
open Go.RowKit

set_option maxRecDepth 100000 in
set_option maxHeartbeats 800000 in
theorem pickL (c : Int) (n : Nat) (w : World) (hc : -9223372036854775808 ≤ c ∧ c ≤ 9223372036854775807) (hn : 0 < n) (hn' : n ≤ 1000000) :
    Calls Tryz.prog 6 #[.int .i64 c, .int .i64 n] w fun e w' => ∃ z : Nat, e = .returned (.int .i64 z) ∧ z < n ∧ w' = w := by
  have n1 : ¬ (n : Int) = 0 := by omega
  have n2 : ((n : Int) == 0) = false := by simp; omega
  go_enter Tryz.func6, Tryz.ntmps6
  by_cases h : c < 0
  · have h1 : IntKind.i64.wrap (c + 1) = c + 1 := by rw [IntKind.wrap_i64]; omega
    have h2 : IntKind.i64.wrap (-(c + 1)) = -(c + 1) := by rw [IntKind.wrap_i64]; omega
    obtain ⟨z, hz, e⟩ := pick_mod (c := -(c + 1)) (by omega) hn
    go_wp2
    all_goals go_ret
    all_goals refine ⟨z, ?_, hz, rfl⟩
    all_goals (rw [← e]; rfl)
  · have h1 : decide (c < 0) = false := by simp; omega
    obtain ⟨z, hz, e⟩ := pick_mod (c := c) (by omega) hn
    go_wp2
    all_goals go_ret
    all_goals refine ⟨z, ?_, hz, rfl⟩
    all_goals (rw [← e]; rfl)

theorem twoSet {w : World} {k : Nat} {a b : Value} {t : TypeId} {fz : Nat × Nat} (hk : w.heap[k]? = some (.cells #[a, b] t fz)) (v : Value) : (w.setCell ⟨k, 1, none⟩ v).heap[k]? = some (.cells #[a, v] t fz) := by
  simp [World.setCell, Array.getElem?_modify, hk]
/-- Raw numbers, and how many were taken. -/
structure RawAt (w : World) (R : Nat) (v : Value) (rl : List Int) (k : Nat) : Prop where
  box : w.heap[R]? = some (.cells #[v, .int .i64 k] 62 (0, 0))
  ints : IntsV w v rl
  le : k ≤ rl.length
  apart : ¬ rl = [] → ∀ ad n cap, v = .slice (some ad) n cap → ¬ ad.block = R
/-- What a raw number leaves. -/
def NextIs (w : World) (R : Nat) (v : Value) (rl : List Int) (n : Nat) (e : Ending) (w' : World) : Prop :=
  ∃ (z k : Nat), e = .returned (.int .i64 z) ∧ z < n ∧ Hid (w'.heap[R]? = some (.cells #[v, .int .i64 k] 62 (0, 0))) ∧ k ≤ rl.length ∧ Hid (Kept (· = R) w w')

set_option maxRecDepth 100000 in
set_option maxHeartbeats 1600000 in
theorem nextL (R : Nat) (v : Value) (rl : List Int) (k n : Nat) (w : World) (hR : RawAt w R v rl k) (hn : 0 < n) (hn' : n ≤ 1000000) :
    Calls Tryz.prog 20 #[.pointer (some ⟨R, 0, none⟩), .int .i64 n] w (NextIs w R v rl n) := by
  obtain ⟨pa, cap, rfl, c1, c2, hin⟩ := hR.ints.shape
  obtain ⟨b0, b1⟩ := twoAt hR.box
  have hfew : rl.length ≤ 9223372036854775807 := Nat.le_trans c1 c2
  have hle := hR.le
  have fR := row_frozen hR.box
  replace hR := hide hR; replace hin := hide hin
  go_enter Tryz.func20, Tryz.ntmps20
  by_cases hlt : k < rl.length
  · have k1 : decide ((rl.length : Int) ≤ (k : Int)) = false := by simp; omega
    have k3 : ¬ (rl.length : Int) ≤ (k : Int) := by omega
    obtain ⟨x, hx⟩ := some_of_lt hlt
    rcases hin.out with hh | ⟨b, off, rfl, hI⟩
    · rw [hh] at hlt; simp at hlt
    have hxc := hI k x hx
    have hxr := hide (hR.out.ints.ok x (List.mem_of_getElem? hx))
    have k5 : decide (rl.length ≤ k) = false := by simp; omega
    have k6 : ¬ rl.length ≤ k := by omega
    have hbR : ¬ b = R := hR.out.apart (fun h => by rw [h] at hlt; simp at hlt) _ _ _ rfl
    have hRb : ¬ R = b := fun e => hbR e.symm
    have e1 : IntKind.i64.wrap ((k : Int) + 1) = (k : Int) + 1 := by rw [IntKind.wrap_i64]; omega
    have e2 : IntKind.i64.wrap ((k : Int) + 1 - 1) = (k : Int) := by rw [IntKind.wrap_i64]; omega
    have k7 : (k : Int) < (rl.length : Int) := by omega
    have k8 : (0 : Int) ≤ (k : Int) := by omega
    replace hx := hide hx; replace hI := hide hI
    go_wp2_with fail
    go_quiet (fail)
    go_wp2_with fail
    have B7 : ((w.drewN nq).setCell ⟨R, 1, none⟩ (.int .i64 ((k : Int) + 1))).heap[R]? = some (.cells #[.slice (some ⟨b, off, none⟩) rl.length cap, .int .i64 ((k : Int) + 1)] 62 (0, 0)) := by
      have h1 : (w.drewN nq).heap[R]? = some (.cells #[.slice (some ⟨b, off, none⟩) rl.length cap, .int .i64 k] 62 (0, 0)) := hR.out.box
      exact twoSet h1 _
    have K7 : Kept (· = R) w ((w.drewN nq).setCell ⟨R, 1, none⟩ (.int .i64 ((k : Int) + 1))) := (((Ext.refl w).drewN nq).kept _).trans (kept_setCell _ ⟨R, 1, none⟩ _) (fun _ _ h => h)
    have x7 := K7.cell hxc hbR
    generalize hW7 : (w.drewN nq).setCell ⟨R, 1, none⟩ (.int .i64 ((k : Int) + 1)) = W7 at *
    obtain ⟨r0, r1⟩ := twoAt B7
    have e5 : IntKind.i64.wrap (k : Int) = (k : Int) := by rw [IntKind.wrap_i64]; omega
    replace B7 := hide B7; replace K7 := hide K7; replace hW7 := hide hW7
    go_region_held3 (fun w' => w'.cell? ⟨R, 0, none⟩ = some (.slice (some ⟨b, off, none⟩) rl.length cap) ∧ w'.cell? ⟨R, 1, none⟩ = some (.int .i64 ((k : Int) + 1)) ∧ w'.cell? ⟨b, off + k, none⟩ = some (.int .i64 x)) (go_keep)
      ((go_at_call 6; refine (pickL x n _ hxr.out hn hn').mono ?_; rintro e5 w5 ⟨z, rfl, hz, rfl⟩))
    go_wp2_with fail
    go_ret
    exact ⟨z, k + 1, rfl, hz, by show _ = _; exact B7.out, by omega, K7.out.trans ((Ext.refl _).drew.kept (fun _ => False)) (fun _ _ h => h.elim)⟩
  · have k1 : decide ((rl.length : Int) ≤ (k : Int)) = true := by simp; omega
    have k5 : decide (rl.length ≤ k) = true := by simp; omega
    have k3 : (rl.length : Int) ≤ (k : Int) := by omega
    go_wp2_with fail
    go_quiet (fail)
    go_wp2_with fail
    go_ret
    exact ⟨0, k, rfl, hn, hR.out.box, by omega, ((Ext.refl w).drewN _).kept _⟩
end Go.Proofs.YtfmcgdglalljgaaGreatDoor
