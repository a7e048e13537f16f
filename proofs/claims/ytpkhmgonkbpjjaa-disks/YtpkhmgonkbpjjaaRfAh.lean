/-
  The reference's disk: a new one; a file is read; an act is to break off.
-/
import Derived.Test.YtpkhmgonkbpjjaaRfAc
import Derived.Test.YtpkhmgonkbpjjaaDkX
import Derived.Deep.RegionHeld3
namespace Go.Proofs.Ytpkhmgonkbpjjaa
open Go.RowKit

attribute [local go_sem] Go.World.cell?_alloc_some
/-- The reference's disk lies in memory, all of it in blocks of which O speaks. -/
def RefAt (O : Nat → Prop) (w : World) (y : Nat) (D : DskS) : Prop := ∃ vF vC kc sc, RefIn w y vF vC kc sc D ∧ ∀ k, RFoot y vF vC k → O k

set_option maxRecDepth 100000 in
set_option maxHeartbeats 800000 in
theorem refNew (room : Int) (w : World) : Calls Try.prog 5 #[.int .i64 room] w fun e w' => (room < 1000 ∨ 20000 < room) ∧ e = .returned (.tuple #[.pointer none, .int .i64 11]) ∧ Hid (Ext w w') ∨
    ∃ (r : Nat) (y : Nat), room = (r : Int) ∧ 1000 ≤ r ∧ r ≤ 20000 ∧ e = .returned (.tuple #[.pointer (some ⟨y, 0, none⟩), .int .i64 0]) ∧ Hid (RefAt (fun k => w.heap.size ≤ k ∧ k < w'.heap.size) w' y (DskS.new r)) ∧ Hid (Ext w w') := by
  by_cases h1 : room < 1000
  · have b1 : decide (room < 1000) = true := by simp [h1]
    replace h1 := hide h1
    go_enter Try.func5, Try.ntmps5
    go_wp2_with fail
    go_ret2
    exact .inl ⟨.inl h1.out, rfl, Ext.refl w⟩
  · by_cases h2 : 20000 < room
    · have b1 : decide (room < 1000) = false := by simp; omega
      have b2 : decide (20000 < room) = true := by simp [h2]
      replace h1 := hide h1; replace h2 := hide h2
      go_enter Try.func5, Try.ntmps5
      go_wp2_with fail
      go_ret2
      exact .inl ⟨.inr h2.out, rfl, Ext.refl w⟩
    · obtain ⟨r, rfl⟩ : ∃ r : Nat, room = (r : Int) := ⟨room.toNat, by omega⟩
      have b1 : decide ((r : Int) < 1000) = false := by simp; omega
      have b2 : decide (20000 < (r : Int)) = false := by simp; omega
      replace h1 := hide h1; replace h2 := hide h2
      go_enter Try.func5, Try.ntmps5
      go_wp2_with fail
      go_ret2
      have E2 := (Ext.refl w).alloc (.cells #[.int .i64 (r : Int), .slice none 0 0, .slice none 0 0, .int .i64 0, .int .i64 0, .int .i64 0, .int .i64 0] 58)
      have g1 := h1.out
      have g2 := h2.out
      refine .inr ⟨r, rfl, by omega, by omega, w.heap.size, rfl, ⟨.slice none 0 0, .slice none 0 0, 0, 0, ⟨heap_alloc_new w _, World.ownsRow_nil _ _ _ _, World.ownsRow_nil _ _ _ _, DskS.Ok.new (by omega) (by omega), by simp [DskS.new], fun hz => absurd rfl hz, by omega⟩, fun k hk => ?_⟩, E2⟩
      rcases hk with hk | hk | hk
      · subst hk; simp
      · simp [Value.ownBlock] at hk
      · simp [Value.ownBlock] at hk

set_option maxRecDepth 100000 in
set_option maxHeartbeats 800000 in
theorem refBreak (w : World) (y : Nat) (vF vC : Value) (kc sc : Int) (D : DskS) (k keep names : Int) (h : RefIn w y vF vC kc sc D) (hk : k ≤ 9223372036854775807) (hnm : names ≤ 9223372036854775807) :
    Calls Try.prog 29 #[.pointer (some ⟨y, 0, none⟩), .int .i64 k, .int .i64 keep, .int .i64 names] w fun e w' => e = .returned (.int .i64 (D.break k keep names).2) ∧ Hid (∃ kc' sc', RefTo w y vF vC kc' sc' (D.break k keep names).1 w') := by
  obtain ⟨c0, c1, c2, c3, c4, c5, c6⟩ := seven_at h.box
  by_cases h1 : k < 0
  · have b1 : decide (k < 0) = true := by simp [h1]
    have hr : D.break k keep names = (D, 11) := by unfold DskS.break; rw [if_pos h1]
    rw [hr]
    replace h := hide h; replace h1 := hide h1; replace hr := hide hr
    go_enter Try.func29, Try.ntmps29
    go_wp2_with fail
    go_ret
    exact ⟨rfl, kc, sc, RefTo.here h.out (Kept.refl _ _)⟩
  · have b1 : decide (k < 0) = false := by simp; omega
    obtain ⟨n, rfl⟩ : ∃ n : Nat, k = (n : Int) := ⟨k.toNat, by omega⟩
    have hr : D.break (n : Int) keep names = ({ D with due := n, keep := keep, stay := names }, 0) := by unfold DskS.break; rw [if_neg h1]; simp
    rw [hr]
    have fz := row_frozen h.box
    have B1 := set_row h.box 4 (.int .i64 (n : Int))
    have B2 := set_row B1 5 (.int .i64 keep)
    have B3 := set_row B2 6 (.int .i64 names)
    simp only [List.setIfInBounds_toArray, List.set_cons_succ, List.set_cons_zero] at B1 B2 B3
    have f1 := row_frozen B1
    have f2 := row_frozen B2
    have K3 := ((kept_setCell w ⟨y, 4, none⟩ (.int .i64 (n : Int))).trans (kept_setCell _ ⟨y, 5, none⟩ (.int .i64 keep)) (fun _ _ h => h)).trans (kept_setCell _ ⟨y, 6, none⟩ (.int .i64 names)) (fun _ _ h => h)
    have h3 := h.boxed (last := D.last) (due := n) (kp := keep) (st := names) K3 B3 h.ok.last (by omega) (fun _ => ⟨rfl, rfl⟩) hnm
    replace h := hide h; replace h1 := hide h1; replace hr := hide hr; replace h3 := hide h3; replace K3 := hide K3; replace B1 := hide B1; replace B2 := hide B2; replace B3 := hide B3
    go_enter Try.func29, Try.ntmps29
    go_wp2_with fail
    go_ret
    exact ⟨rfl, keep, names, RefTo.here h3.out (K3.out.mono (fun _ _ h => .inl h))⟩

set_option maxRecDepth 100000 in
set_option maxHeartbeats 800000 in
theorem refRead (w : World) (y : Nat) (vF vC : Value) (kc sc : Int) (D : DskS) (name : ByteArray) (h : RefIn w y vF vC kc sc D) (hfew : D.chs.length ≤ 2000000000000) (hq : name.size ≤ 9223372036854775807) :
    Calls Try.prog 23 #[.pointer (some ⟨y, 0, none⟩), .string name] w fun e w' => e = .returned (readV D name) ∧ Hid (Ext w w') := by
  cases hf : D.find name with
  | inr er =>
    have hr : readV D name = .tuple #[.string ⟨#[]⟩, .int .i64 er] := by unfold readV DskS.read; rw [hf]
    have hin : isN D name = er := by unfold isN; rw [hf]
    have her : (er == 0) = false := by
      rcases find_waysR D name with ⟨i, h⟩ | ⟨e, h, h'⟩
      · rw [hf] at h; cases h
      · rw [hf] at h; obtain rfl : er = e := by simpa using h
        rcases h' with rfl | rfl <;> rfl
    have her2 : ¬ er = 0 := by simpa using her
    have his := refIs w y vF vC kc sc D name h hfew hq
    rw [hin] at his
    rw [hr]
    replace h := hide h; replace hf := hide hf; replace hr := hide hr; replace hin := hide hin; replace his := hide his
    go_enter Try.func23, Try.ntmps23
    go_wp2_with fail
    refine his.out.mono ?_
    rintro e1 w1 ⟨rfl, X1⟩
    go_wp2_with fail
    go_ret2
    exact ⟨rfl, X1⟩
  | inl i =>
    obtain ⟨hfi, hin⟩ := file_in hf
    have hil := (DskS.find_in h.ok hf).2.2
    obtain ⟨f, hfx⟩ : ∃ f, D.files[i]? = some f := ⟨_, List.getElem?_eq_getElem hil⟩
    have hr : readV D name = .tuple #[.string ⟨f.1.toArray⟩, .int .i64 0] := by unfold readV DskS.read; rw [hf]; simp [hfx]
    have his := refIs w y vF vC kc sc D name h hfew hq
    rw [hin] at his
    rw [hr]
    have h' := h
    replace h := hide h; replace hf := hide hf; replace hr := hide hr; replace hin := hide hin; replace his := hide his
    obtain ⟨pF, cF, hvF⟩ := ownsRow_form h'.files
    subst hvF
    have h'' := hide h'
    clear h'
    go_enter Try.func23, Try.ntmps23
    go_wp2_with fail
    refine his.out.mono ?_
    rintro e1 w1 ⟨rfl, X1⟩
    have h1 := h''.out.ext X1.out
    have hfl := refFile w1.drew y _ vC kc sc D name (h1.ext (Ext.refl w1).drew) hfew
    rw [hfi] at hfl
    have d1 := (seven_at h1.box).2.1
    obtain ⟨-, hf1, hf2, hfa⟩ := rowG_at cFl_len h1.files
    obtain ⟨gf, hpf, hgf⟩ := hfa i f hfx
    subst hpf
    have f0 := hgf 0 (by omega)
    rw [Nat.add_zero] at f0
    simp only [cFl, List.getElem?_cons_zero] at f0
    have q1 : (i : Int) < (D.files.length : Int) := by omega
    have q2 : (0 : Int) ≤ (i : Int) := by omega
    replace h1 := hide h1; replace hfa := hide hfa; replace hgf := hide hgf; replace hfx := hide hfx; replace hfl := hide hfl; replace hfi := hide hfi
    go_wp2_with fail
    go_region_held3 (fun w' => w'.cell? ⟨y, 1, none⟩ = some (.slice (some ⟨gf, 0, none⟩) D.files.length cF) ∧ w'.cell? ⟨gf, i * 2, none⟩ = some (.string ⟨f.1.toArray⟩)) (go_keep) ((go_at_call 48; refine hfl.out.mono ?_; rintro e3 w3 ⟨rfl, X3⟩; go_must (have d3 := X3.out.cells d1; have g3 := X3.out.cells f0)))
    go_wp2_with fail
    go_ret2
    exact ⟨rfl, X1.out.trans ((Ext.refl w1).drew.trans X3.out)⟩
end Go.Proofs.Ytpkhmgonkbpjjaa
