/-
  A record as bytes: what the program's function answers.
-/
import Derived.Test.YtokogjhcgdhapaaJ7
import Derived.Test.YtokogjhcgdhapaaRecMay
namespace Go.Proofs.Ytokogjhcgdhapaa
open Go.RowKit

/-- A record as bytes. -/
def recL (r : Recd) : List UInt8 := bigL 1 r.kind ++ bigL 3 r.epoch ++ bigL 3 r.number ++ (if r.kind = 2 then bigL 1 r.op ++ encR r.res else [])
def encS (r : Recd) : ByteArray := if recB r then ⟨(recL r).toArray⟩ else ⟨#[]⟩
def encE (r : Recd) : Int := if recB r then 0 else 11
theorem rec_step {r : Recd} (h : recB r = true) (hk : r.kind = 2) : mayB r.res = true ∧ 1 ≤ r.op ∧ r.op ≤ 3 := by
  simp only [recB, Bool.and_eq_true] at h
  have h2 := h.2
  rw [if_neg (by omega), if_pos hk] at h2
  simp only [stepB, Bool.and_eq_true, decide_eq_true_eq] at h2
  exact ⟨h2.2, h2.1.1, h2.1.2⟩

/-- The value of a record. -/
def recV (r : Recd) (c2 c3 : Value) : Value := .agg #[.int .i64 r.kind, .int .i64 r.epoch, .int .i64 r.number, .int .i64 r.op, .string r.res.id.kind, .string r.res.id.name, c2, c3]
def recC (r : Recd) (c2 c3 : Value) : Array Value := #[.int .i64 r.kind, .int .i64 r.epoch, .int .i64 r.number, .int .i64 r.op, .string r.res.id.kind, .string r.res.id.name, c2, c3]
theorem rec_cells {w : World} {k : Nat} {r : Recd} {c2 c3 : Value} {t : TypeId} {fz : Nat × Nat} (h : w.heap[k]? = some (.cells #[.int .i64 r.kind, .int .i64 r.epoch, .int .i64 r.number, .int .i64 r.op, .string r.res.id.kind, .string r.res.id.name, c2, c3] t fz)) :
    w.cell? ⟨k, 0, none⟩ = some (.int .i64 r.kind) ∧ w.cell? ⟨k, 1, none⟩ = some (.int .i64 r.epoch) ∧ w.cell? ⟨k, 2, none⟩ = some (.int .i64 r.number) ∧ w.cell? ⟨k, 3, none⟩ = some (.int .i64 r.op) ∧ w.cell? ⟨k, 4, none⟩ = some (.string r.res.id.kind) ∧ w.cell? ⟨k, 5, none⟩ = some (.string r.res.id.name) ∧ w.cell? ⟨k, 6, none⟩ = some c2 ∧ w.cell? ⟨k, 7, none⟩ = some c3 := by
  simp [World.cell?, h]
theorem rc_keeps {B : Nat} {w w' : World} (h : Wrote8 B w w') {k : Nat} {c : Array Value} {fz : Nat × Nat} (hk : w.heap[k]? = some (.cells c 33 fz)) : w'.heap[k]? = some (.cells c 33 fz) := h.keeps hk (by decide)

set_option maxRecDepth 100000 in
set_option maxHeartbeats 1600000 in
theorem encode (r : Recd) (c2 c3 : Value) (w : World) (hr : ResV w c2 c3 r.res) :
    Calls Try.prog 7 #[.agg #[.int .i64 r.kind, .int .i64 r.epoch, .int .i64 r.number, .int .i64 r.op, .string r.res.id.kind, .string r.res.id.name, c2, c3]] w fun e w' => e = .returned (.tuple #[.string (encS r), .int .i64 (encE r)]) ∧ Ext w w' := by
  have hr0 := hide hr
  obtain ⟨hI, hA, hF⟩ := hr
  obtain ⟨a2, p2, rfl⟩ := hA.form
  obtain ⟨a3, p3, rfl⟩ := hF.form
  replace hA := hide hA; replace hF := hide hF; replace hI := hide hI
  go_enter Try.func7, Try.ntmps7
  go_wp2_with fail
  refine (recMay r _ _ _ (hr0.out.ext ((Ext.refl _).alloc _))).mono ?_
  rintro e w1 ⟨rfl, he1⟩
  have hR := ext_heap0 he1 (heap_alloc_new w _)
  have X1 := hide (((Ext.refl w).alloc _).trans he1)
  clear he1
  obtain ⟨q0, q1, q2, q3, q4, q5, q6, q7⟩ := rec_cells hR
  replace hR := hide hR
  cases hm : recB r
  · have H1 : Hid (encS r = ⟨#[]⟩) := by unfold encS; rw [hm]; rfl
    have H2 : Hid (encE r = 11) := by unfold encE; rw [hm]; rfl
    go_wp2_with fail
    go_ret2
    exact ⟨by rw [H1.out, H2.out]; rfl, X1.out⟩
  have H1 : Hid (encS r = ⟨(recL r).toArray⟩) := by unfold encS; rw [hm]; rfl
  have H2 : Hid (encE r = 0) := by unfold encE; rw [hm]; rfl
  have Hst := hide (@rec_step r hm)
  replace hm := hide hm
  go_wp2_with fail
  refine (appendNumber w1.heap.size _ [] r.kind 1 _ (Buf.nil _) (by simp) (by omega)).mono ?_
  rintro e w2 ⟨acc2, pa2, cap2, rfl, hacc2, hv2, hb2⟩
  have hlen2 : acc2.length ≤ 1 := by rw [hacc2.out, List.length_append, bigL_len]; simp
  have hR2 := rc_keeps hb2.out hR.out
  clear q0 q1 q2 q3 q4 q5 q6 q7
  obtain ⟨q0, q1, q2, q3, q4, q5, q6, q7⟩ := rec_cells hR2
  replace hR2 := hide hR2
  go_wp2_with fail
  refine (appendNumber w1.heap.size _ acc2 r.epoch 3 _ hv2.out (by omega) (by omega)).mono ?_
  rintro e w3 ⟨acc3, pa3, cap3, rfl, hacc3, hv3, hb3⟩
  have hlen3 : acc3.length ≤ 4 := by rw [hacc3.out, List.length_append, bigL_len]; omega
  have hR3 := rc_keeps hb3.out hR2.out
  clear q0 q1 q2 q3 q4 q5 q6 q7
  obtain ⟨q0, q1, q2, q3, q4, q5, q6, q7⟩ := rec_cells hR3
  replace hR3 := hide hR3
  go_wp2_with fail
  refine (appendNumber w1.heap.size _ acc3 r.number 3 _ hv3.out (by omega) (by omega)).mono ?_
  rintro e w4 ⟨acc4, pa4, cap4, rfl, hacc4, hv4, hb4⟩
  have hlen4 : acc4.length ≤ 7 := by rw [hacc4.out, List.length_append, bigL_len]; omega
  have hpos4 : 0 < acc4.length := by rw [hacc4.out, List.length_append, bigL_len]; omega
  have hR4 := rc_keeps hb4.out hR3.out
  clear q0 q1 q2 q3 q4 q5 q6 q7
  obtain ⟨q0, q1, q2, q3, q4, q5, q6, q7⟩ := rec_cells hR4
  replace hR4 := hide hR4
  have W4 := hide (hb2.out.trans (hb3.out.trans hb4.out))
  have e4 : Hid (acc4 = bigL 1 r.kind ++ bigL 3 r.epoch ++ bigL 3 r.number) := by rw [hacc4.out, hacc3.out, hacc2.out]; rfl
  by_cases k2 : r.kind = 2
  · have k2' : (r.kind == 2) = true := by simpa using k2
    have Hrl : Hid (recL r = acc4 ++ (bigL 1 r.op ++ encR r.res)) := by unfold recL; rw [if_pos k2, e4.out]; rfl
    have Hsh := hide (may_sh (Hst.out k2).1)
    clear k2
    go_wp2_with fail
    refine (appendNumber w1.heap.size _ acc4 r.op 1 _ hv4.out (by omega) (by omega)).mono ?_
    rintro e w5 ⟨acc5, pa5, cap5, rfl, hacc5, hv5, hb5⟩
    have hlen5 : acc5.length ≤ 8 := by rw [hacc5.out, List.length_append, bigL_len]; omega
    have hR5 := rc_keeps hb5.out hR4.out
    clear q0 q1 q2 q3 q4 q5 q6 q7
    obtain ⟨q0, q1, q2, q3, q4, q5, q6, q7⟩ := rec_cells hR5
    replace hR5 := hide hR5
    have W5 := hide (W4.out.trans hb5.out)
    go_wp2_with fail
    refine (appendResource w1.heap.size _ _ _ acc5 r.res w1 _ hv5.out (by omega) (hr0.out.ext X1.out) W5.out.toExt (Nat.le_refl _) Hsh.out).mono ?_
    rintro e w6 ⟨acc6, pa6, cap6, rfl, hacc6, hv6, hb6⟩
    have hpos6 : 0 < acc6.length := by rw [hacc6.out, hacc5.out, List.length_append, List.length_append]; omega
    have hcv := hv6.out.conv hpos6
    have e6 : Hid (acc6 = recL r) := by rw [Hrl.out, hacc6.out, hacc5.out, List.append_assoc]; rfl
    go_wp2_with fail
    go_ret2
    exact ⟨by rw [H1.out, H2.out, ← e6.out]; rfl, X1.out.trans (W5.out.trans hb6.out).toExt⟩
  · have k2' : (r.kind == 2) = false := by simpa using k2
    have hcv := hv4.out.conv hpos4
    have e6 : Hid (acc4 = recL r) := by unfold recL; rw [if_neg k2, e4.out, List.append_nil]; rfl
    clear k2
    go_wp2_with fail
    go_ret2
    exact ⟨by rw [H1.out, H2.out, ← e6.out]; rfl, X1.out.trans W4.out.toExt⟩
end Go.Proofs.Ytokogjhcgdhapaa
