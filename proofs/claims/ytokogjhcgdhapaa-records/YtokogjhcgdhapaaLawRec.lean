/-
  The law Records: it answers true.
-/
import Derived.Test.YtokogjhcgdhapaaDecodes
import Derived.Test.YtokogjhcgdhapaaUnspoilt
import Derived.Test.YtokogjhcgdhapaaSum
namespace Go.Proofs.Ytokogjhcgdhapaa
open Go.RowKit

theorem one_ress {w : World} {x : Resd} {c2 c3 : Value} (h : ResV w c2 c3 x) : RessV (w.alloc (.cells #[.string x.id.kind, .string x.id.name, c2, c3] 29)) (.slice (some ⟨w.heap.size, 0, none⟩) 1 1) [x] := by
  refine ⟨⟨some ⟨w.heap.size, 0, none⟩, 1, rfl, Nat.le_refl _, by omega, .inr ⟨w.heap.size, 0, rfl, ?_⟩⟩, by simp⟩
  intro i y hy
  have hi : i = 0 := by
    have := (List.getElem?_eq_some_iff.1 hy).1; simpa using this
  subst hi
  obtain rfl : x = y := by simpa using hy
  obtain ⟨k0, k1, k2, k3⟩ := four_cells (heap_alloc_new w (.cells #[.string x.id.kind, .string x.id.name, c2, c3] 29))
  simp only [Nat.zero_mul, Nat.zero_add, Nat.add_zero]
  exact ⟨k0, k1, c2, c3, k2, k3, h.ext ((Ext.refl w).alloc _)⟩

theorem recL_len {r : Recd} (h : recB r = true) : (⟨(recL r).toArray⟩ : ByteArray).size ≤ 9223372036854775807 := by
  show (recL r).length ≤ 9223372036854775807
  unfold recL
  rw [List.length_append, List.length_append, List.length_append, bigL_len, bigL_len, bigL_len]
  split
  · rename_i hk
    have := encR_lenB (rec_step h hk).1
    rw [List.length_append, bigL_len]; omega
  · simp

set_option maxRecDepth 100000 in
set_option maxHeartbeats 6400000 in
theorem recordsLaw (r : Recd) (c2 c3 : Value) (s : ByteArray) (w : World) (hr : ResV w c2 c3 r.res) (hok : okR r.res) (hs : s.size ≤ 9223372036854775807) :
    Calls Try.prog 3 #[.agg #[.int .i64 r.kind, .int .i64 r.epoch, .int .i64 r.number, .int .i64 r.op, .string r.res.id.kind, .string r.res.id.name, c2, c3], .string s] w fun e w' => e = .returned (.bool true) ∧ Ext w w' := by
  have hr0 := hide hr
  obtain ⟨hI, hA, hF⟩ := hr
  obtain ⟨a2, p2, rfl⟩ := hA.form
  obtain ⟨a3, p3, rfl⟩ := hF.form
  replace hA := hide hA; replace hF := hide hF; replace hI := hide hI; replace hok := hide hok
  go_enter Try.func3, Try.ntmps3
  have hsm := hide (sum s)
  have hsr := hide (refSum s)
  generalize sumL s.data.toList = z at *
  go_wp2_with fail
  refine (hsm.out _ hs).mono ?_
  rintro e wq ⟨rfl, he1⟩
  have X1 := hide (((Ext.refl w).alloc _).trans he1)
  have hR1 := ext_heap he1 (heap_alloc_new w _)
  clear he1
  obtain ⟨q0, q1, q2, q3, q4, q5, q6, q7⟩ := ecells hR1
  have hlR : w.heap.size < wq.heap.size := (Array.getElem?_eq_some_iff.1 hR1).1
  replace hR1 := hide hR1
  go_wp2_with fail
  refine (hsr.out _ hs).mono ?_
  rintro e w1 ⟨rfl, rfl⟩
  clear hsm hsr
  go_wp2_with fail
  have hrow := hide (one_ress (x := r.res) (w := w1) (hr0.out.ext X1.out))
  have hoks : ∀ x ∈ [r.res], okR x := fun x hx => by
    obtain rfl : x = r.res := by simpa using hx
    exact hok.out
  replace hoks := hide hoks
  refine (lend _ [r.res] _ hrow.out (by simp) hoks.out).mono ?_
  rintro e w2 ⟨he2, ps, O, L, va, vf, hpl, rfl, hL⟩
  have hps : ps.length = 1 := by have := congrArg List.length hpl; simpa using this
  have o0 : w2.cell? ⟨O, 0, none⟩ = some (.slice (some ⟨L, 0, none⟩) 9 9) := (block_cell' hL.o 0).trans rfl
  have rv := hL.ress hps (by simp)
  rw [hpl] at rv
  obtain ⟨⟨ra, rc, hrv, _, _, hin⟩, _⟩ := rv
  obtain ⟨rfl, rfl⟩ : ra = some ⟨L, 0, none⟩ ∧ rc = 1 + 8 := by simpa using hrv.symm
  clear hrv
  rcases hin with hin | ⟨b, off, hba, hin⟩
  · cases hin
  obtain ⟨rfl, rfl⟩ : L = b ∧ 0 = off := by simpa using hba
  obtain ⟨l0, l1, d2, d3, l2, l3, hres2⟩ := hin 0 r.res rfl
  obtain ⟨b2, t2, rfl⟩ := hres2.attrs.form
  obtain ⟨b3, t3, rfl⟩ := hres2.after.form
  simp only [Nat.zero_mul, Nat.zero_add, Nat.add_zero] at l0 l1 l2 l3
  have X2 : Ext w1 w2 := ((Ext.refl w1).alloc _).trans he2
  have hR2 := ext_heap X2 hR1.out
  clear q0 q1 q2 q3 q4 q5 q6 q7
  obtain ⟨q0, q1, q2, q3, q4, q5, q6, q7⟩ := ecells hR2
  have hlR2 : w.heap.size < w2.heap.size := (Array.getElem?_eq_some_iff.1 hR2).1
  have hlO2 : O < w2.heap.size := World.block_lt_of_cell? w2 _ o0
  have hlL2 : L < w2.heap.size := World.block_lt_of_cell? w2 _ l0
  replace hR2 := hide hR2; replace X2 := hide X2; replace hL := hide hL; replace he2 := hide he2; replace hpl := hide hpl; replace hps := hide hps; replace hres2 := hide hres2; replace hin := hide hin
  go_wp2_with fail
  refine (encode r _ _ _ (hres2.out.ext ((Ext.refl _).alloc _))).mono ?_
  rintro e w3 ⟨rfl, he3⟩
  have X3 : Ext w2 w3 := ((Ext.refl w2).alloc _).trans he3
  have hR3 := ext_heap X3 hR2.out
  clear q0 q1 q2 q3 q4 q5 q6 q7 he3
  obtain ⟨q0, q1, q2, q3, q4, q5, q6, q7⟩ := ecells hR3
  replace hR3 := hide hR3; replace X3 := hide X3
  have hsz : (encS r).size ≤ 9223372036854775807 := by
    unfold encS
    split
    · rename_i hb
      exact recL_len hb
    · exact Nat.zero_le _
  have hcase : encE r = 0 ∨ encE r = 11 := by unfold encE; split <;> simp
  have href := hide (refEncode r)
  generalize encS r = es at *
  generalize encE r = ee at *
  go_wp2_with fail
  refine (href.out _ _ _ (hr0.out.ext ((X1.out.trans X2.out).trans X3.out))).mono ?_
  rintro e w4 ⟨rfl, he4⟩
  have X4 := hide he4
  have hR4 := ext_heap he4 hR3.out
  clear q0 q1 q2 q3 q4 q5 q6 q7 he4 href
  obtain ⟨q0, q1, q2, q3, q4, q5, q6, q7⟩ := ecells hR4
  have hlR4 : w.heap.size < w4.heap.size := (Array.getElem?_eq_some_iff.1 hR4).1
  replace hR4 := hide hR4
  have hres4 := hide (hr0.out.ext ((X1.out.trans X2.out).trans (X3.out.trans X4.out)))
  have hrow4 := hide (one_ress hres4.out)
  have X5 : Ext w4 (w4.alloc (.cells #[.string r.res.id.kind, .string r.res.id.name, .slice a2 r.res.attrs.length p2, .slice a3 r.res.after.length p3] 29)) := (Ext.refl w4).alloc _
  replace X5 := hide X5
  go_wp2_with fail
  refine (unspoilt _ _ [r.res] ps O L va vf _ hrow4.out (by simp) hoks.out hpl.out (hL.out.ext ((X3.out.trans X4.out).trans X5.out))).mono ?_
  rintro e w6 ⟨rfl, hk6⟩
  have Xw4 : Ext w w4 := (X1.out.trans X2.out).trans (X3.out.trans X4.out)
  have X6 : Ext w w6 := Ext.since (Xw4.trans X5.out) hk6 (fun j hj => Nat.le_trans (Nat.le_trans X1.out.size (by simp)) hj)
  replace X6 := hide X6; replace hk6 := hide hk6; replace Xw4 := hide Xw4
  rcases hcase with rfl | rfl
  · go_wp2_with fail
    refine (decodes es _ hsz).mono ?_
    rintro e w7 ⟨rfl, he7⟩
    replace he7 := hide he7
    go_wp2_with fail
    refine (decodes s _ hs).mono ?_
    rintro e w8 ⟨rfl, he8⟩
    replace he8 := hide he8
    go_wp2_with fail
    go_ret
    exact ⟨rfl, X6.out.trans (he7.out.trans he8.out)⟩
  · go_wp2_with fail
    refine (decodes s _ hs).mono ?_
    rintro e w8 ⟨rfl, he8⟩
    replace he8 := hide he8
    go_wp2_with fail
    go_ret
    exact ⟨rfl, X6.out.trans he8.out⟩
end Go.Proofs.Ytokogjhcgdhapaa
