/-
  A record as bytes: what the reference's function answers.
-/
import Derived.Test.YtokogjhcgdhapaaRefRes
import Derived.Test.YtokogjhcgdhapaaRefRec
import Derived.Test.YtokogjhcgdhapaaEncode
namespace Go.Proofs.Ytokogjhcgdhapaa
open Go.RowKit

theorem rec_in {r : Recd} (h : recB r = true) : 1 ≤ r.epoch ∧ r.epoch ≤ 1000000 ∧ 0 ≤ r.number ∧ r.number ≤ 1000000 ∧ 1 ≤ r.kind ∧ r.kind ≤ 4 := by
  simp only [recB, Bool.and_eq_true, decide_eq_true_eq] at h
  obtain ⟨⟨h1, h2, h3, h4⟩, h5⟩ := h
  refine ⟨h1, h2, h3, h4, ?_⟩
  split at h5
  · omega
  · split at h5
    · omega
    · split at h5
      · omega
      · cases h5
theorem encR_lenB {x : Resd} (h : mayB x = true) : (encR x).length ≤ 400000 := by
  obtain ⟨h1, h2, h3, h4, h5⟩ := may_sh h
  have a := listL_len (f := attrL) (n := 600) (fun x hh => attrL_len (h2 x hh)) h4
  have b := listL_len (f := idL) (n := 600) (fun x hh => idL_len (h3 x hh)) h5
  have c := idL_len h1
  rw [encR, List.length_append, List.length_append]; omega
theorem refRes' (c2 c3 : Value) (x : Resd) (w : World) (hr : ResV w c2 c3 x) (hm : mayB x = true) :
    Calls Try.prog 17 #[.agg #[.string x.id.kind, .string x.id.name, c2, c3]] w (StrIs w (encR x) 400000) :=
  (refRes c2 c3 x w hr hm).mono fun _ _ ⟨h, he⟩ => StrIs.mk h (encR_lenB hm) he

set_option maxRecDepth 100000 in
set_option maxHeartbeats 1600000 in
theorem refEncode (r : Recd) (c2 c3 : Value) (w : World) (hr : ResV w c2 c3 r.res) :
    Calls Try.prog 8 #[.agg #[.int .i64 r.kind, .int .i64 r.epoch, .int .i64 r.number, .int .i64 r.op, .string r.res.id.kind, .string r.res.id.name, c2, c3]] w fun e w' => e = .returned (.tuple #[.string (encS r), .int .i64 (encE r)]) ∧ Ext w w' := by
  have hr0 := hide hr
  obtain ⟨hI, hA, hF⟩ := hr
  obtain ⟨a2, p2, rfl⟩ := hA.form
  obtain ⟨a3, p3, rfl⟩ := hF.form
  replace hA := hide hA; replace hF := hide hF; replace hI := hide hI
  go_enter Try.func8, Try.ntmps8
  go_wp2_with fail
  refine (refRecMay r _ _ _ (hr0.out.ext ((Ext.refl _).alloc _))).mono ?_
  rintro e w1 ⟨rfl, he1⟩
  have hR := ext_heap0 he1 (heap_alloc_new w _)
  have X1 := hide (((Ext.refl w).alloc _).trans he1)
  clear he1
  obtain ⟨q0, q1, q2, q3, q4, q5, q6, q7⟩ := rec_cells hR
  replace hR := hide hR
  cases hm : recB r
  · have H1 : Hid (encS r = ⟨#[]⟩) := by unfold encS; rw [hm]; rfl
    have H2 : Hid (encE r = 11) := by unfold encE; rw [hm]; rfl
    go_wp2_with fail
    go_ret2
    exact ⟨by rw [H1.out, H2.out]; rfl, X1.out⟩
  have H1 : Hid (encS r = ⟨(recL r).toArray⟩) := by unfold encS; rw [hm]; rfl
  have H2 : Hid (encE r = 0) := by unfold encE; rw [hm]; rfl
  have Hst := hide (@rec_step r hm)
  obtain ⟨b1, b2, b3, b4, b5, b6⟩ := rec_in hm
  replace hm := hide hm
  go_wp2_with fail
  go_region_held3 (fun w' => w'.cell? ⟨w.heap.size, 0, none⟩ = some (.int .i64 r.kind) ∧ w'.cell? ⟨w.heap.size, 1, none⟩ = some (.int .i64 r.epoch) ∧ w'.cell? ⟨w.heap.size, 2, none⟩ = some (.int .i64 r.number)) (go_keep)
    ((go_at_call 16; first
      | (refine (refBig' r.number 3 w3 (by omega) (by omega) (by omega)).mono ?_; rintro e w4 ⟨t4, rfl, ht4, hz4, he4⟩; go_must (have hR4 := ext_heap0 he4.out hR3.out; clear q0 q1 q2 q3 q4 q5 q6 q7; obtain ⟨q0, q1, q2, q3, q4, q5, q6, q7⟩ := rec_cells hR4; replace hR4 := hide hR4; have o4 := nof (a := t2.size + t3.size) (b := t4.size) (by omega)))
      | (refine (refBig' r.epoch 3 w2 (by omega) (by omega) (by omega)).mono ?_; rintro e w3 ⟨t3, rfl, ht3, hz3, he3⟩; go_must (have hR3 := ext_heap0 he3.out hR2.out; clear q0 q1 q2 q3 q4 q5 q6 q7; obtain ⟨q0, q1, q2, q3, q4, q5, q6, q7⟩ := rec_cells hR3; replace hR3 := hide hR3; have o3 := nof (a := t2.size) (b := t3.size) (by omega)))
      | (refine (refBig' r.kind 1 _ (by omega) (by omega) (by omega)).mono ?_; rintro e w2 ⟨t2, rfl, ht2, hz2, he2⟩; go_must (have hR2 := ext_heap0 he2.out hR.out; clear q0 q1 q2 q3 q4 q5 q6 q7; obtain ⟨q0, q1, q2, q3, q4, q5, q6, q7⟩ := rec_cells hR2; replace hR2 := hide hR2))))
  have X4 := hide (X1.out.drew.trans (he2.out.trans (he3.out.trans he4.out)))
  have hz : (t2 ++ t3 ++ t4).size ≤ 12 := by rw [sz_app, sz_app]; omega
  have hs0 : Hid ((t2 ++ t3 ++ t4).data.toList = bigL 1 r.kind ++ bigL 3 r.epoch ++ bigL 3 r.number) := by show _ = _; rw [dl_app, dl_app, ht2.out, ht3.out, ht4.out]
  generalize t2 ++ t3 ++ t4 = sb at *
  rename_i hHeld
  clear o3 o4 hHeld
  by_cases k2 : r.kind = 2
  · have k2' : (r.kind == 2) = true := by simpa using k2
    have Hrl : Hid (recL r = sb.data.toList ++ (bigL 1 r.op ++ encR r.res)) := by unfold recL; rw [if_pos k2, hs0.out]; rfl
    obtain ⟨hmay, op1, op2⟩ := Hst.out k2
    replace hmay := hide hmay
    clear k2
    go_wp2_with fail
    go_region_held3 (fun w' => w'.cell? ⟨w.heap.size, 3, none⟩ = some (.int .i64 r.op) ∧ w'.cell? ⟨w.heap.size, 4, none⟩ = some (.string r.res.id.kind) ∧ w'.cell? ⟨w.heap.size, 5, none⟩ = some (.string r.res.id.name) ∧ w'.cell? ⟨w.heap.size, 6, none⟩ = some (.slice a2 r.res.attrs.length p2) ∧ w'.cell? ⟨w.heap.size, 7, none⟩ = some (.slice a3 r.res.after.length p3)) (go_keep)
      (first
        | (go_at_call 17; refine (refRes' _ _ r.res w5 (hr0.out.ext (X4.out.drew.trans he5.out)) hmay.out).mono ?_; rintro e w6 ⟨t6, rfl, ht6, hz6, he6⟩; go_must (have hR6 := ext_heap0 he6.out hR5.out; clear q0 q1 q2 q3 q4 q5 q6 q7; obtain ⟨q0, q1, q2, q3, q4, q5, q6, q7⟩ := rec_cells hR6; replace hR6 := hide hR6; have o6 := nof (a := sb.size + t5.size) (b := t6.size) (by omega)))
        | (go_at_call 16; refine (refBig' r.op 1 _ (by omega) (by omega) (by omega)).mono ?_; rintro e w5 ⟨t5, rfl, ht5, hz5, he5⟩; go_must (have hR5 := ext_heap0 he5.out hR4.out; clear q0 q1 q2 q3 q4 q5 q6 q7; obtain ⟨q0, q1, q2, q3, q4, q5, q6, q7⟩ := rec_cells hR5; replace hR5 := hide hR5; have o5 := nof (a := sb.size) (b := t5.size) (by omega))))
    go_wp2
    go_ret2
    refine ⟨?_, X4.out.drew.trans (he5.out.trans he6.out)⟩
    have e : encS r = sb ++ t5 ++ t6 := by
      rw [H1.out]; apply ByteArray.ext; apply Array.toList_inj.1
      rw [dl_app, dl_app, ht5.out, ht6.out]
      show recL r = _
      rw [Hrl.out]; simp
    rw [e, H2.out]; rfl
  · have k2' : (r.kind == 2) = false := by simpa using k2
    have e6 : Hid (encS r = sb) := by
      show _ = _
      rw [H1.out]; apply ByteArray.ext; apply Array.toList_inj.1
      rw [hs0.out]
      show recL r = _
      unfold recL; rw [if_neg k2, List.append_nil]
    clear k2
    go_wp2_with fail
    go_ret2
    exact ⟨by rw [e6.out, H2.out]; rfl, X4.out⟩
end Go.Proofs.Ytokogjhcgdhapaa
