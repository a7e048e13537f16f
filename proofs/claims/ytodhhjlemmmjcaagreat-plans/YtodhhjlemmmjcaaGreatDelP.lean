/-
  What is to be taken away.
-/
import Derived.Test.YtodhhjlemmmjcaaGreatMakeP
namespace Go.Proofs.YtodhhjlemmmjcaaGreat
open Go.RowKit

attribute [local go_sem] Go.World.cell?_alloc_some
theorem flagT_len {op : Resd → Nat} : ∀ (l : List Resd) (fl : List Bool), (flagT op l fl).length ≤ l.length
  | [], _ => by simp [flagT]
  | _ :: _, [] => by simp [flagT]
  | x :: l, b :: fl => by
    have := flagT_len (op := op) l fl
    unfold flagT
    split
    · simp; exact this
    · simp; omega

set_option maxRecDepth 100000 in
set_option maxHeartbeats 6400000 in
theorem toDelete (u v : Value) (l m : List Resd) (w : World) (hu : RessV w u l) (hv : RessV w v m) (hl : mayAllB l = true) (hm : mayAllB m = true) :
    Calls Tryz.prog 19 #[u, v] w fun e w' => ∃ (t : Nat) (ss : List StepC), e = .returned (.pointer (some ⟨t, 0, none⟩)) ∧ Hid (ss.map StepC.d = delsL l m) ∧ Hid (TodoAt w.heap.size w' t ss) ∧ Hid (Ext w w') := by
  obtain ⟨pv, cv, rfl, cv1, cv2, hvm⟩ := hu.shape
  have l12 := may_few hl
  have hok : Hid (∀ x ∈ l, okS x) := fun x hx => by
    simp only [mayAllB, Bool.and_eq_true, List.all_eq_true] at hl
    exact may_okS (hl.1.2 x hx)
  have hup := hide (pair_up hl)
  have hby := hide (byID v m w hv hm)
  replace hu := hide hu; replace hv := hide hv; replace hvm := hide hvm; replace hm := hide hm; replace hl := hide hl
  go_enter Tryz.func19, Tryz.ntmps19
  go_wp2_with fail
  refine hby.out.mono ?_
  rintro e1 w1 ⟨t1, qs, rfl, hqs, hH1, X1⟩
  clear hby
  go_wp2_with fail
  refine (newTodo w1).mono ?_
  rintro e2 w2 ⟨t2, rfl, hT2, X2⟩
  have E2 := hide (X1.out.trans X2.out)
  have hH2 := hide (hH1.out.ext X2.out)
  have hT2' := hide (hT2.out.low (Ext.size X1.out))
  clear hH1 hT2
  go_wp2_with fail
  go_loopw [14] (fun iv wr => ∃ (k : Nat) (ss : List StepC), k ≤ l.length ∧ iv = .int .i64 k ∧ Hid (ss.map StepC.d = delsL (l.take k) m) ∧ Hid (TodoAt w.heap.size wr t2 ss) ∧ Hid (HaveAt w.heap.size wr t1 qs) ∧ Hid (Ext w wr)) (fun iv _ => l.length - (intOf iv).toNat)
  case atStart => exact ⟨0, [], Nat.zero_le _, rfl, by simp [Hid, delsL], hT2', hH2, E2⟩
  case round =>
    clear hT2' hH2 E2
    obtain ⟨k, ss, hk, rfl, hss, hT, hH, hX⟩ := hrel
    by_cases hlt : k < l.length
    · obtain ⟨x, hxk⟩ := some_of_lt hlt
      rcases hvm.out with h | ⟨b, off, rfl, hres⟩
      · rw [h] at hlt; simp at hlt
      obtain ⟨g0, g1, c2, c3, g2, g3, hR⟩ := hres k x hxk
      obtain ⟨a2, p2, rfl⟩ := hR.attrs.form
      obtain ⟨a3, p3, rfl⟩ := hR.after.form
      replace g0 := hX.out.cells g0; replace g1 := hX.out.cells g1; replace g2 := hX.out.cells g2; replace g3 := hX.out.cells g3
      have k2 : (k : Int) < (l.length : Int) := by omega
      have k4 : (0 : Int) ≤ (k : Int) := by omega
      have hless : Hid (∀ s ∈ ss, cmpI s.r.x.id x.id < 0) := fun s hs => by
        refine pair_take hup.out hxk s.r.x ?_
        have : s.d ∈ delsL (l.take k) m := by rw [← hss.out]; exact List.mem_map.2 ⟨s, hs, rfl⟩
        exact dels_ids this
      have hsl : ss.length ≤ 12 := by
        have h1 := congrArg List.length hss.out
        rw [List.length_map] at h1
        have h2 : (delsL (l.take k) m).length ≤ (l.take k).length := by rw [dels_flag]; exact flagT_len _ _
        rw [List.length_take] at h2
        omega
      have hfew : Hid ((ss.map rowS).length + 1 ≤ 1000000) := by show _ ≤ _; rw [List.length_map]; omega
      have hno : Hid (¬ HasK RowSt.key (ss.map rowS) x.id) := fun h => by
        obtain ⟨s, hs, e⟩ := hasS_iff.1 h
        have := hless.out s hs
        rw [e] at this
        exact not_less_self this
      replace hsl := hide hsl
      obtain ⟨wb, rfl⟩ : ∃ wb : World, wb = wr := ⟨_, rfl⟩
      have Bx := hide (heap_alloc_new wb (.cells #[.string x.id.kind, .string x.id.name, .slice a2 x.attrs.length p2, .slice a3 x.after.length p3] 56))
      have Eb := hide ((Ext.refl wb).alloc (.cells #[.string x.id.kind, .string x.id.name, .slice a2 x.attrs.length p2, .slice a3 x.after.length p3] 56))
      obtain ⟨vH, hHt⟩ := hH.out.tab
      have hget := hide (tabHasRs w.heap.size vH (qs.map rowR) x.id t1 _ (hHt.ext Eb.out))
      replace hHt := hide hHt
      have hstep := hide (dels_step (m := m) hxk)
      replace hres := hide hres; replace hR := hide hR; replace hxk := hide hxk
      go_wp2_with fail
      refine hget.out.mono ?_
      rintro e3 w3 ⟨b3', rfl, hb3, he3⟩
      clear hget
      have BZ := hide (ext_at he3.out Bx.out)
      have EW := hide (Eb.out.trans he3.out)
      have EZ := hide (hX.out.trans EW.out)
      have hTZ := hide (hT.out.ext EW.out)
      have hHZ := hide (hH.out.ext EW.out)
      have hgo : Hid (isGone m x = !b3') := by
        show _ = _
        have : (∃ q ∈ qs, q.x.id = x.id) ↔ x.id ∈ m.map Resd.id := by
          rw [← hqs.out, List.map_map, List.mem_map]
          exact Iff.rfl
        cases b3' with
        | true =>
          have h1 := this.1 (hasK_iff.1 (hb3.out.1 rfl))
          simp [isGone] at h1 ⊢
          exact h1
        | false =>
          have h1 : x.id ∉ m.map Resd.id := fun h => by have := hb3.out.2 (hasK_iff.2 (this.2 h)); cases this
          simp only [isGone, Bool.not_false, decide_eq_true_eq]
          exact h1
      cases b3' with
      | true =>
        go_wp2_with fail
        go_roundw
        case rel => exact ⟨k + 1, ss, by omega, by go_num, by show _ = _; rw [hstep.out, hgo.out, hss.out]; simp, hTZ, hHZ, EZ⟩
        case measure => simp [intOf]; omega
      | false =>
        obtain ⟨z0, z1, z2, z3⟩ := boxIs BZ.out
        go_wp2_with fail
        go_region_held3 (fun w' => w'.cell? ⟨wb.heap.size, 0, none⟩ = some (.string x.id.kind) ∧ w'.cell? ⟨wb.heap.size, 1, none⟩ = some (.string x.id.name) ∧ w'.cell? ⟨wb.heap.size, 2, none⟩ = some (.slice a2 x.attrs.length p2) ∧ w'.cell? ⟨wb.heap.size, 3, none⟩ = some (.slice a3 x.after.length p3)) (go_keep)
          ((first
            | (go_at_call 45; have X3 := hE5; refine (tabPutSt w.heap.size vt (ss.map rowS) x.id ⟨3, ⟨x, b2, x.attrs.length, r2, b3, x.after.length, r3⟩⟩ t2 _ (htb.ext (by first | exact E5.out | exact E5.out.drew | exact E5.out.drewN _)) hno.out (by have := Ext.size EZ.out; have := Ext.size E5.out; first | omega | (simp; omega)) hfew.out).mono ?_; rintro e6 w6 ⟨i6, pa6, cap6, n6, rfl, hs6, hT6, hW6⟩; go_must (have W6 := hide (Wrote.trans (Wrote.ext (by first | exact Ext.refl w5 | exact (Ext.refl w5).drew | exact (Ext.refl w5).drewN _)) hW6.out); have B6 := W6.out.keeps B5.out (by decide); obtain ⟨q0, q1, q2, q3⟩ := boxIs B6; replace B6 := hide B6))
            | (go_at_call 46; refine (copyRes _ _ x _ (hR.out.ext (by first | exact EZ.out | exact EZ.out.drew | exact EZ.out.drewN _))).mono ?_; rintro e5 w5 ⟨b2, b3, r2, r3, rfl, hO5, hE5⟩; go_must (have E5 : Hid (Ext (w3) w5) := Ext.trans (by first | exact Ext.refl _ | exact (Ext.refl _).drew | exact (Ext.refl _).drewN _) hE5.out; have B5 := ext_at E5.out BZ.out; obtain ⟨q0, q1, q2, q3⟩ := boxIs B5; replace B5 := hide B5; obtain ⟨vt, htb⟩ := hTZ.out.tab))))
        have hbase : Hid (OwnR w.heap.size w5 (.slice b2 x.attrs.length r2) (.slice b3 x.after.length r3) x) := hO5.out.low (by have := Ext.size EZ.out; first | exact this | omega | (simp; omega) | (simp at this ⊢; omega))
        have hap : Hid (∀ s ∈ ss, ApartC s.r ⟨x, b2, x.attrs.length, r2, b3, x.after.length, r3⟩) := fun s hs => ApartC.new (hTZ.out.each s hs).1 hO5.out (by first | exact Nat.le_refl _ | simp)
        go_wp2_with fail
        go_roundw
        case rel => exact ⟨k + 1, ss ++ [(⟨3, ⟨x, b2, x.attrs.length, r2, b3, x.after.length, r3⟩⟩ : StepC)], by omega, by go_num, by show _ = _; rw [List.map_append, hss.out, hstep.out, hgo.out]; rfl, todo_put (hTZ.out.ext E5.out) hbase.out (hok.out x (List.mem_of_getElem? hxk.out)) hless.out hap.out hs6.out hT6.out W6.out, (hHZ.out.ext E5.out).wrote W6.out (by decide), (EZ.out.trans E5.out).wrote W6.out (Nat.le_refl _)⟩
        case measure => simp [intOf]; omega
    · obtain rfl : k = l.length := by omega
      go_wp2_with fail
      go_ret
      exact ⟨t2, ss, rfl, by show _ = _; rw [hss.out, List.take_length], hT, hX⟩
end Go.Proofs.YtodhhjlemmmjcaaGreat
