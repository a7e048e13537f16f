/-
  What is to be made, what is to be taken away.
-/
import Derived.Test.YtodhhjlemmmjcaaGreatInOrd
import Derived.Test.YtodhhjlemmmjcaaGreatJ25
import Derived.Test.YtodhhjlemmmjcaaGreatEqlP
import Derived.Test.YtodhhjlemmmjcaaGreatRfSpN
import Derived.Test.YtodhhjlemmmjcaaGreatJ5
namespace Go.Proofs.YtodhhjlemmmjcaaGreat
open Go.RowKit

attribute [local go_sem] Go.World.cell?_alloc_some
theorem todo_put {B t : Nat} {w w' : World} {ss : List StepC} {op : Nat} {x : Resd} {a2 a3 : Option Addr} {p2 p3 i n6 cap6 : Nat} {pa6 : Option Addr} (h : TodoAt B w t ss) (ho : OwnR B w (.slice a2 x.attrs.length p2) (.slice a3 x.after.length p3) x) (hok : okS x) (hl : ∀ s ∈ ss, cmpI s.r.x.id x.id < 0) (hap : ∀ s ∈ ss, ApartC s.r ⟨x, a2, x.attrs.length, p2, a3, x.after.length, p3⟩)
    (hs : StandsG cmpI RowSt.key (ss.map rowS) x.id i) (hT : TabAtSt B w' t (.slice pa6 n6 cap6) (insG (ss.map rowS) i ⟨x.id, ⟨op, ⟨x, a2, x.attrs.length, p2, a3, x.after.length, p3⟩⟩⟩)) (hW : WroteTSt B w w') : TodoAt B w' t (ss ++ [⟨op, ⟨x, a2, x.attrs.length, p2, a3, x.after.length, p3⟩⟩]) := by
  refine ⟨⟨.slice pa6 n6 cap6, ?_⟩, ?_, ?_⟩
  · have hi := stands_end hs (fun y hy => by
      obtain ⟨q, hq, rfl⟩ := List.mem_map.1 hy
      exact hl q hq)
    rw [hi, insG_end] at hT
    rw [List.map_append]; exact hT
  · intro q hq
    rcases List.mem_append.1 hq with hq | hq
    · exact ⟨(h.each q hq).1.put hW (by decide) (by decide), (h.each q hq).2⟩
    · obtain rfl : q = _ := by simpa using hq
      exact ⟨ho.put hW (by decide) (by decide), hok⟩
  · refine List.pairwise_append.2 ⟨h.apart, List.pairwise_singleton _ _, fun p hp q hq => ?_⟩
    obtain rfl : q = _ := by simpa using hq
    exact hap p hp
theorem makes_step {l m : List Resd} {k : Nat} {x : Resd} (hx : m[k]? = some x) : makesL l (m.take (k + 1)) = makesL l (m.take k) ++ (makeOf l x).toList := by
  unfold makesL
  rw [List.take_add_one, hx, List.filterMap_append]
  simp [List.filterMap_cons]
  cases makeOf l x <;> rfl
theorem make_new {l : List Resd} {x : Resd} (h : ∀ y ∈ l, y.id ≠ x.id) : makeOf l x = some ⟨1, x⟩ := by
  classical
  unfold makeOf
  have : l.find? (fun o => decide (o.id = x.id)) = none := by
    rw [List.find?_eq_none]
    intro y hy
    simpa using h y hy
  rw [this]
theorem find_old {l : List Resd} (ha : Apart l) {x y : Resd} (hy : y ∈ l) (hid : y.id = x.id) : l.find? (fun o => @decide (o.id = x.id) (Classical.propDecidable _)) = some y := by
  obtain ⟨j, hj⟩ := List.mem_iff_getElem?.1 hy
  have hp : placeL l x.id = some j := by rw [← hid]; exact place_self ha hj
  rw [find_place, hp]; exact hj
theorem make_same {l : List Resd} (ha : Apart l) {x y : Resd} (hy : y ∈ l) (hid : y.id = x.id) (h : y = x) : makeOf l x = none := by
  unfold makeOf
  rw [find_old ha hy hid]
  exact if_pos h
theorem make_else {l : List Resd} (ha : Apart l) {x y : Resd} (hy : y ∈ l) (hid : y.id = x.id) (h : ¬ y = x) : makeOf l x = some ⟨2, x⟩ := by
  unfold makeOf
  rw [find_old ha hy hid]
  exact if_neg h
theorem dels_step {l m : List Resd} {k : Nat} {x : Resd} (hx : l[k]? = some x) : delsL (l.take (k + 1)) m = delsL (l.take k) m ++ (if isGone m x = true then [⟨3, x⟩] else []) := by
  unfold delsL
  rw [List.take_add_one, hx, List.filter_append, List.map_append]
  congr 1
  show List.map _ (List.filter (isGone m) [x]) = _
  by_cases h : isGone m x = true
  · rw [if_pos h, List.filter_cons_of_pos h]; rfl
  · rw [if_neg h, List.filter_cons_of_neg h]; rfl
theorem makes_ids {l m : List Resd} {s : StepD} (h : s ∈ makesL l m) : s.x ∈ m := by
  unfold makesL at h
  obtain ⟨y, hy, he⟩ := List.mem_filterMap.1 h
  rw [make_is] at he
  split at he
  · cases he; exact hy
  · cases he
theorem dels_ids {l m : List Resd} {s : StepD} (h : s ∈ delsL l m) : s.x ∈ l := by
  unfold delsL at h
  obtain ⟨y, hy, rfl⟩ := List.mem_map.1 h
  exact (List.mem_filter.1 hy).1

set_option maxRecDepth 100000 in
set_option maxHeartbeats 800000 in
theorem newTodo (w : World) :
    Calls Tryz.prog 43 #[] w fun e w' => ∃ t, e = .returned (.pointer (some ⟨t, 0, none⟩)) ∧ Hid (TodoAt w.heap.size w' t []) ∧ Hid (Ext w w') := by
  go_enter Tryz.func43, Tryz.ntmps43
  go_wp2_with fail
  refine (tabNewSt w).mono ?_
  rintro e1 w1 ⟨rfl, hT, hw⟩
  have X : Hid (Ext w w1) := by show Ext w w1; rw [hw.out]; exact (Ext.refl w).alloc _
  clear hw
  go_wp2_with fail
  go_ret
  exact ⟨w.heap.size, rfl, ⟨⟨_, hT.out⟩, fun s hs => (by cases hs), List.Pairwise.nil⟩, X⟩

set_option maxRecDepth 100000 in
set_option maxHeartbeats 6400000 in
theorem toMake (u v : Value) (l m : List Resd) (w : World) (hu : RessV w u l) (hv : RessV w v m) (hl : mayAllB l = true) (hm : mayAllB m = true) :
    Calls Tryz.prog 18 #[u, v] w fun e w' => ∃ (t : Nat) (ss : List StepC), e = .returned (.pointer (some ⟨t, 0, none⟩)) ∧ Hid (ss.map StepC.d = makesL l m) ∧ Hid (TodoAt w.heap.size w' t ss) ∧ Hid (Ext w w') := by
  obtain ⟨pv, cv, rfl, cv1, cv2, hvm⟩ := hv.shape
  have m12 := may_few hm
  have hok : Hid (∀ x ∈ m, okS x) := fun x hx => by
    simp only [mayAllB, Bool.and_eq_true, List.all_eq_true] at hm
    exact may_okS (hm.1.2 x hx)
  have hup := hide (pair_up hm)
  have hap0 := hide (may_apart hl)
  have hby := hide (byID u l w hu hl)
  replace hu := hide hu; replace hv := hide hv; replace hvm := hide hvm; replace hm := hide hm; replace hl := hide hl
  go_enter Tryz.func18, Tryz.ntmps18
  go_wp2_with fail
  refine hby.out.mono ?_
  rintro e1 w1 ⟨t1, qs, rfl, hqs, hH1, X1⟩
  clear hby
  go_wp2_with fail
  refine (newTodo w1).mono ?_
  rintro e2 w2 ⟨t2, rfl, hT2, X2⟩
  have E2 := hide (X1.out.trans X2.out)
  have hH2 := hide (hH1.out.ext X2.out)
  have hT2' := hide (hT2.out.low (Ext.size X1.out))
  clear hH1 hT2
  go_wp2_with fail
  go_loopw [16] (fun iv wr => ∃ (k : Nat) (ss : List StepC), k ≤ m.length ∧ iv = .int .i64 k ∧ Hid (ss.map StepC.d = makesL l (m.take k)) ∧ Hid (TodoAt w.heap.size wr t2 ss) ∧ Hid (HaveAt w.heap.size wr t1 qs) ∧ Hid (Ext w wr)) (fun iv _ => m.length - (intOf iv).toNat)
  case atStart => exact ⟨0, [], Nat.zero_le _, rfl, by simp [Hid, makesL], hT2', hH2, E2⟩
  case round =>
    clear hT2' hH2 E2
    obtain ⟨k, ss, hk, rfl, hss, hT, hH, hX⟩ := hrel
    by_cases hlt : k < m.length
    · obtain ⟨x, hxk⟩ := some_of_lt hlt
      rcases hvm.out with h | ⟨b, off, rfl, hres⟩
      · rw [h] at hlt; simp at hlt
      obtain ⟨g0, g1, c2, c3, g2, g3, hR⟩ := hres k x hxk
      obtain ⟨a2, p2, rfl⟩ := hR.attrs.form
      obtain ⟨a3, p3, rfl⟩ := hR.after.form
      replace g0 := hX.out.cells g0; replace g1 := hX.out.cells g1; replace g2 := hX.out.cells g2; replace g3 := hX.out.cells g3
      have k2 : (k : Int) < (m.length : Int) := by omega
      have k4 : (0 : Int) ≤ (k : Int) := by omega
      have hless : Hid (∀ s ∈ ss, cmpI s.r.x.id x.id < 0) := fun s hs => by
        refine pair_take hup.out hxk s.r.x ?_
        have : s.d ∈ makesL l (m.take k) := by rw [← hss.out]; exact List.mem_map.2 ⟨s, hs, rfl⟩
        exact makes_ids this
      have hsl : ss.length ≤ 12 := by
        have h1 := congrArg List.length hss.out
        rw [List.length_map] at h1
        have h2 : (makesL l (m.take k)).length ≤ (m.take k).length := List.length_filterMap_le _ _
        rw [List.length_take] at h2
        omega
      have hfew : Hid ((ss.map rowS).length + 1 ≤ 1000000) := by show _ ≤ _; rw [List.length_map]; omega
      have hno : Hid (¬ HasK RowSt.key (ss.map rowS) x.id) := fun h => by
        obtain ⟨s, hs, e⟩ := hasS_iff.1 h
        have := hless.out s hs
        rw [e] at this
        exact not_less_self this
      replace hsl := hide hsl
      obtain ⟨wb, rfl⟩ : ∃ wb : World, wb = wr := ⟨_, rfl⟩
      have Bx := hide (heap_alloc_new wb (.cells #[.string x.id.kind, .string x.id.name, .slice a2 x.attrs.length p2, .slice a3 x.after.length p3] 56))
      have Eb := hide ((Ext.refl wb).alloc (.cells #[.string x.id.kind, .string x.id.name, .slice a2 x.attrs.length p2, .slice a3 x.after.length p3] 56))
      have hget := hide (getRs w.heap.size qs x.id t1 _ (hH.out.ext Eb.out))
      have hstep := hide (makes_step (l := l) hxk)
      replace hres := hide hres; replace hR := hide hR; replace hxk := hide hxk
      go_wp2_with fail
      refine hget.out.mono ?_
      rintro e3 w3 ⟨hcase, he3⟩
      clear hget
      have E3 := hide (Eb.out.trans he3.out)
      rcases hcase with ⟨q, hq, hqid, rfl⟩ | ⟨hnone, rfl⟩
      · have hqm : Hid (q.x ∈ l) := by show _ ∈ _; rw [← hqs.out]; exact List.mem_map.2 ⟨q, hq, rfl⟩
        have hqv : Hid (ResV w3 q.c2 q.c3 q.x) := OwnR.resV ((hH.out.each q hq).1.ext E3.out) (hH.out.each q hq).2
        have Ez := hide ((Ext.refl w3).alloc (.cells #[.string q.x.id.kind, .string q.x.id.name, .slice q.a2 q.n2 q.p2, .slice q.a3 q.n3 q.p3] 56))
        have Bq := hide (heap_alloc_new w3 (.cells #[.string q.x.id.kind, .string q.x.id.name, .slice q.a2 q.n2 q.p2, .slice q.a3 q.n3 q.p3] 56))
        have BZ0 := hide (ext_at (he3.out.trans Ez.out) Bx.out)
        obtain ⟨z0, z1, z2, z3⟩ := boxIs BZ0.out
        replace hq := hide hq; replace hqid := hide hqid
        dsimp only [ResC.c2, ResC.c3] at hqv
        dsimp only [ResC.c2, ResC.c3]
        go_wp2_with fail
        refine (sameP _ _ _ _ q.x x _ (hqv.out.ext Ez.out) (hR.out.ext (hX.out.trans (E3.out.trans Ez.out)))).mono ?_
        rintro e4 w4 ⟨b4, rfl, hb4, he4⟩
        have EZ := hide (hX.out.trans (E3.out.trans (Ez.out.trans he4.out)))
        have EW := hide (E3.out.trans (Ez.out.trans he4.out))
        have BZ := hide (ext_at he4.out BZ0.out)
        have hTZ := hide (hT.out.ext EW.out)
        have hHZ := hide (hH.out.ext EW.out)
        clear z0 z1 z2 z3
        cases b4 with
        | true =>
          have hsame : Hid (makeOf l x = none) := make_same hap0.out hqm.out hqid.out (hb4.out.1 rfl)
          go_wp2_with fail
          go_roundw
          case rel => exact ⟨k + 1, ss, by omega, by go_num, by show _ = _; rw [hstep.out, hsame.out, hss.out]; simp, hTZ, hHZ, EZ⟩
          case measure => simp [intOf]; omega
        | false =>
          have hsame : Hid (makeOf l x = some ⟨2, x⟩) := make_else hap0.out hqm.out hqid.out (fun h => by have := hb4.out.2 h; cases this)
          obtain ⟨z0, z1, z2, z3⟩ := boxIs BZ.out
          go_wp2_with fail
          go_region_held3 (fun w' => w'.cell? ⟨wb.heap.size, 0, none⟩ = some (.string x.id.kind) ∧ w'.cell? ⟨wb.heap.size, 1, none⟩ = some (.string x.id.name) ∧ w'.cell? ⟨wb.heap.size, 2, none⟩ = some (.slice a2 x.attrs.length p2) ∧ w'.cell? ⟨wb.heap.size, 3, none⟩ = some (.slice a3 x.after.length p3)) (go_keep)
            ((first
              | (go_at_call 45; have X3 := hE5; refine (tabPutSt w.heap.size vt (ss.map rowS) x.id ⟨2, ⟨x, b2, x.attrs.length, r2, b3, x.after.length, r3⟩⟩ t2 _ (htb.ext (by first | exact E5.out | exact E5.out.drew | exact E5.out.drewN _)) hno.out (by have := Ext.size EZ.out; have := Ext.size E5.out; first | omega | (simp; omega)) hfew.out).mono ?_; rintro e6 w6 ⟨i6, pa6, cap6, n6, rfl, hs6, hT6, hW6⟩; go_must (have W6 := hide (Wrote.trans (Wrote.ext (by first | exact Ext.refl w5 | exact (Ext.refl w5).drew | exact (Ext.refl w5).drewN _)) hW6.out); have B6 := W6.out.keeps B5.out (by decide); obtain ⟨q0, q1, q2, q3⟩ := boxIs B6; replace B6 := hide B6))
              | (go_at_call 46; refine (copyRes _ _ x _ (hR.out.ext (by first | exact EZ.out | exact EZ.out.drew | exact EZ.out.drewN _))).mono ?_; rintro e5 w5 ⟨b2, b3, r2, r3, rfl, hO5, hE5⟩; go_must (have E5 : Hid (Ext (w4) w5) := Ext.trans (by first | exact Ext.refl _ | exact (Ext.refl _).drew | exact (Ext.refl _).drewN _) hE5.out; have B5 := ext_at E5.out BZ.out; obtain ⟨q0, q1, q2, q3⟩ := boxIs B5; replace B5 := hide B5; obtain ⟨vt, htb⟩ := hTZ.out.tab))))
          have hbase : Hid (OwnR w.heap.size w5 (.slice b2 x.attrs.length r2) (.slice b3 x.after.length r3) x) := hO5.out.low (by have := Ext.size EZ.out; first | exact this | omega | (simp; omega) | (simp at this ⊢; omega))
          have hap : Hid (∀ s ∈ ss, ApartC s.r ⟨x, b2, x.attrs.length, r2, b3, x.after.length, r3⟩) := fun s hs => ApartC.new (hTZ.out.each s hs).1 hO5.out (by first | exact Nat.le_refl _ | simp)
          go_wp2_with fail
          go_roundw
          case rel => exact ⟨k + 1, ss ++ [(⟨2, ⟨x, b2, x.attrs.length, r2, b3, x.after.length, r3⟩⟩ : StepC)], by omega, by go_num, by show _ = _; rw [List.map_append, hss.out, hstep.out, hsame.out]; rfl, todo_put (hTZ.out.ext E5.out) hbase.out (hok.out x (List.mem_of_getElem? hxk.out)) hless.out hap.out hs6.out hT6.out W6.out, (hHZ.out.ext E5.out).wrote W6.out (by decide), (EZ.out.trans E5.out).wrote W6.out (Nat.le_refl _)⟩
          case measure => simp [intOf]; omega
      · have hmk : Hid (makeOf l x = some ⟨1, x⟩) := make_new (fun y hy => by
          rw [← hqs.out] at hy
          obtain ⟨q, hq, rfl⟩ := List.mem_map.1 hy
          exact hnone q hq)
        have Ez := hide ((Ext.refl w3).alloc (.cells #[.string ⟨#[]⟩, .string ⟨#[]⟩, .slice none 0 0, .slice none 0 0] 56))
        have BZ := hide (ext_at (he3.out.trans Ez.out) Bx.out)
        have EZ := hide (hX.out.trans (E3.out.trans Ez.out))
        have hTZ := hide (hT.out.ext (E3.out.trans Ez.out))
        have hHZ := hide (hH.out.ext (E3.out.trans Ez.out))
        obtain ⟨z0, z1, z2, z3⟩ := boxIs BZ.out
        clear hnone
        go_wp2_with fail
        go_region_held3 (fun w' => w'.cell? ⟨wb.heap.size, 0, none⟩ = some (.string x.id.kind) ∧ w'.cell? ⟨wb.heap.size, 1, none⟩ = some (.string x.id.name) ∧ w'.cell? ⟨wb.heap.size, 2, none⟩ = some (.slice a2 x.attrs.length p2) ∧ w'.cell? ⟨wb.heap.size, 3, none⟩ = some (.slice a3 x.after.length p3)) (go_keep)
          ((first
            | (go_at_call 45; have X3 := hE5; refine (tabPutSt w.heap.size vt (ss.map rowS) x.id ⟨1, ⟨x, b2, x.attrs.length, r2, b3, x.after.length, r3⟩⟩ t2 _ (htb.ext (by first | exact E5.out | exact E5.out.drew | exact E5.out.drewN _)) hno.out (by have := Ext.size EZ.out; have := Ext.size E5.out; first | omega | (simp; omega)) hfew.out).mono ?_; rintro e6 w6 ⟨i6, pa6, cap6, n6, rfl, hs6, hT6, hW6⟩; go_must (have W6 := hide (Wrote.trans (Wrote.ext (by first | exact Ext.refl w5 | exact (Ext.refl w5).drew | exact (Ext.refl w5).drewN _)) hW6.out); have B6 := W6.out.keeps B5.out (by decide); obtain ⟨q0, q1, q2, q3⟩ := boxIs B6; replace B6 := hide B6))
            | (go_at_call 46; refine (copyRes _ _ x _ (hR.out.ext (by first | exact EZ.out | exact EZ.out.drew | exact EZ.out.drewN _))).mono ?_; rintro e5 w5 ⟨b2, b3, r2, r3, rfl, hO5, hE5⟩; go_must (have E5 : Hid (Ext (w3.alloc (.cells #[.string ⟨#[]⟩, .string ⟨#[]⟩, .slice none 0 0, .slice none 0 0] 56)) w5) := Ext.trans (by first | exact Ext.refl _ | exact (Ext.refl _).drew | exact (Ext.refl _).drewN _) hE5.out; have B5 := ext_at E5.out BZ.out; obtain ⟨q0, q1, q2, q3⟩ := boxIs B5; replace B5 := hide B5; obtain ⟨vt, htb⟩ := hTZ.out.tab))))
        have hbase : Hid (OwnR w.heap.size w5 (.slice b2 x.attrs.length r2) (.slice b3 x.after.length r3) x) := hO5.out.low (by have := Ext.size EZ.out; first | exact this | omega | (simp; omega) | (simp at this ⊢; omega))
        have hap : Hid (∀ s ∈ ss, ApartC s.r ⟨x, b2, x.attrs.length, r2, b3, x.after.length, r3⟩) := fun s hs => ApartC.new (hTZ.out.each s hs).1 hO5.out (by first | exact Nat.le_refl _ | simp)
        go_wp2_with fail
        go_roundw
        case rel => exact ⟨k + 1, ss ++ [(⟨1, ⟨x, b2, x.attrs.length, r2, b3, x.after.length, r3⟩⟩ : StepC)], by omega, by go_num, by show _ = _; rw [List.map_append, hss.out, hstep.out, hmk.out]; rfl, todo_put (hTZ.out.ext E5.out) hbase.out (hok.out x (List.mem_of_getElem? hxk.out)) hless.out hap.out hs6.out hT6.out W6.out, (hHZ.out.ext E5.out).wrote W6.out (by decide), (EZ.out.trans E5.out).wrote W6.out (Nat.le_refl _)⟩
        case measure => simp [intOf]; omega
    · obtain rfl : k = m.length := by omega
      go_wp2_with fail
      go_ret
      exact ⟨t2, ss, rfl, by show _ = _; rw [hss.out, List.take_length], hT, hX⟩
end Go.Proofs.YtodhhjlemmmjcaaGreat
