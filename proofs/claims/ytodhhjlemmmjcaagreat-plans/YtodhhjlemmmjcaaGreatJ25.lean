/-
  Who waits for a step that is still to come.
-/
/-
  Resources by their IDs.
-/
import Derived.Test.YtodhhjlemmmjcaaGreatJ24
import Derived.Test.YtodhhjlemmmjcaaGreatJ7
import Derived.Test.YtodhhjlemmmjcaaGreatWaits
import Derived.Deep.RegionHeld3
namespace Go.Proofs.YtodhhjlemmmjcaaGreat
open Go.RowKit

/-- There is still a step of an ID. -/
def InT (ss : List StepC) (a : IDd) : Prop := ∃ s ∈ ss, s.r.x.id = a

set_option maxRecDepth 100000 in
set_option maxHeartbeats 1600000 in
theorem waitsHas (v : Value) (l : List Resd) (a : IDd) (Bt t : Nat) (ss : List StepC) (w : World) (hv : RessV w v l) (hTd : TodoAt Bt w t ss) (hU : (allAfter l).length ≤ 1000) :
    Calls Tryz.prog 22 #[v, .agg #[.string a.kind, .string a.name], .func (.func 23) #[.pointer (some ⟨t, 0, none⟩)] #[]] w fun e w' => ∃ b : Bool, e = .returned (.bool b) ∧ Hid (b = true ↔ WaitsTo l a (InT ss)) ∧ Hid (Ext w w') := by
  obtain ⟨va, vc, rfl, -, -, -⟩ := hv.shape
  obtain ⟨i0, hi0, hz0, hz1, hz2⟩ := info_of infoID
  replace hv := hide hv; replace hTd := hide hTd; replace hi0 := hide hi0
  go_enter Tryz.func22, Tryz.ntmps22
  go_wp2_with fail
  refine (tabNew _).mono ?_
  rintro e w1 ⟨rfl, hT1, hX1⟩
  have m0 := hX1.out.cells (p := ⟨w.heap.size, 0, none⟩) (v := .string a.kind) (by simp [go_sem])
  have m1 := hX1.out.cells (p := ⟨w.heap.size, 1, none⟩) (v := .string a.name) (by simp [go_sem])
  have hT2 := hide ((hT1.out.low (B' := w.heap.size) (by simp)).ext ((Ext.refl w1).alloc (.cells #[.string a.kind, .string a.name] 52)))
  have hs0 : (w.alloc (Obj.cells #[Value.string a.kind, Value.string a.name] 52)).heap.size = w.heap.size + 1 := by simp
  rw [hs0] at hT2
  clear hs0
  have hX2 := hide ((((Ext.refl w).alloc _).trans hX1.out).alloc (.cells #[.string a.kind, .string a.name] 52))
  have hO2 : Hid ((w1.alloc (.cells #[.string a.kind, .string a.name] 52)).ownsRow w.heap.size 52 2 (.slice (some ⟨w1.heap.size, 0, none⟩) 1 1) [a].length (cellsI [a])) :=
    ⟨rfl, .inr ⟨w1.heap.size, 1, _, rfl, by have := Ext.size hX1.out; simp at this; omega, heap_alloc_new w1 _, Nat.le_refl _, by unfold maxLen; omega, rfl, rfl⟩⟩
  go_wp2_with fail
  obtain ⟨U, hUe⟩ : ∃ U, U = (allAfter l).length := ⟨_, rfl⟩
  rw [← hUe] at hU
  go_loopw [8] (fun b wr => ∃ (ks td : List IDd) (pa : Option Addr) (cap : Nat) (vt : Value), b = .slice pa td.length cap ∧ td.length ≤ ks.length + 1 ∧ ks.length ≤ U ∧ Hid (MetF (InT ss) l a ks td) ∧ Hid (TabAt w.heap.size wr (w.heap.size + 1) vt ks) ∧ Hid (wr.ownsRow w.heap.size 52 2 (.slice pa td.length cap) td.length (cellsI td)) ∧ Hid (Ext w wr)) (fun b wr => 2 * (U - lenAt wr ⟨w.heap.size + 1, 1, none⟩) + lenV b)
  case atStart => exact ⟨[], [a], _, _, _, rfl, by simp, Nat.zero_le _, MetF.start (InT ss) l a, hT2, hO2, hX2⟩
  case round =>
    obtain ⟨ks, td, pa, cap, vt, rfl, htd, hks, hM, hT, hO, hX⟩ := hrel
    rcases List.eq_nil_or_concat td with rfl | ⟨td, x, rfl⟩
    · have hfin := hide hM.out.finish
      go_wp2
      go_ret
      exact ⟨false, rfl, by show _ ↔ _; simp [hfin.out], hX⟩
    · rw [List.concat_eq_append] at *
      obtain ⟨-, hc1, hc2, hin⟩ := keys_in hO.out
      unfold maxLen at hc2
      rcases hin with hin | ⟨g, rfl, hin⟩
      · simp at hin
      obtain ⟨g0, g1⟩ := hin td.length x (by simp)
      rw [Nat.zero_add] at g0 g1
      have hcut := hide (ownsRow_cut hO.out)
      rw [List.length_append, List.length_singleton] at htd hc1
      have hb : td.length ≤ 1000 := by omega
      have hpop := hide hM.out.pop
      have e2 : (0 : Int) ≤ (td.length : Int) := by omega
      have e3 : (td.length : Int) < (td.length : Int) + 1 := by omega
      have hX3 := hide (hX.out.alloc (.cells #[.string x.kind, .string x.name] 52))
      have hafter := hide (afterOf _ l x w (wr.alloc (.cells #[.string x.kind, .string x.name] 52)) hv.out hX3.out)
      replace hin := hide hin
      go_wp2_with fail
      refine hafter.out.mono ?_
      rintro e w2 ⟨pa2, cap2, rfl, hI2, hX2'⟩
      obtain ⟨⟨pa3, cap3, hsh, hcc1, hcc2, hI3⟩, -, hok⟩ := hI2.out
      obtain ⟨rfl, -, rfl⟩ : pa2 = pa3 ∧ True ∧ cap2 = cap3 := by simpa using hsh
      clear hsh hI2
      replace hI3 := hide hI3; replace hok := hide hok
      have hTi := hide (hT.out.ext (((Ext.refl wr).alloc _).trans hX2'.out))
      have hOi : Hid (w2.ownsRow w.heap.size 52 2 (.slice (some ⟨g, 0, none⟩) td.length cap) td.length (cellsI td)) := ownsRow_wrote hcut.out (Wrote.ext (B := 0) (T := fun _ => False) (((Ext.refl wr).alloc _).trans hX2'.out)) id rfl
      have hXi := hide (hX3.out.trans hX2'.out)
      generalize hm : (afterL l x).length = m at *
      replace hm := hide hm
      have hlt0 := hT.out.len
      replace hlt0 := hide hlt0
      clear hafter hX3 g0 g1
      obtain ⟨wo, rfl⟩ : ∃ wo : World, wo = wr := ⟨_, rfl⟩
      go_wp2_with fail
      go_loopw [8, 33] (fun b i wr => ∃ (ks1 td1 : List IDd) (pa1 : Option Addr) (cap1 : Nat) (vt1 : Value) (k : Nat), b = .slice pa1 td1.length cap1 ∧ i = .int .i64 k ∧ k ≤ m ∧ td1.length ≤ ks1.length ∧ ks1.length ≤ U ∧ 2 * (U - ks1.length) + td1.length ≤ 2 * (U - ks.length) + td.length ∧ Hid (MetJ (InT ss) l a ks1 td1 x k) ∧ Hid (TabAt w.heap.size wr (w.heap.size + 1) vt1 ks1) ∧ Hid (wr.ownsRow w.heap.size 52 2 (.slice pa1 td1.length cap1) td1.length (cellsI td1)) ∧ Hid (Ext w wr)) (fun _ i _ => m - (intOf i).toNat)
      case atStart => exact ⟨ks, td, _, _, _, 0, rfl, rfl, Nat.zero_le _, by omega, hks, Nat.le_refl _, hpop, hTi, hOi, hXi⟩
      case round =>
        obtain ⟨ks1, td1, pa1, cap1, vt1, k, rfl, rfl, hk, htd1, hks1, hms, hMI, hT1', hO1, hX1'⟩ := hrel
        by_cases hlt : k < m
        · rcases hI3.out with hnil | ⟨b, off, rfl, hin3⟩
          · have := hm.out; rw [hnil] at this; simp at this; omega
          obtain ⟨c, hc⟩ := some_of_lt (show k < (afterL l x).length by rw [hm.out]; exact hlt)
          obtain ⟨g0, g1⟩ := (hin3.ext hX1'.out) k c hc
          have i2 : (k : Int) < (m : Int) := by omega
          have i3 : (0 : Int) ≤ (k : Int) := by omega
          have hX4 := hide (hX1'.out.alloc (.cells #[.string c.kind, .string c.name] 52))
          obtain ⟨vT, hTt⟩ := hTd.out.tab
          have hhit := hide (tabHasSt Bt vT (ss.map rowS) c t (wr.alloc (.cells #[.string c.kind, .string c.name] 52)) (hTt.ext hX4.out))
          replace hTt := hide hTt
          replace hin3 := hide hin3; replace hc := hide hc
          go_wp2_with fail
          refine hhit.out.mono ?_
          rintro e w3 ⟨bh, rfl, hbh, hX3'⟩
          have hX3 := hX3'.out
          have hE3 := ext_heap hX3 (heap_alloc_new wr _)
          have hXw := hide (hX4.out.trans hX3)
          have hTw := hide (hT1'.out.ext (((Ext.refl wr).alloc _).trans hX3))
          have hOw : Hid (w3.ownsRow w.heap.size 52 2 (.slice pa1 td1.length cap1) td1.length (cellsI td1)) := ownsRow_wrote hO1.out (Wrote.ext (B := 0) (T := fun _ => False) (((Ext.refl wr).alloc _).trans hX3)) id rfl
          have q0 := two_c0 hE3
          have q1 := two_c1 hE3
          replace hE3 := hide hE3; replace hX3 := hide hX3
          clear hhit g0 g1
          clear hX3'
          cases bh
          · have hne : Hid (¬ InT ss c) := fun h => by have := hbh.out.2 (hasS_iff.2 h); cases this
            have hhas := hide (tabHas w.heap.size vt1 ks1 c (w.heap.size + 1) w3 hTw.out)
            go_wp2_with fail
            refine hhas.out.mono ?_
            rintro e w4 ⟨b4, rfl, hb4, hX4'⟩
            have hE4 := ext_heap hX4'.out hE3.out
            have hXv := hide (hXw.out.trans hX4'.out)
            have hTv := hide (hTw.out.ext hX4'.out)
            have hOv : Hid (w4.ownsRow w.heap.size 52 2 (.slice pa1 td1.length cap1) td1.length (cellsI td1)) := ownsRow_wrote hOw.out (Wrote.ext (B := 0) (T := fun _ => False) hX4'.out) id rfl
            clear q0 q1 hhas
            have q0 := two_c0 hE4
            have q1 := two_c1 hE4
            replace hE4 := hide hE4
            cases b4
            · have hnew : Hid (c ∉ ks1) := fun h => by have := hb4.out.2 h; cases this
              have hput := hide (tabPut w.heap.size vt1 ks1 c (w.heap.size + 1) w4 hTv.out hnew.out (Ext.size hXv.out) (by omega))
              go_wp2_with fail
              refine hput.out.mono ?_
              rintro e w5 ⟨i5, pa5, cap5, n5, rfl, hs5, hT5, hW5⟩
              have hE5 := hW5.out.keeps hE4.out (by decide)
              have hO5 : Hid (w5.ownsRow w.heap.size 52 2 (.slice pa1 td1.length cap1) td1.length (cellsI td1)) := ownsRow_wrote hOv.out hW5.out (by decide) rfl
              have hX5 := hide (hXv.out.wrote hW5.out (Nat.le_refl _))
              clear q0 q1 hput
              have q0 := two_c0 hE5
              have q1 := two_c1 hE5
              have hB5 := hide (Ext.size hX5.out)
              replace hE5 := hide hE5
              have hMn := hide (hMI.out.new hc.out hs5.out hnew.out hne.out)
              have hl5 : ks1.length + 1 ≤ U := by
                have h6 := hMn.out.up.few hMn.out.sub
                rw [ins_len hs5.out.le, ← hUe] at h6
                exact h6
              go_wp2_with (at_builtin; go_must (refine wpList_append_lies _ rfl _ _ 54 rfl w.heap.size 52 i0 (.agg #[.string ⟨#[]⟩, .string ⟨#[]⟩]) 2 32 Tryz.underlying54 hi0.out hz0 hz1 hz2 rfl (by omega) _ td1.length (cellsI td1) rfl (hO5.out.alloc _) ⟨w5.heap.size, 0, none⟩ 1 1 (cI c) rfl rfl ?_ (cI_one _) (by omega) (by unfold maxLen; omega) (by omega) (by have := hB5.out; simp; omega) (w5.heap.size + 1) (by simp) ?_; (intro j u hu; rw [add_eq]; (match j, hu with | 0, hu => (simp [cI] at hu; subst hu; simp [go_sem]) | 1, hu => (simp [cI] at hu; subst hu; simp [go_sem]) | _ + 2, hu => (simp [cI] at hu))); intro g6 cap6 w6 hown6 hgrow6 hat6 hlt6))
              have hW6 : Wrote w.heap.size (· = 52) w5 w6 := (Wrote.refl w.heap.size _ w5).grownAt hO5.out rfl hgrow6
              go_roundw
              case rel =>
                have hl6 : (td1 ++ [c]).length = td1.length + 1 := by simp
                have hl7 := ins_len (a := c) hs5.out.le
                refine ⟨insL ks1 i5 c, td1 ++ [c], _, _, _, k + 1, by rw [hl6], by go_num, by omega, by rw [hl6, hl7]; omega, by rw [hl7]; exact hl5, by rw [hl6, hl7]; omega, hMn, hT5.out.wrote hW6 (by decide), ?_, hX5.out.wrote hW6 (Nat.le_refl _)⟩
                show World.ownsRow _ _ _ _ _ _ _
                rw [hl6, cellsI_app]; exact hown6
              case measure => simp [intOf]; omega
            · have hold := hide (hMI.out.old hc.out (hb4.out.1 rfl))
              go_wp2_with fail
              go_roundw
              case rel => exact ⟨ks1, td1, pa1, cap1, vt1, k + 1, rfl, by go_num, by omega, htd1, hks1, hms, hold, hTv, hOv, hXv⟩
              case measure => simp [intOf]; omega
          · have hcirc := hide (hMI.out.hit hc.out (hasS_iff.1 (hbh.out.1 rfl)))
            go_wp2_with fail
            go_ret
            exact ⟨true, rfl, by show _ ↔ _; simp [hcirc.out], hXw⟩
        · have hfin := hide (hMI.out.finish (by rw [hm.out]; omega))
          go_wp2_with fail
          go_roundw
          case rel => exact ⟨ks1, td1, pa1, cap1, vt1, rfl, by omega, hks1, hfin, hT1', hO1, hX1'⟩
          case measure => 
            have e5 := hT1'.out.len
            simp only [lenV]
            rw [e5, hlt0.out]
            simp
            omega
end Go.Proofs.YtodhhjlemmmjcaaGreat

namespace Go.Proofs.YtodhhjlemmmjcaaGreat
open Go.RowKit

attribute [local go_sem] Go.World.cell?_alloc_some
theorem pair_up {l : List Resd} (h : mayAllB l = true) : l.Pairwise fun a b => cmpI a.id b.id < 0 := by
  simp only [mayAllB, Bool.and_eq_true] at h
  exact rises_pair h.2
theorem pair_take {α : Type} {R : α → α → Prop} {l : List α} {k : Nat} {x : α} (h : l.Pairwise R) (hx : l[k]? = some x) : ∀ y ∈ l.take k, R y x := by
  intro y hy
  obtain ⟨i, hi⟩ := List.mem_iff_getElem?.1 hy
  rw [List.getElem?_take] at hi
  split at hi
  · rename_i hik
    obtain ⟨h1, rfl⟩ := List.getElem?_eq_some_iff.1 hi
    obtain ⟨h2, rfl⟩ := List.getElem?_eq_some_iff.1 hx
    exact List.pairwise_iff_getElem.1 h i k h1 h2 hik
  · cases hi

set_option maxRecDepth 100000 in
set_option maxHeartbeats 3200000 in
theorem byID (u : Value) (l : List Resd) (w : World) (hu : RessV w u l) (hm : mayAllB l = true) :
    Calls Tryz.prog 42 #[u] w fun e w' => ∃ (t : Nat) (qs : List ResC), e = .returned (.pointer (some ⟨t, 0, none⟩)) ∧ Hid (qs.map ResC.x = l) ∧ Hid (HaveAt w.heap.size w' t qs) ∧ Hid (Ext w w') := by
  obtain ⟨pu, cu, rfl, cu1, cu2, hul⟩ := hu.shape
  have l12 : l.length ≤ 12 := by simp only [mayAllB, Bool.and_eq_true, decide_eq_true_eq] at hm; exact hm.1.1
  have hok : Hid (∀ x ∈ l, okS x) := fun x hx => by
    simp only [mayAllB, Bool.and_eq_true, List.all_eq_true] at hm
    exact may_okS (hm.1.2 x hx)
  have hup := hide (pair_up hm)
  replace hu := hide hu; replace hul := hide hul; replace hm := hide hm
  go_enter Tryz.func42, Tryz.ntmps42
  go_wp2_with fail
  refine (tabNewRs w).mono ?_
  rintro e1 w1 ⟨rfl, hT1, hw1⟩
  have X1 : Hid (Ext w w1) := by show Ext w w1; rw [hw1.out]; exact (Ext.refl w).alloc _
  clear hw1
  go_wp2_with fail
  go_loopw [9] (fun iv wr => ∃ (k : Nat) (qs : List ResC), k ≤ l.length ∧ iv = .int .i64 k ∧ Hid (qs.map ResC.x = l.take k) ∧ Hid (HaveAt w.heap.size wr w.heap.size qs) ∧ Hid (Ext w wr)) (fun iv _ => l.length - (intOf iv).toNat)
  case atStart => exact ⟨0, [], Nat.zero_le _, rfl, by simp [Hid], ⟨⟨_, hT1⟩, fun q hq => (by cases hq)⟩, X1⟩
  case round =>
    clear hT1 X1
    obtain ⟨k, qs, hk, rfl, hqs, hH, hX⟩ := hrel
    by_cases hlt : k < l.length
    · obtain ⟨x, hxk⟩ := some_of_lt hlt
      rcases hul.out with h | ⟨b, off, rfl, hres⟩
      · rw [h] at hlt; simp at hlt
      obtain ⟨g0, g1, c2, c3, g2, g3, hR⟩ := hres k x hxk
      obtain ⟨a2, p2, rfl⟩ := hR.attrs.form
      obtain ⟨a3, p3, rfl⟩ := hR.after.form
      replace g0 := hX.out.cells g0; replace g1 := hX.out.cells g1; replace g2 := hX.out.cells g2; replace g3 := hX.out.cells g3
      have k2 : (k : Int) < (l.length : Int) := by omega
      have k4 : (0 : Int) ≤ (k : Int) := by omega
      have hql : qs.length = k := by have := congrArg List.length hqs.out; simp at this; omega
      have hless : Hid (∀ q ∈ qs, cmpI q.x.id x.id < 0) := fun q hq => by
        refine pair_take hup.out hxk q.x ?_
        rw [← hqs.out]; exact List.mem_map.2 ⟨q, hq, rfl⟩
      replace hql := hide hql
      have hfew : Hid ((qs.map rowR).length + 1 ≤ 1000000) := by show _ ≤ _; rw [List.length_map, hql.out]; omega
      have hno : Hid (¬ HasK RowRs.key (qs.map rowR) x.id) := fun h => by
        obtain ⟨q, hq, e⟩ := hasK_iff.1 h
        have := hless.out q hq
        rw [e] at this
        exact not_less_self this
      obtain ⟨wb, rfl⟩ : ∃ wb : World, wb = wr := ⟨_, rfl⟩
      have hB := hide (Ext.size hX.out)
      have Bx := hide (heap_alloc_new wb (.cells #[.string x.id.kind, .string x.id.name, .slice a2 x.attrs.length p2, .slice a3 x.after.length p3] 56))
      have Eb := hide ((Ext.refl wb).alloc (.cells #[.string x.id.kind, .string x.id.name, .slice a2 x.attrs.length p2, .slice a3 x.after.length p3] 56))
      replace hres := hide hres; replace hR := hide hR; replace hxk := hide hxk
      go_wp2_with fail
      go_region_held3 (fun w' => w'.cell? ⟨wb.heap.size, 0, none⟩ = some (.string x.id.kind) ∧ w'.cell? ⟨wb.heap.size, 1, none⟩ = some (.string x.id.name) ∧ w'.cell? ⟨wb.heap.size, 2, none⟩ = some (.slice a2 x.attrs.length p2) ∧ w'.cell? ⟨wb.heap.size, 3, none⟩ = some (.slice a3 x.after.length p3)) (go_keep)
        ((first
          | (go_at_call 74; have X3 := hE3; refine (tabPutRs w.heap.size vt (qs.map rowR) x.id ⟨x, b2, x.attrs.length, r2, b3, x.after.length, r3⟩ w.heap.size _ (htb.ext (by first | exact E3.out | exact E3.out.drew | exact E3.out.drewN _)) hno.out (by have := Ext.size E3.out; have := hB.out; first | omega | (simp; omega)) hfew.out).mono ?_; rintro e4 w4 ⟨i4, pa4, cap4, n4, rfl, hs4, hT4, hW4⟩; go_must (have W4 := hide (Wrote.trans (Wrote.ext (by first | exact Ext.refl w3 | exact (Ext.refl w3).drew | exact (Ext.refl w3).drewN _)) hW4.out); have B4 := W4.out.keeps B3.out (by decide); obtain ⟨q0, q1, q2, q3⟩ := boxIs B4; replace B4 := hide B4))
          | (go_at_call 46; refine (copyRes _ _ x _ (hR.out.ext (by first | exact hX.out.trans Eb.out | exact (hX.out.trans Eb.out).drew | exact (hX.out.trans Eb.out).drewN _))).mono ?_; rintro e3 w3 ⟨b2, b3, r2, r3, rfl, hO3, hE3⟩; go_must (have E3 := hide (Eb.out.trans (Ext.trans (by first | exact Ext.refl _ | exact (Ext.refl _).drew | exact (Ext.refl _).drewN _) hE3.out)); have B3 := ext_at (Ext.trans (by first | exact Ext.refl _ | exact (Ext.refl _).drew | exact (Ext.refl _).drewN _) hE3.out) Bx.out; obtain ⟨q0, q1, q2, q3⟩ := boxIs B3; replace B3 := hide B3; obtain ⟨vt, htb⟩ := hH.out.tab))))
      have hbase : Hid (OwnR w.heap.size w3 (.slice b2 x.attrs.length r2) (.slice b3 x.after.length r3) x) := hO3.out.low (by have := hB.out; first | omega | (simp; omega))
      go_wp2_with fail
      go_roundw
      case rel =>
        refine ⟨k + 1, qs ++ [⟨x, b2, x.attrs.length, r2, b3, x.after.length, r3⟩], by omega, by go_num, ?_, ⟨⟨.slice pa4 n4 cap4, ?_⟩, ?_⟩, (hX.out.trans E3.out).wrote W4.out (Nat.le_refl _)⟩
        · show _ = _
          rw [List.map_append, hqs.out, List.take_add_one, hxk.out]; rfl
        · have hi := stands_end hs4.out (fun y hy => by
            obtain ⟨q, hq, rfl⟩ := List.mem_map.1 hy
            exact hless.out q hq)
          have := hT4.out
          rw [hi, insG_end] at this
          rw [List.map_append]; exact this
        · intro q hq
          rcases List.mem_append.1 hq with hq | hq
          · exact ⟨((hH.out.each q hq).1.ext E3.out).put W4.out (by decide) (by decide), (hH.out.each q hq).2⟩
          · obtain rfl : q = _ := by simpa using hq
            exact ⟨hbase.out.put W4.out (by decide) (by decide), hok.out x (List.mem_of_getElem? hxk.out)⟩
      case measure => simp [intOf]; omega
    · obtain rfl : k = l.length := by omega
      go_wp2_with fail
      go_ret
      exact ⟨w.heap.size, qs, rfl, by show _ = _; rw [hqs.out, List.take_length], hH, hX⟩

/-- What a look for a resource answers. -/
def GetIs (w : World) (qs : List ResC) (a : IDd) (e : Ending) (w' : World) : Prop :=
  ((∃ q ∈ qs, q.x.id = a ∧ e = .returned (.tuple #[.agg #[.string q.x.id.kind, .string q.x.id.name, q.c2, q.c3], .bool true])) ∨ ((∀ q ∈ qs, q.x.id ≠ a) ∧ e = .returned (.tuple #[.agg #[.string ⟨#[]⟩, .string ⟨#[]⟩, .slice none 0 0, .slice none 0 0], .bool false]))) ∧ Hid (Ext w w')

set_option maxRecDepth 100000 in
set_option maxHeartbeats 3200000 in
theorem getRs (B : Nat) (qs : List ResC) (a : IDd) (t : Nat) (w : World) (hH : HaveAt B w t qs) :
    Calls Tryz.prog 44 #[.pointer (some ⟨t, 0, none⟩), .agg #[.string a.kind, .string a.name]] w (GetIs w qs a) := by
  obtain ⟨v, hT⟩ := hH.tab
  obtain ⟨pa, cap, rfl⟩ := ownsRow_form hT.rows
  have E0 := hide (((Ext.refl w).alloc (.cells #[.string a.kind, .string a.name] 52)).alloc (.cells #[.string ⟨#[]⟩, .string ⟨#[]⟩, .slice none 0 0, .slice none 0 0] 56))
  have B0 := hide (two_new w (.cells #[.string a.kind, .string a.name] 52) (.cells #[.string ⟨#[]⟩, .string ⟨#[]⟩, .slice none 0 0, .slice none 0 0] 56))
  have hf := hide (tabFindRs B _ (qs.map rowR) a t _ (hT.ext E0.out))
  replace hT := hide hT; replace hH := hide hH
  go_enter Tryz.func44, Tryz.ntmps44
  go_wp2_with fail
  refine hf.out.mono ?_
  rintro e1 w1 ⟨i, b, rfl, hi, hs1, hs2, hs3, he1⟩
  have B1 := ext_at he1.out B0.out
  obtain ⟨r0, r1, r2, r3⟩ := boxIs B1
  have f1 := row_frozen B1
  have hb2 : w.heap.size ≤ w.heap.size + 1 := by omega
  have EX := hide (E0.out.trans he1.out)
  clear hf
  cases b with
  | true =>
    obtain ⟨y, hy, hk⟩ := hs3.out rfl
    obtain ⟨q, hq, rfl⟩ : ∃ q, qs[i]? = some q ∧ rowR q = y := by
      rw [List.getElem?_map] at hy
      obtain ⟨q, h1, h2⟩ := Option.map_eq_some_iff.1 hy
      exact ⟨q, h1, h2⟩
    have hT1 := hT.out.ext EX.out
    have c1 := tabRs_c1 hT1.at_
    obtain ⟨hn, hc1, hc2, hin⟩ := rowsRs_in hT1.rows
    rw [List.length_map] at *
    have hlt : i < qs.length := (List.getElem?_eq_some_iff.1 hq).1
    rcases hin with hnil | ⟨g, rfl, hI⟩
    · rw [List.map_eq_nil_iff.1 hnil] at hlt; simp at hlt
    have hI := hI i (rowR q) hy
    have k2 := hI 2 _ rfl; have k3 := hI 3 _ rfl; have k4 := hI 4 _ rfl; have k5 := hI 5 _ rfl
    have i2 : (i : Int) < (qs.length : Int) := by omega
    have i4 : (0 : Int) ≤ (i : Int) := by omega
    unfold maxLen at hc2
    replace B1 := hide B1; replace hI := hide hI; replace hy := hide hy; replace hq := hide hq; replace hT1 := hide hT1; replace hk := hide hk
    dsimp only [rowR] at k2 k3 k4 k5
    go_wp2_with fail
    have WR := hide (four_sets (B := w.heap.size) B1.out hb2 (.string q.x.id.kind) (.string q.x.id.name) (.slice q.a2 q.n2 q.p2) (.slice q.a3 q.n3 q.p3))
    refine bodyPost_ret (v := .tuple #[.agg #[.string q.x.id.kind, .string q.x.id.name, .slice q.a2 q.n2 q.p2, .slice q.a3 q.n3 q.p3], .bool true]) (by simp [results, Tryz.results44, go_sem, r0, r1, r2, r3]) rfl ⟨.inl ⟨q, List.mem_of_getElem? hq.out, hk.out, rfl⟩, EX.out.wrote WR.out (Nat.le_refl _)⟩
  | false =>
    have hno : Hid (∀ q ∈ qs, q.x.id ≠ a) := fun q hq e => by
      have := hs2.out.2 (hasK_iff.2 ⟨q, hq, e⟩)
      cases this
    have B2 := ext_at ((Ext.refl w1).alloc (.cells #[.string ⟨#[]⟩, .string ⟨#[]⟩, .slice none 0 0, .slice none 0 0] 56)) B1
    obtain ⟨s0, s1, s2, s3⟩ := boxIs B2
    have f2 := row_frozen B2
    replace B1 := hide B1; replace B2 := hide B2
    go_wp2_with fail
    have WR := hide (four_sets (B := w.heap.size) B2.out hb2 (.string ⟨#[]⟩) (.string ⟨#[]⟩) (.slice none 0 0) (.slice none 0 0))
    refine bodyPost_ret (v := .tuple #[.agg #[.string ⟨#[]⟩, .string ⟨#[]⟩, .slice none 0 0, .slice none 0 0], .bool false]) (by simp [results, Tryz.results44, go_sem, s0, s1, s2, s3]) rfl ⟨.inr ⟨hno.out, rfl⟩, (EX.out.alloc _).wrote WR.out (Nat.le_refl _)⟩
end Go.Proofs.YtodhhjlemmmjcaaGreat
