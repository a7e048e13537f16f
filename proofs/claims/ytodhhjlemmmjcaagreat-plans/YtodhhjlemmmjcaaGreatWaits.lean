/-
  Who waits for itself: what the program's look answers.
-/
import Derived.Test.YtodhhjlemmmjcaaGreatJ23
import Derived.Test.YtodhhjlemmmjcaaGreatJ17
namespace Go.Proofs.YtodhhjlemmmjcaaGreat
open Go.RowKit

/-- It tells whether one waits for itself, and all is as it was. -/
def CircIs (w : World) (l : List Resd) (a : IDd) (e : Ending) (w' : World) : Prop := ∃ b : Bool, e = .returned (.bool b) ∧ Hid (b = true ↔ IdCirc l a) ∧ Hid (Ext w w')
theorem TabAt.low {B B' : Nat} {w : World} {t : Nat} {v : Value} {ks : List IDd} (h : TabAt B w t v ks) (hb : B' ≤ B) : TabAt B' w t v ks := ⟨h.at_, ownsRow_low h.keys hb, h.up, h.few, Nat.le_trans hb h.base⟩
theorem TabAt.wrote {B B' : Nat} {T : TypeId → Prop} {w w' : World} {t : Nat} {v : Value} {ks : List IDd} (h : TabAt B w t v ks) (k : Wrote B' T w w') (hT : ¬ T 158 ∧ ¬ T 153) : TabAt B w' t v ks :=
  ⟨k.keeps h.at_ hT.2, ownsRow_wrote h.keys k hT.1 rfl, h.up, h.few, h.base⟩
/-- A row of our own, cut shorter. -/
theorem ownsRow_cut {w : World} {base : Nat} {pa : Option Addr} {n cap : Nat} {td : List IDd} {x : IDd} (h : w.ownsRow base 52 2 (.slice pa n cap) (td ++ [x]).length (cellsI (td ++ [x]))) : w.ownsRow base 52 2 (.slice pa td.length cap) td.length (cellsI td) := by
  obtain ⟨_, h2⟩ := h
  refine ⟨cellsI_len _, ?_⟩
  rcases h2 with ⟨_, h2⟩ | ⟨g, c, cur, hv, hg, hh, hc, hm, hs, ht⟩
  · simp at h2
  · simp at hv hc ht
    obtain ⟨rfl, rfl, rfl⟩ := hv
    refine .inr ⟨g, cap, cur, rfl, hg, hh, by omega, hm, hs, ?_⟩
    have h3 := congrArg (fun l => l.take (td.length * 2)) ht
    simp only [List.take_take] at h3
    rw [Nat.min_eq_left (by omega), cellsI_take] at h3
    rw [h3]; simp

/-- How long a slice is. -/
def lenV : Value → Nat
  | .slice _ n _ => n
  | _ => 0
def lenAt (w : World) (p : Addr) : Nat := match w.cell? p with
  | some v => lenV v
  | none => 0
theorem TabAt.len {B : Nat} {w : World} {t : Nat} {v : Value} {ks : List IDd} (h : TabAt B w t v ks) : lenAt w ⟨t, 1, none⟩ = ks.length := by
  obtain ⟨pa, cap, hv⟩ := ownsRow_form h.keys
  unfold lenAt; rw [two_c1 h.at_, hv]; rfl

set_option maxRecDepth 100000 in
set_option maxHeartbeats 1600000 in
theorem waits (v : Value) (l : List Resd) (a : IDd) (p : Nat) (w : World) (hv : RessV w v l) (h0 : w.cell? ⟨p, 0, none⟩ = some (.string a.kind)) (h1 : w.cell? ⟨p, 1, none⟩ = some (.string a.name)) (hU : (allAfter l).length ≤ 1000) :
    Calls Tryz.prog 22 #[v, .agg #[.string a.kind, .string a.name], .func (.func 72) #[] #[.pointer (some ⟨p, 0, none⟩)]] w (CircIs w l a) := by
  obtain ⟨va, vc, rfl, -, -, -⟩ := hv.shape
  obtain ⟨i0, hi0, hz0, hz1, hz2⟩ := info_of infoID
  replace hv := hide hv; replace h0 := hide h0; replace h1 := hide h1; replace hi0 := hide hi0
  go_enter Tryz.func22, Tryz.ntmps22
  go_wp2_with fail
  refine (tabNew _).mono ?_
  rintro e w1 ⟨rfl, hT1, hX1⟩
  have m0 := hX1.out.cells (p := ⟨w.heap.size, 0, none⟩) (v := .string a.kind) (by simp [go_sem])
  have m1 := hX1.out.cells (p := ⟨w.heap.size, 1, none⟩) (v := .string a.name) (by simp [go_sem])
  have hT2 := hide ((hT1.out.low (B' := w.heap.size) (by simp)).ext ((Ext.refl w1).alloc (.cells #[.string a.kind, .string a.name] 52)))
  have hs0 : (w.alloc (Obj.cells #[Value.string a.kind, Value.string a.name] 52)).heap.size = w.heap.size + 1 := by simp
  rw [hs0] at hT2
  clear hs0
  have hX2 := hide ((((Ext.refl w).alloc _).trans hX1.out).alloc (.cells #[.string a.kind, .string a.name] 52))
  have hO2 : Hid ((w1.alloc (.cells #[.string a.kind, .string a.name] 52)).ownsRow w.heap.size 52 2 (.slice (some ⟨w1.heap.size, 0, none⟩) 1 1) [a].length (cellsI [a])) :=
    ⟨rfl, .inr ⟨w1.heap.size, 1, _, rfl, by have := Ext.size hX1.out; simp at this; omega, heap_alloc_new w1 _, Nat.le_refl _, by unfold maxLen; omega, rfl, rfl⟩⟩
  go_wp2_with fail
  obtain ⟨U, hUe⟩ : ∃ U, U = (allAfter l).length := ⟨_, rfl⟩
  rw [← hUe] at hU
  go_loopw [8] (fun b wr => ∃ (ks td : List IDd) (pa : Option Addr) (cap : Nat) (vt : Value), b = .slice pa td.length cap ∧ td.length ≤ ks.length + 1 ∧ ks.length ≤ U ∧ Hid (Met l a ks td) ∧ Hid (TabAt w.heap.size wr (w.heap.size + 1) vt ks) ∧ Hid (wr.ownsRow w.heap.size 52 2 (.slice pa td.length cap) td.length (cellsI td)) ∧ Hid (Ext w wr)) (fun b wr => 2 * (U - lenAt wr ⟨w.heap.size + 1, 1, none⟩) + lenV b)
  case atStart => exact ⟨[], [a], _, _, _, rfl, by simp, Nat.zero_le _, Met.start l a, hT2, hO2, hX2⟩
  case round =>
    obtain ⟨ks, td, pa, cap, vt, rfl, htd, hks, hM, hT, hO, hX⟩ := hrel
    rcases List.eq_nil_or_concat td with rfl | ⟨td, x, rfl⟩
    · have hfin := hide hM.out.finish
      go_wp2
      go_ret
      exact ⟨false, rfl, by show _ ↔ _; simp [hfin.out], hX⟩
    · rw [List.concat_eq_append] at *
      obtain ⟨-, hc1, hc2, hin⟩ := keys_in hO.out
      unfold maxLen at hc2
      rcases hin with hin | ⟨g, rfl, hin⟩
      · simp at hin
      obtain ⟨g0, g1⟩ := hin td.length x (by simp)
      rw [Nat.zero_add] at g0 g1
      have hcut := hide (ownsRow_cut hO.out)
      rw [List.length_append, List.length_singleton] at htd hc1
      have hb : td.length ≤ 1000 := by omega
      have hpop := hide hM.out.pop
      have e2 : (0 : Int) ≤ (td.length : Int) := by omega
      have e3 : (td.length : Int) < (td.length : Int) + 1 := by omega
      have hX3 := hide (hX.out.alloc (.cells #[.string x.kind, .string x.name] 52))
      have hafter := hide (afterOf _ l x w (wr.alloc (.cells #[.string x.kind, .string x.name] 52)) hv.out hX3.out)
      replace hin := hide hin
      go_wp2_with fail
      refine hafter.out.mono ?_
      rintro e w2 ⟨pa2, cap2, rfl, hI2, hX2'⟩
      obtain ⟨⟨pa3, cap3, hsh, hcc1, hcc2, hI3⟩, -, hok⟩ := hI2.out
      obtain ⟨rfl, -, rfl⟩ : pa2 = pa3 ∧ True ∧ cap2 = cap3 := by simpa using hsh
      clear hsh hI2
      replace hI3 := hide hI3; replace hok := hide hok
      have hTi := hide (hT.out.ext (((Ext.refl wr).alloc _).trans hX2'.out))
      have hOi : Hid (w2.ownsRow w.heap.size 52 2 (.slice (some ⟨g, 0, none⟩) td.length cap) td.length (cellsI td)) := ownsRow_wrote hcut.out (Wrote.ext (B := 0) (T := fun _ => False) (((Ext.refl wr).alloc _).trans hX2'.out)) id rfl
      have hXi := hide (hX3.out.trans hX2'.out)
      generalize hm : (afterL l x).length = m at *
      replace hm := hide hm
      have hlt0 := hT.out.len
      replace hlt0 := hide hlt0
      clear hafter hX3 g0 g1
      obtain ⟨wo, rfl⟩ : ∃ wo : World, wo = wr := ⟨_, rfl⟩
      go_wp2_with fail
      go_loopw [8, 33] (fun b i wr => ∃ (ks1 td1 : List IDd) (pa1 : Option Addr) (cap1 : Nat) (vt1 : Value) (k : Nat), b = .slice pa1 td1.length cap1 ∧ i = .int .i64 k ∧ k ≤ m ∧ td1.length ≤ ks1.length ∧ ks1.length ≤ U ∧ 2 * (U - ks1.length) + td1.length ≤ 2 * (U - ks.length) + td.length ∧ Hid (MetI l a ks1 td1 x k) ∧ Hid (TabAt w.heap.size wr (w.heap.size + 1) vt1 ks1) ∧ Hid (wr.ownsRow w.heap.size 52 2 (.slice pa1 td1.length cap1) td1.length (cellsI td1)) ∧ Hid (Ext w wr)) (fun _ i _ => m - (intOf i).toNat)
      case atStart => exact ⟨ks, td, _, _, _, 0, rfl, rfl, Nat.zero_le _, by omega, hks, Nat.le_refl _, hpop, hTi, hOi, hXi⟩
      case round =>
        obtain ⟨ks1, td1, pa1, cap1, vt1, k, rfl, rfl, hk, htd1, hks1, hms, hMI, hT1', hO1, hX1'⟩ := hrel
        by_cases hlt : k < m
        · rcases hI3.out with hnil | ⟨b, off, rfl, hin3⟩
          · have := hm.out; rw [hnil] at this; simp at this; omega
          obtain ⟨c, hc⟩ := some_of_lt (show k < (afterL l x).length by rw [hm.out]; exact hlt)
          obtain ⟨g0, g1⟩ := (hin3.ext hX1'.out) k c hc
          have i2 : (k : Int) < (m : Int) := by omega
          have i3 : (0 : Int) ≤ (k : Int) := by omega
          have hX4 := hide (hX1'.out.alloc (.cells #[.string c.kind, .string c.name] 52))
          have hhit := hide (hitW a c p (wr.alloc (.cells #[.string c.kind, .string c.name] 52)) (hX4.out.cells h0.out) (hX4.out.cells h1.out))
          replace hin3 := hide hin3; replace hc := hide hc
          go_wp2_with fail
          refine hhit.out.mono ?_
          rintro e w3 ⟨rfl, hX3⟩
          have hE3 := ext_heap hX3 (heap_alloc_new wr _)
          have hXw := hide (hX4.out.trans hX3)
          have hTw := hide (hT1'.out.ext (((Ext.refl wr).alloc _).trans hX3))
          have hOw : Hid (w3.ownsRow w.heap.size 52 2 (.slice pa1 td1.length cap1) td1.length (cellsI td1)) := ownsRow_wrote hO1.out (Wrote.ext (B := 0) (T := fun _ => False) (((Ext.refl wr).alloc _).trans hX3)) id rfl
          have q0 := two_c0 hE3
          have q1 := two_c1 hE3
          replace hE3 := hide hE3; replace hX3 := hide hX3
          clear hhit g0 g1
          cases hb1 : hitK c a
          · have hne := hide (show c ≠ a from fun e => by rw [hitK_iff.2 e] at hb1; cases hb1)
            have hhas := hide (tabHas w.heap.size vt1 ks1 c (w.heap.size + 1) w3 hTw.out)
            go_wp2_with fail
            refine hhas.out.mono ?_
            rintro e w4 ⟨b4, rfl, hb4, hX4'⟩
            have hE4 := ext_heap hX4'.out hE3.out
            have hXv := hide (hXw.out.trans hX4'.out)
            have hTv := hide (hTw.out.ext hX4'.out)
            have hOv : Hid (w4.ownsRow w.heap.size 52 2 (.slice pa1 td1.length cap1) td1.length (cellsI td1)) := ownsRow_wrote hOw.out (Wrote.ext (B := 0) (T := fun _ => False) hX4'.out) id rfl
            clear q0 q1 hhas
            have q0 := two_c0 hE4
            have q1 := two_c1 hE4
            replace hE4 := hide hE4
            cases b4
            · have hnew : Hid (c ∉ ks1) := fun h => by have := hb4.out.2 h; cases this
              have hput := hide (tabPut w.heap.size vt1 ks1 c (w.heap.size + 1) w4 hTv.out hnew.out (Ext.size hXv.out) (by omega))
              go_wp2_with fail
              refine hput.out.mono ?_
              rintro e w5 ⟨i5, pa5, cap5, n5, rfl, hs5, hT5, hW5⟩
              have hE5 := hW5.out.keeps hE4.out (by decide)
              have hO5 : Hid (w5.ownsRow w.heap.size 52 2 (.slice pa1 td1.length cap1) td1.length (cellsI td1)) := ownsRow_wrote hOv.out hW5.out (by decide) rfl
              have hX5 := hide (hXv.out.wrote hW5.out (Nat.le_refl _))
              clear q0 q1 hput
              have q0 := two_c0 hE5
              have q1 := two_c1 hE5
              have hB5 := hide (Ext.size hX5.out)
              replace hE5 := hide hE5
              have hMn := hide (hMI.out.new hc.out hs5.out hnew.out hne.out)
              have hl5 : ks1.length + 1 ≤ U := by
                have h6 := hMn.out.up.few hMn.out.sub
                rw [ins_len hs5.out.le, ← hUe] at h6
                exact h6
              go_wp2_with (at_builtin; go_must (refine wpList_append_lies _ rfl _ _ 54 rfl w.heap.size 52 i0 (.agg #[.string ⟨#[]⟩, .string ⟨#[]⟩]) 2 32 Tryz.underlying54 hi0.out hz0 hz1 hz2 rfl (by omega) _ td1.length (cellsI td1) rfl (hO5.out.alloc _) ⟨w5.heap.size, 0, none⟩ 1 1 (cI c) rfl rfl ?_ (cI_one _) (by omega) (by unfold maxLen; omega) (by omega) (by have := hB5.out; simp; omega) (w5.heap.size + 1) (by simp) ?_; (intro j u hu; rw [add_eq]; (match j, hu with | 0, hu => (simp [cI] at hu; subst hu; simp [go_sem]) | 1, hu => (simp [cI] at hu; subst hu; simp [go_sem]) | _ + 2, hu => (simp [cI] at hu))); intro g6 cap6 w6 hown6 hgrow6 hat6 hlt6))
              have hW6 : Wrote w.heap.size (· = 52) w5 w6 := (Wrote.refl w.heap.size _ w5).grownAt hO5.out rfl hgrow6
              go_roundw
              case rel =>
                have hl6 : (td1 ++ [c]).length = td1.length + 1 := by simp
                have hl7 := ins_len (a := c) hs5.out.le
                refine ⟨insL ks1 i5 c, td1 ++ [c], _, _, _, k + 1, by rw [hl6], by go_num, by omega, by rw [hl6, hl7]; omega, by rw [hl7]; exact hl5, by rw [hl6, hl7]; omega, hMn, hT5.out.wrote hW6 (by decide), ?_, hX5.out.wrote hW6 (Nat.le_refl _)⟩
                show World.ownsRow _ _ _ _ _ _ _
                rw [hl6, cellsI_app]; exact hown6
              case measure => simp [intOf]; omega
            · have hold := hide (hMI.out.old hc.out (hb4.out.1 rfl))
              go_wp2_with fail
              go_roundw
              case rel => exact ⟨ks1, td1, pa1, cap1, vt1, k + 1, rfl, by go_num, by omega, htd1, hks1, hms, hold, hTv, hOv, hXv⟩
              case measure => simp [intOf]; omega
          · have hca : c = a := hitK_iff.1 hb1
            have hcirc := hide (hMI.out.hit (hca ▸ hc.out))
            replace hca := hide hca
            go_wp2_with fail
            go_ret
            exact ⟨true, rfl, by show _ ↔ _; simp [hcirc.out], hXw⟩
        · have hfin := hide (hMI.out.finish (by rw [hm.out]; omega))
          go_wp2_with fail
          go_roundw
          case rel => exact ⟨ks1, td1, pa1, cap1, vt1, rfl, by omega, hks1, hfin, hT1', hO1, hX1'⟩
          case measure => 
            have e5 := hT1'.out.len
            simp only [lenV]
            rw [e5, hlt0.out]
            simp
            omega
end Go.Proofs.YtodhhjlemmmjcaaGreat
