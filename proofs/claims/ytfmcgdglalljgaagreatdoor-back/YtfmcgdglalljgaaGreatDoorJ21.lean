/-
  Who waits for itself: what the program's look answers.
-/
/-
  Resources that are whole: what the program's functions answer.
-/
/-
  A state as bytes: what the program's function answers.
-/
/-
  A state out of bytes: what the program's function answers.
-/
/-
  A state as bytes: what the reference's function answers.
-/
/-
  A state out of bytes: what the reference's function answers; both readers come to the same.
-/
/-
  The table E: what its methods answer.
-/
/-
  The table E: what a key that is put into it leaves.
-/
/-
  How many keys a table of keys has.
-/
import Derived.Test.YtfmcgdglalljgaaGreatDoorJ20
import Derived.Test.YtfmcgdglalljgaaGreatDoorJ17
import Derived.Test.YtfmcgdglalljgaaGreatDoorJ10
import Derived.Test.YtfmcgdglalljgaaGreatDoorJ5
import Derived.Test.YtfmcgdglalljgaaGreatDoorJ14
import Derived.Test.YtfmcgdglalljgaaGreatDoorJ3
import Derived.Test.YtfmcgdglalljgaaGreatDoorJ16
import Derived.Test.YtfmcgdglalljgaaGreatDoorJ19
namespace Go.Proofs.YtfmcgdglalljgaaGreatDoor
open Go.RowKit

/-- It tells whether one waits for itself, and all is as it was. -/
def CircIs (w : World) (l : List Resd) (a : IDd) (e : Ending) (w' : World) : Prop := ∃ b : Bool, e = .returned (.bool b) ∧ Hid (b = true ↔ IdCirc l a) ∧ Hid (Ext w w')
theorem TabAt.low {B B' : Nat} {w : World} {t : Nat} {v : Value} {ks : List IDd} (h : TabAt B w t v ks) (hb : B' ≤ B) : TabAt B' w t v ks := ⟨h.at_, ownsRow_low h.keys hb, h.up, h.few, Nat.le_trans hb h.base⟩
theorem TabAt.wrote {B B' : Nat} {T : TypeId → Prop} {w w' : World} {t : Nat} {v : Value} {ks : List IDd} (h : TabAt B w t v ks) (k : Wrote B' T w w') (hT : ¬ T 218 ∧ ¬ T 216) : TabAt B w' t v ks :=
  ⟨k.keeps h.at_ hT.2, ownsRow_wrote h.keys k hT.1 rfl, h.up, h.few, h.base⟩
/-- A row of our own, cut shorter. -/
theorem ownsRow_cut {w : World} {base : Nat} {pa : Option Addr} {n cap : Nat} {td : List IDd} {x : IDd} (h : w.ownsRow base 25 2 (.slice pa n cap) (td ++ [x]).length (cellsI (td ++ [x]))) : w.ownsRow base 25 2 (.slice pa td.length cap) td.length (cellsI td) := by
  obtain ⟨_, h2⟩ := h
  refine ⟨cellsI_len _, ?_⟩
  rcases h2 with ⟨_, h2⟩ | ⟨g, c, cur, hv, hg, hh, hc, hm, hs, ht⟩
  · simp at h2
  · simp at hv hc ht
    obtain ⟨rfl, rfl, rfl⟩ := hv
    refine .inr ⟨g, cap, cur, rfl, hg, hh, by omega, hm, hs, ?_⟩
    have h3 := congrArg (fun l => l.take (td.length * 2)) ht
    simp only [List.take_take] at h3
    rw [Nat.min_eq_left (by omega), cellsI_take] at h3
    rw [h3]; simp

/-- How long a slice is. -/
def lenV : Value → Nat
  | .slice _ n _ => n
  | _ => 0
def lenAt (w : World) (p : Addr) : Nat := match w.cell? p with
  | some v => lenV v
  | none => 0
theorem TabAt.len {B : Nat} {w : World} {t : Nat} {v : Value} {ks : List IDd} (h : TabAt B w t v ks) : lenAt w ⟨t, 1, none⟩ = ks.length := by
  obtain ⟨pa, cap, hv⟩ := ownsRow_form h.keys
  unfold lenAt; rw [two_c1 h.at_, hv]; rfl

set_option maxRecDepth 100000 in
set_option maxHeartbeats 1600000 in
theorem waits (v : Value) (l : List Resd) (a : IDd) (p : Nat) (w : World) (hv : RessV w v l) (h0 : w.cell? ⟨p, 0, none⟩ = some (.string a.kind)) (h1 : w.cell? ⟨p, 1, none⟩ = some (.string a.name)) (hU : (allAfter l).length ≤ 1000) :
    Calls Tryz.prog 89 #[v, .agg #[.string a.kind, .string a.name], .func (.func 90) #[] #[.pointer (some ⟨p, 0, none⟩)]] w (CircIs w l a) := by
  obtain ⟨va, vc, rfl, -, -, -⟩ := hv.shape
  obtain ⟨i0, hi0, hz0, hz1, hz2⟩ := info_of infoID
  replace hv := hide hv; replace h0 := hide h0; replace h1 := hide h1; replace hi0 := hide hi0
  go_enter Tryz.func89, Tryz.ntmps89
  go_wp2_with fail
  refine (tabNew _).mono ?_
  rintro e w1 ⟨rfl, hT1, hX1⟩
  have m0 := hX1.out.cells (p := ⟨w.heap.size, 0, none⟩) (v := .string a.kind) (by simp [go_sem])
  have m1 := hX1.out.cells (p := ⟨w.heap.size, 1, none⟩) (v := .string a.name) (by simp [go_sem])
  have hT2 := hide ((hT1.out.low (B' := w.heap.size) (by simp)).ext ((Ext.refl w1).alloc (.cells #[.string a.kind, .string a.name] 25)))
  have hs0 : (w.alloc (Obj.cells #[Value.string a.kind, Value.string a.name] 25)).heap.size = w.heap.size + 1 := by simp
  rw [hs0] at hT2
  clear hs0
  have hX2 := hide ((((Ext.refl w).alloc _).trans hX1.out).alloc (.cells #[.string a.kind, .string a.name] 25))
  have hO2 : Hid ((w1.alloc (.cells #[.string a.kind, .string a.name] 25)).ownsRow w.heap.size 25 2 (.slice (some ⟨w1.heap.size, 0, none⟩) 1 1) [a].length (cellsI [a])) :=
    ⟨rfl, .inr ⟨w1.heap.size, 1, _, rfl, by have := Ext.size hX1.out; simp at this; omega, heap_alloc_new w1 _, Nat.le_refl _, by unfold maxLen; omega, rfl, rfl⟩⟩
  go_wp2_with fail
  obtain ⟨U, hUe⟩ : ∃ U, U = (allAfter l).length := ⟨_, rfl⟩
  rw [← hUe] at hU
  go_loopw [8] (fun b wr => ∃ (ks td : List IDd) (pa : Option Addr) (cap : Nat) (vt : Value), b = .slice pa td.length cap ∧ td.length ≤ ks.length + 1 ∧ ks.length ≤ U ∧ Hid (Met l a ks td) ∧ Hid (TabAt w.heap.size wr (w.heap.size + 1) vt ks) ∧ Hid (wr.ownsRow w.heap.size 25 2 (.slice pa td.length cap) td.length (cellsI td)) ∧ Hid (Ext w wr)) (fun b wr => 2 * (U - lenAt wr ⟨w.heap.size + 1, 1, none⟩) + lenV b)
  case atStart => exact ⟨[], [a], _, _, _, rfl, by simp, Nat.zero_le _, Met.start l a, hT2, hO2, hX2⟩
  case round =>
    obtain ⟨ks, td, pa, cap, vt, rfl, htd, hks, hM, hT, hO, hX⟩ := hrel
    rcases List.eq_nil_or_concat td with rfl | ⟨td, x, rfl⟩
    · have hfin := hide hM.out.finish
      go_wp2
      go_ret
      exact ⟨false, rfl, by show _ ↔ _; simp [hfin.out], hX⟩
    · rw [List.concat_eq_append] at *
      obtain ⟨-, hc1, hc2, hin⟩ := keys_in hO.out
      unfold maxLen at hc2
      rcases hin with hin | ⟨g, rfl, hin⟩
      · simp at hin
      obtain ⟨g0, g1⟩ := hin td.length x (by simp)
      rw [Nat.zero_add] at g0 g1
      have hcut := hide (ownsRow_cut hO.out)
      rw [List.length_append, List.length_singleton] at htd hc1
      have hb : td.length ≤ 1000 := by omega
      have hpop := hide hM.out.pop
      have e2 : (0 : Int) ≤ (td.length : Int) := by omega
      have e3 : (td.length : Int) < (td.length : Int) + 1 := by omega
      have hX3 := hide (hX.out.alloc (.cells #[.string x.kind, .string x.name] 25))
      have hafter := hide (afterOf _ l x w (wr.alloc (.cells #[.string x.kind, .string x.name] 25)) hv.out hX3.out)
      replace hin := hide hin
      go_wp2_with fail
      refine hafter.out.mono ?_
      rintro e w2 ⟨pa2, cap2, rfl, hI2, hX2'⟩
      obtain ⟨⟨pa3, cap3, hsh, hcc1, hcc2, hI3⟩, -, hok⟩ := hI2.out
      obtain ⟨rfl, -, rfl⟩ : pa2 = pa3 ∧ True ∧ cap2 = cap3 := by simpa using hsh
      clear hsh hI2
      replace hI3 := hide hI3; replace hok := hide hok
      have hTi := hide (hT.out.ext (((Ext.refl wr).alloc _).trans hX2'.out))
      have hOi : Hid (w2.ownsRow w.heap.size 25 2 (.slice (some ⟨g, 0, none⟩) td.length cap) td.length (cellsI td)) := ownsRow_wrote hcut.out (Wrote.ext (B := 0) (T := fun _ => False) (((Ext.refl wr).alloc _).trans hX2'.out)) id rfl
      have hXi := hide (hX3.out.trans hX2'.out)
      generalize hm : (afterL l x).length = m at *
      replace hm := hide hm
      have hlt0 := hT.out.len
      replace hlt0 := hide hlt0
      clear hafter hX3 g0 g1
      obtain ⟨wo, rfl⟩ : ∃ wo : World, wo = wr := ⟨_, rfl⟩
      go_wp2_with fail
      go_loopw [8, 33] (fun b i wr => ∃ (ks1 td1 : List IDd) (pa1 : Option Addr) (cap1 : Nat) (vt1 : Value) (k : Nat), b = .slice pa1 td1.length cap1 ∧ i = .int .i64 k ∧ k ≤ m ∧ td1.length ≤ ks1.length ∧ ks1.length ≤ U ∧ 2 * (U - ks1.length) + td1.length ≤ 2 * (U - ks.length) + td.length ∧ Hid (MetI l a ks1 td1 x k) ∧ Hid (TabAt w.heap.size wr (w.heap.size + 1) vt1 ks1) ∧ Hid (wr.ownsRow w.heap.size 25 2 (.slice pa1 td1.length cap1) td1.length (cellsI td1)) ∧ Hid (Ext w wr)) (fun _ i _ => m - (intOf i).toNat)
      case atStart => exact ⟨ks, td, _, _, _, 0, rfl, rfl, Nat.zero_le _, by omega, hks, Nat.le_refl _, hpop, hTi, hOi, hXi⟩
      case round =>
        obtain ⟨ks1, td1, pa1, cap1, vt1, k, rfl, rfl, hk, htd1, hks1, hms, hMI, hT1', hO1, hX1'⟩ := hrel
        by_cases hlt : k < m
        · rcases hI3.out with hnil | ⟨b, off, rfl, hin3⟩
          · have := hm.out; rw [hnil] at this; simp at this; omega
          obtain ⟨c, hc⟩ := some_of_lt (show k < (afterL l x).length by rw [hm.out]; exact hlt)
          obtain ⟨g0, g1⟩ := (hin3.ext hX1'.out) k c hc
          have i2 : (k : Int) < (m : Int) := by omega
          have i3 : (0 : Int) ≤ (k : Int) := by omega
          have hX4 := hide (hX1'.out.alloc (.cells #[.string c.kind, .string c.name] 25))
          have hhit := hide (hitW a c p (wr.alloc (.cells #[.string c.kind, .string c.name] 25)) (hX4.out.cells h0.out) (hX4.out.cells h1.out))
          replace hin3 := hide hin3; replace hc := hide hc
          go_wp2_with fail
          refine hhit.out.mono ?_
          rintro e w3 ⟨rfl, hX3⟩
          have hE3 := ext_heap hX3 (heap_alloc_new wr _)
          have hXw := hide (hX4.out.trans hX3)
          have hTw := hide (hT1'.out.ext (((Ext.refl wr).alloc _).trans hX3))
          have hOw : Hid (w3.ownsRow w.heap.size 25 2 (.slice pa1 td1.length cap1) td1.length (cellsI td1)) := ownsRow_wrote hO1.out (Wrote.ext (B := 0) (T := fun _ => False) (((Ext.refl wr).alloc _).trans hX3)) id rfl
          have q0 := two_c0 hE3
          have q1 := two_c1 hE3
          replace hE3 := hide hE3; replace hX3 := hide hX3
          clear hhit g0 g1
          cases hb1 : hitK c a
          · have hne := hide (show c ≠ a from fun e => by rw [hitK_iff.2 e] at hb1; cases hb1)
            have hhas := hide (tabHas w.heap.size vt1 ks1 c (w.heap.size + 1) w3 hTw.out)
            go_wp2_with fail
            refine hhas.out.mono ?_
            rintro e w4 ⟨b4, rfl, hb4, hX4'⟩
            have hE4 := ext_heap hX4'.out hE3.out
            have hXv := hide (hXw.out.trans hX4'.out)
            have hTv := hide (hTw.out.ext hX4'.out)
            have hOv : Hid (w4.ownsRow w.heap.size 25 2 (.slice pa1 td1.length cap1) td1.length (cellsI td1)) := ownsRow_wrote hOw.out (Wrote.ext (B := 0) (T := fun _ => False) hX4'.out) id rfl
            clear q0 q1 hhas
            have q0 := two_c0 hE4
            have q1 := two_c1 hE4
            replace hE4 := hide hE4
            cases b4
            · have hnew : Hid (c ∉ ks1) := fun h => by have := hb4.out.2 h; cases this
              have hput := hide (tabPut w.heap.size vt1 ks1 c (w.heap.size + 1) w4 hTv.out hnew.out (Ext.size hXv.out) (by omega))
              go_wp2_with fail
              refine hput.out.mono ?_
              rintro e w5 ⟨i5, pa5, cap5, n5, rfl, hs5, hT5, hW5⟩
              have hE5 := hW5.out.keeps hE4.out (by decide)
              have hO5 : Hid (w5.ownsRow w.heap.size 25 2 (.slice pa1 td1.length cap1) td1.length (cellsI td1)) := ownsRow_wrote hOv.out hW5.out (by decide) rfl
              have hX5 := hide (hXv.out.wrote hW5.out (Nat.le_refl _))
              clear q0 q1 hput
              have q0 := two_c0 hE5
              have q1 := two_c1 hE5
              have hB5 := hide (Ext.size hX5.out)
              replace hE5 := hide hE5
              have hMn := hide (hMI.out.new hc.out hs5.out hnew.out hne.out)
              have hl5 : ks1.length + 1 ≤ U := by
                have h6 := hMn.out.up.few hMn.out.sub
                rw [ins_len hs5.out.le, ← hUe] at h6
                exact h6
              go_wp2_with (at_builtin; go_must (refine wpList_append_lies _ rfl _ _ 27 rfl w.heap.size 25 i0 (.agg #[.string ⟨#[]⟩, .string ⟨#[]⟩]) 2 32 Tryz.underlying27 hi0.out hz0 hz1 hz2 rfl (by omega) _ td1.length (cellsI td1) rfl (hO5.out.alloc _) ⟨w5.heap.size, 0, none⟩ 1 1 (cI c) rfl rfl ?_ (cI_one _) (by omega) (by unfold maxLen; omega) (by omega) (by have := hB5.out; simp; omega) (w5.heap.size + 1) (by simp) ?_; (intro j u hu; rw [add_eq]; (match j, hu with | 0, hu => (simp [cI] at hu; subst hu; simp [go_sem]) | 1, hu => (simp [cI] at hu; subst hu; simp [go_sem]) | _ + 2, hu => (simp [cI] at hu))); intro g6 cap6 w6 hown6 hgrow6 hat6 hlt6))
              have hW6 : Wrote w.heap.size (· = 25) w5 w6 := (Wrote.refl w.heap.size _ w5).grownAt hO5.out rfl hgrow6
              go_roundw
              case rel =>
                have hl6 : (td1 ++ [c]).length = td1.length + 1 := by simp
                have hl7 := ins_len (a := c) hs5.out.le
                refine ⟨insL ks1 i5 c, td1 ++ [c], _, _, _, k + 1, by rw [hl6], by go_num, by omega, by rw [hl6, hl7]; omega, by rw [hl7]; exact hl5, by rw [hl6, hl7]; omega, hMn, hT5.out.wrote hW6 (by decide), ?_, hX5.out.wrote hW6 (Nat.le_refl _)⟩
                show World.ownsRow _ _ _ _ _ _ _
                rw [hl6, cellsI_app]; exact hown6
              case measure => simp [intOf]; omega
            · have hold := hide (hMI.out.old hc.out (hb4.out.1 rfl))
              go_wp2_with fail
              go_roundw
              case rel => exact ⟨ks1, td1, pa1, cap1, vt1, k + 1, rfl, by go_num, by omega, htd1, hks1, hms, hold, hTv, hOv, hXv⟩
              case measure => simp [intOf]; omega
          · have hca : c = a := hitK_iff.1 hb1
            have hcirc := hide (hMI.out.hit (hca ▸ hc.out))
            replace hca := hide hca
            go_wp2_with fail
            go_ret
            exact ⟨true, rfl, by show _ ↔ _; simp [hcirc.out], hXw⟩
        · have hfin := hide (hMI.out.finish (by rw [hm.out]; omega))
          go_wp2_with fail
          go_roundw
          case rel => exact ⟨ks1, td1, pa1, cap1, vt1, rfl, by omega, hks1, hfin, hT1', hO1, hX1'⟩
          case measure => 
            have e5 := hT1'.out.len
            simp only [lenV]
            rw [e5, hlt0.out]
            simp
            omega
end Go.Proofs.YtfmcgdglalljgaaGreatDoor

namespace Go.Proofs.YtfmcgdglalljgaaGreatDoor
open Go.RowKit

/-- Is an ID that of a resource of the list? -/
def hasB (l : List Resd) (a : IDd) : Bool := (placeL l a).isSome
theorem placeI_nonneg (l : List Resd) (a : IDd) : decide (0 ≤ placeI l a) = hasB l a := by
  unfold placeI hasB
  cases placeL l a with
  | none => rfl
  | some j => simp
set_option maxRecDepth 100000 in
set_option maxHeartbeats 1600000 in
theorem indexFunc (v : Value) (l : List Resd) (a : IDd) (p : Nat) (w : World) (hv : RessV w v l) (h0 : w.cell? ⟨p, 0, none⟩ = some (.string a.kind)) (h1 : w.cell? ⟨p, 1, none⟩ = some (.string a.name)) :
    Calls Tryz.prog 121 #[v, .func (.func 88) #[] #[.pointer (some ⟨p, 0, none⟩)]] w fun e w' => e = .returned (.int .i64 (placeI l a)) ∧ Ext w w' := by
  obtain ⟨⟨pa, cap, rfl, hc1, hc2, hin⟩, hfew⟩ := hv
  replace hin := hide hin; replace h0 := hide h0; replace h1 := hide h1
  go_enter Tryz.func121, Tryz.ntmps121
  go_wp2_with fail
  go_loopw [8] (fun i wr => ∃ j : Nat, j ≤ l.length ∧ i = .int .i64 j ∧ Hid (∀ i y, i < j → l[i]? = some y → hitI y a = false) ∧ Hid (Ext w wr)) (fun i _ => l.length - (intOf i).toNat)
  case atStart => exact ⟨0, Nat.zero_le _, rfl, fun _ _ h => absurd h (by omega), Ext.refl _⟩
  case round =>
    obtain ⟨j, hj, rfl, hno, hx⟩ := hrel
    by_cases hlt : j < l.length
    · obtain ⟨x, hxj⟩ := some_of_lt hlt
      rcases hin.out with h | ⟨b, off, rfl, h⟩
      · rw [h] at hlt; simp at hlt
      obtain ⟨k0, k1, c2, c3, k2, k3, hR⟩ := h j x hxj
      replace k0 := hx.out.cells k0
      replace k1 := hx.out.cells k1
      replace k2 := hx.out.cells k2
      replace k3 := hx.out.cells k3
      obtain ⟨a2, p2, rfl⟩ := hR.attrs.form
      obtain ⟨a3, p3, rfl⟩ := hR.after.form
      have j2 : (j : Int) < (l.length : Int) := by omega
      have j4 : (0 : Int) ≤ (j : Int) := by omega
      have hh := hide (hitB a x.id a2 a3 x.attrs.length x.after.length p2 p3 p wr (hx.out.cells h0.out) (hx.out.cells h1.out))
      replace h := hide h; replace hxj := hide hxj; replace hR := hide hR
      go_wp2_with fail
      refine hh.out.mono ?_
      rintro e w1 ⟨rfl, he1⟩
      replace he1 := hide he1
      cases hb : hitK x.id a
      · go_wp2_with fail
        go_roundw
        case rel =>
          refine ⟨j + 1, by omega, by go_num, fun i y hi hy => ?_, hx.out.trans he1.out⟩
          by_cases hij : i = j
          · subst hij
            obtain rfl : x = y := by simpa [hxj.out] using hy
            exact hb
          · exact hno.out i y (by omega) hy
        case measure => simp [intOf]; omega
      · have hp := hide (place_at hno.out hxj.out hb)
        go_wp2_with fail
        go_ret
        exact ⟨by rw [hp.out]; rfl, hx.out.trans he1.out⟩
    · have hp := hide (place_no (l := l) (a := a) fun i y hy => hno.out i y (by have := (List.getElem?_eq_some_iff.1 hy).1; omega) hy)
      go_wp2_with fail
      go_ret
      exact ⟨by rw [hp.out]; rfl, hx.out⟩

set_option maxRecDepth 100000 in
set_option maxHeartbeats 800000 in
theorem containsFunc (v : Value) (l : List Resd) (a : IDd) (p : Nat) (w : World) (hv : RessV w v l) (h0 : w.cell? ⟨p, 0, none⟩ = some (.string a.kind)) (h1 : w.cell? ⟨p, 1, none⟩ = some (.string a.name)) :
    Calls Tryz.prog 87 #[v, .func (.func 88) #[] #[.pointer (some ⟨p, 0, none⟩)]] w fun e w' => e = .returned (.bool (hasB l a)) ∧ Ext w w' := by
  have hh := hide (indexFunc v l a p w hv h0 h1)
  obtain ⟨va, vc, rfl, -, -, -⟩ := hv.shape
  have hp := hide (placeI_nonneg l a)
  generalize placeI l a = z at *
  clear hv h0 h1
  go_enter Tryz.func87, Tryz.ntmps87
  go_wp2_with fail
  refine hh.out.mono ?_
  rintro e w1 ⟨rfl, he1⟩
  replace he1 := hide he1
  go_wp2_with fail
  go_ret
  exact ⟨retB hp.out, he1.out⟩

set_option maxRecDepth 100000 in
set_option maxHeartbeats 800000 in
theorem hasOne (v : Value) (l : List Resd) (a : IDd) (p : Nat) (w : World) (hv : RessV w v l) (h0 : w.cell? ⟨p, 0, none⟩ = some v) :
    Calls Tryz.prog 86 #[.agg #[.string a.kind, .string a.name], .pointer (some ⟨p, 0, none⟩)] w fun e w' => e = .returned (.bool (hasB l a)) ∧ Ext w w' := by
  have X1 := hide ((Ext.refl w).alloc (.cells #[.string a.kind, .string a.name] 25))
  have g0 := X1.out.cells h0
  have hh := hide (containsFunc v l a w.heap.size (w.alloc (.cells #[.string a.kind, .string a.name] 25)) (hv.ext X1.out) (by simp [go_sem]) (by simp [go_sem]))
  obtain ⟨va, vc, rfl, -, -, -⟩ := hv.shape
  clear hv h0
  go_enter Tryz.func86, Tryz.ntmps86
  go_wp2_with fail
  refine hh.out.mono ?_
  rintro e w1 ⟨rfl, he1⟩
  replace he1 := hide he1
  go_wp2_with fail
  go_ret
  exact ⟨rfl, X1.out.trans he1.out⟩

set_option maxRecDepth 100000 in
set_option maxHeartbeats 800000 in
theorem everyHas (v va : Value) (l : List Resd) (ids : List IDd) (p : Nat) (w : World) (hl : RessV w va l) (h0 : w.cell? ⟨p, 0, none⟩ = some va) (hv : IDsV w v ids) :
    Calls Tryz.prog 85 #[v, .func (.func 86) #[] #[.pointer (some ⟨p, 0, none⟩)]] w fun e w' => e = .returned (.bool (ids.all (hasB l))) ∧ Ext w w' := by
  obtain ⟨⟨a, cap, rfl, hcap, hmax, hs⟩, hfew, hok⟩ := hv
  replace hs := hide hs; replace hl := hide hl; replace h0 := hide h0
  go_enter Tryz.func85, Tryz.ntmps85
  go_wp2
  go_loopw [9] (fun i wr => ∃ k : Nat, k ≤ ids.length ∧ i = .int .i64 k ∧ Hid ((ids.take k).all (hasB l) = true) ∧ Ext w wr) (fun i _ => ids.length - (intOf i).toNat)
  case atStart => exact ⟨0, Nat.zero_le _, rfl, by simp [Hid], Ext.refl _⟩
  case round =>
    obtain ⟨k, hk, rfl, hall, he⟩ := hrel
    by_cases hlt : k < ids.length
    · rcases hs.out with h | ⟨b, off, rfl, hin⟩
      · rw [h] at hlt; simp at hlt
      obtain ⟨x, hx⟩ := some_of_lt hlt
      obtain ⟨g0, g1⟩ := (hin.ext he) k x hx
      have Hs := hide (all_succ (p := hasB l) hx hall.out)
      have Hf := hide (all_no (p := hasB l) hx)
      have hh := hide (hasOne va l x p (wr.alloc (.cells #[.string x.kind, .string x.name] 25)) (hl.out.ext (he.alloc _)) ((he.alloc _).cells h0.out))
      replace hin := hide hin
      replace he := hide he
      replace hx := hide hx
      go_wp2_with fail
      refine hh.out.mono ?_
      rintro e w1 ⟨rfl, he1⟩
      replace he1 := hide he1
      cases hb : hasB l x
      · go_wp2_with fail
        go_ret
        exact ⟨retB (unhide Hf hb).symm, (he.out.alloc _).trans he1.out⟩
      · go_wp2_with fail
        go_roundw
        case rel => exact ⟨k + 1, by omega, by go_num, by rw [unhide Hs]; exact hb, (he.out.alloc _).trans he1.out⟩
        case measure => simp [intOf]; omega
    · have Hl := hide (show ids.take k = ids from List.take_of_length_le (by omega))
      replace he := hide he
      go_wp2
      go_ret
      exact ⟨retB (by rw [unhide Hl] at hall; exact hall.out.symm), he.out⟩

set_option maxRecDepth 100000 in
set_option maxHeartbeats 800000 in
theorem hasAll (v va : Value) (l : List Resd) (ids : List IDd) (w : World) (hl : RessV w va l) (hv : IDsV w v ids) :
    Calls Tryz.prog 51 #[va, v] w fun e w' => e = .returned (.bool (ids.all (hasB l))) ∧ Ext w w' := by
  have X1 := hide ((Ext.refl w).alloc (.cells #[va] 36))
  have hh := hide (everyHas v va l ids w.heap.size (w.alloc (.cells #[va] 36)) (hl.ext X1.out) (by simp [go_sem]) (hv.ext X1.out))
  obtain ⟨a1, c1, rfl, -, -, -⟩ := hl.shape
  obtain ⟨a2, c2, rfl, -, -, -⟩ := hv.shape
  clear hl hv
  go_enter Tryz.func51, Tryz.ntmps51
  go_wp2_with fail
  refine hh.out.mono ?_
  rintro e w1 ⟨rfl, he1⟩
  replace he1 := hide he1
  go_wp2_with fail
  go_ret
  exact ⟨rfl, X1.out.trans he1.out⟩

set_option maxRecDepth 100000 in
set_option maxHeartbeats 800000 in
theorem waitsForItself (v : Value) (l : List Resd) (a : IDd) (w : World) (hv : RessV w v l) (hU : (allAfter l).length ≤ 1000) :
    Calls Tryz.prog 52 #[v, .agg #[.string a.kind, .string a.name]] w (CircIs w l a) := by
  have X1 := hide ((Ext.refl w).alloc (.cells #[.string a.kind, .string a.name] 25))
  have hh := hide (waits v l a w.heap.size (w.alloc (.cells #[.string a.kind, .string a.name] 25)) (hv.ext X1.out) (by simp [go_sem]) (by simp [go_sem]) hU)
  obtain ⟨a1, c1, rfl, -, -, -⟩ := hv.shape
  clear hv
  go_enter Tryz.func52, Tryz.ntmps52
  go_wp2_with fail
  refine hh.out.mono ?_
  rintro e w1 ⟨b, rfl, hb, he1⟩
  go_wp2_with fail
  go_ret
  exact ⟨b, rfl, hb, X1.out.trans he1.out⟩

/-- Does it wait for itself? -/
noncomputable def circB (l : List Resd) (a : IDd) : Bool := @decide (IdCirc l a) (Classical.propDecidable _)
theorem circB_of {l : List Resd} {a : IDd} {b : Bool} (h : b = true ↔ IdCirc l a) : b = circB l a := by
  rw [Bool.eq_iff_iff, h]; simp [circB]
noncomputable def wholeB (l : List Resd) (x : Resd) : Bool := x.after.all (hasB l) && !circB l x.id
theorem okB_after {l : List Resd} (h : mayAllB l = true) : (allAfter l).length ≤ 1000 := by
  simp only [mayAllB, Bool.and_eq_true, decide_eq_true_eq, List.all_eq_true] at h
  have h1 : ∀ x ∈ l, x.after.length ≤ 6 := fun x hx => by
    have := h.1.2 x hx
    simp only [mayB, Bool.and_eq_true, decide_eq_true_eq] at this
    exact this.1.1.1.1.1.2
  have : ∀ (l : List Resd), (∀ x ∈ l, x.after.length ≤ 6) → (allAfter l).length ≤ l.length * 6 := fun l => by
    induction l with
    | nil => intro _; simp [allAfter]
    | cons x l ih =>
      intro h
      have := ih (fun y hy => h y (List.mem_cons_of_mem _ hy))
      have := h x (List.mem_cons_self ..)
      simp [allAfter] at *
      omega
  have := this l h1
  omega
theorem rises_pair : ∀ {l : List Resd}, risesB lessR l = true → l.Pairwise fun a b => cmpI a.id b.id < 0
  | [], _ => List.Pairwise.nil
  | [_], _ => List.pairwise_singleton _ _
  | a :: b :: l, h => by
    simp only [risesB, Bool.and_eq_true] at h
    have ih := rises_pair h.2
    have hab : cmpI a.id b.id < 0 := by simpa [lessR, lessI] using h.1
    refine List.pairwise_cons.2 ⟨fun y hy => ?_, ih⟩
    rcases List.mem_cons.1 hy with rfl | hy
    · exact hab
    · exact cmpI_trans hab ((List.pairwise_cons.1 ih).1 y hy)
theorem may_apart {l : List Resd} (h : mayAllB l = true) : Apart l := by
  simp only [mayAllB, Bool.and_eq_true] at h
  have hp := List.pairwise_iff_getElem.1 (rises_pair h.2)
  intro i j x y hi hj e
  obtain ⟨h1, rfl⟩ := List.getElem?_eq_some_iff.1 hi
  obtain ⟨h2, rfl⟩ := List.getElem?_eq_some_iff.1 hj
  rcases Nat.lt_trichotomy i j with hij | hij | hij
  · have := hp i j h1 h2 hij
    rw [e, cmpI_zero.2 rfl] at this; omega
  · exact hij
  · have := hp j i h2 h1 hij
    rw [e, cmpI_zero.2 rfl] at this; omega
theorem whole_iff {l : List Resd} (h : mayAllB l = true) : l.all (wholeB l) = true ↔ WholeP l := by
  have ha := may_apart h
  rw [List.all_eq_true]
  constructor
  · intro hw
    refine ⟨fun i x hx k a hk => ?_, fun i hi hc => ?_⟩
    · have := hw x (List.mem_of_getElem? hx)
      simp only [wholeB, Bool.and_eq_true, List.all_eq_true] at this
      have := this.1 a (List.mem_of_getElem? hk)
      exact Option.isSome_iff_exists.1 this
    · have hx := List.getElem?_eq_getElem hi
      have := hw l[i] (List.getElem_mem hi)
      simp only [wholeB, Bool.and_eq_true] at this
      have h2 := this.2
      have := (circ_iff ha hx).2 hc
      simp [circB, this] at h2
  · rintro ⟨h1, h2⟩ x hx
    obtain ⟨i, hi, rfl⟩ := List.getElem_of_mem hx
    have hx := List.getElem?_eq_getElem hi
    simp only [wholeB, Bool.and_eq_true, List.all_eq_true]
    refine ⟨fun a hm => ?_, ?_⟩
    · obtain ⟨k, hk⟩ := List.mem_iff_getElem?.1 hm
      exact Option.isSome_iff_exists.2 (h1 i _ hx k a hk)
    · have h3 : ¬ IdCirc l l[i].id := fun e => h2 i hi ((circ_iff ha hx).1 e)
      simpa [circB] using h3

set_option maxRecDepth 100000 in
set_option maxHeartbeats 1600000 in
theorem wholeOne (va c2 c3 : Value) (l : List Resd) (x : Resd) (p : Nat) (w : World) (hl : RessV w va l) (h0 : w.cell? ⟨p, 0, none⟩ = some va) (hx : ResV w c2 c3 x) (hU : (allAfter l).length ≤ 1000) :
    Calls Tryz.prog 50 #[.agg #[.string x.id.kind, .string x.id.name, c2, c3], .pointer (some ⟨p, 0, none⟩)] w fun e w' => e = .returned (.bool (wholeB l x)) ∧ Ext w w' := by
  have X1 := hide ((Ext.refl w).alloc (.cells #[.string x.id.kind, .string x.id.name, c2, c3] 29))
  have g0 := X1.out.cells h0
  have hh := hide (hasAll c3 va l x.after (w.alloc (.cells #[.string x.id.kind, .string x.id.name, c2, c3] 29)) (hl.ext X1.out) (hx.after.ext X1.out))
  have hw := fun w1 (h : Ext (w.alloc (.cells #[.string x.id.kind, .string x.id.name, c2, c3] 29)) w1) => waitsForItself va l x.id w1 (hl.ext (X1.out.trans h)) hU
  replace hw := hide hw
  obtain ⟨a1, c1, rfl, -, -, -⟩ := hl.shape
  obtain ⟨a2, p2, rfl⟩ := hx.attrs.form
  obtain ⟨a3, p3, rfl⟩ := hx.after.form
  clear hl h0 hx
  go_enter Tryz.func50, Tryz.ntmps50
  go_wp2_with fail
  refine hh.out.mono ?_
  rintro e w1 ⟨rfl, he1⟩
  have hE := ext_heap he1 (heap_alloc_new w _)
  obtain ⟨q0, q1, q2, q3⟩ := four_cells hE
  have g1 := he1.cells g0
  have hcall := hide (hw.out w1 he1)
  replace hE := hide hE; replace he1 := hide he1
  cases hb : x.after.all (hasB l)
  · have H : Hid (wholeB l x = false) := by show _ = _; simp only [wholeB, hb]; rfl
    go_wp2_with fail
    go_ret
    exact ⟨retB (by rw [H.out]), X1.out.trans he1.out⟩
  · go_wp2_with fail
    refine hcall.out.mono ?_
    rintro e w2 ⟨b, rfl, hb2, he2⟩
    have H : Hid (wholeB l x = !b) := by show _ = _; simp only [wholeB, hb]; rw [circB_of hb2.out]; rfl
    go_wp2_with fail
    go_ret
    exact ⟨retB (by rw [H.out]), (X1.out.trans he1.out).trans he2.out⟩

set_option maxRecDepth 100000 in
set_option maxHeartbeats 800000 in
theorem everyWhole (v : Value) (l : List Resd) (p : Nat) (w : World) (hv : RessV w v l) (h0 : w.cell? ⟨p, 0, none⟩ = some v) (hU : (allAfter l).length ≤ 1000) :
    Calls Tryz.prog 49 #[v, .func (.func 50) #[] #[.pointer (some ⟨p, 0, none⟩)]] w fun e w' => e = .returned (.bool (l.all (wholeB l))) ∧ Ext w w' := by
  have hv0 := hide hv
  have hp0 := hide h0
  obtain ⟨⟨a, cap, rfl, hcap, hmax, hs⟩, hfew⟩ := hv
  replace hs := hide hs
  clear h0
  go_enter Tryz.func49, Tryz.ntmps49
  go_wp2
  go_loopw [9] (fun i wr => ∃ k : Nat, k ≤ l.length ∧ i = .int .i64 k ∧ Hid ((l.take k).all (wholeB l) = true) ∧ Ext w wr) (fun i _ => l.length - (intOf i).toNat)
  case atStart => exact ⟨0, Nat.zero_le _, rfl, by simp [Hid], Ext.refl _⟩
  case round =>
    obtain ⟨k, hk, rfl, hall, he⟩ := hrel
    by_cases hlt : k < l.length
    · rcases hs.out with h | ⟨b, off, rfl, hin⟩
      · rw [h] at hlt; simp at hlt
      obtain ⟨x, hx⟩ := some_of_lt hlt
      obtain ⟨g0, g1, c2, c3, g2, g3, hres⟩ := (hin.ext he) k x hx
      have hw := hide (wholeOne _ c2 c3 l x p (wr.alloc (.cells #[.string x.id.kind, .string x.id.name, c2, c3] 29)) (hv0.out.ext (he.alloc _)) ((he.alloc _).cells hp0.out) (hres.ext ((Ext.refl _).alloc _)) hU)
      obtain ⟨a2, p2, rfl⟩ := hres.attrs.form
      obtain ⟨a3, p3, rfl⟩ := hres.after.form
      clear hres
      have Hs := hide (all_succ (p := wholeB l) hx hall.out)
      have Hf := hide (all_no (p := wholeB l) hx)
      replace hin := hide hin
      replace he := hide he
      replace hx := hide hx
      go_wp2_with fail
      refine hw.out.mono ?_
      rintro e w1 ⟨rfl, he1⟩
      replace he1 := hide he1
      cases hb : wholeB l x
      · go_wp2_with fail
        go_ret
        exact ⟨retB (unhide Hf hb).symm, (he.out.alloc _).trans he1.out⟩
      · go_wp2_with fail
        go_roundw
        case rel => exact ⟨k + 1, by omega, by go_num, by rw [unhide Hs]; exact hb, (he.out.alloc _).trans he1.out⟩
        case measure => simp [intOf]; omega
    · have Hl := hide (show l.take k = l from List.take_of_length_le (by omega))
      replace he := hide he
      go_wp2
      go_ret
      exact ⟨retB (by rw [unhide Hl] at hall; exact hall.out.symm), he.out⟩

/-- Resources that may be, and are whole. -/
noncomputable def fineB (l : List Resd) : Bool := mayAllB l && l.all (wholeB l)

set_option maxRecDepth 100000 in
set_option maxHeartbeats 800000 in
theorem areWhole (v : Value) (l : List Resd) (w : World) (hv : RessV w v l) :
    Calls Tryz.prog 24 #[v] w fun e w' => e = .returned (.bool (fineB l)) ∧ Ext w w' := by
  have X1 := hide ((Ext.refl w).alloc (.cells #[v] 36))
  have hm := hide (allMayBe v l (w.alloc (.cells #[v] 36)) (hv.ext X1.out))
  have c0 : (w.alloc (.cells #[v] 36)).cell? ⟨w.heap.size, 0, none⟩ = some v := by simp [go_sem]
  have hw := fun (hU : (allAfter l).length ≤ 1000) w1 (h : Ext (w.alloc (.cells #[v] 36)) w1) => everyWhole v l w.heap.size w1 (hv.ext (X1.out.trans h)) (h.cells c0) hU
  replace hw := hide hw
  replace c0 := hide c0
  obtain ⟨a1, c1, rfl, -, -, -⟩ := hv.shape
  clear hv
  go_enter Tryz.func24, Tryz.ntmps24
  go_wp2_with fail
  refine hm.out.mono ?_
  rintro e w1 ⟨rfl, he1⟩
  have q0 := he1.cells c0.out
  cases hb : mayAllB l
  · have H : Hid (fineB l = false) := by show _ = _; simp only [fineB, hb]; rfl
    replace he1 := hide he1
    go_wp2_with fail
    go_ret
    exact ⟨retB (by rw [H.out]), X1.out.trans he1.out⟩
  · have H : Hid (fineB l = l.all (wholeB l)) := by show _ = _; simp only [fineB, hb]; rfl
    have hcall := hide (hw.out (okB_after hb) w1 he1)
    replace he1 := hide he1
    go_wp2_with fail
    refine hcall.out.mono ?_
    rintro e w2 ⟨rfl, he2⟩
    replace he2 := hide he2
    go_wp2_with fail
    go_ret
    exact ⟨retB (by rw [H.out]), (X1.out.trans he1.out).trans he2.out⟩
end Go.Proofs.YtfmcgdglalljgaaGreatDoor

namespace Go.Proofs.YtfmcgdglalljgaaGreatDoor
open Go.RowKit

/-- A state as bytes. -/
def stateB (epoch : Int) (l : List Resd) : List UInt8 := [77, 65, 83, 78] ++ bigL 3 epoch ++ listL encR l
def stateL (epoch : Int) (l : List Resd) : List UInt8 := stateB epoch l ++ bigL 4 (sumL (stateB epoch l))
noncomputable def stOk (epoch : Int) (l : List Resd) : Bool := decide (1 ≤ epoch) && decide (epoch ≤ 1000000) && fineB l
noncomputable def stS (epoch : Int) (l : List Resd) : ByteArray := if stOk epoch l then ⟨(stateL epoch l).toArray⟩ else ⟨#[]⟩
noncomputable def stE (epoch : Int) (l : List Resd) : Int := if stOk epoch l then 0 else 11
theorem encR_len {x : Resd} (h : mayB x = true) : (encR x).length ≤ 8000 := by
  have hs := may_sh h
  simp only [mayB, Bool.and_eq_true, decide_eq_true_eq] at h
  have h1 := idL_len hs.1
  have h2 := flat_le (f := attrL) (n := 600) (l := x.attrs) fun a ha => attrL_len (hs.2.1 a ha)
  have h3 := flat_le (f := idL) (n := 600) (l := x.after) fun a ha => idL_len (hs.2.2.1 a ha)
  have h4 : x.attrs.length * 600 ≤ 6 * 600 := Nat.mul_le_mul_right _ h.1.1.1.1.1.1
  have h5 : x.after.length * 600 ≤ 6 * 600 := Nat.mul_le_mul_right _ h.1.1.1.1.1.2
  simp only [encR, listL, List.length_append, bigL_len]
  omega
theorem fine_may {l : List Resd} (h : fineB l = true) : mayAllB l = true := by
  simp only [fineB, Bool.and_eq_true] at h; exact h.1
theorem mays_each {l : List Resd} (h : mayAllB l = true) : l.length ≤ 12 ∧ ∀ x ∈ l, mayB x = true := by
  simp only [mayAllB, Bool.and_eq_true, decide_eq_true_eq, List.all_eq_true] at h
  exact ⟨h.1.1, h.1.2⟩
theorem stateB_len {epoch : Int} {l : List Resd} (h : mayAllB l = true) : 8 ≤ (stateB epoch l).length ∧ (stateB epoch l).length ≤ 97000 := by
  obtain ⟨h1, h2⟩ := mays_each h
  have h3 := flat_le (f := encR) (n := 8000) (l := l) fun x hx => encR_len (h2 x hx)
  have h4 : l.length * 8000 ≤ 12 * 8000 := Nat.mul_le_mul_right _ h1
  simp only [stateB, listL, List.length_append, bigL_len, List.length_cons, List.length_nil]
  omega

set_option maxRecDepth 100000 in
set_option maxHeartbeats 800000 in
theorem appendRess (B : Nat) (v va : Value) (l : List UInt8) (xs : List Resd) (w0 w : World) (hv : Buf B w v l) (hl : l.length ≤ 100) (hA : RessV w0 va xs) (hE : Ext w0 w) (hB : w0.heap.size ≤ B) (hx : ∀ x ∈ xs, mayB x = true) (hn : xs.length ≤ 12) :
    Calls Tryz.prog 26 #[v, va, .func (.func 27) #[] #[]] w (Wrt B w (l ++ listL encR xs)) := by
  obtain ⟨⟨a, ca, rfl, hcap, hmax, hs⟩, hfew⟩ := hA
  obtain ⟨pa, cap, rfl⟩ := hv.form
  replace hv := hide hv; replace hE := hide hE; replace hx := hide hx
  go_enter Tryz.func26, Tryz.ntmps26
  go_wp2_with fail
  refine (appendNumber B _ l xs.length 1 _ hv.out (by omega) (by omega)).mono ?_
  rintro e w1 ⟨acc, pa1, cap1, rfl, hacc, hv1, hb1⟩
  have hlen := bound2 (N := 101) hacc.out (by omega)
  go_wp2
  go_loopw [0, 15] (fun b i wr => ∃ (k : Nat) (acc2 : List UInt8) (pa2 : Option Addr) (cap2 : Nat), k ≤ xs.length ∧ i = .int .i64 k ∧ b = .slice pa2 acc2.length cap2 ∧ acc2.length ≤ 101 + k * 8000 ∧ Hid (acc2 = acc ++ (xs.take k).flatMap encR) ∧ Hid (Buf B wr (.slice pa2 acc2.length cap2) acc2) ∧ Hid (Wrote8 B w wr)) (fun _ i _ => xs.length - (intOf i).toNat)
  case atStart => exact ⟨0, acc, pa1, cap1, Nat.zero_le _, rfl, rfl, by omega, by simp [Hid], hv1, hb1⟩
  case round =>
    obtain ⟨k, acc2, pa2, cap2, hk, rfl, rfl, hlen2, hacc2, hv2, hb2⟩ := hrel
    by_cases hlt : k < xs.length
    · rcases hs with rfl | ⟨b, off, rfl, hin⟩
      · simp at hlt
      obtain ⟨x, hxk⟩ := some_of_lt hlt
      obtain ⟨g0, g1, c2, c3, g2, g3, hres⟩ := (hin.ext (hE.out.wrote hb2.out hB)) k x hxk
      have hres0 := hin k x hxk
      obtain ⟨_, _, d2, d3, e2, e3, hr0⟩ := hres0
      have hr1 := (hE.out.wrote hb2.out hB)
      obtain rfl : d2 = c2 := by have := hr1.cells e2; rw [g2] at this; cases this; rfl
      obtain rfl : d3 = c3 := by have := hr1.cells e3; rw [g3] at this; cases this; rfl
      have hmx := hx.out x (List.mem_of_getElem? hxk)
      have hsx := hide (may_sh hmx)
      have hle := hide (encR_len hmx)
      have Hs := hide (flat_succ (f := encR) hxk)
      have hcall := hide (appendResource B _ d2 d3 acc2 x w0 _ (hv2.out.alloc (.cells #[.string x.id.kind, .string x.id.name, d2, d3] 29)) (by omega) hr0 (hr1.alloc _) hB hsx.out)
      obtain ⟨a2, p2, rfl⟩ := hres.attrs.form
      obtain ⟨a3, p3, rfl⟩ := hres.after.form
      clear hres e2 e3 hr0 hmx
      replace hr1 := hide hr1
      replace hin := hide hin
      replace hxk := hide hxk
      go_wp2_with fail
      refine hcall.out.mono ?_
      rintro e w3 ⟨acc3, pa3, cap3, rfl, hacc3, hv3, hb3⟩
      go_wp2_with fail
      go_roundw
      case rel =>
        refine ⟨k + 1, acc3, pa3, cap3, by omega, by go_num, rfl, ?_, ?_, hv3, (hb2.out.alloc _).trans hb3.out⟩
        · have := hle.out
          rw [hacc3.out, List.length_append]; omega
        · rw [hacc3.out, hacc2.out, Hs.out, List.append_assoc]; rfl
      case measure => simp [intOf]; omega
    · have Hl := hide (show xs.take k = xs from List.take_of_length_le (by omega))
      replace hs := hide hs
      go_wp2
      go_ret
      refine Wrt.mk ?_ hb2.out
      have e : acc2 = l ++ listL encR xs := by rw [hacc2.out, Hl.out, hacc.out, List.append_assoc]; rfl
      rw [← e]; exact hv2.out

/-- []byte of the mark: the world behind it. -/
def markW (w : World) : World := (w.alloc (.cells #[.int .u8 77, .int .u8 65, .int .u8 83, .int .u8 78] 5)).freeze ⟨w.heap.size, 4, none⟩ 1
theorem conv_mark (w : World) : (convert 45 45 (.slice (some ⟨w.heap.size, 0, none⟩) 4 4)).run Tryz.prog (w.alloc (.cells #[.int .u8 77, .int .u8 65, .int .u8 83, .int .u8 78] 5)) = .ok (.slice (some ⟨w.heap.size, 0, none⟩) 4 4) (markW w) := by
  have hsh : (w.alloc (.cells #[.int .u8 77, .int .u8 65, .int .u8 83, .int .u8 78] 5)).shape? w.heap.size = some (5, 4) := by simp only [World.shape?, heap_alloc_new]; rfl
  simp [convert, run_underlying Tryz.underlying45, run_underlying Tryz.underlying5, markStringish, hsh, markW, Result.andThen]
theorem freeze_at {w : World} {b k : Nat} {c : Array Value} {t : TypeId} (h : w.heap[b]? = some (.cells c t (0, 0))) : (w.freeze ⟨b, k, none⟩ 1).heap[b]? = some (.cells c t (k, k + 1)) := by
  unfold World.freeze
  rw [if_neg (by decide)]
  show (w.heap.modify b _)[b]? = _
  rw [Array.getElem?_modify, if_pos rfl, h]; rfl
theorem freeze_other (w : World) (b k j : Nat) (hj : j ≠ b) : (w.freeze ⟨b, k, none⟩ 1).heap[j]? = w.heap[j]? := by
  unfold World.freeze
  rw [if_neg (by decide)]
  show (w.heap.modify b _)[j]? = _
  rw [Array.getElem?_modify, if_neg (fun h => hj h.symm)]
theorem mark_new (w : World) : (markW w).heap[w.heap.size]? = some (.cells #[.int .u8 77, .int .u8 65, .int .u8 83, .int .u8 78] 5 (4, 5)) :=
  freeze_at (heap_alloc_new w _)
theorem mark_ext (w : World) : Ext w (markW w) := by
  refine ⟨rfl, rfl, rfl, by simp [markW, World.freeze], fun k hk => ?_⟩
  unfold markW
  rw [freeze_other _ _ _ _ (by omega)]
  exact Below.heap_alloc w _ k hk
theorem mark_buf (w : World) : Buf w.heap.size (markW w) (.slice (some ⟨w.heap.size, 0, none⟩) 4 4) [77, 65, 83, 78] :=
  ⟨⟨rfl, .inr ⟨w.heap.size, 4, _, (4, 5), rfl, Nat.le_refl _, mark_new w, .inr (Nat.le_refl _), Nat.le_refl _, by unfold maxLen; omega, rfl, rfl⟩⟩, (mark_ext w).size⟩

set_option maxRecDepth 100000 in
set_option maxHeartbeats 1600000 in
theorem stateP (epoch : Int) (v : Value) (l : List Resd) (w : World) (hv : RessV w v l) :
    Calls Tryz.prog 7 #[.int .i64 epoch, v] w fun e w' => e = .returned (.tuple #[.string (stS epoch l), .int .i64 (stE epoch l)]) ∧ Ext w w' := by
  have hv0 := hide hv
  have hw := hide (areWhole v l w hv)
  obtain ⟨va, vc, rfl, -, -, -⟩ := hv.shape
  clear hv
  by_cases h1 : epoch < 1
  · have H : Hid (stOk epoch l = false) := by show _ = _; simp [stOk]; omega
    go_enter Tryz.func7, Tryz.ntmps7
    go_wp2_with fail
    go_ret2
    exact ⟨by simp [stS, stE, H.out], Ext.refl _⟩
  by_cases h2 : 1000000 < epoch
  · have H : Hid (stOk epoch l = false) := by show _ = _; simp [stOk]; omega
    go_enter Tryz.func7, Tryz.ntmps7
    go_wp2_with fail
    go_ret2
    exact ⟨by simp [stS, stE, H.out], Ext.refl _⟩
  go_enter Tryz.func7, Tryz.ntmps7
  go_wp2_with fail
  refine hw.out.mono ?_
  rintro e w1 ⟨rfl, he1⟩
  cases hf : fineB l
  · have H : Hid (stOk epoch l = false) := by show _ = _; simp [stOk, hf]
    replace he1 := hide he1
    go_wp2_with fail
    go_ret2
    exact ⟨by simp [stS, stE, H.out], he1.out⟩
  have H : Hid (stOk epoch l = true) := by show _ = _; simp [stOk, hf]; omega
  have hcv := conv_mark w1
  have hmay := hide (fine_may hf)
  have hX2 := hide (he1.trans (mark_ext w1))
  have hb0 := hide (mark_buf w1)
  have hsz := hide (Ext.size he1)
  replace he1 := hide he1
  go_wp2_with fail
  refine (appendNumber w1.heap.size _ [77, 65, 83, 78] epoch 3 _ hb0.out (by decide) (by omega)).mono ?_
  rintro e w3 ⟨acc3, pa3, cap3, rfl, hacc3, hv3, hW3⟩
  have hlen3 : acc3.length ≤ 7 := by rw [hacc3.out, List.length_append, bigL_len]; decide
  have hX3 := hide (hX2.out.wrote hW3.out hsz.out)
  clear hcv
  go_wp2_with fail
  refine (appendRess w1.heap.size _ _ acc3 l w _ hv3.out (by omega) hv0.out hX3.out hsz.out (mays_each hmay.out).2 (mays_each hmay.out).1).mono ?_
  rintro e w4 ⟨acc4, pa4, cap4, rfl, hacc4, hv4, hW4⟩
  have e4 : Hid (acc4 = stateB epoch l) := by show _ = _; rw [hacc4.out, hacc3.out]; rfl
  have hlen4 : 8 ≤ acc4.length ∧ acc4.length ≤ 97000 := by rw [e4.out]; exact stateB_len hmay.out
  obtain ⟨hlo4, hhi4⟩ := hlen4
  have hcv4 := hv4.out.conv (by omega)
  have hX4 := hide (hX3.out.wrote hW4.out hsz.out)
  have hsum := hide (sum ⟨acc4.toArray⟩ w4 (by show acc4.length ≤ 1048576; omega))
  go_wp2_with fail
  refine hsum.out.mono ?_
  rintro e w5 ⟨rfl, he5⟩
  have hv5 := hide (hv4.out.ext he5)
  have hX5 := hide (hX4.out.trans he5)
  have hsl : Hid (sumL ({ data := acc4.toArray } : ByteArray).data.toList = sumL acc4) := rfl
  clear hcv4 hsum
  replace he5 := hide he5
  go_wp2_with fail
  refine (appendNumber w1.heap.size _ acc4 _ 4 _ hv5.out (by omega) (by omega)).mono ?_
  rintro e w6 ⟨acc6, pa6, cap6, rfl, hacc6, hv6, hW6⟩
  have e6 : Hid (acc6 = stateL epoch l) := by show _ = _; rw [hacc6.out, e4.out]; rfl
  have hpos : 0 < acc6.length := by rw [hacc6.out, List.length_append]; omega
  have hcv6 := hv6.out.conv hpos
  go_wp2_with fail
  go_ret2
  have hS : stS epoch l = ⟨(stateL epoch l).toArray⟩ := by simp [stS, H.out]
  have hE : stE epoch l = 0 := by simp [stE, H.out]
  exact ⟨by rw [hS, hE, ← e6.out]; rfl, hX5.out.wrote hW6.out hsz.out⟩
end Go.Proofs.YtfmcgdglalljgaaGreatDoor

namespace Go.Proofs.YtfmcgdglalljgaaGreatDoor
open Go.RowKit

/-- The epoch and the resources that bytes are, or none, and the error. -/
noncomputable def ldOf (epoch : Int) (l : List Resd) (bs : List UInt8) : Int × List Resd × Int :=
  @ite _ (stOk epoch l = true ∧ stateL epoch l = bs) (Classical.propDecidable _) (epoch, l, 0) (0, [], 16)
theorem ld_yes {epoch : Int} {l : List Resd} {bs : List UInt8} (h : stOk epoch l = true) (h2 : stateL epoch l = bs) : ldOf epoch l bs = (epoch, l, 0) := by
  unfold ldOf; rw [if_pos ⟨h, h2⟩]
theorem ld_no {epoch : Int} {l : List Resd} {bs : List UInt8} (h : ¬ (stOk epoch l = true ∧ stateL epoch l = bs)) : ldOf epoch l bs = (0, [], 16) := by
  unfold ldOf; rw [if_neg h]
def rdEp (l : List UInt8) : Int := numN ((l.drop 4).take 3)
def rdSt (l : List UInt8) : List Resd := (rdList rdRes ((l.drop 4).drop 3)).1
/-- What Load answers. -/
def LdIs (w : World) (epoch : Int) (l : List Resd) (s : ByteArray) (e : Ending) (w' : World) : Prop :=
  ∃ (ps : List ResP) (pa : Option Addr) (cap : Nat) (n en : Int), e = .returned (.tuple #[.int .i64 n, .slice pa ps.length cap, .int .i64 en]) ∧ Hid (ldOf epoch l s.data.toList = (n, ps.map ResP.x, en)) ∧ ps.length ≤ 255 ∧ (en = 0 ∨ (en = 16 ∧ pa = none ∧ ps = [] ∧ cap = 0)) ∧ Hid (RessAt w.heap.size w' (.slice pa ps.length cap) ps) ∧ Hid (Ext w w')

set_option maxRecDepth 100000 in
set_option maxHeartbeats 1600000 in
theorem loadP (s : ByteArray) (w : World) (hs : s.size ≤ 1048576) :
    Calls Tryz.prog 8 #[.string s] w (LdIs w (rdEp s.data.toList) (rdSt s.data.toList) s) := by
  go_enter Tryz.func8, Tryz.ntmps8
  go_wp2_with fail
  refine (newReader s _).mono ?_
  rintro e w1 ⟨rfl, rfl⟩
  have hR0 : Hid (RdAt (w.alloc (.cells #[.string s] 110)) w.heap.size s) := heap_alloc_new w _
  go_wp2_with fail
  refine (take w.heap.size s 4 _ hR0.out (by omega) (by omega)).mono ?_
  rintro e w2 ⟨t, s2, rfl, ht, hL2⟩
  go_wp2_with fail
  refine (number w.heap.size s2 3 _ hL2.out.at_ hL2.out.few (by omega)).mono ?_
  rintro e w3 ⟨n, s3, rfl, hn, hn2, hL3⟩
  go_wp2_with fail
  refine (readRess w.heap.size s3 _ hL3.out.at_ hL3.out.few).mono ?_
  rintro e w4 ⟨ps, pa, cap, s4, rfl, hps, hlen, hat, hL4⟩
  have hep : Hid (rdEp s.data.toList = (n : Int)) := by show _ = _; unfold rdEp; rw [hn.out, hL2.out.list]
  have hst : Hid (rdSt s.data.toList = ps.map ResP.x) := by show _ = _; unfold rdSt; rw [← hL2.out.list, ← hL3.out.list, hps.out]
  have W4 : Wrote w.heap.size (· = 110) w w4 := ((((Wrote.refl w.heap.size (· = 110) w).alloc _).trans hL2.out.wrote).trans hL3.out.wrote).trans hL4.out.wrote
  have X4 := hide W4.toExt
  have hlow : Hid (w.heap.size ≤ w3.heap.size) := by
    have h2 := hL2.out.wrote.size; have h3 := hL3.out.wrote.size; simp at h2; show _ ≤ _; omega
  have hat0 := hide (hat.out.low hlow.out)
  clear W4
  have hml : (ps.map ResP.x).length = ps.length := List.length_map ..
  have hst2 := hide (stateP (n : Int) (.slice pa ps.length cap) (ps.map ResP.x) w4 (hat0.out.ressV (by omega)))
  replace hml := hide hml
  go_wp2_with fail
  refine hst2.out.mono ?_
  rintro e w5 ⟨rfl, he5⟩
  have hat5 := hide (hat0.out.ext he5)
  have X5 := hide (X4.out.trans he5)
  clear hst2
  replace he5 := hide he5
  cases hm : stOk (n : Int) (ps.map ResP.x)
  · have H2 : Hid (stE (n : Int) (ps.map ResP.x) = 11) := by show _ = _; simp [stE, hm]
    have Hd : Hid (ldOf (n : Int) (ps.map ResP.x) s.data.toList = (0, [], 16)) := ld_no (by simp [hm])
    generalize stS (n : Int) (ps.map ResP.x) = es at *
    generalize stE (n : Int) (ps.map ResP.x) = ee at *
    obtain rfl := H2.out
    go_wp2_with fail
    go_ret3
    exact ⟨[], none, 0, 0, 16, rfl, by show _ = _; rw [hep.out, hst.out]; exact Hd.out, Nat.zero_le _, .inr ⟨rfl, rfl, rfl, rfl⟩, RessAt.nil _ _, X5⟩
  · have H2 : Hid (stE (n : Int) (ps.map ResP.x) = 0) := by show _ = _; simp [stE, hm]
    have H1 : Hid (stS (n : Int) (ps.map ResP.x) = ⟨(stateL (n : Int) (ps.map ResP.x)).toArray⟩) := by show _ = _; simp [stS, hm]
    generalize stS (n : Int) (ps.map ResP.x) = es at *
    generalize stE (n : Int) (ps.map ResP.x) = ee at *
    obtain rfl := H2.out
    have hes : Hid (es.toList = stateL (n : Int) (ps.map ResP.x)) := by show _ = _; rw [H1.out, ByteArray.toList_eq]
    cases hq : (es.toList == s.toList)
    · have Hd : Hid (ldOf (n : Int) (ps.map ResP.x) s.data.toList = (0, [], 16)) := ld_no (by
        rintro ⟨_, h2⟩
        rw [hes.out, ByteArray.toList_eq, h2] at hq
        simp at hq)
      go_wp2_with fail
      go_ret3
      exact ⟨[], none, 0, 0, 16, rfl, by show _ = _; rw [hep.out, hst.out]; exact Hd.out, Nat.zero_le _, .inr ⟨rfl, rfl, rfl, rfl⟩, RessAt.nil _ _, X5⟩
    · have Hd : Hid (ldOf (n : Int) (ps.map ResP.x) s.data.toList = ((n : Int), ps.map ResP.x, 0)) := ld_yes hm (by
        have h2 : es.toList = s.toList := by simpa using hq
        rw [hes.out, ByteArray.toList_eq] at h2
        exact h2)
      go_wp2_with fail
      go_ret3
      exact ⟨ps, pa, cap, (n : Int), 0, rfl, by show _ = _; rw [hep.out, hst.out]; exact Hd.out, hlen, .inl rfl, hat5, X5⟩
end Go.Proofs.YtfmcgdglalljgaaGreatDoor

namespace Go.Proofs.YtfmcgdglalljgaaGreatDoor
open Go.RowKit

theorem crc_bd : ∀ (l : List UInt8) (n : Nat), n < 4294967296 → l.foldl crcByte n < 4294967296
  | [], _, h => h
  | c :: l, _, h => crc_bd l _ (crcByte_lt c h)
theorem sum_bd (l : List UInt8) : 0 ≤ sumL l ∧ sumL l ≤ 4294967295 := by
  have := crc_bd l 4294967295 (by decide)
  unfold sumL crcL; omega
end Go.Proofs.YtfmcgdglalljgaaGreatDoor

namespace Go.Proofs.YtfmcgdglalljgaaGreatDoor
open Go.RowKit

theorem st_parts {epoch : Int} {l : List Resd} (h : stOk epoch l = true) : 1 ≤ epoch ∧ epoch ≤ 1000000 ∧ mayAllB l = true := by
  simp only [stOk, Bool.and_eq_true, decide_eq_true_eq] at h
  exact ⟨h.1.1, h.1.2, fine_may h.2⟩
theorem stateL_eq (epoch : Int) (l : List Resd) : stateL epoch l = [77, 65, 83, 78] ++ (bigL 3 epoch ++ (listL encR l ++ bigL 4 (sumL (stateB epoch l)))) := by
  simp [stateL, stateB]
theorem rd_inv {epoch : Int} {l : List Resd} (h : stOk epoch l = true) : rdEp (stateL epoch l) = epoch ∧ rdSt (stateL epoch l) = l := by
  obtain ⟨h1, h2, h3⟩ := st_parts h
  obtain ⟨h4, h5⟩ := mays_each h3
  have e4 : (stateL epoch l).drop 4 = bigL 3 epoch ++ (listL encR l ++ bigL 4 (sumL (stateB epoch l))) := by rw [stateL_eq]; exact List.drop_left' rfl
  have n3 := num3 epoch
  unfold rdEp rdSt
  rw [e4, take_big, drop_big, rdList_inv (by omega) (fun x hx t => rdRes_inv (h5 x hx) t)]
  exact ⟨by omega, rfl⟩
end Go.Proofs.YtfmcgdglalljgaaGreatDoor

namespace Go.Proofs.YtfmcgdglalljgaaGreatDoor
open Go.RowKit

/-- A table lies in memory. -/
structure TabAtE (B : Nat) (w : World) (t : Nat) (v : Value) (rs : List RowE) : Prop where
  at_ : w.heap[t]? = some (.cells #[.func (.func 68) #[] #[], v] 168 (0, 0))
  rows : RowsE B w v rs
  up : UpG cmpI RowE.key rs
  few : rs.length ≤ 1000000
  base : B ≤ t
theorem tabE_c0 {w : World} {k : Nat} {a b : Value} {t : TypeId} {fz : Nat × Nat} (hk : w.heap[k]? = some (.cells #[a, b] t fz)) : w.cell? ⟨k, 0, none⟩ = some a := by simp [World.cell?, hk]
theorem tabE_c1 {w : World} {k : Nat} {a b : Value} {t : TypeId} {fz : Nat × Nat} (hk : w.heap[k]? = some (.cells #[a, b] t fz)) : w.cell? ⟨k, 1, none⟩ = some b := by simp [World.cell?, hk]
theorem tabE_set {w : World} {k : Nat} {a b : Value} {t : TypeId} {fz : Nat × Nat} (hk : w.heap[k]? = some (.cells #[a, b] t fz)) (v : Value) : (w.setCell ⟨k, 1, none⟩ v).heap[k]? = some (.cells #[a, v] t fz) := by
  simp [World.setCell, Array.getElem?_modify, hk]
theorem TabAtE.ext {B : Nat} {w w' : World} {t : Nat} {v : Value} {rs : List RowE} (h : TabAtE B w t v rs) (e : Ext w w') : TabAtE B w' t v rs :=
  ⟨ext_heap e h.at_, ownsRow_wrote h.rows (Wrote.ext (B := 0) (T := fun _ => False) e) id rfl, h.up, h.few, h.base⟩
theorem TabAtE.low {B B' : Nat} {w : World} {t : Nat} {v : Value} {rs : List RowE} (h : TabAtE B w t v rs) (hb : B' ≤ B) : TabAtE B' w t v rs := ⟨h.at_, ownsRow_low h.rows hb, h.up, h.few, Nat.le_trans hb h.base⟩
theorem TabAtE.wrote {B B' : Nat} {T : TypeId → Prop} {w w' : World} {t : Nat} {v : Value} {rs : List RowE} (h : TabAtE B w t v rs) (k : Wrote B' T w w') (hT : ¬ T 180 ∧ ¬ T 168) : TabAtE B w' t v rs :=
  ⟨k.keeps h.at_ hT.2, ownsRow_wrote h.rows k hT.1 rfl, h.up, h.few, h.base⟩

set_option maxRecDepth 100000 in
set_option maxHeartbeats 800000 in
theorem tabFindE (B : Nat) (v : Value) (rs : List RowE) (a : IDd) (t : Nat) (w : World) (ht : TabAtE B w t v rs) :
    Calls Tryz.prog 107 #[.pointer (some ⟨t, 0, none⟩), .agg #[.string a.kind, .string a.name]] w (SrcIsE w rs a) := by
  obtain ⟨pa, cap, rfl⟩ := ownsRow_form ht.rows
  have hw : t < w.heap.size := (Array.getElem?_eq_some_iff.1 ht.at_).1
  have X2 := hide (((Ext.refl w).alloc (.cells #[.pointer (some ⟨t, 0, none⟩)] 123)).alloc (.cells #[.string a.kind, .string a.name] 25))
  have ht2 := hide (ht.ext X2.out.drew)
  have c1 := X2.out.cells (tabE_c1 ht.at_)
  have c0 := hide (X2.out.drew.cells (tabE_c0 ht.at_))
  replace ht := hide ht
  go_enter Tryz.func107, Tryz.ntmps107
  go_wp2_with fail
  go_region_held3 (fun w' => w'.cell? ⟨w.heap.size, 0, none⟩ = some (.pointer (some ⟨t, 0, none⟩)) ∧ w'.cell? ⟨t, 1, none⟩ = some (.slice pa rs.length cap) ∧ w'.cell? ⟨w.heap.size + 1, 0, none⟩ = some (.string a.kind) ∧ w'.cell? ⟨w.heap.size + 1, 1, none⟩ = some (.string a.name)) (go_keep)
    ((go_at_call 138; refine (searchE B _ rs a w.heap.size t _ ht2.out.rows ht2.out.up ht2.out.few (by simp [go_sem]) c0.out).mono ?_; rintro e w1 ⟨i, b, rfl, hi, hs1, hs2, hs3, he1⟩; go_must (have q0 := he1.out.cells (p := ⟨w.heap.size, 0, none⟩) (v := .pointer (some ⟨t, 0, none⟩)) (by simp [go_sem]); have q1 := he1.out.cells (p := ⟨t, 1, none⟩) (v := .slice pa rs.length cap) (by simp [c1]); have qb0 := he1.out.cells (p := ⟨w.heap.size + 1, 0, none⟩) (v := .string a.kind) (by simp [go_sem]); have qb1 := he1.out.cells (p := ⟨w.heap.size + 1, 1, none⟩) (v := .string a.name) (by simp [go_sem]))))
  go_wp2
  go_ret2
  exact ⟨i, b, rfl, hi, hs1, hs2, hs3, X2.out.drew.trans he1.out⟩

set_option maxRecDepth 100000 in
set_option maxHeartbeats 800000 in
theorem tabHasE (B : Nat) (v : Value) (rs : List RowE) (a : IDd) (t : Nat) (w : World) (ht : TabAtE B w t v rs) :
    Calls Tryz.prog 73 #[.pointer (some ⟨t, 0, none⟩), .agg #[.string a.kind, .string a.name]] w fun e w' => ∃ b : Bool, e = .returned (.bool b) ∧ Hid (b = true ↔ HasK RowE.key rs a) ∧ Hid (Ext w w') := by
  have hf := hide (tabFindE B v rs a t _ (ht.ext ((Ext.refl w).alloc (.cells #[.string a.kind, .string a.name] 25))))
  replace ht := hide ht
  go_enter Tryz.func73, Tryz.ntmps73
  go_wp2_with fail
  refine hf.out.mono ?_
  rintro e w1 ⟨i, b, rfl, hi, hs1, hs2, hs3, he1⟩
  go_wp2
  go_ret
  exact ⟨b, rfl, hs2, ((Ext.refl w).alloc (.cells #[.string a.kind, .string a.name] 25)).trans he1.out⟩

set_option maxRecDepth 100000 in
set_option maxHeartbeats 800000 in
theorem tabLenE (B : Nat) (v : Value) (rs : List RowE) (t : Nat) (w : World) (ht : TabAtE B w t v rs) :
    Calls Tryz.prog 133 #[.pointer (some ⟨t, 0, none⟩)] w fun e w' => e = .returned (.int .i64 rs.length) ∧ w' = w := by
  obtain ⟨pa, cap, rfl⟩ := ownsRow_form ht.rows
  have c1 := tabE_c1 ht.at_
  replace ht := hide ht
  go_enter Tryz.func133, Tryz.ntmps133
  go_wp2
  go_ret
  exact ⟨rfl, rfl⟩

set_option maxRecDepth 100000 in
set_option maxHeartbeats 800000 in
theorem tabNewE (w : World) :
    Calls Tryz.prog 67 #[.func (.func 68) #[] #[]] w fun e w' => e = .returned (.pointer (some ⟨w.heap.size, 0, none⟩)) ∧ Hid (TabAtE w.heap.size w' w.heap.size (.slice none 0 0) []) ∧ Hid (w' = w.alloc (.cells #[.func (.func 68) #[] #[], .slice none 0 0] 168)) := by
  go_enter Tryz.func67, Tryz.ntmps67
  go_wp2
  go_ret
  exact ⟨rfl, ⟨heap_alloc_new _ _, World.ownsRow_nil _ _ _ _, List.Pairwise.nil, Nat.zero_le _, Nat.le_refl _⟩, rfl⟩
end Go.Proofs.YtfmcgdglalljgaaGreatDoor

namespace Go.Proofs.YtfmcgdglalljgaaGreatDoor
open Go.RowKit

attribute [local go_sem] Go.World.cell?_alloc_some
/-- Only rows and tables from B on have turned. -/
abbrev WroteTE (B : Nat) (w w' : World) : Prop := Wrote B (fun t => t = 180 ∨ t = 168) w w'
/-- What a key put into a table leaves. -/
def PutIsE (B : Nat) (w : World) (t : Nat) (rs : List RowE) (x : RowE) (e : Ending) (w' : World) : Prop :=
  ∃ (i : Nat) (pa : Option Addr) (cap n : Nat), e = .returned (.tuple #[]) ∧ Hid (StandsG cmpI RowE.key rs x.key i) ∧ Hid (TabAtE B w' t (.slice pa n cap) (insG rs i x)) ∧ Hid (WroteTE B w w')

set_option maxRecDepth 100000 in
set_option maxHeartbeats 3200000 in
theorem tabPutE (B : Nat) (u : Value) (rs : List RowE) (a : IDd) (v : Nat) (t : Nat) (w : World) (ht : TabAtE B w t u rs) (ha : ¬ HasK RowE.key rs a) (hB : B ≤ w.heap.size) (hfew : rs.length + 1 ≤ 1000000) :
    Calls Tryz.prog 155 #[.pointer (some ⟨t, 0, none⟩), .agg #[.string a.kind, .string a.name], .pointer (some ⟨v, 0, none⟩)] w (PutIsE B w t rs ⟨a, v⟩) := by
  obtain ⟨pa, cap, rfl⟩ := ownsRow_form ht.rows
  have XP := hide ((Ext.refl w).alloc (.cells #[.string a.kind, .string a.name] 25))
  have ht3 := hide (ht.ext XP.out)
  have hf := hide (tabFindE B _ rs a t _ ht3.out)
  replace ht := hide ht
  go_enter Tryz.func155, Tryz.ntmps155
  go_wp2_with fail
  refine hf.out.mono ?_
  rintro e w1 ⟨i, b, rfl, hi, hs1, hs2, hs3, he1⟩
  obtain rfl : b = false := by
    cases b
    · rfl
    · exact absurd (hs2.out.1 rfl) ha
  have hk1 := ht3.out.ext he1.out
  have c1 := tabE_c1 hk1.at_
  have f1 := row_frozen hk1.at_
  have k4 := ext_heap he1.out (heap_alloc_new w _)
  have b00 := block_cell' k4 0
  have b01 := block_cell' k4 1
  simp only [List.getElem?_toArray, List.getElem?_cons_zero, List.getElem?_cons_succ] at b00 b01
  replace k4 := hide k4
  have hin := hide (insRowE B _ rs ⟨a, v⟩ i w1.heap.size (w1.drew.alloc (.cells #[.string a.kind, .string a.name, .pointer (some ⟨v, 0, none⟩)] 180)) ((hk1.ext ((Ext.refl w1).drew.alloc _)).rows) (by have := Ext.size XP.out; have := Ext.size he1.out; simp at *; omega) hi (by omega) (heap_alloc_new w1.drew _) (by
    intro e
    rcases hk1.rows.2 with ⟨h, _⟩ | ⟨g, c, cur, h, _, hg, _⟩
    · rw [h] at e; simp [Value.ownBlock] at e
    · rw [h] at e; simp [Value.ownBlock] at e
      have := (Array.getElem?_eq_some_iff.1 hg).1
      omega))
  replace hk1 := hide hk1
  go_wp2_with fail
  go_region_with (go_at_call 168; refine hin.out.mono ?_; rintro e w2 ⟨pa2, cap2, n2, rfl, hn2, hK2, hW2⟩; go_must (have ht2 := Wrote.keeps (hW2.out) (ext_heap ((Ext.refl w1).drew.alloc _) hk1.out.at_) (by decide); have f2 := row_frozen ht2; have d1 := tabE_c1 ht2; replace ht2 := hide ht2))
  all_goals go_wp2
  all_goals
    refine ⟨rfl, .tuple #[], by simp [results, Tryz.results155], ?_⟩
    have hup := ht.out.up
    refine ⟨i, pa2, cap2, n2, rfl, hs1, ⟨tabE_set ht2.out _, ownsRow_set hK2.out ht2.out (by decide) _, hup.insert ordI hs1.out ha, by rw [insG_len hi]; exact hfew, ht.out.base⟩, ?_⟩
    refine Wrote.setCell (p := ⟨t, 1, none⟩) ?_ ht.out.base ht2.out (.inr rfl) _
    exact (((Wrote.ext XP.out).then he1.out).then ((Ext.refl w1).drew.alloc _)).trans (hW2.out.mono (Nat.le_refl _) fun _ h => .inl h)
end Go.Proofs.YtfmcgdglalljgaaGreatDoor

namespace Go.Proofs.YtfmcgdglalljgaaGreatDoor
open Go.RowKit

set_option maxRecDepth 100000 in
set_option maxHeartbeats 800000 in
theorem tabLen (B : Nat) (v : Value) (ks : List IDd) (t : Nat) (w : World) (ht : TabAt B w t v ks) :
    Calls Tryz.prog 182 #[.pointer (some ⟨t, 0, none⟩)] w fun e w' => e = .returned (.int .i64 ks.length) ∧ w' = w := by
  obtain ⟨pa, cap, rfl⟩ := ownsRow_form ht.keys
  have c1 := two_c1 ht.at_
  replace ht := hide ht
  go_enter Tryz.func182, Tryz.ntmps182
  go_wp2
  go_ret
  exact ⟨rfl, rfl⟩
end Go.Proofs.YtfmcgdglalljgaaGreatDoor
