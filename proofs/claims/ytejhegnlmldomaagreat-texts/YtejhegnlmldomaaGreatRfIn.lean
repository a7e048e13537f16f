/-
  The reference: what stands between the braces is read.
-/
import Derived.Test.YtejhegnlmldomaaGreatJ27
import Derived.Test.YtejhegnlmldomaaGreatRfLs
import Derived.Deep.DeepCutAuto
import Derived.Deep.CutBlock
namespace Go.Proofs.YtejhegnlmldomaaGreat
open Go.RowKit

set_option maxRecDepth 100000 in
set_option maxHeartbeats 3200000 in
theorem refInside {B : Nat} {w : World} {R X : Nat} {vL vO vA vF c2 c3 : Value} {ts : List Tok} {s : RSt} {x : Resd} {rf : List (IDd × Nat)} (h : InAt B w R X vL vO vA vF c2 c3 ts x s rf) (hB : B ≤ w.heap.size) (hn : ts.length ≤ 1000000) (he : TsEnd ts) (hok : ∀ t ∈ ts, TokOk t) (hbd : InB ts s.i ts.length x s rf) :
    Calls Tryz.prog 33 #[.pointer (some ⟨R, 0, none⟩), .pointer (some ⟨X, 0, none⟩)] w (InnIs B w R X vL vO vA ts x s rf) := by
  obtain ⟨gT, capT, rfl⟩ : ∃ gT capT, vL = .slice (some ⟨gT, 0, none⟩) ts.length capT := by
    obtain ⟨t0, ht0⟩ := TsEnd.there hbd.lt
    obtain ⟨g, cap, hv, _⟩ := rtoks_in h.rdr.toks ht0
    exact ⟨g, cap, hv⟩
  replace h := hide h; replace hB := hide hB; replace he := hide he; replace hok := hide hok; replace hbd := hide hbd
  go_enter Tryz.func33, Tryz.ntmps33
  go_wp2_with fail
  go_loopw [4] (fun mv wr => ∃ (f : Nat) (y : Resd) (af : Bool) (q : RSt) (rfq : List (IDd × Nat)) (d2 d3 vFq : Value), mv = .bool af ∧ Hid (InAt B wr R X (.slice (some ⟨gT, 0, none⟩) ts.length capT) vO vA vFq d2 d3 ts y q rfq) ∧ Hid (Wr (ChgXr R B X) w wr) ∧ Hid (insM ts ts.length x false s rf = insM ts f y af q rfq) ∧ Hid (InB ts s.i f y q rfq)) (fun _ wr => leftOf wr R ts.length)
  case atStart => exact ⟨ts.length, x, false, s, rf, c2, c3, vF, rfl, h, Wr.refl _ _, rfl, hbd⟩
  case round =>
    obtain ⟨f, y, af, q, rfq, d2, d3, vFq, rfl, hS, hW, hst, hb⟩ := hrel
    obtain ⟨wo, rfl⟩ : ∃ wo : World, wo = wr := ⟨_, rfl⟩
    obtain ⟨t, ht⟩ := TsEnd.there hb.out.lt
    have hrk : Hid (rKind ts q.i = (rTok t).kind) := by show _ = _; unfold rKind; rw [ht]
    obtain ⟨c0, c1, c2', -⟩ := seven_cells hS.out.rdr.box
    obtain ⟨g', cap', hv', k0, -⟩ := rtoks_in hS.out.rdr.toks ht
    cases hv'
    have hq1 : (q.i : Int) < (ts.length : Int) := by have := hb.out.lt; omega
    have hq2 : (0 : Int) ≤ (q.i : Int) := by omega
    replace ht := hide ht
    generalize rTok t = rt at *
    by_cases hz : q.en = 0
    · have hzb : (q.en == 0) = true := by simp [hz]
      replace hz := hide hz
      by_cases hk : rt.kind = 1
      · have hkb : ((rt.kind : Int) == 1) = true := by simp [hk]
        have hkr : Hid (rKind ts q.i = 1) := hrk.out.trans hk
        replace hk := hide hk
        go_wp2_with fail
        go_quiet (fail)
        clear hzb hkb k0 c0 c1 c2' hq1 hq2
        go_wp2_with fail
        refine (refNext (hS.out.ext ((Ext.refl wo).drewN _)).rdr hb.out.lt hn 1 ⟨#[]⟩).mono ?_
        rintro e1 w1 ⟨n, s1, rfl, hm1, hR1, hW1⟩
        replace hW1 := hide ((Wr.ext ((Ext.refl wo).drewN _)).trans hW1.out)
        have hS1 := hide (hS.out.onR hR1.out hW1.out)
        have hC1 : Hid (Wr (ChgXr R B X) w w1) := hW.out.trans (onR_chgX hW1.out)
        have hi1 := hide (nextM_in he.out hb.out.lt (by decide) _ hm1.out)
        have X2 := (Ext.refl w1).alloc (.cells #[.int .i64 n.kind, .int .i64 n.place, .string n.text, .int .i64 n.value] 50)
        have N2 := heap_alloc_new w1 (.cells #[.int .i64 n.kind, .int .i64 n.place, .string n.text, .int .i64 n.value] 50)
        have hS2 := hide (hS1.out.ext X2)
        have hC2 := hide (hC1.out.trans (Wr.ext X2))
        have hB2 : Hid (B ≤ (w1.alloc (.cells #[.int .i64 n.kind, .int .i64 n.place, .string n.text, .int .i64 n.value] 50)).heap.size) := by show _ ≤ _; have := hB.out; have := hC2.out.size; omega
        replace X2 := hide X2; replace N2 := hide N2
        by_cases ha : n.text = wAfter
        · have ha1 : n.text.toList = [97, 102, 116, 101, 114] := by rw [wAfter_eq]; exact ha
          replace ha := hide ha
          go_upto_if 35 with fail
          generalize hw2 : World.alloc w1 _ = w2 at *
          clear hw2
          go_cut [] (fun wx => Hid (RdrIn wx R (.slice (some ⟨gT, 0, none⟩) ts.length capT) vO vA vFq ts (onceM af n.place s1).i (onceM af n.place s1).en (onceM af n.place s1).pl) ∧ Hid (Wr (OnR R) w2 wx))
          case first =>
            have n1 := (four_cells N2.out).2.1
            cases af with
            | false =>
              go_wp2_with fail
              go_meet
              exact ⟨hS2.out.rdr, Wr.refl _ _⟩
            | true =>
              go_wp2_with fail
              refine (refWrongM hS2.out.rdr 8 n.place).mono ?_
              rintro e3 w3 ⟨rfl, hR3, hW3⟩
              go_wp2_with fail
              go_meet
              exact ⟨hR3, hW3⟩
          case rest =>
            obtain ⟨hR3, hW3⟩ := hcut
            obtain ⟨w3, rfl⟩ : ∃ w3 : World, w3 = wc := ⟨_, rfl⟩
            clear ha1
            have hS3 := hide (hS2.out.onR hR3.out hW3.out)
            have hi3 : Hid ((onceM af n.place s1).i < ts.length) := by show _ < _; rw [once_at]; exact hi1.out.1
            go_wp2_with fail
            refine (refNext hS3.out.rdr hi3.out hn 4 ⟨#[61]⟩).mono ?_
            rintro e4 w4 ⟨t4, s4, rfl, hm4, hR4, hW4⟩
            have hS4 := hide (hS3.out.onR hR4.out hW4.out)
            have hi4 := hide (nextM_in he.out hi3.out (by decide) _ hm4.out)
            have hC4 : Hid (Wr (ChgXr R B X) w w4) := hC2.out.trans ((onR_chgX hW3.out).trans (onR_chgX hW4.out))
            have hB4 : Hid (B ≤ w4.heap.size) := by show _ ≤ _; have := hB.out; have := hC4.out.size; omega
            have hrf4 : Hid (rfq.length ≤ s4.i) := by show _ ≤ _; have h1 := hb.out.refs; have h2 := hi1.out.2.1; have h3 := hi4.out.2.1; rw [once_at] at h3; omega
            go_wp2_with fail
            refine (refList hS4.out.rdr hS4.out.refs hB4.out hi4.out.1 hn he.out hok.out hrf4.out).mono ?_
            rintro e5 w5 ⟨l5, s5, rf5, pa5, cap5, vF5, rfl, hm5, hR5, hF5, hL5, hC5, hb5⟩
            have hS5 : Hid (InAt B w5 R X (.slice (some ⟨gT, 0, none⟩) ts.length capT) vO vA vF5 d2 d3 ts y s5 rf5) := ⟨hR5.out, hF5.out, Wr.keeps hC5.out hS4.out.box (fun hd => hd.elim (fun h => absurd h.2 (by decide)) (fun h => absurd h.2 (by decide))), ownsRow_wr hS4.out.attrs hC5.out (fun _ _ _ hd => hd.elim (fun h => absurd h.2 (by decide)) (fun h => absurd h.2 (by decide))), ownsRow_wr hS4.out.after hC5.out (fun _ _ _ => chgR_id)⟩
            have x3 := (four_cells hS5.out.box).2.2.2
            have xf := row_frozen hS5.out.box
            have hS6 := hide (hS5.out.put3 (u := .slice pa5 l5.length cap5) (l := l5) (ownsRow_low' hL5.out hB4.out))
            have hC6 : Hid (Wr (ChgXr R B X) w (w5.setCell ⟨X, 3, none⟩ (.slice pa5 l5.length cap5))) := hC4.out.trans ((chgX_of hC5.out).trans (onX_wr hS5.out.box 3 _).1)
            obtain ⟨f', g1, g2, g3⟩ := ln_after he.out hz.out hkr.out hm1.out ha.out hm4.out hm5.out hb.out hb5.out
            replace g1 := hide g1; replace g2 := hide g2; replace g3 := hide g3
            go_wp2_with fail
            go_roundw
            case rel => exact ⟨f', ⟨y.id, y.attrs, l5⟩, true, s5, rf5, d2, .slice pa5 l5.length cap5, vF5, rfl, hS6, hC6, hst.out.trans g1.out, g2⟩
            case measure =>
              have h1 := hS6.out.rdr.left ts.length
              have h2 := hS.out.rdr.left ts.length
              rw [h1, h2]; exact g3.out
        · have ha1 : ¬ n.text.toList = [97, 102, 116, 101, 114] := by rw [wAfter_eq]; exact ha
          have ha2 : (n.text.toList == [97, 102, 116, 101, 114]) = false := by simpa using ha1
          replace ha := hide ha
          obtain ⟨pa2, cap2, rfl⟩ := ownsRow_form hS.out.attrs
          have x2 := (four_cells hS2.out.box).2.2.1
          go_upto_if 52 with fail
          generalize hw2 : World.alloc w1 _ = w2 at *
          clear hw2
          go_cut [] (fun wx => Hid (RdrIn wx R (.slice (some ⟨gT, 0, none⟩) ts.length capT) vO vA vFq ts (manyM y.attrs.length n.place s1).i (manyM y.attrs.length n.place s1).en (manyM y.attrs.length n.place s1).pl) ∧ Hid (Wr (OnR R) w2 wx))
          case first =>
            have n1 := (four_cells N2.out).2.1
            by_cases h6 : y.attrs.length = 6
            · have h6b : ((y.attrs.length : Int) == 6) = true := by simp [h6]
              have hS8 : Hid (manyM y.attrs.length n.place s1 = wrongM s1 7 n.place) := if_pos h6
              replace h6 := hide h6
              go_wp2_with fail
              refine (refWrongM hS2.out.rdr 7 n.place).mono ?_
              rintro e3 w3 ⟨rfl, hR3, hW3⟩
              go_wp2_with fail
              go_meet
              refine ⟨?_, hW3⟩
              rw [hS8.out]
              exact hR3
            · have h6b : ((y.attrs.length : Int) == 6) = false := by simp; omega
              have hS8 : Hid (manyM y.attrs.length n.place s1 = s1) := if_neg h6
              replace h6 := hide h6
              go_wp2_with fail
              go_meet
              refine ⟨?_, Wr.refl _ _⟩
              rw [hS8.out]
              exact hS2.out.rdr
          case rest =>
            obtain ⟨hR3, hW3⟩ := hcut
            obtain ⟨w3, rfl⟩ : ∃ w3 : World, w3 = wc := ⟨_, rfl⟩
            clear ha1 ha2 x2
            obtain ⟨s3, hm3⟩ : ∃ s3, Hid (manyM y.attrs.length n.place s1 = s3) := ⟨_, rfl⟩
            rw [hm3.out] at hR3
            have hS3 := hide (hS2.out.onR hR3.out hW3.out)
            have hB3 : Hid (B ≤ w3.heap.size) := by show _ ≤ _; have := hB2.out; have := hW3.out.size; omega
            have N3 := hide (Wr.keeps hW3.out N2.out (fun hd => absurd hd.2 (by decide)))
            have x2 := (four_cells hS3.out.box).2.2.1
            have n2 := (four_cells N3.out).2.2.1
            have hA3 : ∀ w', Ext w3 w' → Calls Tryz.prog 56 #[.slice pa2 y.attrs.length cap2, .agg #[.string n.text, .bool false, .string ⟨#[]⟩, .int .i64 0]] w' _ := fun w' hx => refAttrM ⟨n.text, false, ⟨#[]⟩, 0⟩ (ownsRow_wr hS3.out.attrs (Wr.ext (D := fun _ _ => False) hx) fun _ _ _ => id) (Nat.le_trans hB3.out (Ext.size hx)) hb.out.oks (Nat.le_trans hb.out.few (by decide)) hb.out.up
            replace hA3 := hide hA3
            go_upto_region 11 with fail
            go_cut [7] (fun fv wx => ∃ b : Bool, fv = .bool b ∧ Hid (b = true ↔ ¬ (∃ z ∈ y.attrs, z.name = n.text)) ∧ Hid (Ext w3 wx))
            case first =>
              go_region_held3 (fun w' => w'.cell? ⟨X, 2, none⟩ = some (.slice pa2 y.attrs.length cap2) ∧ w'.cell? ⟨w1.heap.size, 2, none⟩ = some (.string n.text)) (go_keep) ((go_at_call 56; refine (hA3.out _ (Ext.refl w3).drew).mono ?_; rintro e4 w4 ⟨pa4, cap4, b4, rfl, hb4, hu4, hE4⟩; have q0 := hE4.out.cells (p := ⟨X, 2, none⟩) (v := .slice pa2 y.attrs.length cap2) (by simpa using x2); have q1 := hE4.out.cells (p := ⟨w1.heap.size, 2, none⟩) (v := .string n.text) (by simpa using n2)))
              all_goals
                go_wp2_with fail
                go_meet
                exact ⟨b4, rfl, hb4, (Ext.refl w3).drew.trans hE4.out⟩
            case rest =>
              obtain ⟨b4, rfl, hb4, hE4⟩ := hcut
              obtain ⟨w4, rfl⟩ : ∃ w4 : World, w4 = wc := ⟨_, rfl⟩
              clear x2 n2
              have hS4 := hide (hS3.out.ext hE4.out)
              have N4 := hide (ext_heap hE4.out N3.out)
              go_upto_if 69 with fail
              go_cut [] (fun wx => Hid (RdrIn wx R (.slice (some ⟨gT, 0, none⟩) ts.length capT) vO vA vFq ts (freshM y.attrs n.text n.place s3).i (freshM y.attrs n.text n.place s3).en (freshM y.attrs n.text n.place s3).pl) ∧ Hid (Wr (OnR R) w4 wx))
              case first =>
                have n1 := (four_cells N4.out).2.1
                cases b4 with
                | true =>
                  have hS8 : Hid (freshM y.attrs n.text n.place s3 = s3) := if_neg (hb4.out.1 rfl)
                  go_wp2_with fail
                  go_meet
                  refine ⟨?_, Wr.refl _ _⟩
                  rw [hS8.out]
                  exact hS4.out.rdr
                | false =>
                  have hS8 : Hid (freshM y.attrs n.text n.place s3 = wrongM s3 8 n.place) := if_pos (Classical.byContradiction fun hc => by have := hb4.out.2 hc; cases this)
                  go_wp2_with fail
                  refine (refWrongM hS4.out.rdr 8 n.place).mono ?_
                  rintro e5 w5 ⟨rfl, hR5, hW5⟩
                  go_wp2_with fail
                  go_meet
                  refine ⟨?_, hW5⟩
                  rw [hS8.out]
                  exact hR5
              case rest =>
                obtain ⟨hR5, hW5⟩ := hcut
                obtain ⟨w5, rfl⟩ : ∃ w5 : World, w5 = wc := ⟨_, rfl⟩
                obtain ⟨s4, hm4⟩ : ∃ s4, Hid (freshM y.attrs n.text n.place s3 = s4) := ⟨_, rfl⟩
                rw [hm4.out] at hR5
                have hS5 := hide (hS4.out.onR hR5.out hW5.out)
                have hi5 : Hid (s4.i < ts.length) := by show _ < _; rw [← hm4.out, fresh_at, ← hm3.out, many_at]; exact hi1.out.1
                have N5 := hide (Wr.keeps hW5.out N4.out (fun hd => absurd hd.2 (by decide)))
                go_wp2_with fail
                refine (refNext hS5.out.rdr hi5.out hn 4 ⟨#[61]⟩).mono ?_
                rintro e6 w6 ⟨t6, s5, rfl, hm5, hR6, hW6⟩
                have hS6 := hide (hS5.out.onR hR6.out hW6.out)
                have hi6 := hide (nextM_in he.out hi5.out (by decide) _ hm5.out)
                have N6 := hide (Wr.keeps hW6.out N5.out (fun hd => absurd hd.2 (by decide)))
                have hC6 : Hid (Wr (ChgXr R B X) w w6) := hC2.out.trans (((onR_chgX hW3.out).trans (Wr.ext hE4.out)).trans ((onR_chgX hW5.out).trans (onR_chgX hW6.out)))
                have X7 := (Ext.refl w6).alloc (.cells #[.string n.text, .bool false, .string ⟨#[]⟩, .int .i64 0] 129)
                have A7 := heap_alloc_new w6 (.cells #[.string n.text, .bool false, .string ⟨#[]⟩, .int .i64 0] 129)
                have n2 := (four_cells N6.out).2.2.1
                have hS7 := hide (hS6.out.ext X7)
                obtain ⟨t, ht⟩ := TsEnd.there hi6.out.1
                have hrk6 : Hid (rKind ts s5.i = (rTok t).kind) := by show _ = _; unfold rKind; rw [ht]
                obtain ⟨c0, c1, c2', -⟩ := seven_cells hS7.out.rdr.box
                obtain ⟨g', cap', hv', k0, -⟩ := rtoks_in hS7.out.rdr.toks ht
                cases hv'
                have hq1 : (s5.i : Int) < (ts.length : Int) := by have := hi6.out.1; omega
                have hq2 : (0 : Int) ≤ (s5.i : Int) := by omega
                replace ht := hide ht; replace X7 := hide X7; replace A7 := hide A7
                generalize rTok t = rt6 at *
                go_upto_region 16 with fail
                generalize hw7 : World.alloc w6 _ = w7 at *
                clear hw7 n2
                classical
                go_cut [97] (fun bv wx => bv = .bool (decide (s5.en = 0 ∧ rKind ts s5.i = 3)) ∧ Hid (Ext w7 wx))
                case first =>
                  by_cases hy : s5.en = 0
                  · have hyb : (s5.en == 0) = true := by simp [hy]
                    by_cases hk3 : rt6.kind = 3
                    · have hkb : ((rt6.kind : Int) == 3) = true := by simp [hk3]
                      have hdc : Hid (decide (s5.en = 0 ∧ rKind ts s5.i = 3) = true) := decide_eq_true ⟨hy, hrk6.out.trans hk3⟩
                      replace hy := hide hy; replace hk3 := hide hk3
                      go_quiet (fail)
                      go_wp2_with fail
                      go_meet
                      exact ⟨by rw [hdc.out], (Ext.refl w7).drewN _⟩
                    · have hkb : ((rt6.kind : Int) == 3) = false := by simp; omega
                      have hdc : Hid (decide (s5.en = 0 ∧ rKind ts s5.i = 3) = false) := decide_eq_false (fun hh => hk3 (hrk6.out.symm.trans hh.2))
                      replace hy := hide hy; replace hk3 := hide hk3
                      go_quiet (fail)
                      go_wp2_with fail
                      go_meet
                      exact ⟨by rw [hdc.out], (Ext.refl w7).drewN _⟩
                  · have hyb : (s5.en == 0) = false := by simpa using hy
                    have hdc : Hid (decide (s5.en = 0 ∧ rKind ts s5.i = 3) = false) := decide_eq_false (fun hh => hy hh.1)
                    replace hy := hide hy
                    go_quiet (fail)
                    go_wp2_with fail
                    go_meet
                    exact ⟨by rw [hdc.out], (Ext.refl w7).drewN _⟩
                case rest =>
                  obtain ⟨rfl, hE8⟩ := hcut
                  obtain ⟨w8, rfl⟩ : ∃ w8 : World, w8 = wc := ⟨_, rfl⟩
                  clear c0 c1 c2' k0 hq1 hq2
                  have hS8 := hide (hS7.out.ext hE8.out)
                  have A8 := hide (ext_heap hE8.out A7.out)
                  have hX8 := hide (X7.out.trans hE8.out)
                  go_upto_if 97 with fail
                  go_cut [] (fun wx => ∃ (a : Attrd) (s6 : RSt), Hid (valM ts s5 n.text = (a, s6)) ∧ Hid (RdrIn wx R (.slice (some ⟨gT, 0, none⟩) ts.length capT) vO vA vFq ts s6.i s6.en s6.pl) ∧ Hid (wx.heap[w6.heap.size]? = some (.cells #[.string a.name, .bool a.isText, .string a.text, .int .i64 a.number] 129 (0, 0))) ∧ Hid (Wr (OnR R) w6 wx))
                  case first =>
                    have a1 := (four_cells A8.out).2.1
                    have af1 := row_frozen A8.out
                    have hRA : Hid (w6.heap.size ≠ R) := by show _ ≠ _; have := (Array.getElem?_eq_some_iff.1 hS6.out.rdr.box).1; omega
                    by_cases hv : s5.en = 0 ∧ rKind ts s5.i = 3
                    · have hvb : decide (s5.en = 0 ∧ rKind ts s5.i = 3) = true := decide_eq_true hv
                      have A9 : Hid ((w8.setCell ⟨w6.heap.size, 1, none⟩ (.bool true)).heap[w6.heap.size]? = some (.cells #[.string n.text, .bool true, .string ⟨#[]⟩, .int .i64 0] 129 (0, 0))) := (row_set A8.out 1 _).trans rfl
                      have hR9 := hide (hS8.out.rdr.keep (D := fun j t => j = w6.heap.size ∧ t = 129) ((Wr.refl _ w8).setOld (p := ⟨w6.heap.size, 1, none⟩) A8.out ⟨rfl, rfl⟩ (.bool true)) (fun hd => absurd hd.2 (by decide)) (fun _ hd => absurd hd.2 (by decide)))
                      replace hv := hide hv
                      go_wp2_with fail
                      refine (refNext hR9.out hi6.out.1 hn 3 ⟨#[]⟩).mono ?_
                      rintro e10 w10 ⟨t10, s6, rfl, hm6, hR10, hW10⟩
                      have A10 := Wr.keeps hW10.out A9.out (fun hd => absurd hd.2 (by decide))
                      have A11 := ext_heap ((Ext.refl w10).alloc (.cells #[.int .i64 t10.kind, .int .i64 t10.place, .string t10.text, .int .i64 t10.value] 50)) A10
                      have b2 := (four_cells A11).2.2.1
                      have bf := row_frozen A11
                      have hR11 := hide (hR10.out.ext ((Ext.refl w10).alloc (.cells #[.int .i64 t10.kind, .int .i64 t10.place, .string t10.text, .int .i64 t10.value] 50)))
                      replace A10 := hide A10; replace A11 := hide A11
                      clear a1 af1
                      go_wp2_with fail
                      go_meet
                      refine ⟨⟨n.text, true, t10.text, 0⟩, s6, ?_, hR11.out.keep (D := fun j t => j = w6.heap.size ∧ t = 129) ((Wr.refl _ _).setOld (p := ⟨w6.heap.size, 2, none⟩) A11.out ⟨rfl, rfl⟩ _) (fun hd => absurd hd.2 (by decide)) (fun _ hd => absurd hd.2 (by decide)), (row_set A11.out 2 _).trans rfl, ?_⟩
                      · show valM ts s5 n.text = _
                        unfold valM
                        rw [if_pos hv.out, hm6.out]
                      · exact ((((Wr.ext hX8.out).setNew (p := ⟨w6.heap.size, 1, none⟩) (Nat.le_refl _) _).trans hW10.out).trans (Wr.ext ((Ext.refl w10).alloc _))).setNew (p := ⟨w6.heap.size, 2, none⟩) (Nat.le_refl _) _
                    · have hvb : decide (s5.en = 0 ∧ rKind ts s5.i = 3) = false := decide_eq_false hv
                      replace hv := hide hv
                      clear a1 af1
                      go_wp2_with fail
                      refine (refNext hS8.out.rdr hi6.out.1 hn 2 ⟨#[]⟩).mono ?_
                      rintro e10 w10 ⟨t10, s6, rfl, hm6, hR10, hW10⟩
                      have A10 := Wr.keeps hW10.out A8.out (fun hd => absurd hd.2 (by decide))
                      have A11 := ext_heap ((Ext.refl w10).alloc (.cells #[.int .i64 t10.kind, .int .i64 t10.place, .string t10.text, .int .i64 t10.value] 50)) A10
                      have b3 := (four_cells A11).2.2.2
                      have bf := row_frozen A11
                      have hR11 := hide (hR10.out.ext ((Ext.refl w10).alloc (.cells #[.int .i64 t10.kind, .int .i64 t10.place, .string t10.text, .int .i64 t10.value] 50)))
                      replace A10 := hide A10; replace A11 := hide A11
                      go_wp2_with fail
                      go_meet
                      refine ⟨⟨n.text, false, ⟨#[]⟩, t10.value⟩, s6, ?_, hR11.out.keep (D := fun j t => j = w6.heap.size ∧ t = 129) ((Wr.refl _ _).setOld (p := ⟨w6.heap.size, 3, none⟩) A11.out ⟨rfl, rfl⟩ _) (fun hd => absurd hd.2 (by decide)) (fun _ hd => absurd hd.2 (by decide)), (row_set A11.out 3 _).trans rfl, ?_⟩
                      · show valM ts s5 n.text = _
                        unfold valM
                        rw [if_neg hv.out, hm6.out]
                      · exact (((Wr.ext hX8.out).trans hW10.out).trans (Wr.ext ((Ext.refl w10).alloc _))).setNew (p := ⟨w6.heap.size, 3, none⟩) (Nat.le_refl _) _
                  case rest =>
                    obtain ⟨a, s6, hm6, hR9, A9, hW9⟩ := hcut
                    obtain ⟨w9, rfl⟩ : ∃ w9 : World, w9 = wc := ⟨_, rfl⟩
                    have hS9 := hide (hS6.out.onR hR9.out hW9.out)
                    obtain ⟨f', g1, g2, g3, g4, g5, g6⟩ := ln_attr (af := af) he.out hok.out hz.out hkr.out hm1.out ha.out hm3.out hm4.out hm5.out hm6.out hb.out
                    replace g1 := hide g1; replace g2 := hide g2; replace g3 := hide g3; replace g5 := hide g5; replace g6 := hide g6
                    have hB9 : Hid (B ≤ w9.heap.size) := by show _ ≤ _; have := hB.out; have := hC6.out.size; have := hW9.out.size; omega
                    have hA9 : ∀ w', Ext w9 w' → Calls Tryz.prog 56 #[.slice pa2 y.attrs.length cap2, .agg #[.string a.name, .bool a.isText, .string a.text, .int .i64 a.number]] w' _ := fun w' hx => refAttrM a (ownsRow_wr hS9.out.attrs (Wr.ext (D := fun _ _ => False) hx) fun _ _ _ => id) (Nat.le_trans hB9.out (Ext.size hx)) hb.out.oks (Nat.le_trans hb.out.few (by decide)) hb.out.up
                    replace hA9 := hide hA9
                    have x2 := (four_cells hS9.out.box).2.2.1
                    have xf := row_frozen hS9.out.box
                    obtain ⟨a0, a1, a2, a3⟩ := four_cells A9.out
                    go_upto_region 22 with fail
                    have hX9 := hide hS9.out.box
                    go_region_with (go_at_call 56; refine (hA9.out _ (Ext.refl w9).drew).mono ?_; rintro e10 w10 ⟨pa10, cap10, b10, rfl, hb10, hu10, hE10⟩; have X10 := ext_heap (Ext.trans (Ext.refl w9).drew hE10.out) hX9.out; have q0 := (four_cells X10).2.2.1; have qf := row_frozen X10; have q1 := hE10.out.cells (p := ⟨w6.heap.size, 0, none⟩) (v := .string a.name) (by simpa using a0); have q2 := hE10.out.cells (p := ⟨w6.heap.size, 1, none⟩) (v := .bool a.isText) (by simpa using a1); have q3 := hE10.out.cells (p := ⟨w6.heap.size, 2, none⟩) (v := .string a.text) (by simpa using a2); have q4 := hE10.out.cells (p := ⟨w6.heap.size, 3, none⟩) (v := .int .i64 a.number) (by simpa using a3); replace X10 := hide X10)
                    all_goals
                      have hX10 := hide (Ext.trans (Ext.refl w9).drew hE10.out)
                      have hS10 := hide (hS9.out.ext hX10.out)
                      have hS11 := hide (hS10.out.put2 (u := .slice pa10 (attM y.attrs a).length cap10) hu10.out)
                      have hC11 := hide (((hC6.out.trans (onR_chgX hW9.out)).trans (Wr.ext hX10.out)).trans (onX_wr (R := R) (B := B) hS10.out.box 2 (.slice pa10 (attM y.attrs a).length cap10)).1)
                      go_wp2_with fail
                      go_roundw
                      case rel => exact ⟨f', ⟨y.id, attM y.attrs a, y.after⟩, af, s6, rfq, _, d3, vFq, rfl, hS11, hC11, hst.out.trans g1.out, g2⟩
                      case measure =>
                        have h1 := hS11.out.rdr.left ts.length
                        have h2 := hS.out.rdr.left ts.length
                        rw [h1, h2]; exact g3.out
      · have hkb : ((rt.kind : Int) == 1) = false := by simp; omega
        have hno : Hid (¬ (q.en = 0 ∧ rKind ts q.i = 1)) := fun hh => hk (hrk.out.symm.trans hh.2)
        replace hk := hide hk
        go_wp2_with fail
        go_quiet (fail)
        go_wp2_with fail
        refine ⟨rfl, .tuple #[], by simp [results, Tryz.results33], ?_⟩
        exact ⟨y, af, q, rfq, d2, d3, vFq, f, rfl, hst.out.trans (insM_end hno.out), (hS.out.ext ((Ext.refl wo).drewN _)).rdr, (hS.out.ext ((Ext.refl wo).drewN _)).refs, (hS.out.ext ((Ext.refl wo).drewN _)).box, (hS.out.ext ((Ext.refl wo).drewN _)).attrs, (hS.out.ext ((Ext.refl wo).drewN _)).after, hW.out.trans (Wr.ext ((Ext.refl wo).drewN _)), hb⟩
    · have hzb : (q.en == 0) = false := by simpa using hz
      have hno : Hid (¬ (q.en = 0 ∧ rKind ts q.i = 1)) := fun hh => hz hh.1
      replace hz := hide hz
      go_wp2_with fail
      go_quiet (fail)
      go_wp2_with fail
      refine ⟨rfl, .tuple #[], by simp [results, Tryz.results33], ?_⟩
      exact ⟨y, af, q, rfq, d2, d3, vFq, f, rfl, hst.out.trans (insM_end hno.out), (hS.out.ext ((Ext.refl wo).drewN _)).rdr, (hS.out.ext ((Ext.refl wo).drewN _)).refs, (hS.out.ext ((Ext.refl wo).drewN _)).box, (hS.out.ext ((Ext.refl wo).drewN _)).attrs, (hS.out.ext ((Ext.refl wo).drewN _)).after, hW.out.trans (Wr.ext ((Ext.refl wo).drewN _)), hb⟩
end Go.Proofs.YtejhegnlmldomaaGreat
