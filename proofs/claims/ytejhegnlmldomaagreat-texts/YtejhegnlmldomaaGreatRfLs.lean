/-
  The reference: a list of refs is read.
-/
import Derived.Test.YtejhegnlmldomaaGreatJ26
import Derived.Deep.DeepCutAuto
import Derived.Deep.CutBlock
namespace Go.Proofs.YtejhegnlmldomaaGreat
open Go.RowKit

set_option maxRecDepth 100000 in
set_option maxHeartbeats 3200000 in
theorem refList {B : Nat} {w : World} {R : Nat} {vL vO vA vF : Value} {ts : List Tok} {s : RSt} {rf : List (IDd × Nat)} (h : RdrIn w R vL vO vA vF ts s.i s.en s.pl) (hF : w.ownsRow B 55 3 vF rf.length (rf.flatMap cRf)) (hB : B ≤ w.heap.size) (hi : s.i < ts.length) (hn : ts.length ≤ 1000000) (he : TsEnd ts) (hok : ∀ t ∈ ts, TokOk t) (hrf : rf.length ≤ s.i) :
    Calls Tryz.prog 55 #[.pointer (some ⟨R, 0, none⟩)] w (ListIs B w R vL vO vA ts s rf) := by
  replace hok := hide hok; replace hi := hide hi; replace he := hide he; replace hrf := hide hrf; replace h := hide h; replace hF := hide hF; replace hB := hide hB
  go_enter Tryz.func55, Tryz.ntmps55
  go_wp2_with fail
  refine (refNext h.out hi.out hn 4 ⟨#[91]⟩).mono ?_
  rintro e1 w1 ⟨t1, s1, rfl, hm1, hR1, hW1⟩
  have hi1 := hide (nextM_in he.out hi.out (by decide) _ hm1.out)
  go_wp2_with fail
  refine (refSeesM hR1.out hi1.out.1 ⟨#[93]⟩).mono ?_
  rintro e2 w2 ⟨b, rfl, hb, hE2⟩
  have hR2 := hide (hR1.out.ext hE2.out)
  go_wp2_with fail
  have hF2 := hide (ownsRow_wr (ownsRow_wr hF.out hW1.out fun _ _ _ hd => absurd hd.2 (by decide)) (Wr.ext (D := fun _ _ => False) hE2.out) fun _ _ _ => id)
  have hW2 : Hid (Wr (ChgR R B) w w2) := (onR_chg hW1.out).trans (Wr.ext hE2.out)
  go_loopw [3, 5] (fun lv mv wr => ∃ (f : Nat) (l : List IDd) (more : Bool) (q : RSt) (rfq : List (IDd × Nat)) (pa : Option Addr) (cap : Nat) (vF : Value), lv = .slice pa l.length cap ∧ mv = .bool more ∧ Hid (RdrIn wr R vL vO vA vF ts q.i q.en q.pl) ∧ Hid (wr.ownsRow B 55 3 vF rfq.length (rfq.flatMap cRf)) ∧ Hid (wr.ownsRow w.heap.size 53 2 (.slice pa l.length cap) l.length (l.flatMap cI)) ∧ Hid (Wr (ChgR R B) w wr) ∧ Hid (lstM ts ts.length [] (!b) s1 rf = lstM ts f l more q rfq) ∧ Hid (q.i < ts.length ∧ s.i ≤ q.i ∧ (q.en = 0 → ts.length ≤ f + q.i) ∧ l.length ≤ 7 ∧ (q.en = 0 → l.length ≤ 6) ∧ rfq.length ≤ q.i ∧ (∀ a ∈ l, shI a))) (fun _ _ wr => leftOf wr R ts.length)
  case atStart => exact ⟨ts.length, [], !b, s1, rf, none, 0, vF, rfl, rfl, hR2, hF2, World.ownsRow_nil _ _ _ _, hW2, rfl, hi1.out.1, hi1.out.2.1, fun _ => Nat.le_add_right _ _, by simp, fun _ => by simp, Nat.le_trans hrf.out hi1.out.2.1, fun a ha => (by cases ha)⟩
  case round =>
    clear hR1 hR2 hF2 hW2 hW1 hE2
    obtain ⟨f, l, more, q, rfq, pa, cap, vFq, rfl, rfl, hR, hFr, hL, hW, hst, hbd⟩ := hrel
    obtain ⟨wo, rfl⟩ : ∃ wo : World, wo = wr := ⟨_, rfl⟩
    obtain ⟨paF, capF, rfl⟩ := ownsRow_form hFr.out
    obtain ⟨c0, c1, c2, c3, c4, c5, c6⟩ := seven_cells hR.out.box
    cases more with
    | false =>
      go_wp2_with fail
      refine (refNext hR.out hbd.out.1 hn 4 ⟨#[93]⟩).mono ?_
      rintro e3 w3 ⟨t3, s3, rfl, hm3, hR3, hW3⟩
      have hin3 := hide (nextM_in he.out hbd.out.1 (by decide) _ hm3.out)
      have hF3 := hide (ownsRow_wr hFr.out hW3.out fun _ _ _ hd => absurd hd.2 (by decide))
      have hL3 := hide (ownsRow_wr hL.out hW3.out fun _ _ _ hd => absurd hd.2 (by decide))
      go_wp2_with fail
      go_ret
      refine ⟨l, s3, rfq, pa, cap, _, rfl, ?_, hR3, hF3, hL3, hW.out.trans (onR_chg hW3.out), hin3.out.1, Nat.le_trans hbd.out.2.1 hin3.out.2.1, hbd.out.2.2.2.1, fun h0 => hbd.out.2.2.2.2.1 (hin3.out.2.2 h0).1, Nat.le_trans hbd.out.2.2.2.2.2.1 hin3.out.2.1, hbd.out.2.2.2.2.2.2⟩
      show listM ts s rf = _
      unfold listM
      rw [hm1.out]
      dsimp only
      rw [hb.out, hst.out, lstM_end]
      dsimp only
      rw [hm3.out]
    | true =>
      by_cases hz : q.en = 0
      · have hzb : (q.en == 0) = true := by simp [hz]
        replace hz := hide hz
        go_wp2_with fail
        refine (refNext hR.out hbd.out.1 hn 1 ⟨#[]⟩).mono ?_
        rintro e3 w3 ⟨k, s3, rfl, hm3, hR3, hW3⟩
        have hin3 := hide (nextM_in he.out hbd.out.1 (by decide) _ hm3.out)
        clear c0 c1 c2 c3 c4 c5 c6 hzb
        go_wp2_with fail
        refine (refNext (hR3.out.ext ((Ext.refl w3).alloc _)) hin3.out.1 hn 4 ⟨#[46]⟩).mono ?_
        rintro e4 w4 ⟨dt, s4, rfl, hm4, hR4, hW4⟩
        have hin4 := hide (nextM_in he.out hin3.out.1 (by decide) _ hm4.out)
        have K4 := hide (Wr.keeps hW4.out (heap_alloc_new w3 (.cells #[.int .i64 k.kind, .int .i64 k.place, .string k.text, .int .i64 k.value] 50)) (fun hd => absurd hd.2 (by decide)))
        go_wp2_with fail
        refine (refNext hR4.out hin4.out.1 hn 1 ⟨#[]⟩).mono ?_
        rintro e5 w5 ⟨n, s5, rfl, hm5, hR5, hW5⟩
        have hin5 := hide (nextM_in he.out hin4.out.1 (by decide) _ hm5.out)
        have K5 := hide (Wr.keeps hW5.out K4.out (fun hd => absurd hd.2 (by decide)))
        have X6 := (Ext.refl w5).alloc (.cells #[.int .i64 n.kind, .int .i64 n.place, .string n.text, .int .i64 n.value] 50)
        have hR6 := hide (hR5.out.ext X6)
        have c2 := (seven_cells hR6.out.box).2.2.1
        obtain ⟨k0, k1, k2, k3⟩ := four_cells (ext_heap X6 K5.out)
        replace X6 := hide X6
        by_cases hy : s5.en = 0
        · have hyb : (s5.en != 0) = false := by simp [hy]
          replace hy := hide hy
          have X7 : Ext w5 ((w5.alloc (.cells #[.int .i64 n.kind, .int .i64 n.place, .string n.text, .int .i64 n.value] 50)).alloc (.cells #[.string k.text, .string n.text] 53)) := ((Ext.refl w5).alloc _).alloc _
          have I7 := hide (two_hi w5 (.cells #[.int .i64 n.kind, .int .i64 n.place, .string n.text, .int .i64 n.value] 50) (.cells #[.string k.text, .string n.text] 53))
          have hR7 := hide (hR5.out.ext X7)
          have K7 := ext_heap X7 K5.out
          obtain ⟨j0, j1, j2, j3⟩ := four_cells K7
          have hC7 : Hid (Wr (ChgR R B) wo ((w5.alloc (.cells #[.int .i64 n.kind, .int .i64 n.place, .string n.text, .int .i64 n.value] 50)).alloc (.cells #[.string k.text, .string n.text] 53))) := (((onR_chg hW3.out).trans (Wr.ext ((Ext.refl w3).alloc _))).trans (onR_chg hW4.out)).trans ((onR_chg hW5.out).trans (Wr.ext X7))
          have hF7 := hide (ownsRow_wr (ownsRow_wr (ownsRow_wr (ownsRow_wr (ownsRow_wr hFr.out hW3.out fun _ _ _ hd => absurd hd.2 (by decide)) (Wr.ext (D := fun _ _ => False) ((Ext.refl w3).alloc _)) fun _ _ _ => id) hW4.out fun _ _ _ hd => absurd hd.2 (by decide)) hW5.out fun _ _ _ hd => absurd hd.2 (by decide)) (Wr.ext (D := fun _ _ => False) X7) fun _ _ _ => id)
          have hL7 := hide (ownsRow_wr hL.out hC7.out fun _ _ _ => chgR_id)
          have hl7 : l.length ≤ 7 := hbd.out.2.2.2.1
          replace K7 := hide K7; replace X7 := hide X7
          go_upto_if 44 with fail
          generalize hw7 : World.alloc (World.alloc w5 _) _ = w7 at *
          clear hw7
          go_cut [] (fun wx => ∃ s8, Hid (manyM l.length k.place s5 = s8) ∧ Hid (RdrIn wx R vL vO vA (.slice paF rfq.length capF) ts s8.i s8.en s8.pl) ∧ Hid (Wr (OnR R) w7 wx))
          case first =>
            by_cases h6 : l.length = 6
            · have h6b : ((l.length : Int) == 6) = true := by simp [h6]
              have hS8 : Hid (manyM l.length k.place s5 = wrongM s5 7 k.place) := if_pos h6
              replace h6 := hide h6
              go_wp2_with fail
              refine (refWrongM hR7.out 7 k.place).mono ?_
              rintro e8 w8 ⟨rfl, hR8, hW8⟩
              go_wp2_with fail
              go_meet
              exact ⟨_, hS8, hR8, hW8⟩
            · have h6b : ((l.length : Int) == 6) = false := by simp; omega
              have hS8 : Hid (manyM l.length k.place s5 = s5) := if_neg h6
              replace h6 := hide h6
              go_wp2_with fail
              go_meet
              exact ⟨_, hS8, hR7, Wr.refl _ _⟩
          case rest =>
            obtain ⟨s8, hS8, hR8, hW8⟩ := hcut
            obtain ⟨w8, rfl⟩ : ∃ w8 : World, w8 = wc := ⟨_, rfl⟩
            have K8 := hide (Wr.keeps hW8.out K7.out (fun hd => absurd hd.2 (by decide)))
            have I8 := hide (Wr.keeps hW8.out I7.out (fun hd => absurd hd.2 (by decide)))
            have hF8 := hide (ownsRow_wr hF7.out hW8.out fun _ _ _ hd => absurd hd.2 (by decide))
            have hL8 := hide (ownsRow_wr hL7.out hW8.out fun _ _ _ hd => absurd hd.2 (by decide))
            have hC8 : Hid (Wr (ChgR R B) wo w8) := hC7.out.trans (onR_chg hW8.out)
            clear c2 k0 k1 k2 k3 j0 j1 j2 j3 hyb
            go_upto_block 2 with fail
            go_cut [9] (fun iv wx => ∃ j : Nat, j ≤ l.length ∧ iv = .int .i64 j ∧ Hid (∀ (a : Nat) y, a < j → l[a]? = some y → cmpI y ⟨k.text, n.text⟩ < 0) ∧ Hid (∀ y, l[j]? = some y → ¬ cmpI y ⟨k.text, n.text⟩ < 0) ∧ Hid (Ext w8 wx))
            case first =>
              go_wp2_with fail
              go_loopw [9] (fun iv wy => ∃ j : Nat, j ≤ l.length ∧ iv = .int .i64 j ∧ Hid (∀ (a : Nat) y, a < j → l[a]? = some y → cmpI y ⟨k.text, n.text⟩ < 0) ∧ Hid (Ext w8 wy)) (fun iv _ => l.length - (intOf iv).toNat)
              case atStart => exact ⟨0, Nat.zero_le _, rfl, fun _ _ h => absurd h (by omega), Ext.refl _⟩
              case round =>
                obtain ⟨j, hj, rfl, hah, hx⟩ := hrel
                have i0 := two_c0 (ext_heap hx.out I8.out); have i1 := two_c1 (ext_heap hx.out I8.out)
                by_cases hlt : j < l.length
                · obtain ⟨x, hxj⟩ := some_of_lt hlt
                  obtain ⟨g, rfl, hg1, hg2, hg3⟩ := own_some hL8.out (by omega)
                  obtain ⟨a0, a1⟩ := ids_cells (ownsRow_wr hL8.out (Wr.ext (D := fun _ _ => False) hx.out) fun _ _ _ => id) hxj
                  have j2 : (j : Int) < (l.length : Int) := by omega
                  have j4 : (0 : Int) ≤ (j : Int) := by omega
                  replace hxj := hide hxj
                  go_wp2_with fail
                  go_region_held3 (fun w' => w'.cell? ⟨g, j * 2, none⟩ = some (.string x.kind) ∧ w'.cell? ⟨g, j * 2 + 1, none⟩ = some (.string x.name) ∧ w'.cell? ⟨w5.heap.size + 1, 0, none⟩ = some (.string k.text) ∧ w'.cell? ⟨w5.heap.size + 1, 1, none⟩ = some (.string n.text)) (go_keep) ((go_at_call 34; refine (refLess x ⟨k.text, n.text⟩ _).mono ?_; rintro e w1 ⟨rfl, he1⟩; have q0 := he1.cells (p := ⟨g, j * 2, none⟩) (v := .string x.kind) (by simpa using a0); have q1 := he1.cells (p := ⟨g, j * 2 + 1, none⟩) (v := .string x.name) (by simpa using a1); have q2 := he1.cells (p := ⟨w5.heap.size + 1, 0, none⟩) (v := .string k.text) (by simpa using i0); have q3 := he1.cells (p := ⟨w5.heap.size + 1, 1, none⟩) (v := .string n.text) (by simpa using i1); replace he1 := hide he1))
                  have hX1 : Hid (Ext w8 w1) := hx.out.drew.trans he1.out
                  cases hle : lessI x ⟨k.text, n.text⟩ with
                  | true =>
                    have hlc : Hid (cmpI x ⟨k.text, n.text⟩ < 0) := by show _ < _; simpa [lessI] using hle
                    go_wp2_with fail
                    go_roundw
                    case rel =>
                      refine ⟨j + 1, by omega, by go_num, fun a y ha hy => ?_, hX1.out⟩
                      by_cases haj : a = j
                      · subst haj
                        obtain rfl : x = y := by simpa [hxj.out] using hy
                        exact hlc.out
                      · exact hah.out a y (by omega) hy
                    case measure => simp [intOf]; omega
                  | false =>
                    have hlc : Hid (¬ cmpI x ⟨k.text, n.text⟩ < 0) := by show ¬ _; simpa [lessI] using hle
                    go_wp2_with fail
                    go_meet
                    exact ⟨j, hj, rfl, hah, fun y hy => by rw [hxj.out] at hy; cases hy; exact hlc.out, hX1⟩
                · go_wp2_with fail
                  go_meet
                  exact ⟨j, hj, rfl, hah, fun y hy => absurd (List.getElem?_eq_some_iff.1 hy).1 (by omega), hx⟩
            case rest =>
              obtain ⟨j, hj, rfl, hah, hbe, hx⟩ := hcut
              have hins := hide (insI_cut hj hah.out hbe.out)
              obtain ⟨wd, rfl⟩ : ∃ wd : World, wd = wc := ⟨_, rfl⟩
              have i0 := two_c0 (ext_heap hx.out I8.out); have i1 := two_c1 (ext_heap hx.out I8.out)
              have K9 := hide (ext_heap hx.out K8.out); have I9 := hide (ext_heap hx.out I8.out)
              have hR9 := hide (hR8.out.ext hx.out)
              go_upto_region 19 with fail
              classical
              go_cut [74] (fun bv wx => bv = .bool (decide (headI l ⟨k.text, n.text⟩ = some ⟨k.text, n.text⟩)) ∧ Hid (Ext wd wx))
              case first =>
                by_cases hlt : j < l.length
                · obtain ⟨x, hxj⟩ := some_of_lt hlt
                  obtain ⟨g, rfl, hg1, hg2, hg3⟩ := own_some hL8.out (by omega)
                  obtain ⟨a0, a1⟩ := ids_cells (ownsRow_wr hL8.out (Wr.ext (D := fun _ _ => False) hx.out) fun _ _ _ => id) hxj
                  have j2 : (j : Int) < (l.length : Int) := by omega
                  have j4 : (0 : Int) ≤ (j : Int) := by omega
                  have hhd : Hid (headI l ⟨k.text, n.text⟩ = some x) := hins.out.2.trans hxj
                  replace hxj := hide hxj
                  by_cases e1 : x.kind = k.text
                  · by_cases e2 : x.name = n.text
                    · have hxe : x = ⟨k.text, n.text⟩ := by obtain ⟨xa, xb⟩ := x; dsimp only at e1 e2; rw [e1, e2]
                      have hdc : Hid (decide (headI l ⟨k.text, n.text⟩ = some (⟨k.text, n.text⟩ : IDd)) = true) := decide_eq_true (hhd.out.trans (by rw [hxe]))
                      replace hxe := hide hxe
                      go_quiet (fail)
                      go_wp2_with fail
                      go_meet
                      exact ⟨by rw [hdc.out], (Ext.refl wd).drewN _⟩
                    · have e3 : ¬ x.name.toList = n.text.toList := fun h => e2 (toList_inj h)
                      have e4 : (x.name.toList == n.text.toList) = false := by simpa using e3
                      have e5 : x.kind.toList = k.text.toList := by rw [e1]
                      have hdc : Hid (decide (headI l ⟨k.text, n.text⟩ = some (⟨k.text, n.text⟩ : IDd)) = false) := decide_eq_false (fun h => e2 (by have hh := Option.some.inj (hhd.out.symm.trans h); rw [hh]))
                      go_quiet (fail)
                      go_wp2_with fail
                      go_meet
                      exact ⟨by rw [hdc.out], (Ext.refl wd).drewN _⟩
                  · have e3 : ¬ x.kind.toList = k.text.toList := fun h => e1 (toList_inj h)
                    have e4 : (x.kind.toList == k.text.toList) = false := by simpa using e3
                    have hdc : Hid (decide (headI l ⟨k.text, n.text⟩ = some (⟨k.text, n.text⟩ : IDd)) = false) := decide_eq_false (fun h => e1 (by have hh := Option.some.inj (hhd.out.symm.trans h); rw [hh]))
                    go_quiet (fail)
                    go_wp2_with fail
                    go_meet
                    exact ⟨by rw [hdc.out], (Ext.refl wd).drewN _⟩
                · have hdc : Hid (decide (headI l ⟨k.text, n.text⟩ = some (⟨k.text, n.text⟩ : IDd)) = false) := by
                    show _ = _; rw [hins.out.2, List.getElem?_eq_none (by omega)]; simp
                  go_quiet (fail)
                  go_wp2_with fail
                  go_meet
                  exact ⟨by rw [hdc.out], (Ext.refl wd).drewN _⟩
              case rest =>
                obtain ⟨rfl, hxe⟩ := hcut
                obtain ⟨we, rfl⟩ : ∃ we : World, we = wc := ⟨_, rfl⟩
                have m1 := (four_cells (ext_heap hxe.out K9.out)).2.1
                have K10 := hide (ext_heap hxe.out K9.out); have I10 := hide (ext_heap hxe.out I9.out)
                have hR10 := hide (hR9.out.ext hxe.out)
                clear i0 i1
                go_upto_if 74 with fail
                go_cut [] (fun wx => ∃ s9, Hid (twiceM l ⟨k.text, n.text⟩ k.place s8 = s9) ∧ Hid (RdrIn wx R vL vO vA (.slice paF rfq.length capF) ts s9.i s9.en s9.pl) ∧ Hid (Wr (OnR R) we wx))
                case first =>
                  by_cases hh : headI l ⟨k.text, n.text⟩ = some ⟨k.text, n.text⟩
                  · have hhb : decide (headI l ⟨k.text, n.text⟩ = some (⟨k.text, n.text⟩ : IDd)) = true := decide_eq_true hh
                    have hS9 : Hid (twiceM l ⟨k.text, n.text⟩ k.place s8 = wrongM s8 8 k.place) := by show _ = _; unfold twiceM; rw [if_pos hh]
                    replace hh := hide hh
                    go_wp2_with fail
                    refine (refWrongM hR10.out 8 k.place).mono ?_
                    rintro e9 w9 ⟨rfl, hR11, hW11⟩
                    go_wp2_with fail
                    go_meet
                    exact ⟨_, hS9, hR11, hW11⟩
                  · have hhb : decide (headI l ⟨k.text, n.text⟩ = some (⟨k.text, n.text⟩ : IDd)) = false := decide_eq_false hh
                    have hS9 : Hid (twiceM l ⟨k.text, n.text⟩ k.place s8 = s8) := by show _ = _; unfold twiceM; rw [if_neg hh]
                    replace hh := hide hh
                    go_wp2_with fail
                    go_meet
                    exact ⟨_, hS9, hR10, Wr.refl _ _⟩
                case rest =>
                  clear m1
                  obtain ⟨s9, hS9, hR9, hW9⟩ := hcut
                  obtain ⟨w9, rfl⟩ : ∃ w9 : World, w9 = wc := ⟨_, rfl⟩
                  have hX8 := hide (hx.out.trans hxe.out)
                  have K9 := hide (Wr.keeps hW9.out K10.out (fun hd => absurd hd.2 (by decide)))
                  have I9 := hide (Wr.keeps hW9.out I10.out (fun hd => absurd hd.2 (by decide)))
                  have hF9 := hide (ownsRow_wr (ownsRow_wr hF8.out (Wr.ext (D := fun _ _ => False) hX8.out) fun _ _ _ => id) hW9.out fun _ _ _ hd => absurd hd.2 (by decide))
                  have hL9 := hide (ownsRow_wr (ownsRow_wr hL8.out (Wr.ext (D := fun _ _ => False) hX8.out) fun _ _ _ => id) hW9.out fun _ _ _ hd => absurd hd.2 (by decide))
                  have hC9 : Hid (Wr (ChgR R B) wo w9) := hC8.out.trans ((Wr.ext hX8.out).trans (onR_chg hW9.out))
                  obtain ⟨iI, hiI, hz0, hz1, hz2⟩ := info_of infoID
                  replace hiI := hide hiI
                  go_upto_region 22 with fail
                  go_cut [11] (fun mv wx => ∃ q1 r1, mv = .slice q1 j r1 ∧ Hid (wx.ownsRow w9.heap.size 53 2 (.slice q1 j r1) j ((l.take j).flatMap cI)) ∧ Hid (Ext w9 wx))
                  case first =>
                    have hca := own_cap hL9.out
                    by_cases hlt : j < l.length
                    · obtain ⟨g, rfl, hg1, hg2, hg3⟩ := own_some hL9.out (by omega)
                      have hsh1 := hide (showsG cI_len hL9.out hj)
                      go_wp2_with (at_builtin; go_must (refine wpList_append_any _ rfl _ _ 72 rfl w9.heap.size 53 iI (.agg #[.string ⟨#[]⟩, .string ⟨#[]⟩]) 2 32 Tryz.underlying72 hiI.out hz0 hz1 hz2 rfl (by omega) _ 0 [] rfl (World.ownsRow_nil _ _ _ _) _ j _ ((l.take j).flatMap cI) rfl hsh1.out (cellsI_one _) (by unfold maxLen; omega) (by omega) (Nat.le_refl _) ?_; intro v1 w10 hown1 hW10; rw [Nat.zero_add, List.nil_append] at hown1; obtain ⟨q1, r1, rfl⟩ := ownsRow_form hown1; have hX10 : Hid (Ext w9 w10) := hW10.toExt))
                      all_goals
                        go_meet
                        exact ⟨_, _, rfl, hown1, hX10⟩
                    · obtain rfl : j = l.length := by omega
                      have hsh1 : Hid (Shows w9 pa l.length 2 ((l.take l.length).flatMap cI)) := by
                        show Shows _ _ _ _ _
                        by_cases h0 : l.length = 0
                        · have hl0 : l = [] := List.eq_nil_of_length_eq_zero h0
                          subst hl0; exact shows0 _ _ rfl (by simp)
                        · obtain ⟨g, rfl, _⟩ := own_some hL9.out (by omega)
                          exact showsG cI_len hL9.out (Nat.le_refl _)
                      go_wp2_with (at_builtin; go_must (refine wpList_append_any _ rfl _ _ 72 rfl w9.heap.size 53 iI (.agg #[.string ⟨#[]⟩, .string ⟨#[]⟩]) 2 32 Tryz.underlying72 hiI.out hz0 hz1 hz2 rfl (by omega) _ 0 [] rfl (World.ownsRow_nil _ _ _ _) _ l.length _ ((l.take l.length).flatMap cI) rfl hsh1.out (cellsI_one _) (by unfold maxLen; omega) (by omega) (Nat.le_refl _) ?_; intro v1 w10 hown1 hW10; rw [Nat.zero_add, List.nil_append] at hown1; obtain ⟨q1, r1, rfl⟩ := ownsRow_form hown1; have hX10 : Hid (Ext w9 w10) := hW10.toExt))
                      all_goals
                        go_meet
                        exact ⟨_, _, rfl, hown1, hX10⟩
                  case rest =>
                    obtain ⟨q1, r1, rfl, hown1, hX10⟩ := hcut
                    obtain ⟨w10, rfl⟩ : ∃ w10 : World, w10 = wc := ⟨_, rfl⟩
                    have I10 := ext_heap hX10.out I9.out
                    have i2 := two_c0 I10; have i3 := two_c1 I10
                    replace I10 := hide I10
                    go_upto_region 24 with (at_builtin; go_must (refine wpList_append_any _ rfl _ _ 72 rfl w9.heap.size 53 iI (.agg #[.string ⟨#[]⟩, .string ⟨#[]⟩]) 2 32 Tryz.underlying72 hiI.out hz0 hz1 hz2 rfl (by omega) _ j _ rfl (hown1.out.alloc _) (some ⟨w10.heap.size, 0, none⟩) 1 _ (cI ⟨k.text, n.text⟩) rfl (showsNew w10 53 (cI ⟨k.text, n.text⟩) (n := 2) rfl) (cI_one _) (by unfold maxLen; omega) (by omega) (by have := Ext.size hX10.out; simp; omega) ?_; intro v2 w11 hown2 hW11; obtain ⟨q2, r2, rfl⟩ := ownsRow_form hown2; have hX11 : Hid (Ext w9 w11) := ((Wrote.ext (B := w9.heap.size) (T := (· = 53)) (hX10.out.alloc _)).trans hW11).toExt))
                    clear i2 i3
                    replace hown2 := hide hown2
                    go_cut [3] (fun lv wx => ∃ q3 r3, lv = .slice q3 (insI l ⟨k.text, n.text⟩).length r3 ∧ Hid (wx.ownsRow w.heap.size 53 2 (.slice q3 (insI l ⟨k.text, n.text⟩).length r3) (insI l ⟨k.text, n.text⟩).length ((insI l ⟨k.text, n.text⟩).flatMap cI)) ∧ Hid (Ext w9 wx))
                    case first =>
                      have hca := own_cap hL9.out
                      have hwl : Hid (w.heap.size ≤ w9.heap.size) := by show _ ≤ _; have := hW.out.size; have := hC9.out.size; omega
                      by_cases hlt : j < l.length
                      · obtain ⟨g, rfl, hg1, hg2, hg3⟩ := own_some hL9.out (by omega)
                        have j2 : (j : Int) < (l.length : Int) := by omega
                        have j4 : (0 : Int) ≤ (j : Int) := by omega
                        have hls : Hid (j + 1 + (l.length - j) = (insI l ⟨k.text, n.text⟩).length) := by show _ = _; rw [insI_len]; omega
                        go_wp2_with (at_builtin; go_must (refine wpList_append_any _ rfl _ _ 72 rfl w9.heap.size 53 iI (.agg #[.string ⟨#[]⟩, .string ⟨#[]⟩]) 2 32 Tryz.underlying72 hiI.out hz0 hz1 hz2 rfl (by omega) _ (j + 1) _ rfl hown2.out (some ⟨g, j * 2, none⟩) (l.length - j) _ ((l.drop j).flatMap cI) rfl (showsGD cI_len (ownsRow_wr hL9.out (Wr.ext (D := fun _ _ => False) hX11.out) fun _ _ _ => id) hj) (cellsI_one _) (by unfold maxLen; omega) (by omega) (Ext.size hX11.out) ?_; intro v3 w12 hown3 hW12; obtain ⟨q3, r3, rfl⟩ := ownsRow_form hown3; have hX12 : Hid (Ext w9 w12) := ((Wrote.ext (B := w9.heap.size) (T := (· = 53)) hX11.out).trans hW12).toExt))
                        all_goals
                          go_meet
                          refine ⟨q3, r3, by rw [hls.out], ?_, hX12⟩
                          show World.ownsRow _ _ _ _ _ _ _
                          rw [← hls.out, hins.out.1, show (l.take j ++ (⟨k.text, n.text⟩ : IDd) :: l.drop j).flatMap cI = (l.take j).flatMap cI ++ cI ⟨k.text, n.text⟩ ++ (l.drop j).flatMap cI by simp]
                          exact ownsRow_low' hown3 hwl.out
                      · obtain rfl : j = l.length := by omega
                        have hls : Hid (l.length + 1 + 0 = (insI l ⟨k.text, n.text⟩).length) := by show _ = _; rw [insI_len]
                        go_wp2_with (at_builtin; go_must (refine wpList_append_any _ rfl _ _ 72 rfl w9.heap.size 53 iI (.agg #[.string ⟨#[]⟩, .string ⟨#[]⟩]) 2 32 Tryz.underlying72 hiI.out hz0 hz1 hz2 rfl (by omega) _ (l.length + 1) _ rfl hown2.out _ 0 _ [] rfl (shows0 _ _ rfl rfl) (fun u hu => by cases hu) (by unfold maxLen; omega) (by omega) (Ext.size hX11.out) ?_; intro v3 w12 hown3 hW12; obtain ⟨q3, r3, rfl⟩ := ownsRow_form hown3; have hX12 : Hid (Ext w9 w12) := ((Wrote.ext (B := w9.heap.size) (T := (· = 53)) hX11.out).trans hW12).toExt))
                        all_goals
                          go_meet
                          refine ⟨q3, r3, by rw [hls.out], ?_, hX12⟩
                          show World.ownsRow _ _ _ _ _ _ _
                          rw [← hls.out, hins.out.1, show (l.take l.length ++ (⟨k.text, n.text⟩ : IDd) :: l.drop l.length).flatMap cI = (l.take l.length).flatMap cI ++ cI ⟨k.text, n.text⟩ ++ [] by simp]
                          exact ownsRow_low' hown3 hwl.out
                    case rest =>
                      obtain ⟨q3, r3, rfl, hL12, hX12⟩ := hcut
                      obtain ⟨w12, rfl⟩ : ∃ w12 : World, w12 = wc := ⟨_, rfl⟩
                      have hR12 := hR9.out.ext hX12.out
                      have hF12 := ownsRow_wr hF9.out (Wr.ext (D := fun _ _ => False) hX12.out) fun _ _ _ => id
                      have K12 := ext_heap hX12.out K9.out; have I12 := ext_heap hX12.out I9.out
                      obtain ⟨b2, b3, b4, b5⟩ := four_cells K12
                      have b6 := two_c0 I12; have b7 := two_c1 I12
                      have p6 := (seven_cells hR12.box).2.2.2.2.2.2
                      have hRx := hR12.ext ((Ext.refl w12).alloc (.cells #[.string k.text, .string n.text, .int .i64 k.place] 55))
                      have p7 := (seven_cells hRx.box).2.2.2.2.2.2
                      have hFx := hide (hF12.alloc (.cells #[.string k.text, .string n.text, .int .i64 k.place] 55))
                      have hrfq : rfq.length ≤ 1000000 := by have := hbd.out.2.2.2.2.2.1; have := hbd.out.1; omega
                      obtain ⟨iR, hiR, hr0, hr1, hr2⟩ := info_of infoRRef
                      replace hiR := hide hiR
                      have hB12 : Hid (B ≤ w12.heap.size) := by show _ ≤ _; have := hB.out; have := hW.out.size; have := hC9.out.size; have := Ext.size hX12.out; omega
                      replace hR12 := hide hR12; replace hF12 := hide hF12; replace hRx := hide hRx; replace K12 := hide K12; replace I12 := hide I12
                      have hsz : Hid (B ≤ ((w12.drew).alloc (.cells (cRf (⟨k.text, n.text⟩, k.place)).toArray 55)).heap.size) := by show _ ≤ _; have := hB12.out; simp; omega
                      have hnew : Hid (∀ j u, (cRf (⟨k.text, n.text⟩, k.place))[j]? = some u → ((w12.drew).alloc (.cells (cRf (⟨k.text, n.text⟩, k.place)).toArray 55)).cell? ((⟨w12.heap.size, 0, none⟩ : Addr).add j) = some u) := by
                        show ∀ j u, _
                        intro j u hu
                        rw [add_eq]
                        refine Eq.trans (cell_of (heap_alloc_new w12.drew (.cells (cRf (⟨k.text, n.text⟩, k.place)).toArray 55)) (0 + j)) ?_
                        simpa using hu
                      replace hj := hide hj
                      go_upto_region 25 with fail
                      go_cut [] (fun wx => ∃ g1 cap1, Hid (RdrIn wx R vL vO vA (.slice (some ⟨g1, 0, none⟩) (rfq.length + 1) cap1) ts s9.i s9.en s9.pl) ∧ Hid (wx.ownsRow B 55 3 (.slice (some ⟨g1, 0, none⟩) (rfq.length + 1) cap1) (rfq ++ [((⟨k.text, n.text⟩ : IDd), k.place)]).length ((rfq ++ [((⟨k.text, n.text⟩ : IDd), k.place)]).flatMap cRf)) ∧ Hid (Wr (ChgR R B) w12 wx))
                      case first =>
                        go_region_law (refine step_append_lies _ rfl (.tmp 97) (.tmp 102) 46 rfl B 55 iR (.agg #[.string ⟨#[]⟩, .string ⟨#[]⟩, .int .i64 0]) 3 40 Tryz.underlying46 hiR.out hr0 hr1 hr2 rfl (by omega) (.slice paF rfq.length capF) rfq.length (rfq.flatMap cRf) (by simp [Act.eval]) hFx.out ⟨w12.heap.size, 0, none⟩ 1 1 (cRf (⟨k.text, n.text⟩, k.place)) (by simp [Act.eval]) rfl hnew.out cRf_one (by omega) (by unfold maxLen; omega) (by omega) hsz.out (w12.heap.size + 1) (by simp) ?_; intro g1 cap1 w13 hown13 hgrow13 hat13 hlt13; clear hat13; have W13 : Wrote B (· = 55) w12 w13 := (Wrote.ext (Ext.refl w12).drew).grownAt (hF12.out.drew) rfl hgrow13; have P13 := Wrote.keeps W13 hR12.out.box (by decide); have v13 := row_frozen P13; have u13 := (seven_cells P13).2.2.2.2.2.2; replace P13 := hide P13; replace W13 := hide W13; replace hown13 := hide hown13; replace hgrow13 := hide hgrow13; replace hlt13 := hide hlt13)
                        all_goals
                          obtain ⟨hR14, hF14, hC14⟩ := hR12.out.refd W13.out hown13.out
                          go_wp2_with fail
                          go_meet
                          exact ⟨g1, cap1, hR14, hF14, hC14⟩
                      case rest =>
                        obtain ⟨g1, cap1, hR14, hF14, hC14⟩ := hcut
                        obtain ⟨w14, rfl⟩ : ∃ w14 : World, w14 = wc := ⟨_, rfl⟩
                        have hL14 := hide (ownsRow_wr hL12.out hC14.out fun _ _ _ => chgR_id)
                        have hC15 : Hid (Wr (ChgR R B) w w14) := hW.out.trans (hC9.out.trans ((Wr.ext hX12.out).trans hC14.out))
                        clear b2 b3 b4 b5 b6 b7 p6 p7
                        have hi9 : Hid (s9.i < ts.length) := (lst_round he.out hok.out hz.out hm3.out hm4.out hm5.out hy.out hS8.out hS9.out rfl hbd.out).choose_spec.2.2.2.1
                        go_wp2_with fail
                        refine (refSeesM hR14.out hi9.out ⟨#[44]⟩).mono ?_
                        rintro e15 w15 ⟨mb, rfl, hmb, hE15⟩
                        obtain ⟨f', g1', g2', g3', g4', g5'⟩ := lst_round he.out hok.out hz.out hm3.out hm4.out hm5.out hy.out hS8.out hS9.out hmb.out hbd.out
                        have hR16 := hide (hR14.out.ext hE15.out)
                        have hF16 := hide (ownsRow_wr hF14.out (Wr.ext (D := fun _ _ => False) hE15.out) fun _ _ _ => id)
                        have hL16 := hide (ownsRow_wr hL14.out (Wr.ext (D := fun _ _ => False) hE15.out) fun _ _ _ => id)
                        have hC16 : Hid (Wr (ChgR R B) w w15) := hC15.out.trans (Wr.ext hE15.out)
                        replace g1' := hide g1'; replace g2' := hide g2'; replace g3' := hide g3'; replace g5' := hide g5'
                        cases mb with
                        | false =>
                          go_wp2_with fail
                          go_roundw
                          case rel => exact ⟨f', insI l ⟨k.text, n.text⟩, false, pastM false s9, _, q3, r3, _, rfl, rfl, hR16, hF16, hL16, hC16, hst.out.trans g1'.out, g2'.out⟩
                          case measure =>
                            have h1 := hR16.out.left (s := pastM false s9) ts.length
                            have h2 := hR.out.left ts.length
                            rw [h1, h2]; exact g3'.out
                        | true =>
                          have c1 := (seven_cells hR16.out.box).2.1
                          have c7 := row_frozen hR16.out.box
                          have hb17 : Hid ((w15.setCell ⟨R, 1, none⟩ (.int .i64 ((s9.i : Int) + 1))).heap[R]? = some (.cells #[vL, .int .i64 ((s9.i + 1 : Nat) : Int), .int .i64 s9.en, .int .i64 s9.pl, vO, vA, .slice (some ⟨g1, 0, none⟩) (rfq.length + 1) cap1] 48 (0, 0))) := (row_set hR16.out.box 1 _).trans rfl
                          have hW17 : Hid (Wr (OnR R) w15 (w15.setCell ⟨R, 1, none⟩ (.int .i64 ((s9.i : Int) + 1)))) := (Wr.refl _ w15).setOld (p := ⟨R, 1, none⟩) hR16.out.box ⟨rfl, rfl⟩ _
                          have hn9 : s9.i ≤ 1000000 := by have := g5'.out rfl; omega
                          go_wp2_with fail
                          have hR17 : RdrIn (w15.setCell ⟨R, 1, none⟩ (.int .i64 ((s9.i : Int) + 1))) R vL vO vA (.slice (some ⟨g1, 0, none⟩) (rfq.length + 1) cap1) ts (pastM true s9).i (pastM true s9).en (pastM true s9).pl := hR16.out.turned hW17.out hb17.out
                          have hF17 := ownsRow_wr hF16.out hW17.out fun _ _ _ hd => absurd hd.2 (by decide)
                          have hL17 := ownsRow_wr hL16.out hW17.out fun _ _ _ hd => absurd hd.2 (by decide)
                          have hC17 := hC16.out.trans (onR_chg hW17.out)
                          go_roundw
                          case rel => exact ⟨f', insI l ⟨k.text, n.text⟩, true, pastM true s9, _, q3, r3, _, rfl, rfl, hR17, hF17, hL17, hC17, hst.out.trans g1'.out, g2'.out⟩
                          case measure =>
                            have h1 := hR17.left (s := pastM true s9) ts.length
                            have h2 := hR.out.left ts.length
                            rw [h1, h2]; exact g3'.out
        · have hyb : (s5.en != 0) = true := by simpa using hy
          replace hy := hide hy
          have hF6 := hide (ownsRow_wr (ownsRow_wr (ownsRow_wr (ownsRow_wr (ownsRow_wr hFr.out hW3.out fun _ _ _ hd => absurd hd.2 (by decide)) (Wr.ext (D := fun _ _ => False) ((Ext.refl w3).alloc _)) fun _ _ _ => id) hW4.out fun _ _ _ hd => absurd hd.2 (by decide)) hW5.out fun _ _ _ hd => absurd hd.2 (by decide)) (Wr.ext (D := fun _ _ => False) X6.out) fun _ _ _ => id)
          have hC6 := hide (hW.out.trans ((((onR_chg hW3.out).trans (Wr.ext ((Ext.refl w3).alloc _))).trans (onR_chg hW4.out)).trans ((onR_chg hW5.out).trans (Wr.ext X6.out))))
          obtain ⟨f', hf'⟩ : ∃ f', f = f' + 1 := ⟨f - 1, by have := hbd.out.2.2.1 hz.out; have := hbd.out.1; omega⟩
          replace hf' := hide hf'
          go_wp2_with fail
          go_ret
          refine ⟨[], s5, rfq, none, 0, _, rfl, ?_, hR6, hF6, World.ownsRow_nil _ _ _ _, hC6, hin5.out.1, by have := hbd.out.2.1; have := hin3.out.2.1; have := hin4.out.2.1; have := hin5.out.2.1; omega, by simp, fun _ => by simp, by have := hbd.out.2.2.2.2.2.1; have := hin3.out.2.1; have := hin4.out.2.1; have := hin5.out.2.1; omega, fun a ha => (by cases ha)⟩
          show listM ts s rf = _
          have hl : lstM ts f l true q rfq = ([], s5, rfq) := by
            rw [hf'.out]
            unfold lstM
            rw [if_pos ⟨rfl, hz.out⟩]
            unfold idM
            rw [hm3.out]
            dsimp only
            rw [hm4.out]
            dsimp only
            rw [hm5.out]
            dsimp only
            rw [if_pos hy.out]
          unfold listM
          rw [hm1.out]
          dsimp only
          rw [hb.out, hst.out, hl]
          dsimp only
          rw [nextM_bad hy.out]
      · have hzb : (q.en == 0) = false := by simpa using hz
        replace hz := hide hz
        go_wp2_with fail
        refine (refNext hR.out hbd.out.1 hn 4 ⟨#[93]⟩).mono ?_
        rintro e3 w3 ⟨t3, s3, rfl, hm3, hR3, hW3⟩
        have hin3 := hide (nextM_in he.out hbd.out.1 (by decide) _ hm3.out)
        have hF3 := hide (ownsRow_wr hFr.out hW3.out fun _ _ _ hd => absurd hd.2 (by decide))
        have hL3 := hide (ownsRow_wr hL.out hW3.out fun _ _ _ hd => absurd hd.2 (by decide))
        go_wp2_with fail
        go_ret
        refine ⟨l, s3, rfq, pa, cap, _, rfl, ?_, hR3, hF3, hL3, hW.out.trans (onR_chg hW3.out), hin3.out.1, Nat.le_trans hbd.out.2.1 hin3.out.2.1, hbd.out.2.2.2.1, fun h0 => hbd.out.2.2.2.2.1 (hin3.out.2.2 h0).1, Nat.le_trans hbd.out.2.2.2.2.2.1 hin3.out.2.1, hbd.out.2.2.2.2.2.2⟩
        show listM ts s rf = _
        unfold listM
        rw [hm1.out]
        dsimp only
        rw [hb.out, hst.out, lstM_bad hz.out]
        dsimp only
        rw [hm3.out]
end Go.Proofs.YtejhegnlmldomaaGreat
