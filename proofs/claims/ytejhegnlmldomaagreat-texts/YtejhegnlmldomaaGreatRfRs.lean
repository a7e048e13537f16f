/-
  The reference: a resource is read.
-/
import Derived.Test.YtejhegnlmldomaaGreatJ28
import Derived.Test.YtejhegnlmldomaaGreatRfIn
import Derived.Deep.DeepCutAuto
import Derived.Deep.CutBlock
namespace Go.Proofs.YtejhegnlmldomaaGreat
open Go.RowKit

set_option maxRecDepth 100000 in
set_option maxHeartbeats 3200000 in
theorem refResource {B : Nat} {w : World} {R : Nat} {vL vO vA vF : Value} {ts : List Tok} {s : RSt} {g : Got} {ps : List ResP} (h : GotAt B w R vL vO vA vF ts s g ps) (hB : B ≤ w.heap.size) (hn : ts.length ≤ 1000000) (he : TsEnd ts) (hok : ∀ t ∈ ts, TokOk t) (hz : s.en = 0) (hbd : GotB ts s g) :
    Calls Tryz.prog 10 #[.pointer (some ⟨R, 0, none⟩)] w (ResoR B w R vL ts s g) := by
  have hpl : ps.length = g.out.length := by rw [← h.xs, List.length_map]
  have hp12 : ps.length ≤ 12 := by rw [hpl]; exact hbd.few12 hz
  obtain ⟨paO, capO, rfl⟩ := ownsRow_form h.out
  obtain ⟨paA, capA, rfl⟩ := ownsRow_form h.ats
  replace h := hide h; replace hB := hide hB; replace he := hide he; replace hok := hide hok; replace hbd := hide hbd; replace hz := hide hz; replace hpl := hide hpl
  go_enter Tryz.func10, Tryz.ntmps10
  go_wp2_with fail
  refine (refNext h.out.rdr hbd.out.lt hn 1 wRes).mono ?_
  rintro e1 w1 ⟨t1, s1, rfl, hm1, hR1, hW1⟩
  have hi1 := hide (nextM_in he.out hbd.out.lt (by decide) _ hm1.out)
  have X2 := (Ext.refl w1).alloc (.cells #[.int .i64 t1.kind, .int .i64 t1.place, .string t1.text, .int .i64 t1.value] 50)
  have N2 := hide (heap_alloc_new w1 (.cells #[.int .i64 t1.kind, .int .i64 t1.place, .string t1.text, .int .i64 t1.value] 50))
  have hS2 := hide ((h.out.onR hR1.out hW1.out).ext X2)
  have hC2 := hide ((onR_chgG (B := B) hW1.out).trans (Wr.ext X2))
  have c4 := (seven_cells hS2.out.rdr.box).2.2.2.2.1
  replace X2 := hide X2
  go_upto_if 14 with fail
  generalize hw2 : World.alloc w1 _ = w2 at *
  clear hw2
  go_cut [] (fun wx => Hid (RdrIn wx R vL (.slice paO ps.length capO) (.slice paA g.ats.length capA) vF ts (fullM g.out.length t1.place s1).i (fullM g.out.length t1.place s1).en (fullM g.out.length t1.place s1).pl) ∧ Hid (Wr (OnR R) w2 wx))
  case first =>
    have n1 := (four_cells N2.out).2.1
    by_cases h12 : ps.length = 12
    · have h6b : ((ps.length : Int) == 12) = true := by simp [h12]
      have hS8 : Hid (fullM g.out.length t1.place s1 = wrongM s1 7 t1.place) := if_pos (hpl.out.symm.trans h12)
      replace h12 := hide h12
      go_wp2_with fail
      refine (refWrongM hS2.out.rdr 7 t1.place).mono ?_
      rintro e3 w3 ⟨rfl, hR3, hW3⟩
      go_wp2_with fail
      go_meet
      refine ⟨?_, hW3⟩
      rw [hS8.out]
      exact hR3
    · have h6b : ((ps.length : Int) == 12) = false := by simp; omega
      have hS8 : Hid (fullM g.out.length t1.place s1 = s1) := if_neg (fun hh => h12 (hpl.out.trans hh))
      replace h12 := hide h12
      go_wp2_with fail
      go_meet
      refine ⟨?_, Wr.refl _ _⟩
      rw [hS8.out]
      exact hS2.out.rdr
  case rest =>
    obtain ⟨hR3, hW3⟩ := hcut
    obtain ⟨w3, rfl⟩ : ∃ w3 : World, w3 = wc := ⟨_, rfl⟩
    clear c4
    obtain ⟨s2, hm2⟩ : ∃ s2, Hid (fullM g.out.length t1.place s1 = s2) := ⟨_, rfl⟩
    rw [hm2.out] at hR3
    have hS3 := hide (hS2.out.onR hR3.out hW3.out)
    have hi3 : Hid (s2.i < ts.length ∧ s.i ≤ s2.i) := by show _ ∧ _; rw [← hm2.out, full_at]; exact ⟨hi1.out.1, hi1.out.2.1⟩
    go_wp2_with fail
    refine (refNext hS3.out.rdr hi3.out.1 hn 1 ⟨#[]⟩).mono ?_
    rintro e4 w4 ⟨k, s3, rfl, hm3, hR4, hW4⟩
    have hi4 := hide (nextM_in he.out hi3.out.1 (by decide) _ hm3.out)
    have X5 := (Ext.refl w4).alloc (.cells #[.int .i64 k.kind, .int .i64 k.place, .string k.text, .int .i64 k.value] 50)
    have K5 := hide (heap_alloc_new w4 (.cells #[.int .i64 k.kind, .int .i64 k.place, .string k.text, .int .i64 k.value] 50))
    have hS5 := hide ((hS3.out.onR hR4.out hW4.out).ext X5)
    have hC5 := hide (hC2.out.trans ((onR_chgG hW3.out).trans ((onR_chgG hW4.out).trans (Wr.ext X5))))
    replace X5 := hide X5
    go_wp2_with fail
    refine (refNext hS5.out.rdr hi4.out.1 hn 1 ⟨#[]⟩).mono ?_
    rintro e6 w6 ⟨n, s4, rfl, hm4, hR6, hW6⟩
    have hi6 := hide (nextM_in he.out hi4.out.1 (by decide) _ hm4.out)
    have K6 := Wr.keeps hW6.out K5.out (fun hd => absurd hd.2 (by decide))
    have X7 := (Ext.refl w6).alloc (.cells #[.int .i64 n.kind, .int .i64 n.place, .string n.text, .int .i64 n.value] 50)
    have K7 := ext_heap X7 K6
    have k2 := (four_cells K7).2.2.1
    have hS7 := hide ((hS5.out.onR hR6.out hW6.out).ext X7)
    have hC7 := hide (hC5.out.trans ((onR_chgG hW6.out).trans (Wr.ext X7)))
    have X8 := (Ext.refl (w6.alloc (.cells #[.int .i64 n.kind, .int .i64 n.place, .string n.text, .int .i64 n.value] 50))).alloc (.cells #[.string k.text, .string n.text, .slice none 0 0, .slice none 0 0] 74)
    have B8 := hide (two_hi w6 (.cells #[.int .i64 n.kind, .int .i64 n.place, .string n.text, .int .i64 n.value] 50) (.cells #[.string k.text, .string n.text, .slice none 0 0, .slice none 0 0] 74))
    have hs8 : Hid ((w6.alloc (.cells #[.int .i64 n.kind, .int .i64 n.place, .string n.text, .int .i64 n.value] 50)).heap.size = w6.heap.size + 1) := by show _ = _; simp
    have K8 := hide (ext_heap X8 K7)
    replace K6 := hide K6; replace K7 := hide K7; replace X7 := hide X7
    have hS8 := hide (hS7.out.ext X8)
    replace X8 := hide X8
    go_upto_block 0 with fail
    generalize hw8 : World.alloc (World.alloc w6 _) _ = w8 at *
    generalize hw7 : World.alloc w6 _ = w7 at *
    clear hw8 hw7 k2
    go_cut [] (fun wx => Hid (RdrIn wx R vL (.slice paO ps.length capO) (.slice paA g.ats.length capA) vF ts (againM g.out ⟨k.text, n.text⟩ k.place s4).i (againM g.out ⟨k.text, n.text⟩ k.place s4).en (againM g.out ⟨k.text, n.text⟩ k.place s4).pl) ∧ Hid (Wr (OnR R) w8 wx))
    case first =>
      go_wp2_with fail
      go_loopw [6] (fun iv wr => ∃ j : Nat, j ≤ ps.length ∧ iv = .int .i64 j ∧ Hid (RdrIn wr R vL (.slice paO ps.length capO) (.slice paA g.ats.length capA) vF ts (againM (g.out.take j) ⟨k.text, n.text⟩ k.place s4).i (againM (g.out.take j) ⟨k.text, n.text⟩ k.place s4).en (againM (g.out.take j) ⟨k.text, n.text⟩ k.place s4).pl) ∧ Hid (Wr (OnR R) w8 wr)) (fun iv _ => ps.length - (intOf iv).toNat)
      case atStart =>
        have h0 : againM (g.out.take 0) ⟨k.text, n.text⟩ k.place s4 = s4 := if_neg (by simp)
        exact ⟨0, Nat.zero_le _, rfl, by rw [h0]; exact hS8.out.rdr, Wr.refl _ _⟩
      case round =>
        obtain ⟨j, hj, rfl, hR, hW⟩ := hrel
        have hSr := hide (hS8.out.onR hR.out hW.out)
        have c4 := (seven_cells hR.out.box).2.2.2.2.1
        by_cases hlt : j < ps.length
        · obtain ⟨p, hp⟩ := some_of_lt hlt
          obtain ⟨gO, rfl, hg1, hg2, hg3⟩ := own_some hSr.out.out (by omega)
          obtain ⟨a0, a1, -, -⟩ := ress_cells hSr.out.out hp
          have hx : Hid (g.out[j]? = some p.x) := by show _ = _; rw [← h.out.xs, List.getElem?_map, hp]; rfl
          have j2 : (j : Int) < (ps.length : Int) := by omega
          have j4 : (0 : Int) ≤ (j : Int) := by omega
          have Br := Wr.keeps hW.out B8.out (fun hd => absurd hd.2 (by decide))
          have Kr := Wr.keeps hW.out K8.out (fun hd => absurd hd.2 (by decide))
          obtain ⟨b0, b1, -, -⟩ := four_cells Br
          have k1 := (four_cells Kr).2.1
          replace hp := hide hp; replace Br := hide Br; replace Kr := hide Kr
          by_cases e1 : p.x.id.kind = k.text
          · by_cases e2 : p.x.id.name = n.text
            · have hst := hide (again_step (a := ⟨k.text, n.text⟩) (p := k.place) (s := s4) hx.out)
              have hxe : Hid (p.x.id = ⟨k.text, n.text⟩) := by show _ = _; cases hq : p.x.id; rw [hq] at e1 e2; dsimp only at e1 e2; rw [e1, e2]
              go_wp2_with fail
              go_quiet (fail)
              go_wp2_with fail
              refine (refWrongM (hR.out.ext ((Ext.refl wr).drewN _)) 8 k.place).mono ?_
              rintro e9 w9 ⟨rfl, hR9, hW9⟩
              go_wp2_with fail
              go_roundw
              case rel =>
                refine ⟨j + 1, by omega, by go_num, ?_, hW.out.trans ((Wr.ext ((Ext.refl wr).drewN _)).trans hW9.out)⟩
                rw [hst.out, if_pos hxe.out]
                exact hR9
              case measure => simp [intOf]; omega
            · have e3 : ¬ p.x.id.name.toList = n.text.toList := fun h => e2 (toList_inj h)
              have e4 : (p.x.id.name.toList == n.text.toList) = false := by simpa using e3
              have e5 : p.x.id.kind.toList = k.text.toList := by rw [e1]
              have hst := hide (again_step (a := ⟨k.text, n.text⟩) (p := k.place) (s := s4) hx.out)
              have hxe : Hid (¬ p.x.id = ⟨k.text, n.text⟩) := fun hh => e2 (by rw [hh])
              go_wp2_with fail
              go_quiet (fail)
              go_wp2_with fail
              go_roundw
              case rel =>
                refine ⟨j + 1, by omega, by go_num, ?_, hW.out.trans (Wr.ext ((Ext.refl wr).drewN _))⟩
                rw [hst.out, if_neg hxe.out]
                exact hR.out.ext ((Ext.refl wr).drewN _)
              case measure => simp [intOf]; omega
          · have e3 : ¬ p.x.id.kind.toList = k.text.toList := fun h => e1 (toList_inj h)
            have e4 : (p.x.id.kind.toList == k.text.toList) = false := by simpa using e3
            have hst := hide (again_step (a := ⟨k.text, n.text⟩) (p := k.place) (s := s4) hx.out)
            have hxe : Hid (¬ p.x.id = ⟨k.text, n.text⟩) := fun hh => e1 (by rw [hh])
            go_wp2_with fail
            go_quiet (fail)
            go_wp2_with fail
            go_roundw
            case rel =>
              refine ⟨j + 1, by omega, by go_num, ?_, hW.out.trans (Wr.ext ((Ext.refl wr).drewN _))⟩
              rw [hst.out, if_neg hxe.out]
              exact hR.out.ext ((Ext.refl wr).drewN _)
            case measure => simp [intOf]; omega
        · have hall : Hid (g.out.take j = g.out) := List.take_of_length_le (by rw [← hpl.out]; omega)
          go_wp2_with fail
          go_meet
          refine ⟨?_, hW⟩
          rw [hall.out] at hR
          exact hR
    case rest =>
      obtain ⟨hR9, hW9⟩ := hcut
      obtain ⟨w9, rfl⟩ : ∃ w9 : World, w9 = wc := ⟨_, rfl⟩
      obtain ⟨s5, hm5⟩ : ∃ s5, Hid (againM g.out ⟨k.text, n.text⟩ k.place s4 = s5) := ⟨_, rfl⟩
      rw [hm5.out] at hR9
      have hS9 := hide (hS8.out.onR hR9.out hW9.out)
      have hi9 : Hid (s5.i < ts.length ∧ s4.i ≤ s5.i) := by show _ ∧ _; rw [← hm5.out, again_at]; exact ⟨hi6.out.1, Nat.le_refl _⟩
      go_wp2_with fail
      refine (refNext hS9.out.rdr hi9.out.1 hn 4 ⟨#[123]⟩).mono ?_
      rintro e10 w10 ⟨t10, s6, rfl, hm6, hR10, hW10⟩
      have hi10 := hide (nextM_in he.out hi9.out.1 (by decide) _ hm6.out)
      have hS10 := hide (hS9.out.onR hR10.out hW10.out)
      have B10 := hide (Wr.keeps hW10.out (Wr.keeps hW9.out B8.out (fun hd => absurd hd.2 (by decide))) (fun hd => absurd hd.2 (by decide)))
      have K10 := hide (Wr.keeps hW10.out (Wr.keeps hW9.out K8.out (fun hd => absurd hd.2 (by decide))) (fun hd => absurd hd.2 (by decide)))
      have hB7 : Hid (B ≤ w7.heap.size) := by show _ ≤ _; have := hB.out; have := hC7.out.size; omega
      have hB10 : Hid (B ≤ w10.heap.size) := by show _ ≤ _; have := hB7.out; have := Ext.size X8.out; have := hW9.out.size; have := hW10.out.size; omega
      have hle : Hid (s.i ≤ s6.i) := by show _ ≤ _; have := hi3.out.2; have := hi4.out.2.1; have := hi6.out.2.1; have := hi9.out.2; have := hi10.out.2.1; omega
      have hI10 : Hid (InAt B w10 R (w6.heap.size + 1) vL (.slice paO ps.length capO) (.slice paA g.ats.length capA) vF (.slice none 0 0) (.slice none 0 0) ts ⟨⟨k.text, n.text⟩, [], []⟩ s6 g.rf) := ⟨hS10.out.rdr, hS10.out.refs, B10.out, World.ownsRow_nil _ _ _ _, World.ownsRow_nil _ _ _ _⟩
      have hb10 : Hid (InB ts s6.i ts.length ⟨⟨k.text, n.text⟩, [], []⟩ s6 g.rf) := ⟨hi10.out.1, Nat.le_refl _, fun _ => Nat.le_add_right _ _, by simp, fun _ => by simp, by have := hbd.out.refs; have := hle.out; omega, List.Pairwise.nil, fun a ha => (by cases ha), by simp, fun a ha => (by cases ha)⟩
      go_wp2_with fail
      refine (refInside hI10.out hB10.out hn he.out hok.out hb10.out).mono ?_
      rintro e11 w11 ⟨x, af, s7, rf7, c2, c3, vF7, f7, rfl, hm7, hR11, hF11, hX11, hA11, hL11, hC11, hb11⟩
      go_wp2_with fail
      refine (refNext hR11.out hb11.out.lt hn 4 ⟨#[125]⟩).mono ?_
      rintro e12 w12 ⟨t12, s8, rfl, hm8, hR12, hW12⟩
      have hi12 := hide (nextM_in he.out hb11.out.lt (by decide) _ hm8.out)
      obtain ⟨g1, g2, g3, g4⟩ := res_round he.out hm1.out hm2.out hm3.out hm4.out hm5.out hm6.out hm7.out hm8.out hz.out hbd.out hb11.out
      replace g1 := hide g1; replace g2 := hide g2; replace g3 := hide g3; replace g4 := hide g4
      have hT : Hid (Wr (ChgR R B) w7 w12) := chgX_new X8.out (((onR_chgX hW9.out).trans (onR_chgX hW10.out)).trans (hC11.out.trans (onR_chgX hW12.out))) (Nat.le_of_eq hs8.out)
      obtain ⟨pa2, cap2, rfl⟩ := ownsRow_form hA11.out
      obtain ⟨pa3, cap3, rfl⟩ := ownsRow_form hL11.out
      have hA12 := hide (ownsRow_wr hA11.out hW12.out fun _ _ _ hd => absurd hd.2 (by decide))
      have hL12 := hide (ownsRow_wr hL11.out hW12.out fun _ _ _ hd => absurd hd.2 (by decide))
      have hF12 := hide (ownsRow_wr hF11.out hW12.out fun _ _ _ hd => absurd hd.2 (by decide))
      have B12 := Wr.keeps hW12.out hX11.out (fun hd => absurd hd.2 (by decide))
      have hK12 := hide (Wr.keeps hW12.out (Wr.keeps hC11.out K10.out (fun hd => hd.elim chgR_tok (fun h => absurd h.2 (by decide)))) (fun hd => absurd hd.2 (by decide)))
      have hO12 := ownsRow_wr hS7.out.out hT.out fun _ _ _ => chgR_no (by decide) (by decide)
      have hN12 := hide (ownsRow_wr hS7.out.ats hT.out fun _ _ _ => chgR_no (by decide) (by decide))
      have hE12 : Hid (∀ p ∈ ps, OwnR B w12 p.c2 p.c3 p.x ∧ okS p.x) := fun p hp => ⟨(hS7.out.each p hp).1.wr hT.out (fun _ => chgR_no (by decide) (by decide)) (fun _ => chgR_no (by decide) (by decide)), (hS7.out.each p hp).2⟩
      have hokx : Hid (okS x) := ⟨by rw [g4.out]; exact ⟨by have := (nextM_tok hok.out hm3.out).1; show k.text.size ≤ 255; omega, by have := (nextM_tok hok.out hm4.out).1; show n.text.size ≤ 255; omega⟩, hb11.out.oks, hb11.out.okA, by have := hb11.out.few; omega, by have := hb11.out.fewA; omega⟩
      have hB12 : Hid (B ≤ w12.heap.size) := by show _ ≤ _; have := hB7.out; have := hT.out.size; omega
      obtain ⟨b0, b1, b2, b3⟩ := four_cells B12
      have p4 := (seven_cells hR12.out.box).2.2.2.2.1
      have p4x := (seven_cells (hR12.out.ext ((Ext.refl w12).alloc (.cells #[.string x.id.kind, .string x.id.name, .slice pa2 x.attrs.length cap2, .slice pa3 x.after.length cap3] 74))).box).2.2.2.2.1
      have hOx := hide (hO12.alloc (.cells #[.string x.id.kind, .string x.id.name, .slice pa2 x.attrs.length cap2, .slice pa3 x.after.length cap3] 74))
      obtain ⟨iR, hiR, hr0, hr1, hr2⟩ := info_of infoRes
      replace hiR := hide hiR; replace hO12 := hide hO12; replace B12 := hide B12
      have hsz : Hid (B ≤ ((w12.drew).alloc (.cells (cRs ⟨x, .slice pa2 x.attrs.length cap2, .slice pa3 x.after.length cap3⟩).toArray 74)).heap.size) := by show _ ≤ _; have := hB12.out; simp; omega
      have hnew : Hid (∀ j u, (cRs ⟨x, .slice pa2 x.attrs.length cap2, .slice pa3 x.after.length cap3⟩)[j]? = some u → ((w12.drew).alloc (.cells (cRs ⟨x, .slice pa2 x.attrs.length cap2, .slice pa3 x.after.length cap3⟩).toArray 74)).cell? ((⟨w12.heap.size, 0, none⟩ : Addr).add j) = some u) := by
        show ∀ j u, _
        intro j u hu
        rw [add_eq]
        refine Eq.trans (cell_of (heap_alloc_new w12.drew (.cells (cRs ⟨x, .slice pa2 x.attrs.length cap2, .slice pa3 x.after.length cap3⟩).toArray 74)) (0 + j)) ?_
        simpa using hu
      go_upto_region 14 with fail
      go_cut [] (fun wx => ∃ g1 cap1, Hid (RdrIn wx R vL (.slice (some ⟨g1, 0, none⟩) (ps.length + 1) cap1) (.slice paA g.ats.length capA) vF7 ts s8.i s8.en s8.pl) ∧ Hid (wx.ownsRow B 74 4 (.slice (some ⟨g1, 0, none⟩) (ps.length + 1) cap1) (ps.length + 1) (cellsP ps ++ cRs ⟨x, .slice pa2 x.attrs.length cap2, .slice pa3 x.after.length cap3⟩)) ∧ Hid (Wr (fun j t => (B ≤ j ∧ t = 74) ∨ OnR R j t) w12 wx))
      case first =>
        go_region_law (refine step_append_lies _ rfl (.tmp 63) (.tmp 65) 22 rfl B 74 iR (.agg #[.string ⟨#[]⟩, .string ⟨#[]⟩, .slice none 0 0, .slice none 0 0]) 4 80 Tryz.underlying22 hiR.out hr0 hr1 hr2 rfl (by omega) (.slice paO ps.length capO) ps.length (cellsP ps) (by simp [Act.eval]) hOx.out ⟨w12.heap.size, 0, none⟩ 1 1 (cRs ⟨x, .slice pa2 x.attrs.length cap2, .slice pa3 x.after.length cap3⟩) (by simp [Act.eval]) rfl hnew.out cRs_one (by omega) (by unfold maxLen; omega) (by omega) hsz.out (w12.heap.size + 1) (by simp) ?_; intro gg cap1 w13 hown13 hgrow13 hat13 hlt13; clear hat13; have W13 : Wrote B (· = 74) w12 w13 := (Wrote.ext (Ext.refl w12).drew).grownAt (hO12.out.drew) rfl hgrow13; have P13 := Wrote.keeps W13 hR12.out.box (by decide); have v13 := row_frozen P13; have u13 := (seven_cells P13).2.2.2.2.1; replace P13 := hide P13; replace W13 := hide W13; replace hown13 := hide hown13; replace hgrow13 := hide hgrow13; replace hlt13 := hide hlt13)
        all_goals
          obtain ⟨hR14, hC14⟩ := hR12.out.outd W13.out (.slice (some ⟨gg, 0, none⟩) (ps.length + 1) cap1)
          have hO14 := ownsRow_set (u := .slice (some ⟨gg, 0, none⟩) (ps.length + 1) cap1) (j := 4) hown13.out (Wrote.keeps W13.out hR12.out.box (by decide)) (by decide)
          go_wp2_with fail
          go_meet
          exact ⟨gg, cap1, hR14, hO14, hC14⟩
      case rest =>
        obtain ⟨gg, cap1, hR14, hO14, hC14⟩ := hcut
        obtain ⟨w14, rfl⟩ : ∃ w14 : World, w14 = wc := ⟨_, rfl⟩
        clear b0 b1 b2 b3 p4 p4x
        have no14 : ∀ {j t}, t ≠ 74 → t ≠ 48 → ¬ ((B ≤ j ∧ t = 74) ∨ OnR R j t) := fun h1 h2 hd => hd.elim (fun h => h1 h.2) (fun h => h2 h.2)
        have hN14 := ownsRow_wr hN12.out hC14.out fun _ _ _ => no14 (by decide) (by decide)
        have hA14 := hide (ownsRow_wr hA12.out hC14.out fun _ _ _ => no14 (by decide) (by decide))
        have hL14 := hide (ownsRow_wr hL12.out hC14.out fun _ _ _ => no14 (by decide) (by decide))
        have hF14 := hide (ownsRow_wr hF12.out hC14.out fun _ _ _ => no14 (by decide) (by decide))
        have hE14 : Hid (∀ p ∈ ps, OwnR B w14 p.c2 p.c3 p.x ∧ okS p.x) := fun p hp => ⟨(hE12.out p hp).1.wr hC14.out (fun _ => no14 (by decide) (by decide)) (fun _ => no14 (by decide) (by decide)), (hE12.out p hp).2⟩
        have K14 := Wr.keeps hC14.out hK12.out (no14 (by decide) (by decide))
        obtain ⟨k0, k1, k2, k3⟩ := four_cells K14
        have p5 := (seven_cells hR14.out.box).2.2.2.2.2.1
        have p5x := (seven_cells (hR14.out.ext ((Ext.refl w14).alloc (.cells #[.int .i64 k.place] 3))).box).2.2.2.2.2.1
        have hNx := hide (hN14.alloc (.cells #[.int .i64 k.place] 3))
        obtain ⟨iN, hiN, hn0, hn1, hn2⟩ := info_of infoInt
        have hga : g.ats.length ≤ 13 := by have := hbd.out.same; have := hbd.out.few; omega
        have hB14 : Hid (B ≤ w14.heap.size) := by show _ ≤ _; have := hB12.out; have := hC14.out.size; omega
        replace hiN := hide hiN; replace hN14 := hide hN14; replace K14 := hide K14
        have hsz2 : Hid (B ≤ ((w14.drew).alloc (.cells (cN k.place).toArray 3)).heap.size) := by show _ ≤ _; have := hB14.out; simp; omega
        have hnew2 : Hid (∀ j u, (cN k.place)[j]? = some u → ((w14.drew).alloc (.cells (cN k.place).toArray 3)).cell? ((⟨w14.heap.size, 0, none⟩ : Addr).add j) = some u) := by
          show ∀ j u, _
          intro j u hu
          rw [add_eq]
          refine Eq.trans (cell_of (heap_alloc_new w14.drew (.cells (cN k.place).toArray 3)) (0 + j)) ?_
          simpa using hu
        clear hnew hsz
        clear no14
        go_upto_region 15 with fail
        go_region_law (refine step_append_lies _ rfl (.tmp 73) (.tmp 76) 45 rfl B 3 iN (.int .i64 0) 1 8 Tryz.underlying45 hiN.out hn0 hn1 hn2 rfl (by omega) (.slice paA g.ats.length capA) g.ats.length (g.ats.flatMap cN) (by simp [Act.eval]) hNx.out ⟨w14.heap.size, 0, none⟩ 1 1 (cN k.place) (by simp [Act.eval]) rfl hnew2.out cN_one (by omega) (by unfold maxLen; omega) (by omega) hsz2.out (w14.heap.size + 1) (by simp) ?_; intro gn cap2n w15 hown15 hgrow15 hat15 hlt15; clear hat15; have W15 : Wrote B (· = 3) w14 w15 := (Wrote.ext (Ext.refl w14).drew).grownAt (hN14.out.drew) rfl hgrow15; have P15 := Wrote.keeps W15 hR14.out.box (by decide); have v15 := row_frozen P15; have u15 := (seven_cells P15).2.2.2.2.2.1; replace P15 := hide P15; replace W15 := hide W15; replace hown15 := hide hown15; replace hgrow15 := hide hgrow15; replace hlt15 := hide hlt15)
        all_goals
          go_wp2_with fail
          obtain ⟨hR16, hC16⟩ := hR14.out.atd W15.out (.slice (some ⟨gn, 0, none⟩) (g.ats.length + 1) cap2n)
          have hN16 := ownsRow_set (u := .slice (some ⟨gn, 0, none⟩) (g.ats.length + 1) cap2n) (j := 5) hown15.out (Wrote.keeps W15.out hR14.out.box (by decide)) (by decide)
          have no16 : ∀ {j t}, t ≠ 3 → t ≠ 48 → ¬ ((B ≤ j ∧ t = 3) ∨ OnR R j t) := fun h1 h2 hd => hd.elim (fun h => h1 h.2) (fun h => h2 h.2)
          refine ⟨rfl, .tuple #[], by simp [results, Tryz.results10], ?_⟩
          refine ⟨s8, _, ps ++ [⟨x, .slice pa2 x.attrs.length cap2, .slice pa3 x.after.length cap3⟩], _, _, _, rfl, g1, ⟨hR16, ?_, ?_, ?_, ?_, ownsRow_wr hF14.out hC16 fun _ _ _ => no16 (by decide) (by decide)⟩, ?_, ⟨g2.out, g3.out⟩⟩
          · rw [List.length_append, List.length_singleton, cellsP_app]
            exact ownsRow_wr hO14.out hC16 fun _ _ _ => no16 (by decide) (by decide)
          · intro p hp
            rcases List.mem_append.1 hp with hp | hp
            · exact ⟨(hE14.out p hp).1.wr hC16 (fun _ => no16 (by decide) (by decide)) (fun _ => no16 (by decide) (by decide)), (hE14.out p hp).2⟩
            · obtain rfl : p = _ := by simpa using hp
              exact ⟨⟨⟨pa2, cap2, rfl⟩, ⟨pa3, cap3, rfl⟩, ownsRow_wr hA14.out hC16 fun _ _ _ => no16 (by decide) (by decide), ownsRow_wr hL14.out hC16 fun _ _ _ => no16 (by decide) (by decide)⟩, hokx.out⟩
          · rw [List.map_append, h.out.xs]; rfl
          · rw [List.length_append, List.length_singleton, show (g.ats ++ [k.place]).flatMap cN = g.ats.flatMap cN ++ cN k.place by simp]
            exact hN16
          · exact hC7.out.trans ((chgG_of hT.out).trans ((hC14.out.mono fun _ _ _ hd => hd.elim (fun h => .inr ⟨h.1, .inl h.2⟩) (fun h => .inl (.inl h))).trans (hC16.mono fun _ _ _ hd => hd.elim (fun h => .inr ⟨h.1, .inr h.2⟩) (fun h => .inl (.inl h)))))
end Go.Proofs.YtejhegnlmldomaaGreat
