/-
  A state out of bytes: what the program's function answers.
-/
/-
  A state as bytes: what the reference's function answers.
-/
import Derived.Test.YtkjjfdejfihpfaaGreatStateP
import Derived.Test.YtkjjfdejfihpfaaGreatJ10
import Derived.Test.YtkjjfdejfihpfaaGreatRefRes
import Derived.Test.YtkjjfdejfihpfaaGreatJ11
namespace Go.Proofs.YtkjjfdejfihpfaaGreat
open Go.RowKit

/-- The epoch and the resources that bytes are, or none, and the error. -/
noncomputable def ldOf (epoch : Int) (l : List Resd) (bs : List UInt8) : Int × List Resd × Int :=
  @ite _ (stOk epoch l = true ∧ stateL epoch l = bs) (Classical.propDecidable _) (epoch, l, 0) (0, [], 16)
theorem ld_yes {epoch : Int} {l : List Resd} {bs : List UInt8} (h : stOk epoch l = true) (h2 : stateL epoch l = bs) : ldOf epoch l bs = (epoch, l, 0) := by
  unfold ldOf; rw [if_pos ⟨h, h2⟩]
theorem ld_no {epoch : Int} {l : List Resd} {bs : List UInt8} (h : ¬ (stOk epoch l = true ∧ stateL epoch l = bs)) : ldOf epoch l bs = (0, [], 16) := by
  unfold ldOf; rw [if_neg h]
def rdEp (l : List UInt8) : Int := numN ((l.drop 4).take 3)
def rdSt (l : List UInt8) : List Resd := (rdList rdRes ((l.drop 4).drop 3)).1
/-- What Load answers. -/
def LdIs (w : World) (epoch : Int) (l : List Resd) (s : ByteArray) (e : Ending) (w' : World) : Prop :=
  ∃ (ps : List ResP) (pa : Option Addr) (cap : Nat) (n en : Int), e = .returned (.tuple #[.int .i64 n, .slice pa ps.length cap, .int .i64 en]) ∧ Hid (ldOf epoch l s.data.toList = (n, ps.map ResP.x, en)) ∧ ps.length ≤ 255 ∧ (en = 0 ∨ (en = 16 ∧ pa = none ∧ ps = [] ∧ cap = 0)) ∧ Hid (RessAt w.heap.size w' (.slice pa ps.length cap) ps) ∧ Hid (Ext w w')

set_option maxRecDepth 100000 in
set_option maxHeartbeats 1600000 in
theorem loadP (s : ByteArray) (w : World) (hs : s.size ≤ 9223372036854775807) :
    Calls Tryz.prog 24 #[.string s] w (LdIs w (rdEp s.data.toList) (rdSt s.data.toList) s) := by
  go_enter Tryz.func24, Tryz.ntmps24
  go_wp2_with fail
  refine (newReader s _).mono ?_
  rintro e w1 ⟨rfl, rfl⟩
  have hR0 : Hid (RdAt (w.alloc (.cells #[.string s] 118)) w.heap.size s) := heap_alloc_new w _
  go_wp2_with fail
  refine (take w.heap.size s 4 _ hR0.out hs (by omega)).mono ?_
  rintro e w2 ⟨t, s2, rfl, ht, hL2⟩
  go_wp2_with fail
  refine (number w.heap.size s2 3 _ hL2.out.at_ hL2.out.few (by omega)).mono ?_
  rintro e w3 ⟨n, s3, rfl, hn, hn2, hL3⟩
  go_wp2_with fail
  refine (readRess w.heap.size s3 _ hL3.out.at_ hL3.out.few).mono ?_
  rintro e w4 ⟨ps, pa, cap, s4, rfl, hps, hlen, hat, hL4⟩
  have hep : Hid (rdEp s.data.toList = (n : Int)) := by show _ = _; unfold rdEp; rw [hn.out, hL2.out.list]
  have hst : Hid (rdSt s.data.toList = ps.map ResP.x) := by show _ = _; unfold rdSt; rw [← hL2.out.list, ← hL3.out.list, hps.out]
  have W4 : Wrote w.heap.size (· = 118) w w4 := ((((Wrote.refl w.heap.size (· = 118) w).alloc _).trans hL2.out.wrote).trans hL3.out.wrote).trans hL4.out.wrote
  have X4 := hide W4.toExt
  have hlow : Hid (w.heap.size ≤ w3.heap.size) := by
    have h2 := hL2.out.wrote.size; have h3 := hL3.out.wrote.size; simp at h2; show _ ≤ _; omega
  have hat0 := hide (hat.out.low hlow.out)
  clear W4
  have hml : (ps.map ResP.x).length = ps.length := List.length_map ..
  have hst2 := hide (stateP (n : Int) (.slice pa ps.length cap) (ps.map ResP.x) w4 (hat0.out.ressV (by omega)))
  replace hml := hide hml
  go_wp2_with fail
  refine hst2.out.mono ?_
  rintro e w5 ⟨rfl, he5⟩
  have hat5 := hide (hat0.out.ext he5)
  have X5 := hide (X4.out.trans he5)
  clear hst2
  replace he5 := hide he5
  cases hm : stOk (n : Int) (ps.map ResP.x)
  · have H2 : Hid (stE (n : Int) (ps.map ResP.x) = 11) := by show _ = _; simp [stE, hm]
    have Hd : Hid (ldOf (n : Int) (ps.map ResP.x) s.data.toList = (0, [], 16)) := ld_no (by simp [hm])
    generalize stS (n : Int) (ps.map ResP.x) = es at *
    generalize stE (n : Int) (ps.map ResP.x) = ee at *
    obtain rfl := H2.out
    go_wp2_with fail
    go_ret3
    exact ⟨[], none, 0, 0, 16, rfl, by show _ = _; rw [hep.out, hst.out]; exact Hd.out, Nat.zero_le _, .inr ⟨rfl, rfl, rfl, rfl⟩, RessAt.nil _ _, X5⟩
  · have H2 : Hid (stE (n : Int) (ps.map ResP.x) = 0) := by show _ = _; simp [stE, hm]
    have H1 : Hid (stS (n : Int) (ps.map ResP.x) = ⟨(stateL (n : Int) (ps.map ResP.x)).toArray⟩) := by show _ = _; simp [stS, hm]
    generalize stS (n : Int) (ps.map ResP.x) = es at *
    generalize stE (n : Int) (ps.map ResP.x) = ee at *
    obtain rfl := H2.out
    have hes : Hid (es.toList = stateL (n : Int) (ps.map ResP.x)) := by show _ = _; rw [H1.out, ByteArray.toList_eq]
    cases hq : (es.toList == s.toList)
    · have Hd : Hid (ldOf (n : Int) (ps.map ResP.x) s.data.toList = (0, [], 16)) := ld_no (by
        rintro ⟨_, h2⟩
        rw [hes.out, ByteArray.toList_eq, h2] at hq
        simp at hq)
      go_wp2_with fail
      go_ret3
      exact ⟨[], none, 0, 0, 16, rfl, by show _ = _; rw [hep.out, hst.out]; exact Hd.out, Nat.zero_le _, .inr ⟨rfl, rfl, rfl, rfl⟩, RessAt.nil _ _, X5⟩
    · have Hd : Hid (ldOf (n : Int) (ps.map ResP.x) s.data.toList = ((n : Int), ps.map ResP.x, 0)) := ld_yes hm (by
        have h2 : es.toList = s.toList := by simpa using hq
        rw [hes.out, ByteArray.toList_eq] at h2
        exact h2)
      go_wp2_with fail
      go_ret3
      exact ⟨ps, pa, cap, (n : Int), 0, rfl, by show _ = _; rw [hep.out, hst.out]; exact Hd.out, hlen, .inl rfl, hat5, X5⟩
end Go.Proofs.YtkjjfdejfihpfaaGreat

namespace Go.Proofs.YtkjjfdejfihpfaaGreat
open Go.RowKit

theorem crc_bd : ∀ (l : List UInt8) (n : Nat), n < 4294967296 → l.foldl crcByte n < 4294967296
  | [], _, h => h
  | c :: l, _, h => crc_bd l _ (crcByte_lt c h)
theorem sum_bd (l : List UInt8) : 0 ≤ sumL l ∧ sumL l ≤ 4294967295 := by
  have := crc_bd l 4294967295 (by decide)
  unfold sumL crcL; omega
theorem fine_of {l : List Resd} (h : mayAllB l = true) {b : Bool} (hb : b = true ↔ WholeP l) : fineB l = b := by
  rw [Bool.eq_iff_iff, hb, ← whole_iff h]
  simp [fineB, h]

set_option maxRecDepth 100000 in
set_option maxHeartbeats 3200000 in
theorem refState (epoch : Int) (v : Value) (l : List Resd) (w : World) (hv : RessV w v l) :
    Calls Tryz.prog 6 #[.int .i64 epoch, v] w fun e w' => e = .returned (.tuple #[.string (stS epoch l), .int .i64 (stE epoch l)]) ∧ Ext w w' := by
  have hv0 := hide hv
  have hm := hide (refMays v l w hv)
  obtain ⟨va, vc, rfl, hc1, hc2, -⟩ := hv.shape
  clear hv
  go_enter Tryz.func6, Tryz.ntmps6
  go_wp2_with fail
  refine hm.out.mono ?_
  rintro e w1 ⟨rfl, he1⟩
  cases hmay : mayAllB l
  · have H : Hid (stOk epoch l = false) := by show _ = _; simp [stOk, fineB, hmay]
    have hS : Hid (stS epoch l = ⟨#[]⟩) := by show _ = _; simp [stS, H.out]
    have hE : Hid (stE epoch l = 11) := by show _ = _; simp [stE, H.out]
    replace he1 := hide he1
    go_wp2_with fail
    all_goals go_ret2
    all_goals exact ⟨by rw [hS.out, hE.out]; rfl, he1.out⟩
  · have hn := (mays_each hmay).1
    have hW := hide (refWhole _ l w1 (hv0.out.ext he1) (by omega))
    replace he1 := hide he1
    go_wp2_with fail
    refine hW.out.mono ?_
    rintro e w2 ⟨b, rfl, hb, he2⟩
    have hf := hide (fine_of hmay hb)
    have X2 := hide (he1.out.trans he2)
    replace hb := hide hb; replace he2 := hide he2
    clear hW hm
    cases b
    · have H : Hid (stOk epoch l = false) := by show _ = _; simp [stOk, hf.out]
      have hS : Hid (stS epoch l = ⟨#[]⟩) := by show _ = _; simp [stS, H.out]
      have hE : Hid (stE epoch l = 11) := by show _ = _; simp [stE, H.out]
      go_wp2_with fail
      all_goals go_ret2
      all_goals exact ⟨by rw [hS.out, hE.out]; rfl, X2.out⟩
    · by_cases h1 : epoch < 1
      · have H : Hid (stOk epoch l = false) := by show _ = _; simp [stOk]; omega
        have hS : Hid (stS epoch l = ⟨#[]⟩) := by show _ = _; simp [stS, H.out]
        have hE : Hid (stE epoch l = 11) := by show _ = _; simp [stE, H.out]
        go_wp2_with fail
        go_ret2
        exact ⟨by rw [hS.out, hE.out]; rfl, X2.out⟩
      by_cases h2 : 1000000 < epoch
      · have H : Hid (stOk epoch l = false) := by show _ = _; simp [stOk]; omega
        have hS : Hid (stS epoch l = ⟨#[]⟩) := by show _ = _; simp [stS, H.out]
        have hE : Hid (stE epoch l = 11) := by show _ = _; simp [stE, H.out]
        go_wp2_with fail
        go_ret2
        exact ⟨by rw [hS.out, hE.out]; rfl, X2.out⟩
      have H : Hid (stOk epoch l = true) := by show _ = _; simp [stOk, hf.out]; omega
      have hS : Hid (stS epoch l = ⟨(stateL epoch l).toArray⟩) := by show _ = _; simp [stS, H.out]
      have hE : Hid (stE epoch l = 0) := by show _ = _; simp [stE, H.out]
      go_wp2_with fail
      refine (refBig' epoch 3 w2 (by omega) (by omega) (by omega)).mono ?_
      rintro e w3 ⟨t3, rfl, ht3, hz3, he3⟩
      go_wp2_with fail
      refine (refBig' (l.length : Int) 1 w3 (by omega) (by omega) (by omega)).mono ?_
      rintro e w4 ⟨t4, rfl, ht4, hz4, he4⟩
      have X4 := hide (X2.out.trans (he3.out.trans he4.out))
      obtain ⟨hsh, hfew⟩ := hv0.out
      obtain ⟨va', vc', hvv, _, _, hin⟩ := hsh
      obtain ⟨rfl, rfl⟩ : va = va' ∧ vc = vc' := by simpa using hvv
      clear hvv
      replace hin := hide hin
      have hz5 : ((⟨#[77, 65, 83, 78]⟩ : ByteArray) ++ t3 ++ t4).size ≤ 12 := by rw [sz_app, sz_app]; have : (⟨#[77, 65, 83, 78]⟩ : ByteArray).size = 4 := rfl; omega
      have hl5 : Hid (((⟨#[77, 65, 83, 78]⟩ : ByteArray) ++ t3 ++ t4).data.toList = [77, 65, 83, 78] ++ bigL 3 epoch ++ bigL 1 (l.length : Int)) := by show _ = _; rw [dl_app, dl_app, ht3.out, ht4.out]
      go_wp2_with fail
      generalize (⟨#[77, 65, 83, 78]⟩ : ByteArray) ++ t3 ++ t4 = sb0 at *
      go_loopw [7, 8] (fun s i wr => ∃ (k : Nat) (sb : ByteArray), k ≤ l.length ∧ i = .int .i64 k ∧ s = .string sb ∧ sb.size ≤ 12 + 8000 * k ∧ Hid (sb.data.toList = [77, 65, 83, 78] ++ bigL 3 epoch ++ bigL 1 (l.length : Int) ++ (l.take k).flatMap encR) ∧ Hid (Ext w wr)) (fun _ i _ => l.length - (intOf i).toNat)
      case atStart => exact ⟨0, sb0, Nat.zero_le _, rfl, rfl, by omega, by show _ = _; rw [hl5.out]; simp, X4⟩
      case round =>
        obtain ⟨k, sb, hk, rfl, rfl, hsz, hsb, hx⟩ := hrel
        by_cases hlt : k < l.length
        · obtain ⟨x, hxk⟩ := some_of_lt hlt
          rcases hin.out with h | ⟨b, off, rfl, h⟩
          · rw [h] at hlt; simp at hlt
          obtain ⟨g0, g1, c2, c3, g2, g3, hR⟩ := (h.ext hx.out) k x hxk
          have hmx := (mays_each hmay).2 x (List.mem_of_getElem? hxk)
          have hle := hide (encR_len hmx)
          have hcall := hide (refRes c2 c3 x wr hR hmx)
          have Hs := hide (flat_succ (f := encR) hxk)
          obtain ⟨a2, p2, rfl⟩ := hR.attrs.form
          obtain ⟨a3, p3, rfl⟩ := hR.after.form
          have j2 : (k : Int) < (l.length : Int) := by omega
          have j4 : (0 : Int) ≤ (k : Int) := by omega
          obtain ⟨te, hte⟩ : ∃ te : ByteArray, te = ⟨(encR x).toArray⟩ := ⟨_, rfl⟩
          rw [← hte] at hcall
          have hz6 : te.size ≤ 8000 := by rw [hte]; exact hle.out
          have hl6 : Hid (te.data.toList = encR x) := by show _ = _; rw [hte]
          have hmx' := hide hmx
          clear hR hmx
          replace h := hide h; replace hxk := hide hxk; replace hte := hide hte
          go_wp2_with fail
          refine hcall.out.mono ?_
          rintro e w5 ⟨rfl, he5⟩
          replace he5 := hide he5
          go_wp2_with fail
          go_roundw
          case rel =>
            refine ⟨k + 1, sb ++ te, by omega, by go_num, rfl, by rw [sz_app]; omega, ?_, hx.out.trans he5.out⟩
            show _ = _
            rw [dl_app, hsb.out, hl6.out, Hs.out]; simp
          case measure => simp [intOf]; omega
        · have hfin : Hid (sb.data.toList = stateB epoch l) := by
            show _ = _
            rw [hsb.out, List.take_of_length_le (by omega)]
            simp [stateB, listL]
          have hsz2 : sb.size ≤ 97000 := by omega
          have hsum := hide (refSum sb wr (by omega))
          go_wp2_with fail
          refine hsum.out.mono ?_
          rintro e w5 ⟨rfl, rfl⟩
          clear hsum
          obtain ⟨hb1, hb2⟩ := sum_bd sb.data.toList
          have e7 : Hid (sb.data.toList ++ bigL 4 (sumL sb.data.toList) = stateL epoch l) := by show _ = _; rw [hfin.out]; rfl
          generalize sumL sb.data.toList = sm at *
          go_wp2_with fail
          refine (refBig' sm 4 w5 (by omega) (by omega) (by omega)).mono ?_
          rintro e w6 ⟨t6, rfl, ht6, hz6, he6⟩
          have e8 : Hid (sb ++ t6 = ⟨(stateL epoch l).toArray⟩) := by
            show _ = _
            apply ByteArray.ext
            apply Array.toList_inj.1
            rw [dl_app, ht6.out]; exact e7.out
          go_wp2_with fail
          go_ret2
          exact ⟨by rw [hS.out, hE.out, ← e8.out]; rfl, hx.out.trans he6.out⟩
end Go.Proofs.YtkjjfdejfihpfaaGreat
