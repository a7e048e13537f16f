/-
  A state out of bytes: what the reference's function answers; both readers come to the same.
-/
import Derived.Test.YtkjjfdejfihpfaaGreatJ15
import Derived.Test.YtkjjfdejfihpfaaGreatInv0
namespace Go.Proofs.YtkjjfdejfihpfaaGreat
open Go.RowKit

def rfEp (l : List UInt8) : Int := rfN l 4 3
def rfSt (l : List UInt8) : List Resd := (rfMany rfRes l (rfN l 7 1) 8).1
theorem st_parts {epoch : Int} {l : List Resd} (h : stOk epoch l = true) : 1 ≤ epoch ∧ epoch ≤ 1000000 ∧ mayAllB l = true := by
  simp only [stOk, Bool.and_eq_true, decide_eq_true_eq] at h
  exact ⟨h.1.1, h.1.2, fine_may h.2⟩
theorem stateL_eq (epoch : Int) (l : List Resd) : stateL epoch l = [77, 65, 83, 78] ++ (bigL 3 epoch ++ (listL encR l ++ bigL 4 (sumL (stateB epoch l)))) := by
  simp [stateL, stateB]
theorem rd_inv {epoch : Int} {l : List Resd} (h : stOk epoch l = true) : rdEp (stateL epoch l) = epoch ∧ rdSt (stateL epoch l) = l := by
  obtain ⟨h1, h2, h3⟩ := st_parts h
  obtain ⟨h4, h5⟩ := mays_each h3
  have e4 : (stateL epoch l).drop 4 = bigL 3 epoch ++ (listL encR l ++ bigL 4 (sumL (stateB epoch l))) := by rw [stateL_eq]; exact List.drop_left' rfl
  have n3 := num3 epoch
  unfold rdEp rdSt
  rw [e4, take_big, drop_big, rdList_inv (by omega) (fun x hx t => rdRes_inv (h5 x hx) t)]
  exact ⟨by omega, rfl⟩
theorem rf_inv {epoch : Int} {l : List Resd} (h : stOk epoch l = true) : rfEp (stateL epoch l) = epoch ∧ rfSt (stateL epoch l) = l := by
  obtain ⟨h1, h2, h3⟩ := st_parts h
  obtain ⟨h4, h5⟩ := mays_each h3
  have e4 : (stateL epoch l).drop 4 = bigL 3 epoch ++ (listL encR l ++ bigL 4 (sumL (stateB epoch l))) := by rw [stateL_eq]; exact List.drop_left' rfl
  have n3 := num3 epoch
  obtain ⟨k1, k2⟩ := rfN_inv e4 (by omega)
  have k2' : (stateL epoch l).drop 7 = bigL 1 (l.length : Int) ++ (l.flatMap encR ++ bigL 4 (sumL (stateB epoch l))) := by rw [← List.append_assoc]; exact k2
  obtain ⟨k3, k4⟩ := rfN_inv k2' (by omega)
  obtain ⟨k5, _⟩ := rfMany_inv (rf := rfRes) (enc := encR) (xs := l) (fun x hx a t hh => rfRes_inv2 (h5 x hx) hh) k4
  unfold rfEp rfSt
  have k1' : rfN (stateL epoch l) 4 3 = numN (bigL 3 epoch) := k1
  rw [k1', k3, len_num (by omega), show (8 : Nat) = 7 + 1 from rfl, k5]
  exact ⟨by omega, rfl⟩
/-- The two readers come to the same. -/
theorem ld_same (bs : List UInt8) : ldOf (rfEp bs) (rfSt bs) bs = ldOf (rdEp bs) (rdSt bs) bs := by
  by_cases h1 : stOk (rdEp bs) (rdSt bs) = true ∧ stateL (rdEp bs) (rdSt bs) = bs
  · obtain ⟨e1, e2⟩ := rf_inv h1.1
    rw [h1.2] at e1 e2
    rw [e1, e2]
  · rw [ld_no h1]
    by_cases h2 : stOk (rfEp bs) (rfSt bs) = true ∧ stateL (rfEp bs) (rfSt bs) = bs
    · obtain ⟨e1, e2⟩ := rd_inv h2.1
      rw [h2.2] at e1 e2
      rw [e1, e2] at h1
      exact absurd h2 h1
    · exact ld_no h2

set_option maxRecDepth 100000 in
set_option maxHeartbeats 3200000 in
theorem refLoad (s : ByteArray) (w : World) (hs : s.size ≤ 9223372036854775807) :
    Calls Tryz.prog 23 #[.string s] w (LdIs w (rfEp s.data.toList) (rfSt s.data.toList) s) := by
  obtain ⟨i0, hi, hz0, hz1, hz2⟩ := info_of infoRes
  replace hi := hide hi
  have hq1 := rfN_lt s.data.toList 4 3
  have hq2 := rfN_lt s.data.toList 7 1
  rw [Nat.pow_one] at hq2
  have hq1' : rfN s.data.toList 4 3 < 16777216 := hq1
  clear hq1
  go_enter Tryz.func23, Tryz.ntmps23
  go_wp2_with fail
  refine (refRead s 4 3 _ hs (by omega) (by omega)).mono ?_
  rintro e w1 ⟨rfl, rfl⟩
  go_wp2_with fail
  refine (refRead s 7 1 _ hs (by omega) (by omega)).mono ?_
  rintro e w2 ⟨rfl, rfl⟩
  generalize hep : rfN s.data.toList 4 3 = ep at *
  generalize hN : rfN s.data.toList 7 1 = N at *
  replace hep := hide hep; replace hN := hide hN
  go_wp2_with fail
  go_loopw [6, 7, 8] (fun v a n wr => ∃ (ps : List ResP) (pa : Option Addr) (cap m : Nat), ps.length ≤ N ∧ v = .slice pa ps.length cap ∧ a = .int .i64 m ∧ n = .int .i64 ((N - ps.length : Nat) : Int) ∧ m ≤ 8 + 1000000 * ps.length ∧ Hid (rfMany rfRes s.data.toList N 8 = (ps.map ResP.x ++ (rfMany rfRes s.data.toList (N - ps.length) m).1, (rfMany rfRes s.data.toList (N - ps.length) m).2)) ∧ Hid (RessAt w2.heap.size wr (.slice pa ps.length cap) ps) ∧ Hid (Ext w2 wr)) (fun _ _ n _ => (intOf n).toNat)
  case atStart => exact ⟨[], none, 0, 8, Nat.zero_le _, rfl, rfl, rfl, by omega, rfl, RessAt.nil _ _, Ext.refl _⟩
  case round =>
    obtain ⟨ps, pa, cap, m, hk, rfl, rfl, rfl, hmb, hrf, hps, hx⟩ := hrel
    by_cases hlt : ps.length < N
    · obtain ⟨q, hq⟩ : ∃ q, N - ps.length = q + 1 := ⟨N - ps.length - 1, by omega⟩
      have hq' : N - (ps.length + 1) = q := by omega
      rw [hq]
      have hqb : q ≤ 255 := by omega
      have hcall := hide (refResAt s m (wr.alloc (.cells #[.string ⟨#[]⟩, .string ⟨#[]⟩, .slice none 0 0, .slice none 0 0] 40)) hs (by omega))
      replace hq := hide hq; replace hq' := hide hq'
      go_wp2_with fail
      refine hcall.out.mono ?_
      rintro e w3 ⟨x, pa2, pa3, cap2, cap3, m3, rfl, hx3, hok3, hm3, hown3, he3⟩
      have hB := ext_heap he3.out (heap_alloc_new wr _)
      obtain ⟨q0, q1, q2, q3⟩ := four_cells hB
      have fB := row_frozen hB
      have E3 : Ext wr w3 := ((Ext.refl wr).alloc _).trans he3.out
      have E4 : Hid (Ext wr ((((w3.setCell ⟨wr.heap.size, 0, none⟩ (.string x.id.kind)).setCell ⟨wr.heap.size, 1, none⟩ (.string x.id.name)).setCell ⟨wr.heap.size, 2, none⟩ (.slice pa2 x.attrs.length cap2)).setCell ⟨wr.heap.size, 3, none⟩ (.slice pa3 x.after.length cap3))) := (((E3.setCell (p := ⟨wr.heap.size, 0, none⟩) (Nat.le_refl _) _).setCell (p := ⟨wr.heap.size, 1, none⟩) (Nat.le_refl _) _).setCell (p := ⟨wr.heap.size, 2, none⟩) (Nat.le_refl _) _).setCell (p := ⟨wr.heap.size, 3, none⟩) (Nat.le_refl _) _
      have hps4 := hide (hps.out.ext E4.out)
      have hlo : wr.heap.size ≤ (wr.alloc (.cells #[.string ⟨#[]⟩, .string ⟨#[]⟩, .slice none 0 0, .slice none 0 0] 40)).heap.size := by simp
      have hown4 : Hid (OwnR wr.heap.size ((((w3.setCell ⟨wr.heap.size, 0, none⟩ (.string x.id.kind)).setCell ⟨wr.heap.size, 1, none⟩ (.string x.id.name)).setCell ⟨wr.heap.size, 2, none⟩ (.slice pa2 x.attrs.length cap2)).setCell ⟨wr.heap.size, 3, none⟩ (.slice pa3 x.after.length cap3)) (.slice pa2 x.attrs.length cap2) (.slice pa3 x.after.length cap3) x) := by
        have h := hown3.out.low hlo
        have h0 := hB
        have h1 := four_set0 h0 (.string x.id.kind)
        have h2 := four_set1 h1 (.string x.id.name)
        have h3 := four_set2 h2 (.slice pa2 x.attrs.length cap2)
        exact ⟨h.f2, h.f3, ownsRow_set (ownsRow_set (ownsRow_set (ownsRow_set h.attrs h0 (by decide) _) h1 (by decide) _) h2 (by decide) _) h3 (by decide) _, ownsRow_set (ownsRow_set (ownsRow_set (ownsRow_set h.after h0 (by decide) _) h1 (by decide) _) h2 (by decide) _) h3 (by decide) _⟩
      have hsz3 := hide (Nat.le_trans (Ext.size hx.out) (Ext.size E3))
      replace hB := hide hB; replace E3 := hide E3; replace hlo := hide hlo
      clear hcall
      go_wp2_with (at_builtin; go_must (refine wpList_append_lies _ rfl (.tmp 27) (.tmp 29) 22 rfl w2.heap.size 40 i0 (.agg #[.string ⟨#[]⟩, .string ⟨#[]⟩, .slice none 0 0, .slice none 0 0]) 4 80 Tryz.underlying22 hi.out hz0 hz1 hz2 rfl (by omega) _ ps.length (cellsP ps) rfl (hps4.out.row.alloc _) ⟨w3.heap.size, 0, none⟩ 1 1 (cRs ⟨x, .slice pa2 x.attrs.length cap2, .slice pa3 x.after.length cap3⟩) rfl rfl ?_ cRs_one (by omega) (by unfold maxLen; omega) (by omega) (by have := hsz3.out; simp; omega) (w3.heap.size + 1) (by simp) ?_; (intro j u hu; rw [add_eq]; (match j, hu with | 0, hu => (simp [cRs] at hu; subst hu; simp [go_sem]) | 1, hu => (simp [cRs] at hu; subst hu; simp [go_sem]) | 2, hu => (simp [cRs] at hu; subst hu; simp [go_sem]) | 3, hu => (simp [cRs] at hu; subst hu; simp [go_sem]) | _ + 4, hu => (simp [cRs] at hu))); intro g1 cap1 w5 hown5 hgrow5 hat5 hlt5))
      replace hgrow5 : (World.alloc ((((w3.setCell ⟨wr.heap.size, 0, none⟩ (.string x.id.kind)).setCell ⟨wr.heap.size, 1, none⟩ (.string x.id.name)).setCell ⟨wr.heap.size, 2, none⟩ (.slice pa2 x.attrs.length cap2)).setCell ⟨wr.heap.size, 3, none⟩ (.slice pa3 x.after.length cap3)) (.cells (cRs ⟨x, .slice pa2 x.attrs.length cap2, .slice pa3 x.after.length cap3⟩).toArray 40)).grownBy w5 (Value.slice pa ps.length cap).ownBlock := hgrow5
      go_roundw
      case rel =>
        have hl : (ps ++ [(⟨x, .slice pa2 x.attrs.length cap2, .slice pa3 x.after.length cap3⟩ : ResP)]).length = ps.length + 1 := by simp
        refine ⟨ps ++ [⟨x, .slice pa2 x.attrs.length cap2, .slice pa3 x.after.length cap3⟩], some ⟨g1, 0, none⟩, cap1, m3, by rw [hl]; omega, congrArg (fun n => Value.slice (some ⟨g1, 0, none⟩) n cap1) hl.symm, rfl, ?_, Nat.le_trans hm3 (by rw [hl]; omega), ?_, ?_, ?_⟩
        · rw [hl, hq'.out]
        · show _ = _
          rw [hrf.out, hl, hq.out, hq'.out]
          simp only [rfMany]
          rw [hx3.out]; simp
        · rw [hl]
          exact hps4.out.snoc (hown4.out.low (Ext.size hx.out)) hok3.out (hps.out.fresh hown4.out) hgrow5 hown5
        · have W5 := ((Wrote.ext (B := w2.heap.size) (T := fun _ => False) (hx.out.trans E4.out)).grownNew hps4.out.row hgrow5)
          exact W5.toExt
      case measure => simp [intOf]; try omega
    · have hfin : Hid (rfSt s.data.toList = ps.map ResP.x) := by
        show _ = _
        unfold rfSt
        rw [hN.out, hrf.out, show N - ps.length = 0 by omega]
        simp [rfMany]
      have hepI : Hid (rfEp s.data.toList = (ep : Int)) := by show _ = _; unfold rfEp; rw [hep.out]
      have hn0 : N - ps.length = 0 := by omega
      rw [hn0]
      have hlen : ps.length ≤ 255 := by omega
      have hst2 := hide (refState (ep : Int) (.slice pa ps.length cap) (ps.map ResP.x) wr (hps.out.ressV (by omega)))
      replace hn0 := hide hn0
      go_wp2_with fail
      refine hst2.out.mono ?_
      rintro e w5 ⟨rfl, he5⟩
      have hat5 := hide (hps.out.ext he5)
      have X5 := hide (hx.out.trans he5)
      clear hst2
      replace he5 := hide he5
      cases hm : stOk (ep : Int) (ps.map ResP.x)
      · have H2 : Hid (stE (ep : Int) (ps.map ResP.x) = 11) := by show _ = _; simp [stE, hm]
        have Hd : Hid (ldOf (ep : Int) (ps.map ResP.x) s.data.toList = (0, [], 16)) := ld_no (by simp [hm])
        generalize stS (ep : Int) (ps.map ResP.x) = es at *
        generalize stE (ep : Int) (ps.map ResP.x) = ee at *
        obtain rfl := H2.out
        go_wp2_with fail
        go_ret3
        exact ⟨[], none, 0, 0, 16, rfl, by show _ = _; rw [hepI.out, hfin.out]; exact Hd.out, Nat.zero_le _, .inr ⟨rfl, rfl, rfl, rfl⟩, RessAt.nil _ _, X5⟩
      · have H2 : Hid (stE (ep : Int) (ps.map ResP.x) = 0) := by show _ = _; simp [stE, hm]
        have H1 : Hid (stS (ep : Int) (ps.map ResP.x) = ⟨(stateL (ep : Int) (ps.map ResP.x)).toArray⟩) := by show _ = _; simp [stS, hm]
        generalize stS (ep : Int) (ps.map ResP.x) = es at *
        generalize stE (ep : Int) (ps.map ResP.x) = ee at *
        obtain rfl := H2.out
        have hes : Hid (es.toList = stateL (ep : Int) (ps.map ResP.x)) := by show _ = _; rw [H1.out, ByteArray.toList_eq]
        cases hq : (es.toList == s.toList)
        · have Hd : Hid (ldOf (ep : Int) (ps.map ResP.x) s.data.toList = (0, [], 16)) := ld_no (by
            rintro ⟨_, h2⟩
            rw [hes.out, ByteArray.toList_eq, h2] at hq
            simp at hq)
          go_wp2_with fail
          go_ret3
          exact ⟨[], none, 0, 0, 16, rfl, by show _ = _; rw [hepI.out, hfin.out]; exact Hd.out, Nat.zero_le _, .inr ⟨rfl, rfl, rfl, rfl⟩, RessAt.nil _ _, X5⟩
        · have Hd : Hid (ldOf (ep : Int) (ps.map ResP.x) s.data.toList = ((ep : Int), ps.map ResP.x, 0)) := ld_yes hm (by
            have h2 : es.toList = s.toList := by simpa using hq
            rw [hes.out, ByteArray.toList_eq] at h2
            exact h2)
          go_wp2_with fail
          go_ret3
          exact ⟨ps, pa, cap, (ep : Int), 0, rfl, by show _ = _; rw [hepI.out, hfin.out]; exact Hd.out, hlen, .inl rfl, hat5, X5⟩
end Go.Proofs.YtkjjfdejfihpfaaGreat
