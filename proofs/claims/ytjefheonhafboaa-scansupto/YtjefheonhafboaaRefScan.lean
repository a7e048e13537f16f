/-
  Journals: what the reference's Scan answers.
-/
import Derived.Test.YtjefheonhafboaaScan2
import Derived.Test.YtjefheonhafboaaJ7
namespace Go.Proofs.Ytjefheonhafboaa
open Go.RowKit

theorem dec_nil : (decOf (rdRec []) []).2 = 16 := by decide
theorem one_short {l : List UInt8} (h : l.length < 6) : oneL l = none := by
  unfold oneL
  rw [if_neg]
  rintro ⟨h1, _, h3⟩
  have e : (l.drop 2).drop 4 = [] := List.eq_nil_of_length_eq_zero (by rw [List.length_drop, List.length_drop]; omega)
  rw [e, List.take_nil] at h1 h3
  rw [dec_nil] at h3
  exact absurd h3 (by decide)
theorem one_long {l : List UInt8} (h : l.length < 6 + numN (l.take 2)) (h6 : 6 ≤ l.length) : oneL l = none := by
  unfold oneL
  rw [if_neg]
  rintro ⟨h1, _, _⟩
  rw [List.length_take, List.length_drop, List.length_drop] at h1
  omega
theorem one_at {l t : List UInt8} {a n m : Nat} (h6 : a + 6 ≤ l.length) (hn : rfN l a 2 = n) (hm : rfN l (a + 2) 4 = m) (hl : a + 6 + n ≤ l.length) (ht : t = (l.drop (a + 6)).take n) :
    oneL (l.drop a) = if sumL t = (m : Int) ∧ (decOf (rdRec t) t).2 = 0 then some ((decOf (rdRec t) t).1, 6 + n) else none := by
  have e1 : numN ((l.drop a).take 2) = n := by rw [← hn, rfN_eq l a 2 (by omega)]
  have e2 : numN (((l.drop a).drop 2).take 4) = m := by rw [← hm, rfN_eq l (a + 2) 4 (by omega), List.drop_drop]
  have e3 : (((l.drop a).drop 2).drop 4).take n = t := by rw [ht, List.drop_drop, List.drop_drop]
  have e4 : t.length = n := by rw [ht, List.length_take, List.length_drop]; omega
  unfold oneL
  rw [e1, e2, e3, e4]
  by_cases hc : sumL t = (m : Int) ∧ (decOf (rdRec t) t).2 = 0
  · rw [if_pos ⟨Nat.le_refl _, hc⟩, if_pos hc]
  · rw [if_neg (fun h => hc h.2), if_neg hc]

set_option maxRecDepth 100000 in
set_option maxHeartbeats 3200000 in
theorem refScan (s : ByteArray) (w : World) (hs : s.size ≤ 1048576) :
    Calls Try.prog 4 #[.string s] w (ScanIs w s) := by
  obtain ⟨i0, hi, hz0, hz1, hz2⟩ := info_of infoRec
  replace hi := hide hi
  have hlen := hide (ba_len s)
  go_enter Try.func4, Try.ntmps4
  go_wp2_with fail
  go_loopw [4, 5] (fun v i wr => ∃ (ps : List RecP) (pa : Option Addr) (cap k : Nat), k ≤ s.size ∧ 7 * ps.length ≤ k ∧ v = .slice pa ps.length cap ∧ i = .int .i64 k ∧ Hid (scanL s.data.toList = (ps.map RecP.r ++ (scanF (s.size + 1 - ps.length) (s.data.toList.drop k)).1, k + (scanF (s.size + 1 - ps.length) (s.data.toList.drop k)).2)) ∧ Hid (RecsAt w.heap.size wr (.slice pa ps.length cap) ps) ∧ Hid (Ext w wr)) (fun _ i _ => s.size - (intOf i).toNat)
  case atStart =>
    refine ⟨[], none, 0, 0, Nat.zero_le _, Nat.zero_le _, rfl, rfl, ?_, ⟨World.ownsRow_nil _ _ _ _, fun p hp => (by cases hp), List.Pairwise.nil⟩, Ext.refl _⟩
    show _ = _
    unfold scanL
    rw [hlen.out]; simp
  case round =>
    obtain ⟨ps, pa, cap, k, hk, hpk, rfl, rfl, hsc, hps, hx⟩ := hrel
    have hend : Hid (oneL (s.data.toList.drop k) = none → scanL s.data.toList = (ps.map RecP.r, k)) := fun h => by
      rw [hsc.out, scan_none h]; simp
    by_cases h6 : k + 6 ≤ s.size
    · have h6' : decide ((k : Int) + 6 ≤ (s.size : Int)) = true := by simp; omega
      have hrd := hide (refRead s k 2)
      have hnl := rfN_lt s.data.toList k 2
      obtain ⟨n, hn⟩ : ∃ n, rfN s.data.toList k 2 = n := ⟨_, rfl⟩
      rw [hn] at hrd hnl
      have hnl' : n < 65536 := hnl
      clear hnl
      replace hn := hide hn
      go_wp2_with fail
      refine (hrd.out _ hs (by omega) (by omega)).mono ?_
      rintro e w1 ⟨rfl, rfl⟩
      clear hrd
      by_cases hb : s.size < k + 6 + n
      · have hb' : decide ((s.size : Int) < (k : Int) + 6 + (n : Int)) = true := by simp; omega
        have hno : Hid (scanL s.data.toList = (ps.map RecP.r, k)) := hend.out (one_long (by
          have e1 : numN ((s.data.toList.drop k).take 2) = n := by rw [← hn.out, rfN_eq _ k 2 (by rw [hlen.out]; omega)]
          rw [e1, List.length_drop, hlen.out]; omega) (by rw [List.length_drop, hlen.out]; omega))
        go_wp2_with fail
        go_ret2
        exact ⟨ps, pa, cap, k, rfl, hno, by omega, hps, hx⟩
      · have hb' : decide ((s.size : Int) < (k : Int) + 6 + (n : Int)) = false := by simp; omega
        have j1 : (0 : Int) ≤ (k : Int) + 6 := by omega
        have j2 : (k : Int) + 6 ≤ (k : Int) + 6 + (n : Int) := by omega
        have j3 : (k : Int) + 6 + (n : Int) ≤ (s.size : Int) := by omega
        have hmid := ex_mid s (k + 6) n
        obtain ⟨t, hte⟩ : ∃ t, s.extract (k + 6) (k + 6 + n) = t := ⟨_, rfl⟩
        rw [hte] at hmid
        have htz : t.size ≤ 65536 := by rw [← ba_len, hmid, List.length_take]; omega
        have hrm := hide (refRead' s ((k : Int) + 2) (k + 2) 4)
        have hml := rfN_lt s.data.toList (k + 2) 4
        obtain ⟨m, hm⟩ : ∃ m, rfN s.data.toList (k + 2) 4 = m := ⟨_, rfl⟩
        rw [hm] at hrm hml
        have hone : Hid (oneL (s.data.toList.drop k) = if sumL t.data.toList = (m : Int) ∧ (decOf (rdRec t.data.toList) t.data.toList).2 = 0 then some ((decOf (rdRec t.data.toList) t.data.toList).1, 6 + n) else none) :=
          one_at (by rw [hlen.out]; omega) hn.out hm (by rw [hlen.out]; omega) hmid
        have hdec := hide (refDecode t)
        have hsame := dec_same t.data.toList
        have hde := decOf_err (rdRec t.data.toList) t.data.toList
        obtain ⟨⟨dq, de⟩, hdq⟩ : ∃ p, decOf (rdRec t.data.toList) t.data.toList = p := ⟨_, rfl⟩
        rw [hdq] at hone hde hsame
        have hsm := hide (refSum t)
        obtain ⟨z, hz⟩ : ∃ z, sumL t.data.toList = z := ⟨_, rfl⟩
        rw [hz] at hsm hone
        replace hmid := hide hmid; replace hm := hide hm; replace hdq := hide hdq; replace hsame := hide hsame; replace hz := hide hz
        clear hml
        go_wp2_with fail
        refine (hdec.out _ (by omega)).mono ?_
        rintro e w2 ⟨q, pa2, pa3, cap2, cap3, en, rfl, hd, hok, hown, he2⟩
        obtain ⟨rfl, rfl⟩ : dq = q ∧ de = en := by have := hsame.out.symm.trans hd.out; simpa using this
        clear hdec hd
        go_wp2_with fail
        refine (hsm.out _ (by omega)).mono ?_
        rintro e w3 ⟨rfl, rfl⟩
        clear hsm
        go_wp2_with fail
        refine (hrm.out _ (by simp) hs (by omega) (by omega)).mono ?_
        rintro e w3 ⟨rfl, rfl⟩
        clear hrm
        by_cases hzm : z = (m : Int) ∧ de = 0
        · obtain ⟨hz1', rfl⟩ := hzm
          have hzb : (z != (m : Int)) = false := by simpa using hz1'
          have hyes : Hid (oneL (s.data.toList.drop k) = some (dq, 6 + n)) := by show _ = _; rw [hone.out, if_pos ⟨hz1', rfl⟩]
          obtain ⟨n7, nl, n70⟩ := one_len hyes.out
          have hstep : Hid (scanL s.data.toList = ((ps.map RecP.r ++ [dq]) ++ (scanF (s.size + 1 - (ps.length + 1)) (s.data.toList.drop (k + (6 + n)))).1, (k + (6 + n)) + (scanF (s.size + 1 - (ps.length + 1)) (s.data.toList.drop (k + (6 + n)))).2)) := by
            show _ = _
            rw [hsc.out, show s.size + 1 - ps.length = (s.size + 1 - (ps.length + 1)) + 1 by omega, scan_some hyes.out, List.drop_drop, Nat.add_assoc]
            simp
            omega
          have hps1 := hide (hps.out.ext he2.out)
          have hsz1 := hide (Nat.le_trans hx.out.size he2.out.size)
          replace hz1' := hide hz1'
          go_wp2_with (at_builtin; go_must (refine wpList_append_lies _ rfl (.tmp 53) (.tmp 55) 22 rfl w.heap.size 52 i0 (.agg #[.int .i64 0, .int .i64 0, .int .i64 0, .int .i64 0, .string ⟨#[]⟩, .string ⟨#[]⟩, .slice none 0 0, .slice none 0 0]) 8 112 Try.underlying22 hi.out hz0 hz1 hz2 rfl (by omega) _ ps.length (cellsR ps) rfl ((hps1.out.row.alloc _).alloc _) ⟨w2.heap.size + 1, 0, none⟩ 1 1 (cRc ⟨dq, .slice pa2 dq.res.attrs.length cap2, .slice pa3 dq.res.after.length cap3⟩) rfl rfl ?_ cRc_one (by omega) (by unfold maxLen; omega) (by omega) (by have := hsz1.out; simp; omega) (w2.heap.size + 2) (by simp) ?_; (intro r u hu; rw [add_eq]; (match r, hu with | 0, hu => (simp [cRc] at hu; subst hu; simp [go_sem]) | 1, hu => (simp [cRc] at hu; subst hu; simp [go_sem]) | 2, hu => (simp [cRc] at hu; subst hu; simp [go_sem]) | 3, hu => (simp [cRc] at hu; subst hu; simp [go_sem]) | 4, hu => (simp [cRc] at hu; subst hu; simp [go_sem]) | 5, hu => (simp [cRc] at hu; subst hu; simp [go_sem]) | 6, hu => (simp [cRc] at hu; subst hu; simp [go_sem]) | 7, hu => (simp [cRc] at hu; subst hu; simp [go_sem]) | _ + 8, hu => (simp [cRc] at hu))); intro g3 c3 w3 hown3 hgrow3 hat3 hlt3))
          replace hgrow3 : ((w2.alloc (.cells (cRc ⟨dq, .slice pa2 dq.res.attrs.length cap2, .slice pa3 dq.res.after.length cap3⟩).toArray 52)).alloc (.cells (cRc ⟨dq, .slice pa2 dq.res.attrs.length cap2, .slice pa3 dq.res.after.length cap3⟩).toArray 52)).grownBy w3 (Value.slice pa ps.length cap).ownBlock := hgrow3
          go_roundw
          case rel =>
            have hl : (ps ++ [(⟨dq, .slice pa2 dq.res.attrs.length cap2, .slice pa3 dq.res.after.length cap3⟩ : RecP)]).length = ps.length + 1 := by simp
            have hX1 : Ext w w2 := hx.out.trans he2.out
            have E3 : Ext w w3 := ((Wrote.ext (B := w.heap.size) (T := fun _ => False) (hX1.alloc _)).grownNew (hps1.out.row.alloc _) hgrow3).toExt
            have hb1 : w.heap.size ≤ w1.heap.size := hx.out.size
            refine ⟨ps ++ [⟨dq, .slice pa2 dq.res.attrs.length cap2, .slice pa3 dq.res.after.length cap3⟩], some ⟨g3, 0, none⟩, c3, k + (6 + n), by omega, by rw [hl]; omega, by rw [hl], by simp; omega, ?_, ⟨?_, ?_, ?_⟩, E3⟩
            · show _ = _
              rw [hl, List.map_append]; exact hstep.out
            · rw [hl, cellsR_app]; exact hown3
            · intro p hp
              rcases List.mem_append.1 hp with hp | hp
              · obtain ⟨h1, h2⟩ := hps1.out.each p hp
                exact ⟨⟨h1.f2, h1.f3, ownsRow_grown2 h1.attrs hps1.out.row (by decide) hgrow3, ownsRow_grown2 h1.after hps1.out.row (by decide) hgrow3⟩, h2⟩
              · obtain rfl : p = _ := by simpa using hp
                have h1 := hown.out.low hb1
                exact ⟨⟨h1.f2, h1.f3, ownsRow_grown2 h1.attrs hps1.out.row (by decide) hgrow3, ownsRow_grown2 h1.after hps1.out.row (by decide) hgrow3⟩, hok.out⟩
            · refine List.pairwise_append.2 ⟨hps.out.apart, List.pairwise_singleton _ _, fun p hp p' hp' => ?_⟩
              obtain rfl : p' = _ := by simpa using hp'
              obtain ⟨h1, _⟩ := hps.out.each p hp
              constructor
              · intro g hg hg'
                have k1 := (h1.attrs.lt g hg).2
                have k2 := (hown.out.attrs.lt g hg').1
                omega
              · intro g hg hg'
                have k1 := (h1.after.lt g hg).2
                have k2 := (hown.out.after.lt g hg').1
                omega
          case measure => simp [intOf]; omega
        · have hno : Hid (scanL s.data.toList = (ps.map RecP.r, k)) := hend.out (by rw [hone.out, if_neg hzm])
          by_cases hz1' : z = (m : Int)
          · have hzb : (z != (m : Int)) = false := by simpa using hz1'
            have hdeb : (de != 0) = true := by
              have : ¬ de = 0 := fun h => hzm ⟨hz1', h⟩
              simpa using this
            clear hzm hde
            replace hz1' := hide hz1'
            go_wp2_with fail
            go_ret2
            exact ⟨ps, pa, cap, k, rfl, hno, by omega, (hps.out.ext he2.out).ext ((Ext.refl w2).alloc _), (hx.out.trans he2.out).alloc _⟩
          · have hzb : (z != (m : Int)) = true := by simpa using hz1'
            clear hzm hde
            replace hz1' := hide hz1'
            go_wp2_with fail
            go_ret2
            exact ⟨ps, pa, cap, k, rfl, hno, by omega, (hps.out.ext he2.out).ext ((Ext.refl w2).alloc _), (hx.out.trans he2.out).alloc _⟩
    · have h6' : decide ((k : Int) + 6 ≤ (s.size : Int)) = false := by simp; omega
      have hno : Hid (scanL s.data.toList = (ps.map RecP.r, k)) := hend.out (one_short (by rw [List.length_drop, hlen.out]; omega))
      go_wp2_with fail
      go_ret2
      exact ⟨ps, pa, cap, k, rfl, hno, by omega, hps, hx⟩
end Go.Proofs.Ytjefheonhafboaa
