/-
  The reference's disk: its names.
-/
import Derived.Test.YtpkhmgonkbpjjaaRfAh
import Derived.Test.YtpkhmgonkbpjjaaNamF
import Derived.Test.YtpkhmgonkbpjjaaRfApp
import Derived.Test.YtpkhmgonkbpjjaaJ4
import Derived.BigQuiet
namespace Go.Proofs.Ytpkhmgonkbpjjaa
open Go.RowKit

attribute [local go_sem] Go.World.cell?_alloc_some
theorem own_someN {w : World} {B cap : Nat} {pa : Option Addr} {e : TypeId} {size n : Nat} {xs : List Value} (h : w.ownsRow B e size (.slice pa n cap) n xs) (hn : 0 < n) : ∃ g, pa = some ⟨g, 0, none⟩ := by
  rcases h.2 with ⟨_, h0⟩ | ⟨g', cap', cur, hv, hb, hg, hc, hm, hs, ht⟩
  · omega
  · cases hv
    exact ⟨g', rfl⟩
theorem own_capN {w : World} {B cap : Nat} {pa : Option Addr} {e : TypeId} {size n : Nat} {xs : List Value} (h : w.ownsRow B e size (.slice pa n cap) n xs) : n ≤ cap ∧ cap ≤ 9223372036854775807 := by
  rcases h.2 with ⟨hv, h0⟩ | ⟨g', cap', cur, hv, hb, hg, hc, hm, hs, ht⟩
  · cases hv; omega
  · cases hv
    exact ⟨hc, by unfold maxLen at hm; omega⟩
theorem cellsT_len (l : List ByteArray) : (cellsT l).length = l.length := by simp [cellsT]
theorem cellsT_one (l : List ByteArray) : ∀ u ∈ cellsT l, u.oneCell' = true := by
  intro u hu
  obtain ⟨x, -, rfl⟩ := List.mem_map.1 hu
  rfl
theorem name_cell {w : World} {B g cap : Nat} {l : List ByteArray} (h : w.ownsRow B 9 1 (.slice (some ⟨g, 0, none⟩) l.length cap) l.length (cellsT l)) {j : Nat} {x : ByteArray} (hx : l[j]? = some x) : w.cell? ⟨g, j, none⟩ = some (.string x) := by
  have hlt := (List.getElem?_eq_some_iff.1 hx).1
  rw [h.cellAt j (by omega)]
  simp [cellsT, hx]
theorem showsN {w : World} {B cap : Nat} {pa : Option Addr} {l : List ByteArray} (h : w.ownsRow B 9 1 (.slice pa l.length cap) l.length (cellsT l)) {k : Nat} (hk : k ≤ l.length) : Shows w pa k 1 (cellsT (l.take k)) := by
  refine ⟨by rw [cellsT_len, List.length_take]; omega, fun e => ?_, fun ad hh j u hu => ?_⟩
  · subst e
    rcases h.2 with ⟨hv, h0⟩ | ⟨g', cap', cur, hv, _⟩
    · omega
    · cases hv
  · subst hh
    have hlt := (List.getElem?_eq_some_iff.1 hu).1
    rw [cellsT_len, List.length_take] at hlt
    obtain ⟨g, hg⟩ := own_someN h (by omega)
    cases hg
    rw [add_eq, Nat.zero_add]
    obtain ⟨x, hx⟩ := some_of_lt (l := l) (k := j) (by omega)
    rw [name_cell h hx]
    have : (cellsT (l.take k))[j]? = some (.string x) := by simp [cellsT, show j < k by omega, hx]
    rw [← this, hu]
theorem showsND {w : World} {B g cap : Nat} {l : List ByteArray} (h : w.ownsRow B 9 1 (.slice (some ⟨g, 0, none⟩) l.length cap) l.length (cellsT l)) {k : Nat} (hk : k ≤ l.length) : Shows w (some ⟨g, k, none⟩) (l.length - k) 1 (cellsT (l.drop k)) := by
  refine ⟨by rw [cellsT_len, List.length_drop]; omega, fun e => (by cases e), fun ad hh j u hu => ?_⟩
  cases hh
  have hlt := (List.getElem?_eq_some_iff.1 hu).1
  rw [cellsT_len, List.length_drop] at hlt
  rw [add_eq]
  obtain ⟨x, hx⟩ := some_of_lt (l := l) (k := k + j) (by omega)
  rw [name_cell h hx]
  have : (cellsT (l.drop k))[j]? = some (.string x) := by simp [cellsT, List.getElem?_drop, hx]
  rw [← this, hu]
theorem showsOne (w : World) (x : ByteArray) : Shows (w.alloc (.cells #[.string x] 9)) (some ⟨w.heap.size, 0, none⟩) 1 1 (cellsT [x]) := by
  refine ⟨rfl, fun h => (by cases h), ?_⟩
  rintro ad hh j u hu
  cases hh
  rw [add_eq, Nat.zero_add]
  simp only [World.cell?, heap_alloc_new w (.cells #[.string x] 9)]
  simpa [cellsT] using hu
theorem showsNone {w : World} (a : Option Addr) (size : Nat) : Shows w a 0 size [] := ⟨by simp, fun _ => rfl, fun _ _ j u hu => by simp at hu⟩
/-- A name put among the others, where it belongs. -/
theorem put_name {l : List ByteArray} {x : ByteArray} {j : Nat} (hu : l.Pairwise fun a b => cmpS a b < 0) (hx : x ∉ l) (hah : ∀ (a : Nat) y, a < j → l[a]? = some y → cmpS y x < 0) (hbe : ∀ y, l[j]? = some y → ¬ cmpS y x < 0) : (l.take j ++ x :: l.drop j).Pairwise fun a b => cmpS a b < 0 := by
  have h1 : ∀ y ∈ l.take j, cmpS y x < 0 := fun y hy => by
    obtain ⟨a, ha⟩ := List.mem_iff_getElem?.1 hy
    rw [List.getElem?_take] at ha
    split at ha
    · rename_i hlt; exact hah a y hlt ha
    · cases ha
  have h2 : ∀ y ∈ l.drop j, cmpS x y < 0 := fun y hy => by
    obtain ⟨a, ha⟩ := List.mem_iff_getElem?.1 hy
    rw [List.getElem?_drop] at ha
    have hj : j < l.length := by have := (List.getElem?_eq_some_iff.1 ha).1; omega
    obtain ⟨z, hz⟩ := some_of_lt hj
    have h3 := hbe z hz
    have h4 : cmpS z x ≠ 0 := fun e => hx (by rw [← cmpS_zero.1 e]; exact List.mem_of_getElem? hz)
    have h5 : cmpS x z < 0 := by have := cmpS_flip z x; omega
    by_cases ha0 : a = 0
    · subst ha0
      rw [Nat.add_zero, hz] at ha
      cases ha; exact h5
    · have hlt := (List.getElem?_eq_some_iff.1 ha).1
      have h6 := List.pairwise_iff_getElem.1 hu j (j + a) hj hlt (by omega)
      rw [(List.getElem?_eq_some_iff.1 hz).2, (List.getElem?_eq_some_iff.1 ha).2] at h6
      exact cmpS_trans h5 h6
  refine List.pairwise_append.2 ⟨hu.sublist (List.take_sublist _ _), List.pairwise_cons.2 ⟨h2, hu.sublist (List.drop_sublist _ _)⟩, fun y hy z hz => ?_⟩
  rcases List.mem_cons.1 hz with rfl | hz
  · exact h1 y hy
  · exact cmpS_trans (h1 y hy) (h2 z hz)
theorem put_perm {l m : List ByteArray} {x : ByteArray} (j : Nat) (h : l.Perm m) : (l.take j ++ x :: l.drop j).Perm (m ++ [x]) := by
  refine List.perm_middle.trans ?_
  rw [List.take_append_drop]
  exact (List.Perm.cons x h).trans (List.perm_append_singleton x m).symm

set_option maxRecDepth 100000 in
set_option maxHeartbeats 3200000 in
theorem refNames (w : World) (y : Nat) (vF vC : Value) (kc sc : Int) (D : DskS) (h : RefIn w y vF vC kc sc D) (hfew : D.chs.length ≤ 2000000000000) :
    Calls Try.prog 25 #[.pointer (some ⟨y, 0, none⟩)] w (OutN w D) := by
  have c2 := (seven_at h.box).2.2.1
  have hpl := hide (playedP w vC D.chs D.files.length h.chs h.ok.chs hfew)
  have hL1 := play_len D.chs
  have hnd := hide (play_nodup D.chs)
  obtain ⟨iI, hiI, hz0, hz1, hz2⟩ := info_of infoString
  replace hiI := hide hiI
  replace h := hide h
  go_enter Try.func25, Try.ntmps25
  go_wp2_with fail
  refine hpl.out.mono ?_
  rintro e1 w1 ⟨pv, cv, rfl, hr, X1⟩
  obtain ⟨-, hm1, hm2, hat⟩ := rowG_at cNm_len hr.out
  obtain ⟨L, hL⟩ : ∃ L, L = playN D.chs := ⟨_, rfl⟩
  rw [← hL] at hat hL1 hm1 hnd
  rw [← hL]
  have hLn : L.length ≤ 2000000000000 := by omega
  replace hat := hide hat; replace hL := hide hL; replace hr := hide hr.out
  go_wp2_with fail
  go_loopw [3, 5] (fun ov iv wr => ∃ (i : Nat) (qs : List ByteArray) (pa : Option Addr) (cap : Nat), i ≤ L.length ∧ iv = .int .i64 i ∧ ov = .slice pa qs.length cap ∧ Hid (qs.Perm ((L.take i).map Prod.fst)) ∧ Hid (qs.Pairwise fun a b => cmpS a b < 0) ∧ Hid (qs.length = i) ∧ Hid (wr.ownsRow w1.heap.size 9 1 (.slice pa qs.length cap) qs.length (cellsT qs)) ∧ Hid (Ext w1 wr)) (fun _ iv _ => L.length - (intOf iv).toNat)
  case atStart => exact ⟨0, [], none, 0, Nat.zero_le _, rfl, rfl, List.Perm.refl _, List.Pairwise.nil, rfl, World.ownsRow_nil _ _ _ _, Ext.refl _⟩
  case round =>
    obtain ⟨i, qs, pa, cap, hi, rfl, rfl, hpm, hup, hql, hQ, hx⟩ := hrel
    obtain ⟨wo, rfl⟩ : ∃ wo : World, wo = wr := ⟨_, rfl⟩
    by_cases hlt : i < L.length
    · obtain ⟨x, hxi⟩ := some_of_lt hlt
      obtain ⟨gv, rfl, hg⟩ := hat.out i x hxi
      have x0 := hg 0 (by omega)
      rw [Nat.add_zero] at x0
      simp only [cNm, List.getElem?_cons_zero] at x0
      replace x0 := hx.out.cells x0
      have hqn : qs.length ≤ 2000000000000 := by have := hql.out; omega
      have i2 : (i : Int) < (L.length : Int) := by omega
      have i4 : (0 : Int) ≤ (i : Int) := by omega
      have htk : Hid ((L.take (i + 1)).map Prod.fst = (L.take i).map Prod.fst ++ [x.1]) := by show _ = _; rw [List.take_add_one, hxi, Option.toList_some, List.map_append]; rfl
      have hxn : Hid (x.1 ∉ qs) := fun hm => by
        have h1 := hpm.out.mem_iff.1 hm
        have h2 : ((L.take (i + 1)).map Prod.fst).Nodup := hnd.out.sublist ((List.take_sublist _ _).map _)
        rw [htk.out, List.nodup_append] at h2
        exact h2.2.2 _ h1 _ (List.mem_singleton.2 rfl) rfl
      replace hxi := hide hxi; replace hg := hide hg
      go_upto_block 2 with fail
      go_cut [6] (fun av wx => ∃ j : Nat, j ≤ qs.length ∧ av = .int .i64 j ∧ Hid (∀ (a : Nat) y, a < j → qs[a]? = some y → cmpS y x.1 < 0) ∧ Hid (∀ y, qs[j]? = some y → ¬ cmpS y x.1 < 0) ∧ Hid (Ext wo wx))
      case first =>
        go_wp2_with fail
        go_loopw [6] (fun iv wy => ∃ j : Nat, j ≤ qs.length ∧ iv = .int .i64 j ∧ Hid (∀ (a : Nat) y, a < j → qs[a]? = some y → cmpS y x.1 < 0) ∧ Hid (Ext wo wy)) (fun iv _ => qs.length - (intOf iv).toNat)
        case atStart => exact ⟨0, Nat.zero_le _, rfl, fun _ _ h => absurd h (by omega), Ext.refl _⟩
        case round =>
          obtain ⟨j, hj, rfl, hah, hxx⟩ := hrel
          by_cases hlj : j < qs.length
          · obtain ⟨q, hyj⟩ := some_of_lt hlj
            obtain ⟨gq, rfl⟩ := own_someN hQ.out (by omega)
            have a0 := hxx.out.cells (name_cell hQ.out hyj)
            have r0 := hxx.out.cells x0
            have j2 : (j : Int) < (qs.length : Int) := by omega
            have j4 : (0 : Int) ≤ (j : Int) := by omega
            have hls := lessS q x.1
            replace hyj := hide hyj
            by_cases hle : cmpS q x.1 < 0
            · have hb : Op.bytesLess q.toList x.1.toList = true := by rw [hls]; simp [hle]
              replace hle := hide hle; clear hls
              go_wp2_with fail
              go_quiet (fail)
              go_wp2_with fail
              go_roundw
              case rel =>
                refine ⟨j + 1, by omega, by go_num, fun a z ha hz => ?_, hxx.out.drewN _⟩
                by_cases haj : a = j
                · subst haj
                  obtain rfl : q = z := by simpa [hyj.out] using hz
                  exact hle.out
                · exact hah.out a z (by omega) hz
              case measure => simp [intOf]; omega
            · have hb : Op.bytesLess q.toList x.1.toList = false := by rw [hls]; simpa using hle
              replace hle := hide hle; clear hls
              go_wp2_with fail
              go_quiet (fail)
              go_wp2_with fail
              go_meet
              exact ⟨j, hj, rfl, hah, fun z hz => by rw [hyj.out] at hz; cases hz; exact hle.out, hxx.out.drewN _⟩
          · have j2 : ¬ (j : Int) < (qs.length : Int) := by omega
            have j3 : decide ((j : Int) < (qs.length : Int)) = false := by simp; omega
            go_wp2_with fail
            go_quiet (fail)
            go_wp2_with fail
            go_meet
            exact ⟨j, hj, rfl, hah, fun z hz => absurd (List.getElem?_eq_some_iff.1 hz).1 (by omega), hxx.out.drewN _⟩
      case rest =>
        obtain ⟨j, hj, rfl, hah, hbe, hxc⟩ := hcut
        obtain ⟨w9, rfl⟩ : ∃ w9 : World, w9 = wc := ⟨_, rfl⟩
        have hQ9 := hide (ownsRow_wrote hQ.out (Wrote.ext (B := 0) (T := fun _ => False) hxc.out) id rfl)
        have hca := own_capN hQ9.out
        have hnew := hide (put_name hup.out hxn.out hah.out hbe.out)
        have hper : Hid ((qs.take j ++ x.1 :: qs.drop j).Perm ((L.take (i + 1)).map Prod.fst)) := by rw [htk.out]; exact put_perm j hpm.out
        have hls : Hid (j + 1 + (qs.length - j) = (qs.take j ++ x.1 :: qs.drop j).length) := by show _ = _; simp only [List.length_append, List.length_take, List.length_cons, List.length_drop]; omega
        have hln : Hid ((qs.take j ++ x.1 :: qs.drop j).length = i + 1) := by show _ = _; rw [← hls.out]; have := hql.out; omega
        have hsh1 := hide (showsN hQ9.out hj)
        have j2 : (j : Int) ≤ (qs.length : Int) := by omega
        have j4 : (0 : Int) ≤ (j : Int) := by omega
        have j5 : (j : Int) ≤ (cap : Int) := by omega
        have s0 := hxc.out.cells x0
        have hwl : Hid (w1.heap.size ≤ w9.heap.size) := by show _ ≤ _; have := Ext.size hx.out; have := Ext.size hxc.out; omega
        go_upto_region 11 with (at_builtin; go_must (refine wpList_append_any _ rfl _ _ 64 rfl w9.heap.size 9 iI (.string ⟨#[]⟩) 1 16 Try.underlying64 hiI.out hz0 hz1 hz2 rfl (by omega) _ 0 [] rfl (World.ownsRow_nil _ _ _ _) _ j _ (cellsT (qs.take j)) rfl hsh1.out (cellsT_one _) (by unfold maxLen; omega) (by omega) (Nat.le_refl _) ?_; intro v1 w10 hown1 hW10; rw [Nat.zero_add, List.nil_append] at hown1; obtain ⟨q1, r1, rfl⟩ := ownsRow_form hown1; have hX10 : Hid (Ext w9 w10) := hW10.toExt))
        have z0 := hX10.out.cells s0
        have hsz10 : Hid (w9.heap.size ≤ (w10.alloc (.cells #[.string x.1] 9)).heap.size) := by show _ ≤ _; have := Ext.size hX10.out; simp; omega
        clear s0
        replace hown1 := hide hown1; replace hW10 := hide hW10
        go_upto_region 12 with (at_builtin; go_must (refine wpList_append_any _ rfl _ _ 64 rfl w9.heap.size 9 iI (.string ⟨#[]⟩) 1 16 Try.underlying64 hiI.out hz0 hz1 hz2 rfl (by omega) _ j _ rfl (hown1.out.alloc _) (some ⟨w10.heap.size, 0, none⟩) 1 _ (cellsT [x.1]) rfl (showsOne w10 x.1) (cellsT_one _) (by unfold maxLen; omega) (by omega) (hsz10.out) ?_; intro v2 w11 hown2 hW11; obtain ⟨q2, r2, rfl⟩ := ownsRow_form hown2; have hX11 : Hid (Ext w9 w11) := ((Wrote.ext (B := w9.heap.size) (T := (· = 9)) (hX10.out.alloc _)).trans hW11).toExt))
        clear z0
        replace hown2 := hide hown2; replace hW11 := hide hW11
        by_cases hlj : j < qs.length
        · obtain ⟨gq, rfl⟩ := own_someN hQ9.out (by omega)
          have j6 : (j : Int) < (qs.length : Int) := by omega
          have j7 : (j : Int) < (cap : Int) := by omega
          have hsh3 := hide (showsND (ownsRow_wrote hQ9.out (Wrote.ext (B := 0) (T := fun _ => False) hX11.out) id rfl) hj)
          go_wp2_with (at_builtin; go_must (refine wpList_append_any _ rfl _ _ 64 rfl w9.heap.size 9 iI (.string ⟨#[]⟩) 1 16 Try.underlying64 hiI.out hz0 hz1 hz2 rfl (by omega) _ (j + 1) _ rfl hown2.out _ (qs.length - j) _ (cellsT (qs.drop j)) rfl hsh3.out (cellsT_one _) (by unfold maxLen; omega) (by omega) (Ext.size hX11.out) ?_; intro v3 w12 hown3 hW12; obtain ⟨q3, r3, rfl⟩ := ownsRow_form hown3; have hX12 : Hid (Ext w9 w12) := ((Wrote.ext (B := w9.heap.size) (T := (· = 9)) hX11.out).trans hW12).toExt))
          all_goals
            have hL12 : Hid (w12.ownsRow w1.heap.size 9 1 (.slice q3 (qs.take j ++ x.1 :: qs.drop j).length r3) (qs.take j ++ x.1 :: qs.drop j).length (cellsT (qs.take j ++ x.1 :: qs.drop j))) := by
              show World.ownsRow _ _ _ _ _ _ _
              rw [← hls.out, show cellsT (qs.take j ++ x.1 :: qs.drop j) = cellsT (qs.take j) ++ cellsT [x.1] ++ cellsT (qs.drop j) by simp [cellsT]]
              exact ownsRow_low hown3 hwl.out
            replace hown3 := hide hown3; replace hW12 := hide hW12
            try go_wp2_with fail
            go_roundw
            case rel => exact ⟨i + 1, _, q3, r3, by omega, by go_num, by rw [← hls.out], hper, hnew, hln, hL12, (hx.out.trans hxc.out).trans hX12.out⟩
            case measure => simp [intOf]; omega
        · obtain rfl : j = qs.length := by omega
          go_wp2_with (at_builtin; go_must (refine wpList_append_any _ rfl _ _ 64 rfl w9.heap.size 9 iI (.string ⟨#[]⟩) 1 16 Try.underlying64 hiI.out hz0 hz1 hz2 rfl (by omega) _ (qs.length + 1) _ rfl hown2.out _ 0 _ [] rfl (showsNone _ _) (fun u hu => by cases hu) (by unfold maxLen; omega) (by omega) (Ext.size hX11.out) ?_; intro v3 w12 hown3 hW12; obtain ⟨q3, r3, rfl⟩ := ownsRow_form hown3; have hX12 : Hid (Ext w9 w12) := ((Wrote.ext (B := w9.heap.size) (T := (· = 9)) hX11.out).trans hW12).toExt))
          all_goals
            have hL12 : Hid (w12.ownsRow w1.heap.size 9 1 (.slice q3 (qs.take qs.length ++ x.1 :: qs.drop qs.length).length r3) (qs.take qs.length ++ x.1 :: qs.drop qs.length).length (cellsT (qs.take qs.length ++ x.1 :: qs.drop qs.length))) := by
              show World.ownsRow _ _ _ _ _ _ _
              rw [← hls.out, Nat.sub_self, show cellsT (qs.take qs.length ++ x.1 :: qs.drop qs.length) = cellsT (qs.take qs.length) ++ cellsT [x.1] ++ [] by simp [cellsT]]
              exact ownsRow_low hown3 hwl.out
            replace hown3 := hide hown3; replace hW12 := hide hW12
            try go_wp2_with fail
            go_roundw
            case rel => exact ⟨i + 1, _, q3, r3, by omega, by go_num, by rw [← hls.out, Nat.sub_self], hper, hnew, hln, hL12, (hx.out.trans hxc.out).trans hX12.out⟩
            case measure => simp [intOf]; omega
    · have hall : Hid ((L.take i).map Prod.fst = L.map Prod.fst) := by show _ = _; rw [List.take_of_length_le (by omega)]
      have hwl := Ext.size X1.out
      go_wp2_with fail
      go_ret
      refine ⟨qs, pa, cap, rfl, ⟨?_, hup.out⟩, ownsRow_low hQ.out hwl, X1.out.trans hx.out⟩
      have := hpm.out
      rw [hall.out, hL.out] at this
      exact this
end Go.Proofs.Ytpkhmgonkbpjjaa
