/-
  The reference: resources by rising IDs.
-/
import Derived.Test.YtejhegnlmldomaaGreatJ28
import Derived.Test.YtejhegnlmldomaaGreatJ27
import Derived.Deep.DeepCutAuto
import Derived.Deep.CutBlock
namespace Go.Proofs.YtejhegnlmldomaaGreat
open Go.RowKit

def insQ (l : List ResP) (p : ResP) : List ResP := l.takeWhile (fun q => decide (cmpI q.x.id p.x.id < 0)) ++ p :: l.dropWhile (fun q => decide (cmpI q.x.id p.x.id < 0))
theorem insQ_x (l : List ResP) (p : ResP) : (insQ l p).map ResP.x = insRs (l.map ResP.x) p.x := by
  unfold insQ insRs
  obtain ⟨h1, h2⟩ := map_tw ResP.x (fun q : Resd => decide (cmpI q.id p.x.id < 0)) (fun q : ResP => decide (cmpI q.x.id p.x.id < 0)) l (fun _ _ => rfl)
  rw [h1, h2]
  simp
theorem insQ_len (l : List ResP) (p : ResP) : (insQ l p).length = l.length + 1 := by
  unfold insQ
  have := congrArg List.length (List.takeWhile_append_dropWhile (p := fun q : ResP => decide (cmpI q.x.id p.x.id < 0)) (l := l))
  simp only [List.length_append, List.length_cons] at this ⊢
  omega
theorem insQ_mem {l : List ResP} {p y : ResP} (h : y ∈ insQ l p) : y = p ∨ y ∈ l := by
  rcases List.mem_append.1 h with h | h
  · exact .inr ((List.takeWhile_sublist _).subset h)
  · rcases List.mem_cons.1 h with h | h
    · exact .inl h
    · exact .inr ((List.dropWhile_sublist _).subset h)
theorem insQ_cut {l : List ResP} {p : ResP} {j : Nat} (hj : j ≤ l.length) (h1 : ∀ (k : Nat) y, k < j → l[k]? = some y → cmpI y.x.id p.x.id < 0) (h2 : ∀ y, l[j]? = some y → ¬ cmpI y.x.id p.x.id < 0) : insQ l p = l.take j ++ p :: l.drop j := by
  obtain ⟨u1, u2⟩ := cut_first (fun y : ResP => decide (cmpI y.x.id p.x.id < 0)) l j hj (fun k y hk hy => by simpa using h1 k y hk hy) (fun y hy => by simpa using h2 y hy)
  unfold insQ
  rw [u1, u2]
theorem cellsP_one {l : List ResP} (h : ∀ p ∈ l, ∃ pa2 n2 cap2 pa3 n3 cap3, p.c2 = .slice pa2 n2 cap2 ∧ p.c3 = .slice pa3 n3 cap3) : ∀ u ∈ l.flatMap cRs, u.oneCell' = true := by
  intro u hu
  obtain ⟨p, hp, hu⟩ := List.mem_flatMap.1 hu
  obtain ⟨pa2, n2, cap2, pa3, n3, cap3, e2, e3⟩ := h p hp
  simp [cRs, e2, e3] at hu
  rcases hu with rfl | rfl | rfl | rfl <;> rfl
/-- What the sorting answers. -/
def SortIs (w : World) (ps : List ResP) (e : Ending) (w' : World) : Prop :=
  ∃ (pa : Option Addr) (cap : Nat) (qs : List ResP), e = .returned (.slice pa qs.length cap) ∧ Hid (qs.map ResP.x = srtM (ps.map ResP.x)) ∧ Hid (∀ q ∈ qs, q ∈ ps) ∧ Hid (w'.ownsRow w.heap.size 74 4 (.slice pa qs.length cap) qs.length (cellsP qs)) ∧ Hid (Ext w w')
theorem srt_take {l : List Resd} {k : Nat} {x : Resd} (h : l[k]? = some x) : srtM (l.take (k + 1)) = insRs (srtM (l.take k)) x := by
  unfold srtM
  rw [List.take_add_one, h, List.foldl_append]; rfl

set_option maxRecDepth 100000 in
set_option maxHeartbeats 3200000 in
theorem refSorted {B : Nat} {w : World} {v : Value} {ps : List ResP} (hO : w.ownsRow B 74 4 v ps.length (cellsP ps)) (hE : ∀ p ∈ ps, OwnR B w p.c2 p.c3 p.x ∧ okS p.x) (hn : ps.length ≤ 13) :
    Calls Tryz.prog 14 #[v] w (SortIs w ps) := by
  obtain ⟨pv, cv, rfl⟩ := ownsRow_form hO
  have hcv := own_cap hO
  have hfm : Hid (∀ p ∈ ps, ∃ pa2 n2 cap2 pa3 n3 cap3, p.c2 = .slice pa2 n2 cap2 ∧ p.c3 = .slice pa3 n3 cap3) := fun p hp => by
    obtain ⟨⟨pa2, cap2, e2⟩, ⟨pa3, cap3, e3⟩, _⟩ := (hE p hp).1
    exact ⟨pa2, _, cap2, pa3, _, cap3, e2, e3⟩
  obtain ⟨iI, hiI, hz0, hz1, hz2⟩ := info_of infoRes
  replace hiI := hide hiI; replace hO := hide hO; replace hE := hide hE
  go_enter Tryz.func14, Tryz.ntmps14
  go_wp2_with fail
  go_loopw [3, 4] (fun ov iv wr => ∃ (i : Nat) (qs : List ResP) (pa : Option Addr) (cap : Nat), i ≤ ps.length ∧ iv = .int .i64 i ∧ ov = .slice pa qs.length cap ∧ Hid (qs.map ResP.x = srtM ((ps.map ResP.x).take i)) ∧ Hid (∀ q ∈ qs, q ∈ ps) ∧ Hid (qs.length = i) ∧ Hid (wr.ownsRow w.heap.size 74 4 (.slice pa qs.length cap) qs.length (cellsP qs)) ∧ Hid (Ext w wr)) (fun _ iv _ => ps.length - (intOf iv).toNat)
  case atStart => exact ⟨0, [], none, 0, Nat.zero_le _, rfl, rfl, rfl, fun q hq => (by cases hq), rfl, World.ownsRow_nil _ _ _ _, Ext.refl _⟩
  case round =>
    obtain ⟨i, qs, pa, cap, hi, rfl, rfl, hxs, hsub, hql, hQ, hx⟩ := hrel
    obtain ⟨wo, rfl⟩ : ∃ wo : World, wo = wr := ⟨_, rfl⟩
    by_cases hlt : i < ps.length
    · obtain ⟨p, hp⟩ := some_of_lt hlt
      have hq13 : qs.length ≤ 13 := by have := hql.out; omega
      obtain ⟨gv, rfl, hv1, hv2, hv3⟩ := own_some hO.out (by omega)
      have hpm : Hid (p ∈ ps) := List.mem_of_getElem? hp
      have hO1 := hide (ownsRow_wr hO.out (Wr.ext (D := fun _ _ => False) hx.out) fun _ _ _ => id)
      obtain ⟨pa2, n2, cap2, pa3, n3, cap3, e2, e3⟩ := hfm.out p hpm.out
      obtain ⟨p0, p1, p2, p3⟩ := ress_cells hO1.out hp
      rw [e2] at p2; rw [e3] at p3
      have i2 : (i : Int) < (ps.length : Int) := by omega
      have i4 : (0 : Int) ≤ (i : Int) := by omega
      have hpx : Hid ((ps.map ResP.x)[i]? = some p.x) := by show _ = _; rw [List.getElem?_map, hp]; rfl
      replace hp := hide hp; replace e2 := hide e2; replace e3 := hide e3
      go_upto_block 2 with fail
      go_cut [5] (fun av wx => ∃ j : Nat, j ≤ qs.length ∧ av = .int .i64 j ∧ Hid (∀ (a : Nat) y, a < j → qs[a]? = some y → cmpI y.x.id p.x.id < 0) ∧ Hid (∀ y, qs[j]? = some y → ¬ cmpI y.x.id p.x.id < 0) ∧ Hid (Ext wo wx))
      case first =>
        go_wp2_with fail
        go_loopw [5] (fun iv wy => ∃ j : Nat, j ≤ qs.length ∧ iv = .int .i64 j ∧ Hid (∀ (a : Nat) y, a < j → qs[a]? = some y → cmpI y.x.id p.x.id < 0) ∧ Hid (Ext wo wy)) (fun iv _ => qs.length - (intOf iv).toNat)
        case atStart => exact ⟨0, Nat.zero_le _, rfl, fun _ _ h => absurd h (by omega), Ext.refl _⟩
        case round =>
          obtain ⟨j, hj, rfl, hah, hxx⟩ := hrel
          by_cases hlj : j < qs.length
          · obtain ⟨y, hyj⟩ := some_of_lt hlj
            obtain ⟨gq, rfl, hg1, hg2, hg3⟩ := own_some hQ.out (by omega)
            obtain ⟨a0, a1, -, -⟩ := ress_cells (ownsRow_wr hQ.out (Wr.ext (D := fun _ _ => False) hxx.out) fun _ _ _ => id) hyj
            have r0 := hxx.out.cells p0; have r1 := hxx.out.cells p1
            have j2 : (j : Int) < (qs.length : Int) := by omega
            have j4 : (0 : Int) ≤ (j : Int) := by omega
            replace hyj := hide hyj
            go_wp2_with fail
            go_region_held3 (fun w' => w'.cell? ⟨gq, j * 4, none⟩ = some (.string y.x.id.kind) ∧ w'.cell? ⟨gq, j * 4 + 1, none⟩ = some (.string y.x.id.name) ∧ w'.cell? ⟨gv, i * 4, none⟩ = some (.string p.x.id.kind) ∧ w'.cell? ⟨gv, i * 4 + 1, none⟩ = some (.string p.x.id.name)) (go_keep) ((go_at_call 34; refine (refLess y.x.id p.x.id _).mono ?_; rintro e w1 ⟨rfl, he1⟩; have q0 := he1.cells (p := ⟨gq, j * 4, none⟩) (v := .string y.x.id.kind) (by simpa using a0); have q1 := he1.cells (p := ⟨gq, j * 4 + 1, none⟩) (v := .string y.x.id.name) (by simpa using a1); have q2 := he1.cells (p := ⟨gv, i * 4, none⟩) (v := .string p.x.id.kind) (by simpa using r0); have q3 := he1.cells (p := ⟨gv, i * 4 + 1, none⟩) (v := .string p.x.id.name) (by simpa using r1); replace he1 := hide he1))
            have hX1 : Hid (Ext wo w1) := hxx.out.drew.trans he1.out
            cases hle : lessI y.x.id p.x.id with
            | true =>
              have hlc : Hid (cmpI y.x.id p.x.id < 0) := by show _ < _; simpa [lessI] using hle
              go_wp2_with fail
              go_roundw
              case rel =>
                refine ⟨j + 1, by omega, by go_num, fun a z ha hz => ?_, hX1.out⟩
                by_cases haj : a = j
                · subst haj
                  obtain rfl : y = z := by simpa [hyj.out] using hz
                  exact hlc.out
                · exact hah.out a z (by omega) hz
              case measure => simp [intOf]; omega
            | false =>
              have hlc : Hid (¬ cmpI y.x.id p.x.id < 0) := by show ¬ _; simpa [lessI] using hle
              go_wp2_with fail
              go_meet
              exact ⟨j, hj, rfl, hah, fun z hz => by rw [hyj.out] at hz; cases hz; exact hlc.out, hX1⟩
          · go_wp2_with fail
            go_meet
            exact ⟨j, hj, rfl, hah, fun z hz => absurd (List.getElem?_eq_some_iff.1 hz).1 (by omega), hxx⟩
      case rest =>
        obtain ⟨j, hj, rfl, hah, hbe, hxc⟩ := hcut
        obtain ⟨w9, rfl⟩ : ∃ w9 : World, w9 = wc := ⟨_, rfl⟩
        have hins := hide (insQ_cut hj hah.out hbe.out)
        have hQ9 := hide (ownsRow_wr hQ.out (Wr.ext (D := fun _ _ => False) hxc.out) fun _ _ _ => id)
        have hqf : Hid (∀ q ∈ qs, ∃ pa2 n2 cap2 pa3 n3 cap3, q.c2 = .slice pa2 n2 cap2 ∧ q.c3 = .slice pa3 n3 cap3) := fun q hq => hfm.out q (hsub.out q hq)
        go_upto_region 11 with fail
        go_cut [7] (fun mv wx => ∃ q1 r1, mv = .slice q1 j r1 ∧ Hid (wx.ownsRow w9.heap.size 74 4 (.slice q1 j r1) j ((qs.take j).flatMap cRs)) ∧ Hid (Ext w9 wx))
        case first =>
          have hca := own_cap hQ9.out
          have hone : Hid (∀ u ∈ (qs.take j).flatMap cRs, u.oneCell' = true) := cellsP_one fun q hq => hqf.out q ((List.take_sublist _ _).subset hq)
          by_cases hlj : j < qs.length
          · obtain ⟨gq, rfl, hg1, hg2, hg3⟩ := own_some hQ9.out (by omega)
            have hsh1 := hide (showsG cRs_len hQ9.out hj)
            go_wp2_with (at_builtin; go_must (refine wpList_append_any _ rfl _ _ 22 rfl w9.heap.size 74 iI (.agg #[.string ⟨#[]⟩, .string ⟨#[]⟩, .slice none 0 0, .slice none 0 0]) 4 80 Tryz.underlying22 hiI.out hz0 hz1 hz2 rfl (by omega) _ 0 [] rfl (World.ownsRow_nil _ _ _ _) _ j _ ((qs.take j).flatMap cRs) rfl hsh1.out hone.out (by unfold maxLen; omega) (by omega) (Nat.le_refl _) ?_; intro v1 w10 hown1 hW10; rw [Nat.zero_add, List.nil_append] at hown1; obtain ⟨q1, r1, rfl⟩ := ownsRow_form hown1; have hX10 : Hid (Ext w9 w10) := hW10.toExt))
            all_goals
              go_meet
              exact ⟨_, _, rfl, hown1, hX10⟩
          · obtain rfl : j = qs.length := by omega
            have hsh1 : Hid (Shows w9 pa qs.length 4 ((qs.take qs.length).flatMap cRs)) := by
              show Shows _ _ _ _ _
              by_cases h0 : qs.length = 0
              · have hl0 : qs = [] := List.eq_nil_of_length_eq_zero h0
                subst hl0; exact shows0 _ _ rfl (by simp)
              · obtain ⟨g, rfl, _⟩ := own_some hQ9.out (by omega)
                exact showsG cRs_len hQ9.out (Nat.le_refl _)
            go_wp2_with (at_builtin; go_must (refine wpList_append_any _ rfl _ _ 22 rfl w9.heap.size 74 iI (.agg #[.string ⟨#[]⟩, .string ⟨#[]⟩, .slice none 0 0, .slice none 0 0]) 4 80 Tryz.underlying22 hiI.out hz0 hz1 hz2 rfl (by omega) _ 0 [] rfl (World.ownsRow_nil _ _ _ _) _ qs.length _ ((qs.take qs.length).flatMap cRs) rfl hsh1.out hone.out (by unfold maxLen; omega) (by omega) (Nat.le_refl _) ?_; intro v1 w10 hown1 hW10; rw [Nat.zero_add, List.nil_append] at hown1; obtain ⟨q1, r1, rfl⟩ := ownsRow_form hown1; have hX10 : Hid (Ext w9 w10) := hW10.toExt))
            all_goals
              go_meet
              exact ⟨_, _, rfl, hown1, hX10⟩
        case rest =>
          obtain ⟨q1, r1, rfl, hown1, hX10⟩ := hcut
          obtain ⟨w10, rfl⟩ : ∃ w10 : World, w10 = wc := ⟨_, rfl⟩
          have s0 := (hxc.out.trans hX10.out).cells p0; have s1 := (hxc.out.trans hX10.out).cells p1; have s2 := (hxc.out.trans hX10.out).cells p2; have s3 := (hxc.out.trans hX10.out).cells p3
          have hpe : Hid (p = ⟨p.x, .slice pa2 n2 cap2, .slice pa3 n3 cap3⟩) := by show _ = _; rw [← e2.out, ← e3.out]
          go_upto_region 13 with (at_builtin; go_must (refine wpList_append_any _ rfl _ _ 22 rfl w9.heap.size 74 iI (.agg #[.string ⟨#[]⟩, .string ⟨#[]⟩, .slice none 0 0, .slice none 0 0]) 4 80 Tryz.underlying22 hiI.out hz0 hz1 hz2 rfl (by omega) _ j _ rfl (hown1.out.alloc _) (some ⟨w10.heap.size, 0, none⟩) 1 _ (cRs ⟨p.x, .slice pa2 n2 cap2, .slice pa3 n3 cap3⟩) rfl (showsNew w10 74 (cRs ⟨p.x, .slice pa2 n2 cap2, .slice pa3 n3 cap3⟩) (n := 4) rfl) cRs_one (by unfold maxLen; omega) (by omega) (by have := Ext.size hX10.out; simp; omega) ?_; intro v2 w11 hown2 hW11; obtain ⟨q2, r2, rfl⟩ := ownsRow_form hown2; have hX11 : Hid (Ext w9 w11) := ((Wrote.ext (B := w9.heap.size) (T := (· = 74)) (hX10.out.alloc _)).trans hW11).toExt))
          clear s0 s1 s2 s3
          replace hown2 := hide hown2
          clear p0 p1 p2 p3
          have hca := own_cap hQ9.out
          have hwl : Hid (w.heap.size ≤ w9.heap.size) := by show _ ≤ _; have := Ext.size hx.out; have := Ext.size hxc.out; omega
          have hone : Hid (∀ u ∈ (qs.drop j).flatMap cRs, u.oneCell' = true) := cellsP_one fun q hq => hqf.out q ((List.drop_sublist _ _).subset hq)
          by_cases hlj : j < qs.length
          · obtain ⟨gq, rfl, hg1, hg2, hg3⟩ := own_some hQ9.out (by omega)
            have j2 : (j : Int) < (qs.length : Int) := by omega
            have j4 : (0 : Int) ≤ (j : Int) := by omega
            have hls : Hid (j + 1 + (qs.length - j) = (insQ qs p).length) := by show _ = _; rw [insQ_len]; omega
            go_wp2_with (at_builtin; go_must (refine wpList_append_any _ rfl _ _ 22 rfl w9.heap.size 74 iI (.agg #[.string ⟨#[]⟩, .string ⟨#[]⟩, .slice none 0 0, .slice none 0 0]) 4 80 Tryz.underlying22 hiI.out hz0 hz1 hz2 rfl (by omega) _ (j + 1) _ rfl hown2.out (some ⟨gq, j * 4, none⟩) (qs.length - j) _ ((qs.drop j).flatMap cRs) rfl (showsGD cRs_len (ownsRow_wr hQ9.out (Wr.ext (D := fun _ _ => False) hX11.out) fun _ _ _ => id) hj) hone.out (by unfold maxLen; omega) (by omega) (Ext.size hX11.out) ?_; intro v3 w12 hown3 hW12; obtain ⟨q3, r3, rfl⟩ := ownsRow_form hown3; have hX12 : Hid (Ext w9 w12) := ((Wrote.ext (B := w9.heap.size) (T := (· = 74)) hX11.out).trans hW12).toExt))
            all_goals
              have hL12 : Hid (w12.ownsRow w.heap.size 74 4 (.slice q3 (insQ qs p).length r3) (insQ qs p).length (cellsP (insQ qs p))) := by
                show World.ownsRow _ _ _ _ _ _ _
                rw [← hls.out, hins.out, show cellsP (qs.take j ++ p :: qs.drop j) = (qs.take j).flatMap cRs ++ cRs p ++ (qs.drop j).flatMap cRs by simp [cellsP], hpe.out]
                exact ownsRow_low' hown3 hwl.out
              replace hown3 := hide hown3; replace hW12 := hide hW12
              try go_wp2_with fail
              go_roundw
              case rel =>
                refine ⟨i + 1, insQ qs p, q3, r3, by omega, by go_num, by rw [hls.out], ?_, ?_, ?_, hL12, (hx.out.trans hxc.out).trans hX12.out⟩
                · show _ = _
                  rw [insQ_x, hxs.out, srt_take hpx.out]
                · intro q hq
                  rcases insQ_mem hq with rfl | hq
                  · exact hpm.out
                  · exact hsub.out q hq
                · show _ = _
                  rw [insQ_len, hql.out]
              case measure => simp [intOf]; omega
          · obtain rfl : j = qs.length := by omega
            have hls : Hid (qs.length + 1 + 0 = (insQ qs p).length) := by show _ = _; rw [insQ_len]
            go_wp2_with (at_builtin; go_must (refine wpList_append_any _ rfl _ _ 22 rfl w9.heap.size 74 iI (.agg #[.string ⟨#[]⟩, .string ⟨#[]⟩, .slice none 0 0, .slice none 0 0]) 4 80 Tryz.underlying22 hiI.out hz0 hz1 hz2 rfl (by omega) _ (qs.length + 1) _ rfl hown2.out _ 0 _ [] rfl (shows0 _ _ rfl rfl) (fun u hu => by cases hu) (by unfold maxLen; omega) (by omega) (Ext.size hX11.out) ?_; intro v3 w12 hown3 hW12; obtain ⟨q3, r3, rfl⟩ := ownsRow_form hown3; have hX12 : Hid (Ext w9 w12) := ((Wrote.ext (B := w9.heap.size) (T := (· = 74)) hX11.out).trans hW12).toExt))
            all_goals
              have hL12 : Hid (w12.ownsRow w.heap.size 74 4 (.slice q3 (insQ qs p).length r3) (insQ qs p).length (cellsP (insQ qs p))) := by
                show World.ownsRow _ _ _ _ _ _ _
                rw [← hls.out, hins.out, show cellsP (qs.take qs.length ++ p :: qs.drop qs.length) = (qs.take qs.length).flatMap cRs ++ cRs p ++ [] by simp [cellsP], hpe.out]
                exact ownsRow_low' hown3 hwl.out
              replace hown3 := hide hown3; replace hW12 := hide hW12
              try go_wp2_with fail
              go_roundw
              case rel =>
                refine ⟨i + 1, insQ qs p, q3, r3, by omega, by go_num, by rw [hls.out], ?_, ?_, ?_, hL12, (hx.out.trans hxc.out).trans hX12.out⟩
                · show _ = _
                  rw [insQ_x, hxs.out, srt_take hpx.out]
                · intro q hq
                  rcases insQ_mem hq with rfl | hq
                  · exact hpm.out
                  · exact hsub.out q hq
                · show _ = _
                  rw [insQ_len, hql.out]
              case measure => simp [intOf]; omega
    · have hall : Hid ((ps.map ResP.x).take i = ps.map ResP.x) := List.take_of_length_le (by rw [List.length_map]; omega)
      go_wp2_with fail
      go_ret
      exact ⟨pa, cap, qs, rfl, by rw [← hall.out]; exact hxs, hsub, hQ, hx⟩
end Go.Proofs.YtejhegnlmldomaaGreat
