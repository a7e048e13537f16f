/-
  The names of a disk: a change is made.
-/
import Derived.Test.YtpkhmgonkbpjjaaDkM
import Derived.Deep.DeepCutAuto
import Derived.Deep.CutBlock
namespace Go.Proofs.Ytpkhmgonkbpjjaa
open Go.RowKit

attribute [local go_sem] Go.World.cell?_alloc_some
set_option maxRecDepth 100000 in
theorem cloneS (s : ByteArray) (w : World) (hs : s.size ≤ 2000000000000) :
    Calls Try.prog 88 #[.string s] w fun e w' => e = .returned (.string s) ∧ Ext w w' := by
  have hc := hide (Try.stringslite_Clone s w (by omega))
  go_enter Try.func88, Try.ntmps88
  go_wp2_with fail
  refine hc.out.mono ?_
  rintro e w1 ⟨rfl, h⟩
  go_wp2
  go_ret
  exact ⟨rfl, h⟩
theorem infoChg : (Try.prog.info? 147).map (fun i => (i.zero, i.size, i.bytes)) = some (some (.agg #[.string ⟨#[]⟩, .string ⟨#[]⟩, .pointer none]), 3, 40) := by kernel_rfl
/-- What a change of the names leaves. -/
def ChIs (w : World) (nm tn tl : Nat) (vn vl vc : Value) (fs : List Nat) (rl : List RowF) (chs : List ChgS) (last : Nat) (c : ChgS) (e : Ending) (w' : World) : Prop :=
  ∃ vn' vc' rn', e = .returned (.tuple #[]) ∧ Hid (NamesIn w' nm tn tl vn' vl vc' fs rn' rl (chs ++ [c]) last) ∧ Hid (Kept (NFoot nm tn tl vn vl vc) w w' ∧ ∀ k, NFoot nm tn tl vn' vl vc' k → NFoot nm tn tl vn vl vc k ∨ w.heap.size ≤ k)

theorem ch_done {w w1 w2 w3 : World} {nm tn tl : Nat} {vn vl vc : Value} {fs : List Nat} {rn rl rn' : List RowF} {chs : List ChgS} {last : Nat} {c : ChgS} {pa : Option Addr} {n cap g1 cap1 : Nat}
    (h : NamesIn w nm tn tl vn vl vc fs rn rl chs last) (X1 : Ext w w1) (k1 : rn'.Perm ((stepN (playN chs) c).map (rowN fs))) (k2 : TabAtF 0 w2 tn (.slice pa n cap) rn') (k3 : Kept (fun k => k = tn ∨ vn.ownBlock = some k) w1 w2 ∧ ∀ g, (Value.slice pa n cap).ownBlock = some g → vn.ownBlock = some g ∨ w1.heap.size ≤ g)
    (nb2 : w2.heap[nm]? = some (.cells #[.pointer (some ⟨tn, 0, none⟩), .pointer (some ⟨tl, 0, none⟩), vc] 100 (0, 0))) (tl2 : TabAtF 0 w2 tl vl rl) (rw2 : w2.ownsRow 0 147 3 vc (chs.length - last) (cellsG (cChg fs) (chs.drop last))) (K3 : Kept (fun k => vc.ownBlock = some k) w2 w3)
    (hown3 : w3.ownsRow 0 147 3 (.slice (some ⟨g1, 0, none⟩) (chs.length - last + 1) cap1) (chs.length - last + 1) (cellsG (cChg fs) (chs.drop last) ++ cChg fs c)) (hat3 : vc.ownBlock = some g1 ∨ g1 = w2.heap.size + 1) :
    ChIs w nm tn tl vn vl vc fs rl chs last c (.returned (.tuple #[])) (w3.setCell ⟨nm, 2, none⟩ (.slice (some ⟨g1, 0, none⟩) (chs.length - last + 1) cap1)) := by
  have K4 := kept_setCell w3 ⟨nm, 2, none⟩ (.slice (some ⟨g1, 0, none⟩) (chs.length - last + 1) cap1)
  have ne : ∀ k c t fz, w2.heap[k]? = some (.cells c t fz) → t ≠ 147 → ¬ vc.ownBlock = some k := fun k c t fz hk ht ho => by
    obtain ⟨c', fz', hc'⟩ := rows_at rw2 ho
    exact tells hk hc' ht rfl
  have nb3 := K3.heap nb2 (ne _ _ _ _ nb2 (by decide))
  have now3 := k2.kept K3 (ne _ _ _ _ k2.at_ (by decide)) (fun g hg => by
    obtain ⟨c', fz', hc'⟩ := rows_at k2.rows hg
    exact ne _ _ _ _ hc' (by decide))
  have lst3 := tl2.kept K3 (ne _ _ _ _ tl2.at_ (by decide)) (fun g hg => by
    obtain ⟨c', fz', hc'⟩ := rows_at tl2.rows hg
    exact ne _ _ _ _ hc' (by decide))
  have h21 := k3.1.size
  have h10 := Ext.size X1
  refine ⟨.slice pa n cap, .slice (some ⟨g1, 0, none⟩) (chs.length - last + 1) cap1, rn', rfl, ⟨?_, now3.kept K4 (fun e => tells now3.at_ nb3 (by decide) e) (fun g hg e => ?_), lst3.kept K4 (fun e => tells lst3.at_ nb3 (by decide) e) (fun g hg e => ?_), ?_, ?_, ?_, ?_, h.tt, fun g hg hl => ?_⟩, ?_, fun k hk => ?_⟩
  · simp [World.setCell, Array.getElem?_modify, nb3]
  · obtain ⟨c', fz', hc'⟩ := rows_at now3.rows hg
    exact tells hc' nb3 (by decide) e
  · obtain ⟨c', fz', hc'⟩ := rows_at lst3.rows hg
    exact tells hc' nb3 (by decide) e
  · rw [play_snoc]; exact k1
  · rw [List.take_append_of_le_length h.le]; exact h.isLst
  · have e1 : (chs ++ [c]).length - last = chs.length - last + 1 := by have := h.le; simp; omega
    have e2 : cellsG (cChg fs) ((chs ++ [c]).drop last) = cellsG (cChg fs) (chs.drop last) ++ cChg fs c := by
      rw [List.drop_append_of_le_length h.le]; simp [cellsG]
    rw [e1, e2]
    refine rows_kept hown3 K4 fun g hg e => ?_
    obtain ⟨c', fz', hc'⟩ := rows_at hown3 hg
    exact tells hc' nb3 (by decide) e
  · have := h.le; simp; omega
  · rcases k3.2 g hg with h1 | h1
    · exact h.tv g h1 hl
    · have := h.lst.lt.2 g hl; omega
  · have K1 : Kept (NFoot nm tn tl vn vl vc) w w2 := (X1.kept _).trans k3.1 (fun k _ hk => hk.elim (fun e => .inr (.inl e)) (fun e => .inr (.inr (.inr (.inl e)))))
    exact (K1.trans K3 (fun k _ hk => .inr (.inr (.inr (.inr (.inr hk)))))).trans K4 (fun k _ hk => .inl hk)
  · rcases hk with hk | hk | hk | hk | hk | hk
    · exact .inl (.inl hk)
    · exact .inl (.inr (.inl hk))
    · exact .inl (.inr (.inr (.inl hk)))
    · rcases k3.2 k hk with h1 | h1
      · exact .inl (.inr (.inr (.inr (.inl h1))))
      · exact .inr (by omega)
    · exact .inl (.inr (.inr (.inr (.inr (.inl hk)))))
    · obtain rfl : g1 = k := by simpa [Value.ownBlock] using hk
      rcases hat3 with h1 | h1
      · exact .inl (.inr (.inr (.inr (.inr (.inr h1)))))
      · exact .inr (by omega)

set_option maxRecDepth 100000 in
set_option maxHeartbeats 3200000 in
theorem changeP (w : World) (nm tn tl : Nat) (vn vl vc : Value) (fs : List Nat) (rn rl : List RowF) (chs : List ChgS) (last : Nat) (c : ChgS) (h : NamesIn w nm tn tl vn vl vc fs rn rl chs last) (hfew : chs.length + 1 ≤ 2000000000000) (h1 : (chgC fs c).1.size ≤ 2000000000000) (h2 : (chgC fs c).2.1.size ≤ 2000000000000) :
    Calls Try.prog 75 #[.pointer (some ⟨nm, 0, none⟩), .agg #[.string (chgC fs c).1, .string (chgC fs c).2.1, .pointer (chgC fs c).2.2]] w (ChIs w nm tn tl vn vl vc fs rl chs last c) := by
  obtain ⟨a, b, p, hc⟩ : ∃ a b p, chgC fs c = (a, b, p) := ⟨_, _, _, rfl⟩
  have hdo := fun (W : World) (hT : TabAtF 0 W tn vn rn) => doP 0 vn rn fs (playN chs) c tn W hT (Nat.zero_le _) (by have h3 := h.isNow.length_eq; rw [List.length_map] at h3; have := play_len chs; omega) h.isNow
  have hcc : cChg fs c = [.string a, .string b, .pointer p] := by unfold cChg; rw [hc]
  rw [hc] at h1 h2 ⊢
  rw [hc] at hdo
  simp only at h1 h2 hdo ⊢
  have X0 := (Ext.refl w).alloc (.cells #[.string a, .string b, .pointer p] 147)
  have bx := heap_alloc_new w (.cells #[.string a, .string b, .pointer p] 147)
  replace h := hide h; replace hdo := hide hdo; replace X0 := hide X0; replace bx := hide bx; replace hc := hide hc; replace hcc := hide hcc
  go_enter Try.func75, Try.ntmps75
  go_upto_region 1 with fail
  go_cut [] (fun wx => Hid (Ext w wx) ∧ Hid (wx.heap[w.heap.size]? = some (.cells #[.string a, .string b, .pointer p] 147 (0, 0))))
  case first =>
    have bxd : ((w.alloc (.cells #[.string a, .string b, .pointer p] 147)).drew).heap[w.heap.size]? = some (.cells #[.string a, .string b, .pointer p] 147 (0, 0)) := bx.out
    have Xd : Ext w ((w.alloc (.cells #[.string a, .string b, .pointer p] 147)).drew) := X0.out.drew
    obtain ⟨q0, q1, q2⟩ := three_at bx.out
    generalize w.alloc (.cells #[.string a, .string b, .pointer p] 147) = w0 at *
    go_region_with (go_at_call 88; (first | (refine (cloneS a _ h1).mono ?_) | (refine (cloneS b _ h2).mono ?_)); rintro e w1 ⟨rfl, he⟩; go_must (have b1 := ext_heap he (by assumption : _ = some (Obj.cells #[.string a, .string b, .pointer p] 147 (0, 0))); obtain ⟨r0, r1, r2⟩ := three_at b1; have f1 := row_frozen b1; have E1 : Ext w w1 := Ext.trans (by assumption) he; replace he := hide he))
    all_goals
      have bz : ((w1.setCell ⟨w.heap.size, 0, none⟩ (.string a)).setCell ⟨w.heap.size, 1, none⟩ (.string b)).heap[w.heap.size]? = some (.cells #[.string a, .string b, .pointer p] 147 (0, 0)) := by simp [World.setCell, Array.getElem?_modify, b1]
      have Ez : Ext w ((w1.setCell ⟨w.heap.size, 0, none⟩ (.string a)).setCell ⟨w.heap.size, 1, none⟩ (.string b)) := (E1.setCell (p := ⟨w.heap.size, 0, none⟩) (Nat.le_refl _) _).setCell (p := ⟨w.heap.size, 1, none⟩) (Nat.le_refl _) _
      replace bz := hide bz; replace Ez := hide Ez
      go_wp2_with fail
      go_meet
      exact ⟨Ez, bz⟩
  case rest =>
    obtain ⟨X1, b1⟩ := hcut
    obtain ⟨w1, rfl⟩ : ∃ w1 : World, w1 = wc := ⟨_, rfl⟩
    have h1' := h.out.ext X1.out
    obtain ⟨n0, n1, n2⟩ := three_at h1'.nbox
    obtain ⟨q0, q1, q2⟩ := three_at b1.out
    have hd1 := hide (hdo.out w1.drew (h1'.now.ext (Ext.refl w1).drew))
    have hnb : nm < w.heap.size := (Array.getElem?_eq_some_iff.1 h.out.nbox).1
    replace h1' := hide h1'; replace hnb := hide hnb
    go_upto_region 2 with fail
    go_cut [] (fun wx => ∃ (rn' : List RowF) (pa : Option Addr) (cap n : Nat), Hid (rn'.Perm ((stepN (playN chs) c).map (rowN fs))) ∧ Hid (TabAtF 0 wx tn (.slice pa n cap) rn') ∧ Hid (Kept (fun k => k = tn ∨ vn.ownBlock = some k) w1 wx ∧ ∀ g, (Value.slice pa n cap).ownBlock = some g → vn.ownBlock = some g ∨ w1.heap.size ≤ g))
    case first =>
      go_region_with (go_at_call 81; refine hd1.out.mono ?_; rintro e2 w2 ⟨rn', pa, cap, n, rfl, k1, k2, k3⟩; go_must (have k4 : Kept (fun k => k = tn ∨ vn.ownBlock = some k) w1 w2 := ((Ext.refl w1).drew.kept _).trans k3.out.1 (fun _ _ h => h); replace k4 := hide k4))
      all_goals
        go_wp2_with fail
        go_meet
        exact ⟨rn', pa, cap, n, k1, k2, k4.out, k3.out.2⟩
    case rest =>
      obtain ⟨rn', pa, cap, n, k1, k2, k3⟩ := hcut
      obtain ⟨w2, rfl⟩ : ∃ w2 : World, w2 = wc := ⟨_, rfl⟩
      have hD : ∀ k c t fz, w1.heap[k]? = some (.cells c t fz) → t ≠ 137 → t ≠ 140 → ¬ (k = tn ∨ vn.ownBlock = some k) := by
        intro k c t fz hk t1 t2 hor
        rcases hor with rfl | hor
        · exact tells hk h1'.out.now.at_ t1 rfl
        · obtain ⟨c', fz', hc'⟩ := rows_at h1'.out.now.rows hor
          exact tells hk hc' t2 rfl
      have nb2 := k3.out.1.heap h1'.out.nbox (hD _ _ _ _ h1'.out.nbox (by decide) (by decide))
      have b2 := k3.out.1.heap b1.out (hD _ _ _ _ b1.out (by decide) (by decide))
      have rw2 := rows_kept h1'.out.rows k3.out.1 (fun g hg => by
        obtain ⟨c', fz', hc'⟩ := rows_at h1'.out.rows hg
        exact hD _ _ _ _ hc' (by decide) (by decide))
      have tl2 := h1'.out.lst.kept k3.out.1 (by
        rintro (h | h)
        · exact h1'.out.tt h.symm
        · obtain ⟨c', fz', hc'⟩ := rows_at h1'.out.now.rows h
          exact tells h1'.out.lst.at_ hc' (by decide) rfl) (fun g hg => by
        rintro (h | h)
        · obtain ⟨c', fz', hc'⟩ := rows_at h1'.out.lst.rows hg
          exact tells hc' h1'.out.now.at_ (by decide) h
        · exact h1'.out.tv g h hg)
      obtain ⟨pc, cc, rfl⟩ := ownsRow_form rw2
      obtain ⟨i0, hi0, hz0, hz1, hz2⟩ := info_of infoChg
      clear n0 n1 n2 q0 q1 q2
      obtain ⟨n0, n1, n2⟩ := three_at nb2
      obtain ⟨q0, q1, q2⟩ := three_at b2
      have f2 := row_frozen nb2
      replace nb2 := hide nb2; replace b2 := hide b2; replace rw2 := hide rw2; replace tl2 := hide tl2; replace hD := hide hD; replace hi0 := hide hi0
      have ln : (chs.drop last).length = chs.length - last := List.length_drop
      have W3 := (Ext.refl w2).drew.alloc (.cells #[.string a, .string b, .pointer p] 147)
      have hnew : ∀ j u, (cChg fs c)[j]? = some u → (w2.drew.alloc (.cells #[.string a, .string b, .pointer p] 147)).cell? ((⟨w2.heap.size, 0, none⟩ : Addr).add j) = some u := fun j u hu => by
        rw [add_eq, Nat.zero_add]
        simp only [World.cell?, heap_alloc_new w2.drew (.cells #[.string a, .string b, .pointer p] 147), show w2.heap.size = w2.drew.heap.size from rfl]
        rw [hcc.out] at hu
        simpa using hu
      have nbz := ext_heap W3 nb2.out
      have rwz := hide (rows_kept rw2.out (W3.kept fun _ => False) (fun _ _ => id))
      have hdl : chs.length - last + 1 ≤ 2000000000000 := by omega
      have nmc : ∀ g, (Value.slice pc (chs.length - last) cc).ownBlock = some g → ¬ nm = g := fun g hg => by
        obtain ⟨c', fz', hc'⟩ := rows_at rw2.out hg
        exact tells nb2.out hc' (by decide)
      replace hnew := hide hnew; replace nbz := hide nbz; replace W3 := hide W3; replace ln := hide ln; replace nmc := hide nmc
      go_wp2_with fail
      go_region_law (refine step_append_lies _ rfl (.tmp 22) (.tmp 24) 98 rfl 0 147 i0 (.agg #[.string ⟨#[]⟩, .string ⟨#[]⟩, .pointer none]) 3 40 Try.underlying98 hi0.out hz0 hz1 hz2 rfl (by omega) (.slice pc (chs.length - last) cc) (chs.length - last) (cellsG (cChg fs) (chs.drop last)) (by simp [Act.eval]) rwz.out ⟨w2.heap.size, 0, none⟩ 1 1 (cChg fs c) (by simp [Act.eval]) rfl hnew.out (cChg_one fs c) (by omega) (by unfold maxLen; omega) (by omega) (Nat.zero_le _) (w2.heap.size + 1) (by simp) ?_; intro g1 cap1 w3 hown3 hgrow3 hat3 hlt3; have K3 : Kept (fun k => (Value.slice pc (chs.length - last) cc).ownBlock = some k) w2 w3 := (W3.out.kept _).trans ⟨hgrow3.os, hgrow3.tape, hgrow3.output, hgrow3.size, fun k hk hn => hgrow3.block k hk fun e => hn e.symm⟩ (fun _ _ h => h); have P3 := K3.heap nb2.out (fun h => nmc.out nm h rfl); have v3 := row_frozen P3; have u3 := (three_at P3).2.2; replace P3 := hide P3; replace K3 := hide K3; replace hown3 := hide hown3; replace hgrow3 := hide hgrow3; replace hlt3 := hide hlt3; replace hat3 := hide hat3)
      all_goals
        refine ⟨rfl, .tuple #[], by simp [results, Try.results75], ?_⟩
        exact ch_done h.out X1.out k1.out k2.out k3.out nb2.out tl2.out rw2.out K3.out hown3.out hat3.out
end Go.Proofs.Ytpkhmgonkbpjjaa
