/-
  The names of a disk: the first changes are made to last, the others are lost; names of a new disk.
-/
import Derived.Test.YtpkhmgonkbpjjaaNamC
namespace Go.Proofs.Ytpkhmgonkbpjjaa
open Go.RowKit

attribute [local go_sem] Go.World.cell?_alloc_some
/-- What is left when the first changes last. -/
def SetIs (w : World) (nm tn tl : Nat) (vn vl vc : Value) (fs : List Nat) (chs : List ChgS) (last m : Nat) (e : Ending) (w' : World) : Prop :=
  ∃ tn' vn' vl' rn' rl', e = .returned (.tuple #[]) ∧ Hid (NamesIn w' nm tn' tl vn' vl' (.slice none 0 0) fs rn' rl' (chs.take (last + m)) (last + m)) ∧ Hid (Kept (NFoot nm tn tl vn vl vc) w w' ∧ ∀ k, NFoot nm tn' tl vn' vl' (.slice none 0 0) k → NFoot nm tn tl vn vl vc k ∨ w.heap.size ≤ k)

theorem set_done {w wr w3 : World} {nm tn tl : Nat} {vn vl vl' vc : Value} {fs : List Nat} {rl' : List RowF} {chs : List ChgS} {last m t' : Nat} {v' : Value}
    (hm : last + m ≤ chs.length) (hP : rl'.Perm ((playN (chs.take (last + m))).map (rowN fs))) (hK : Kept (fun k => k = tl ∨ vl.ownBlock = some k) w wr ∧ ∀ g, vl'.ownBlock = some g → vl.ownBlock = some g ∨ w.heap.size ≤ g)
    (T1 : TabAtF 0 (wr.setCell ⟨nm, 2, none⟩ (.slice none 0 0)) tl vl' rl') (hC : TabAtF (wr.setCell ⟨nm, 2, none⟩ (.slice none 0 0)).heap.size w3 t' v' rl') (hX : Ext (wr.setCell ⟨nm, 2, none⟩ (.slice none 0 0)) w3)
    (nb3 : w3.heap[nm]? = some (.cells #[.pointer (some ⟨tn, 0, none⟩), .pointer (some ⟨tl, 0, none⟩), .slice none 0 0] 100 (0, 0))) :
    SetIs w nm tn tl vn vl vc fs chs last m (.returned (.tuple #[])) (w3.setCell ⟨nm, 0, none⟩ (.pointer (some ⟨t', 0, none⟩))) := by
  have K4 := kept_setCell w3 ⟨nm, 0, none⟩ (.pointer (some ⟨t', 0, none⟩))
  have sz : (wr.setCell ⟨nm, 2, none⟩ (.slice none 0 0)).heap.size = wr.heap.size := by simp [World.setCell]
  have hwr := hK.1.size
  have T3 := T1.ext hX
  have C0 := hC.low (Nat.zero_le _)
  have hnew : ∀ g, v'.ownBlock = some g → wr.heap.size ≤ g := fun g hg => by
    rcases hC.rows.2 with ⟨rfl, _⟩ | ⟨g', cap, cur, rfl, h4, _⟩
    · simp [Value.ownBlock] at hg
    · obtain rfl : g' = g := by simpa [Value.ownBlock] using hg
      omega
  have hb := hC.base
  rw [sz] at hb
  have tlt := T1.lt
  rw [sz] at tlt
  refine ⟨t', v', vl', rl', rl', rfl, ⟨?_, C0.kept K4 (fun e => tells C0.at_ nb3 (by decide) e) (fun g hg e => ?_), T3.kept K4 (fun e => tells T3.at_ nb3 (by decide) e) (fun g hg e => ?_), hP, ?_, ?_, ?_, ?_, fun g hg hl => ?_⟩, ?_, fun k hk => ?_⟩
  · simp [World.setCell, Array.getElem?_modify, nb3]
  · obtain ⟨c', fz', hc'⟩ := rows_at C0.rows hg
    exact tells hc' nb3 (by decide) e
  · obtain ⟨c', fz', hc'⟩ := rows_at T3.rows hg
    exact tells hc' nb3 (by decide) e
  · rw [List.take_take, Nat.min_self]; exact hP
  · rw [List.drop_eq_nil_of_le (by rw [List.length_take]; exact Nat.min_le_left _ _), show (chs.take (last + m)).length - (last + m) = 0 by rw [List.length_take]; omega]
    exact World.ownsRow_nil _ _ _ _
  · rw [List.length_take]; omega
  · have := tlt.1; omega
  · have := hnew g hg; have := tlt.2 g hl; omega
  · have K1 : Kept (NFoot nm tn tl vn vl vc) w wr := hK.1.mono (fun k _ hk => hk.elim (fun e => .inr (.inr (.inl e))) (fun e => .inr (.inr (.inr (.inr (.inl e))))))
    exact ((K1.trans (kept_setCell wr ⟨nm, 2, none⟩ (.slice none 0 0)) (fun k _ hk => .inl hk)).trans (hX.kept fun _ => False) (fun k _ hk => hk.elim)).trans K4 (fun k _ hk => .inl hk)
  · rcases hk with hk | hk | hk | hk | hk | hk
    · exact .inl (.inl hk)
    · exact .inr (by omega)
    · exact .inl (.inr (.inr (.inl hk)))
    · exact .inr (by have := hnew k hk; omega)
    · rcases hK.2 k hk with h1 | h1
      · exact .inl (.inr (.inr (.inr (.inr (.inl h1)))))
      · exact .inr h1
    · simp [Value.ownBlock] at hk

set_option maxRecDepth 100000 in
set_option maxHeartbeats 3200000 in
theorem settleN (w : World) (nm tn tl : Nat) (vn vl vc : Value) (fs : List Nat) (rn rl : List RowF) (chs : List ChgS) (last m : Nat) (h : NamesIn w nm tn tl vn vl vc fs rn rl chs last) (hfew : chs.length + 1 ≤ 2000000000000) (hm : last + m ≤ chs.length) :
    Calls Try.prog 61 #[.pointer (some ⟨nm, 0, none⟩), .int .i64 (m : Int)] w (SetIs w nm tn tl vn vl vc fs chs last m) := by
  obtain ⟨pc, cc, rfl⟩ := ownsRow_form h.rows
  obtain ⟨n0, n1, n2⟩ := three_at h.nbox
  have hcap : chs.length - last ≤ cc ∧ cc ≤ 9223372036854775807 := by
    rcases h.rows.2 with ⟨h1, h2⟩ | ⟨g, cap, cur, h1, _, _, h2, h3, _⟩
    · simp at h1; omega
    · simp at h1; unfold maxLen at h3; omega
  have m1 : (m : Int) ≤ (cc : Int) := by omega
  have m2 : (0 : Int) ≤ (m : Int) := by omega
  have m3 : ((m : Int)).toNat = m := by omega
  have hne : ∀ k c t fz, w.heap[k]? = some (.cells c t fz) → t ≠ 137 → t ≠ 140 → ¬ (k = tl ∨ vl.ownBlock = some k) := by
    intro k c t fz hk t1 t2 hor
    rcases hor with rfl | hor
    · exact tells hk h.lst.at_ t1 rfl
    · obtain ⟨c', fz', hc'⟩ := rows_at h.lst.rows hor
      exact tells hk hc' t2 rfl
  have hrow : ∀ k, k < m → ∃ c g, chs[last + k]? = some c ∧ pc = some ⟨g, 0, none⟩ ∧ (∃ cur fz, w.heap[g]? = some (.cells cur 147 fz)) ∧ w.cell? ⟨g, k * 3, none⟩ = some (.string (chgC fs c).1) ∧ w.cell? ⟨g, k * 3 + 1, none⟩ = some (.string (chgC fs c).2.1) ∧ w.cell? ⟨g, k * 3 + 2, none⟩ = some (.pointer (chgC fs c).2.2) := fun k hk => by
    obtain ⟨c, hc⟩ : ∃ c, chs[last + k]? = some c := ⟨_, List.getElem?_eq_getElem (by omega)⟩
    rcases h.rows.2 with ⟨h1, h2⟩ | ⟨g, cap, cur, h1, _, h3, h4, h5, h6, h7⟩
    · omega
    · simp at h1
      obtain ⟨rfl, rfl⟩ := h1
      have hd : (chs.drop last)[k]? = some c := by rw [List.getElem?_drop]; exact hc
      have hx : ∀ r, r < 3 → w.cell? ⟨g, k * 3 + r, none⟩ = (cChg fs c)[r]? := fun r hr => by
        have e1 : (cellsG (cChg fs) (chs.drop last))[k * 3 + r]? = (cChg fs c)[r]? := flat_get (cChg_len fs) hd hr
        rw [← e1, ← h7, List.getElem?_take, if_pos (by omega)]
        simp [World.cell?, h3]
      exact ⟨c, g, hc, rfl, ⟨cur, _, h3⟩, hx 0 (by omega), hx 1 (by omega), hx 2 (by omega)⟩
  have hmb : m ≤ 2000000000000 := by omega
  replace h := hide h; replace hcap := hide hcap; replace hm := hide hm; replace hne := hide hne; replace hrow := hide hrow
  go_enter Try.func61, Try.ntmps61
  go_wp2_with fail
  go_loopw [13] (fun i wr => ∃ k : Nat, k ≤ m ∧ i = .int .i64 k ∧ ∃ vl' rl', Hid (TabAtF 0 wr tl vl' rl') ∧ Hid (rl'.Perm ((playN (chs.take (last + k))).map (rowN fs))) ∧ Hid (Kept (fun k => k = tl ∨ vl.ownBlock = some k) w wr ∧ ∀ g, vl'.ownBlock = some g → vl.ownBlock = some g ∨ w.heap.size ≤ g)) (fun i _ => m - (intOf i).toNat)
  case atStart => exact ⟨0, Nat.zero_le _, rfl, vl, rl, h.out.lst, h.out.isLst, Kept.refl _ _, fun g hg => .inl hg⟩
  case round =>
    obtain ⟨k, hk, rfl, vl', rl', hT, hP, hK⟩ := hrel
    have nb := hK.out.1.heap h.out.nbox (hne.out _ _ _ _ h.out.nbox (by decide) (by decide))
    obtain ⟨b0, b1, b2⟩ := three_at nb
    by_cases hlt : k < m
    · obtain ⟨c, g, hc, rfl, ⟨cur, fz, hgg⟩, c0, c1, c2⟩ := hrow.out k hlt
      have kg := hne.out _ _ _ _ hgg (by decide) (by decide)
      have d0 := hK.out.1.cell c0 kg
      have d1 := hK.out.1.cell c1 kg
      have d2 := hK.out.1.cell c2 kg
      have k1 : (k : Int) < (m : Int) := by omega
      have k2 : (0 : Int) ≤ (k : Int) := by omega
      obtain ⟨a, b, p, hab⟩ : ∃ a b p, chgC fs c = (a, b, p) := ⟨_, _, _, rfl⟩
      have hdo := fun (W : World) (hW : TabAtF 0 W tl vl' rl') => doP 0 vl' rl' fs (playN (chs.take (last + k))) c tl W hW (Nat.zero_le _) (by have h3 := hP.out.length_eq; rw [List.length_map] at h3; have := play_len (chs.take (last + k)); have h4 : (chs.take (last + k)).length ≤ chs.length := (by rw [List.length_take]; exact Nat.min_le_right _ _); omega) hP.out
      rw [hab] at hdo d0 d1 d2
      simp only at hdo d0 d1 d2
      have E1 := (Ext.refl wr).alloc (.cells #[.string a, .string b, .pointer p] 147)
      have bx := heap_alloc_new wr (.cells #[.string a, .string b, .pointer p] 147)
      have nb1 := ext_heap E1 nb
      obtain ⟨e0, e1, e2⟩ := three_at bx
      obtain ⟨f0, f1, f2⟩ := three_at nb1
      have hd2 := hide (hdo _ (hT.out.ext E1.drew))
      replace hab := hide hab; replace hdo := hide hdo; replace E1 := hide E1; replace bx := hide bx; replace nb1 := hide nb1; replace nb := hide nb; replace hgg := hide hgg; replace kg := hide kg; replace hc := hide hc
      clear c0 c1 c2
      go_wp2_with fail
      go_region_with (go_at_call 81; refine hd2.out.mono ?_; rintro e2 w2 ⟨rs', pa, cap, n, rfl, k3, k4, k5⟩)
      all_goals
        go_wp2_with fail
        go_roundw
        case rel =>
          have ht : chs.take (last + (k + 1)) = chs.take (last + k) ++ [c] := by rw [← Nat.add_assoc, List.take_add_one, hc.out]; rfl
          refine ⟨k + 1, by omega, by go_num, .slice pa n cap, rs', k4, ?_, ((hK.out.1.trans (E1.out.drew.kept fun _ => False) (fun _ _ h => h.elim)).trans k5.out.1 (fun j hj h => ?_)), fun g hg => ?_⟩
          · show List.Perm _ _
            rw [ht, play_snoc]; exact k3.out
          · rcases h with h | h
            · exact .inl h
            · rcases hK.out.2 j h with h | h
              · exact .inr h
              · omega
          · rcases k5.out.2 g hg with h | h
            · exact hK.out.2 g h
            · exact .inr (Nat.le_trans hK.out.1.size (Nat.le_trans (Ext.size E1.out.drew) h))
        case measure => simp [intOf]; omega
    · obtain rfl : k = m := by omega
      have fz := row_frozen nb
      have K1 := kept_setCell wr ⟨nm, 2, none⟩ (.slice none 0 0)
      have T1 := hT.out.kept K1 (fun e => tells hT.out.at_ nb (by decide) e) (fun g hg e => by
        obtain ⟨c', fz', hc'⟩ := rows_at hT.out.rows hg
        exact tells hc' nb (by decide) e)
      have nb1 : (wr.setCell ⟨nm, 2, none⟩ (.slice none 0 0)).heap[nm]? = some (.cells #[.pointer (some ⟨tn, 0, none⟩), .pointer (some ⟨tl, 0, none⟩), .slice none 0 0] 100 (0, 0)) := by simp [World.setCell, Array.getElem?_modify, nb]
      replace nb := hide nb; replace K1 := hide K1; replace T1 := hide T1; replace nb1 := hide nb1
      go_wp2_with fail
      refine (tabCopyF 0 vl' rl' tl _ T1.out).mono ?_
      rintro e3 w3 ⟨t', v', rfl, hC, hX⟩
      have nb3 := ext_heap hX.out nb1.out
      have fz3 := row_frozen nb3
      obtain ⟨g0, g1, g2⟩ := three_at nb3
      replace nb3 := hide nb3
      go_wp2_with fail
      refine ⟨rfl, .tuple #[], by simp [results, Try.results61], ?_⟩
      exact set_done hm.out hP.out hK.out T1.out hC.out hX.out nb3.out
end Go.Proofs.Ytpkhmgonkbpjjaa
