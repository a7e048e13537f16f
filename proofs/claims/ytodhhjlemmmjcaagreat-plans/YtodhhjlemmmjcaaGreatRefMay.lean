/-
  Resources that may be: what the reference's function answers of one.
-/
import Derived.Test.YtodhhjlemmmjcaaGreatJ9
namespace Go.Proofs.YtodhhjlemmmjcaaGreat
open Go.RowKit

theorem isTextB_no {c : Int} (h : ¬ (c = 10 ∨ (32 ≤ c ∧ c ≤ 126))) : isTextB c = false := by simp [isTextB, isPlainB]; omega
theorem isTextB_yes {c : Int} (h : c = 10 ∨ (32 ≤ c ∧ c ≤ 126)) : isTextB c = true := by simp [isTextB, isPlainB]; omega
theorem attr_yes {nm tx : ByteArray} {t : Bool} {num : Int} (hw : wordB nm.data.toList = true) (ha : ¬ nm.toList = [97, 102, 116, 101, 114]) (h1 : ¬ num < -1000000000) (h2 : ¬ 1000000000 < num) (h3 : ¬ 20 < tx.size)
    (hg : (t = true ∧ num = 0) ∨ (t = false ∧ tx.toList = [])) (hal : (tx.data.toList.all fun c => isTextB c.toNat) = true) : attrB ⟨nm, t, tx, num⟩ = true := by
  rw [after_eq] at ha
  have h4 : tx.data.toList.length ≤ 20 := by rw [size_toList]; omega
  rcases hg with ⟨rfl, rfl⟩ | ⟨rfl, htx⟩
  · simp only [attrB, hw, stringB, hal, decide_eq_true h4]; simp [ha]
  · rw [nil_eq] at htx
    simp only [attrB, hw, htx]; simp [ha]; omega
theorem attr_no {nm : ByteArray} {t : Bool} {tx : ByteArray} {num : Int} (hg : (t = true ∧ num = 0) ∨ (t = false ∧ tx.toList = [])) (hal : (tx.data.toList.all fun c => isTextB c.toNat) = false) : attrB ⟨nm, t, tx, num⟩ = false := by
  rcases hg with ⟨rfl, rfl⟩ | ⟨rfl, htx⟩
  · simp only [attrB, stringB, hal]; simp
  · rw [nil_eq] at htx; rw [htx] at hal; simp at hal
theorem attr_no2 {nm : ByteArray} {t : Bool} {tx : ByteArray} {num : Int} (hg : ¬ ((t = true ∧ num = 0) ∨ (t = false ∧ tx.toList = []))) : attrB ⟨nm, t, tx, num⟩ = false := by
  cases t
  · have h : ¬ tx.data.toList = [] := by rw [← nil_eq]; exact fun h => hg (.inr ⟨rfl, h⟩)
    have h' : tx.data.toList.isEmpty = false := by simpa using h
    simp only [attrB, h']; simp
  · have h : ¬ num = 0 := fun h => hg (.inl ⟨rfl, h⟩)
    simp [attrB, h]

set_option maxRecDepth 100000 in
set_option maxHeartbeats 3200000 in
theorem refMay (c2 c3 : Value) (x : Resd) (w : World) (hr : ResV w c2 c3 x) :
    Calls Tryz.prog 33 #[.agg #[.string x.id.kind, .string x.id.name, c2, c3]] w fun e w' => e = .returned (.bool (mayB x)) ∧ Ext w w' := by
  obtain ⟨hI, hA, hF⟩ := hr
  obtain ⟨a2, p2, rfl⟩ := hA.form
  obtain ⟨a3, p3, rfl⟩ := hF.form
  have nA := hA.few
  have nF := hF.few
  have s1 := hI.1
  have s2 := hI.2
  cases hk : wordB x.id.kind.data.toList
  · have H := hide (show mayB x = false by simp [mayB, idB, hk])
    replace hI := hide hI; replace hA := hide hA; replace hF := hide hF
    go_enter Tryz.func33, Tryz.ntmps33
    go_wp2_with (go_at_call 64; refine (refWord _ _ (by omega)).mono ?_; rintro e w' ⟨rfl, rfl⟩)
    go_ret
    exact ⟨retB (by rw [unhide H]), (Ext.refl _).alloc _⟩
  cases hn : wordB x.id.name.data.toList
  · have H := hide (show mayB x = false by simp [mayB, idB, hn])
    replace hI := hide hI; replace hA := hide hA; replace hF := hide hF
    go_enter Tryz.func33, Tryz.ntmps33
    go_wp2_with (go_at_call 64; refine (refWord _ _ (by omega)).mono ?_; rintro e w' ⟨rfl, rfl⟩)
    go_ret
    exact ⟨retB (by rw [unhide H]), (Ext.refl _).alloc _⟩
  by_cases h6 : 6 < x.attrs.length
  · have H := hide (show mayB x = false by simp [mayB]; omega)
    have h6' : (6 : Int) < (x.attrs.length : Int) := by omega
    replace hI := hide hI; replace hA := hide hA; replace hF := hide hF
    go_enter Tryz.func33, Tryz.ntmps33
    go_wp2_with (go_at_call 64; refine (refWord _ _ (by omega)).mono ?_; rintro e w' ⟨rfl, rfl⟩)
    go_ret
    exact ⟨retB (by rw [unhide H]), (Ext.refl _).alloc _⟩
  have h6' : decide ((6 : Int) < (x.attrs.length : Int)) = false := by simp; omega
  by_cases h7 : 6 < x.after.length
  · have H := hide (show mayB x = false by simp [mayB]; omega)
    have h7' : (6 : Int) < (x.after.length : Int) := by omega
    replace hI := hide hI; replace hA := hide hA; replace hF := hide hF
    go_enter Tryz.func33, Tryz.ntmps33
    go_wp2_with (go_at_call 64; refine (refWord _ _ (by omega)).mono ?_; rintro e w' ⟨rfl, rfl⟩)
    go_ret
    exact ⟨retB (by rw [unhide H]), (Ext.refl _).alloc _⟩
  have h7' : decide ((6 : Int) < (x.after.length : Int)) = false := by simp; omega
  have H := hide (show mayB x = (x.attrs.all attrB && risesB lessA x.attrs && x.after.all idB && risesB lessI x.after) by
    simp only [mayB, idB]; rw [decide_eq_true (show x.attrs.length ≤ 6 by omega), decide_eq_true (show x.after.length ≤ 6 by omega), hk, hn]; simp)
  replace hI := hide hI; replace hA := hide hA; replace hF := hide hF
  replace h6 := hide h6; replace h7 := hide h7
  go_enter Tryz.func33, Tryz.ntmps33
  go_wp2_with (go_at_call 64; refine (refWord _ _ (by omega)).mono ?_; rintro e w' ⟨rfl, rfl⟩)
  go_loopw [5] (fun i wr => ∃ k : Nat, k ≤ x.attrs.length ∧ i = .int .i64 k ∧ Hid ((x.attrs.take k).all attrB = true ∧ risesB lessA (x.attrs.take k) = true) ∧ Ext (w.alloc (.cells #[.string x.id.kind, .string x.id.name, .slice a2 x.attrs.length p2, .slice a3 x.after.length p3] 56)) wr) (fun i _ => x.attrs.length - (intOf i).toNat)
  case atStart => exact ⟨0, Nat.zero_le _, rfl, by simp [Hid, risesB], Ext.refl _⟩
  case round =>
    obtain ⟨k, hkl, rfl, hall, he⟩ := hrel
    have b2 : wr.cell? ⟨w.heap.size, 2, none⟩ = some (.slice a2 x.attrs.length p2) := he.cells (by simp [go_sem])
    have b3 : wr.cell? ⟨w.heap.size, 3, none⟩ = some (.slice a3 x.after.length p3) := he.cells (by simp [go_sem])
    replace he := hide he
    by_cases hlt : k < x.attrs.length
    · have hA2 := hA.out.ext (((Ext.refl _).alloc _).trans he.out)
      obtain ⟨⟨a, cap, hav, hcap, hmax, hs⟩, hfew, hok⟩ := hA2
      obtain ⟨rfl, rfl⟩ : a = a2 ∧ cap = p2 := by simpa using hav.symm
      clear hav
      rcases hs with hs | ⟨b, off, rfl, hin⟩
      · rw [hs] at hlt; simp at hlt
      obtain ⟨y, hy⟩ := some_of_lt hlt
      obtain ⟨g0, g1, g2, g3⟩ := hin k y hy
      have hoky := hok y (List.mem_of_getElem? hy)
      have o1 := hoky.1
      have o2 := hoky.2.1
      have Hs := hide (all_succ (p := attrB) hy hall.out.1)
      have Hf := hide (all_no (p := attrB) hy)
      have HF : Hid (attrB y = false → mayB x = false) := fun h => by rw [unhide H, unhide Hf h]; rfl
      have i2 : (k : Int) < (x.attrs.length : Int) := by omega
      have i4 : (0 : Int) ≤ (k : Int) := by omega
      have hpre : (k = 0 ∧ risesB lessA (x.attrs.take (k + 1)) = true) ∨ ∃ q z, k = q + 1 ∧ wr.cell? ⟨b, off + q * 4, none⟩ = some (.string z.name) ∧ risesB lessA (x.attrs.take (k + 1)) = lessA z y ∧ (lessA z y = false → mayB x = false) := by
        by_cases hk0 : k = 0
        · subst hk0; exact .inl ⟨rfl, rises_one _⟩
        · obtain ⟨q, rfl⟩ : ∃ q, k = q + 1 := ⟨k - 1, by omega⟩
          obtain ⟨z, hz⟩ := some_of_lt (show q < x.attrs.length by omega)
          refine .inr ⟨q, z, rfl, (hin q z hz).1, ?_, fun h => ?_⟩
          · rw [rises_take (lt := lessA) hz hy, hall.out.2]; rfl
          · rw [unhide H, rises_no (lt := lessA) hz hy h]; simp
      have hev : Ext w wr := ((Ext.refl _).alloc _).trans he.out
      replace hev := hide hev
      replace hok := hide hok; replace hoky := hide hoky; replace hin := hide hin; replace hy := hide hy
      obtain ⟨nm, t, tx, num⟩ := y
      dsimp only at g0 g1 g2 g3 o1 o2
      have Hb1 : Hid (wordB nm.data.toList = false → attrB ⟨nm, t, tx, num⟩ = false) := fun h => by simp [attrB, h]
      have Hb2 : Hid (nm.toList = [97, 102, 116, 101, 114] → attrB ⟨nm, t, tx, num⟩ = false) := fun h => by rw [after_eq] at h; simp [attrB, h]
      have Hb3 : Hid (num < -1000000000 → attrB ⟨nm, t, tx, num⟩ = false) := fun h => by
        have : ¬ (-1000000000 ≤ num) := by omega
        have h0 : ¬ num = 0 := by omega
        cases t <;> simp [attrB, this, h0]
      have Hb4 : Hid (1000000000 < num → attrB ⟨nm, t, tx, num⟩ = false) := fun h => by
        have : ¬ (num ≤ 1000000000) := by omega
        have h0 : ¬ num = 0 := by omega
        cases t <;> simp [attrB, this, h0]
      have Hb5 : Hid (20 < tx.size → attrB ⟨nm, t, tx, num⟩ = false) := fun h => by
        have h1 : ¬ tx.data.toList.length ≤ 20 := by rw [size_toList]; omega
        have h2 : tx.data.toList.isEmpty = false := by
          cases hh : tx.data.toList with
          | nil => rw [hh] at h1; simp at h1
          | cons _ _ => rfl
        simp only [attrB, stringB, decide_eq_false h1, h2]
        cases t <;> simp
      have hwr0 : (wr.heap.size : Nat) = wr.heap.size := rfl
      clear hwr0
      rcases hpre with ⟨hk0, hris⟩ | ⟨q, z, hq, k0, hris, hno⟩
      · have e0 : decide ((0 : Int) < (k : Int)) = false := by simp; omega
        have e0' : decide (0 < k) = false := by simp; omega
        replace hk0 := hide hk0
        have Hris : Hid (risesB lessA (x.attrs.take (k + 1)) = true) := hris
        clear hris
        go_wp2_with (go_at_call 64; refine (refWord _ _ (by omega)).mono ?_; rintro e w' ⟨rfl, rfl⟩)
        cases hw : wordB nm.data.toList
        · go_quiet (fail)
          go_wp2
          go_ret
          exact ⟨retB (by rw [unhide HF (unhide Hb1 hw)]), (hev.out.alloc _).drewN _⟩
        by_cases ha : nm.toList = [97, 102, 116, 101, 114]
        · have ha' : (nm.toList == [97, 102, 116, 101, 114]) = true := by simpa using ha
          have hzz := hide (unhide HF (unhide Hb2 ha))
          clear ha
          go_quiet (fail)
          go_wp2
          go_ret
          exact ⟨retB (by rw [unhide hzz]), (hev.out.alloc _).drewN _⟩
        have ha' : (nm.toList == [97, 102, 116, 101, 114]) = false := by simpa using ha
        by_cases hn1 : num < -1000000000
        · go_quiet (fail)
          go_wp2
          go_ret
          exact ⟨retB (by rw [unhide HF (unhide Hb3 hn1)]), (hev.out.alloc _).drewN _⟩
        have hn1' : decide (num < -1000000000) = false := by simpa using hn1
        by_cases hn2 : 1000000000 < num
        · go_quiet (fail)
          go_wp2
          go_ret
          exact ⟨retB (by rw [unhide HF (unhide Hb4 hn2)]), (hev.out.alloc _).drewN _⟩
        have hn2' : decide (1000000000 < num) = false := by simpa using hn2
        by_cases hn3 : 20 < tx.size
        · have hn3' : (20 : Int) < (tx.size : Int) := by omega
          go_quiet (fail)
          go_wp2
          go_ret
          exact ⟨retB (by rw [unhide HF (unhide Hb5 hn3)]), (hev.out.alloc _).drewN _⟩
        have hn3' : decide ((20 : Int) < (tx.size : Int)) = false := by simp; omega
        go_quiet (fail)
        have hyes : ((t = true ∧ num = 0) ∨ (t = false ∧ tx.toList = [])) → (tx.data.toList.all fun c => isTextB c.toNat) = true → attrB ⟨nm, t, tx, num⟩ = true := fun hg hal =>
          attr_yes hw ha hn1 hn2 hn3 hg hal
        have Hyes := hide hyes; clear hyes
        have Hno := hide (@attr_no nm t tx num)
        have Hno2 := hide (@attr_no2 nm t tx num)
        by_cases hgood : (t = true ∧ num = 0) ∨ (t = false ∧ tx.toList = [])
        · have hgood' := hide hgood
          rcases hgood with ⟨rfl, rfl⟩ | ⟨rfl, htx⟩
          all_goals
            try have hem : tx.toList.isEmpty = true := by simp [htx]
            go_wp2_with fail
            go_loop [8] (fun i => ∃ m : Nat, m ≤ tx.size ∧ i = .int .i64 m ∧ Hid ((tx.data.toList.take m).all fun c => isTextB c.toNat)) (fun i => tx.size - (intOf i).toNat)
            case atStart => exact ⟨0, Nat.zero_le _, rfl, by simp [Hid]⟩
            case round =>
              obtain ⟨m, hm, rfl, hal⟩ := hrel
              by_cases hltm : m < tx.size
              · have hltm' : m < tx.data.toList.length := by rw [size_toList]; exact hltm
                have hsx := all_take_succ (p := fun c => isTextB (c.toNat : Int)) hltm' hal.out
                have hfx := all_false_of (p := fun c => isTextB (c.toNat : Int)) hltm'
                have hxx : tx.data.toList[m]?.getD 0 = tx[m] := by rw [List.getElem?_eq_getElem hltm']; rfl
                rw [hxx] at hsx hfx
                have Hsx := hide hsx; have Hfx := hide hfx; clear hsx hfx hxx
                by_cases hc10 : (tx[m].toNat : Int) = 10
                · have hb10 : ((tx[m].toNat : Int) != 10) = false := by simpa using hc10
                  have Hc := hide hc10; clear hc10
                  go_wp2
                  go_round
                  case rel => exact ⟨m + 1, by omega, by go_num, by rw [unhide Hsx]; exact isTextB_yes (.inl (unhide Hc))⟩
                  case measure => simp [intOf]; omega
                · have hb10 : ((tx[m].toNat : Int) != 10) = true := by simpa using hc10
                  go_wp2
                  all_goals first
                    | (go_ret; exact ⟨retB (by rw [unhide HF (unhide Hno hgood'.out (unhide Hfx (isTextB_no (by omega))))]), (hev.out.alloc _).drewN _⟩)
                    | (go_round
                       case rel => exact ⟨m + 1, by omega, by go_num, by rw [unhide Hsx]; exact isTextB_yes (by omega)⟩
                       case measure => simp [intOf]; omega)
              · have Hlx : Hid (tx.data.toList.take m = tx.data.toList) := List.take_of_length_le (by rw [size_toList]; omega)
                go_wp2
                go_roundw
                case rel => exact ⟨k + 1, by omega, by go_num, ⟨by rw [unhide Hs]; exact unhide Hyes hgood'.out (by rw [unhide Hlx] at hal; exact hal.out), unhide Hris⟩, (he.out.alloc _).drewN _⟩
                case measure => simp [intOf]; omega
        · have hbad := hide (unhide HF (unhide Hno2 hgood))
          cases t
          · have htx : ¬ tx.toList = [] := fun h => hgood (.inr ⟨rfl, h⟩)
            have hem : tx.toList.isEmpty = false := by simp [htx]
            clear hgood
            go_wp2
            go_ret
            exact ⟨retB (by rw [unhide hbad]), (hev.out.alloc _).drewN _⟩
          · have hnz : ¬ num = 0 := fun h => hgood (.inl ⟨rfl, h⟩)
            have hnz' : (num != 0) = true := by simpa using hnz
            clear hgood
            go_wp2
            go_ret
            exact ⟨retB (by rw [unhide hbad]), (hev.out.alloc _).drewN _⟩
      · have e0 : (0 : Int) < (k : Int) := by omega
        have e0' : 0 < k := by omega
        have e1 : IntKind.i64.wrap ((k : Int) - 1) = (q : Int) := by rw [IntKind.wrap_i64]; omega
        have i1 : (0 : Int) ≤ (q : Int) := by omega
        have i3 : (q : Int) < (x.attrs.length : Int) := by omega
        replace hq := hide hq
        have Hlt := hide (lessS z.name nm)
        have Hno0 := hide hno
        clear hno
        replace hris := hide hris
        have bA := fun o => ((Ext.refl wr).alloc o).cells b2
        have kA := fun o => ((Ext.refl wr).alloc o).cells k0
        go_wp2_with (go_at_call 64; refine (refWord _ _ (by omega)).mono ?_; rintro e w' ⟨rfl, rfl⟩)
        cases hw : wordB nm.data.toList
        · go_quiet (fail)
          go_wp2
          go_ret
          exact ⟨retB (by rw [unhide HF (unhide Hb1 hw)]), (hev.out.alloc _).drewN _⟩
        by_cases ha : nm.toList = [97, 102, 116, 101, 114]
        · have ha' : (nm.toList == [97, 102, 116, 101, 114]) = true := by simpa using ha
          have hzz := hide (unhide HF (unhide Hb2 ha))
          clear ha
          go_quiet (fail)
          go_wp2
          go_ret
          exact ⟨retB (by rw [unhide hzz]), (hev.out.alloc _).drewN _⟩
        have ha' : (nm.toList == [97, 102, 116, 101, 114]) = false := by simpa using ha
        by_cases hz : lessA z ⟨nm, t, tx, num⟩ = false
        · have hz' : Op.bytesLess z.name.toList nm.toList = false := by rw [unhide Hlt]; exact hz
          have hzz := hide (unhide Hno0 hz)
          clear hz
          go_quiet (fail)
          go_wp2
          go_ret
          exact ⟨retB (by rw [unhide hzz]), (hev.out.alloc _).drewN _⟩
        have hz' : Op.bytesLess z.name.toList nm.toList = true := by rw [unhide Hlt]; simpa [lessA] using hz
        have Hris : Hid (risesB lessA (x.attrs.take (k + 1)) = true) := by rw [unhide hris]; simpa [Hid] using hz
        clear hz hris
        by_cases hn1 : num < -1000000000
        · go_quiet (fail)
          go_wp2
          go_ret
          exact ⟨retB (by rw [unhide HF (unhide Hb3 hn1)]), (hev.out.alloc _).drewN _⟩
        have hn1' : decide (num < -1000000000) = false := by simpa using hn1
        by_cases hn2 : 1000000000 < num
        · go_quiet (fail)
          go_wp2
          go_ret
          exact ⟨retB (by rw [unhide HF (unhide Hb4 hn2)]), (hev.out.alloc _).drewN _⟩
        have hn2' : decide (1000000000 < num) = false := by simpa using hn2
        by_cases hn3 : 20 < tx.size
        · have hn3' : (20 : Int) < (tx.size : Int) := by omega
          go_quiet (fail)
          go_wp2
          go_ret
          exact ⟨retB (by rw [unhide HF (unhide Hb5 hn3)]), (hev.out.alloc _).drewN _⟩
        have hn3' : decide ((20 : Int) < (tx.size : Int)) = false := by simp; omega
        go_quiet (fail)
        have hyes : ((t = true ∧ num = 0) ∨ (t = false ∧ tx.toList = [])) → (tx.data.toList.all fun c => isTextB c.toNat) = true → attrB ⟨nm, t, tx, num⟩ = true := fun hg hal =>
          attr_yes hw ha hn1 hn2 hn3 hg hal
        have Hyes := hide hyes; clear hyes
        have Hno := hide (@attr_no nm t tx num)
        have Hno2 := hide (@attr_no2 nm t tx num)
        by_cases hgood : (t = true ∧ num = 0) ∨ (t = false ∧ tx.toList = [])
        · have hgood' := hide hgood
          rcases hgood with ⟨rfl, rfl⟩ | ⟨rfl, htx⟩
          all_goals
            try have hem : tx.toList.isEmpty = true := by simp [htx]
            go_wp2_with fail
            go_loop [8] (fun i => ∃ m : Nat, m ≤ tx.size ∧ i = .int .i64 m ∧ Hid ((tx.data.toList.take m).all fun c => isTextB c.toNat)) (fun i => tx.size - (intOf i).toNat)
            case atStart => exact ⟨0, Nat.zero_le _, rfl, by simp [Hid]⟩
            case round =>
              obtain ⟨m, hm, rfl, hal⟩ := hrel
              by_cases hltm : m < tx.size
              · have hltm' : m < tx.data.toList.length := by rw [size_toList]; exact hltm
                have hsx := all_take_succ (p := fun c => isTextB (c.toNat : Int)) hltm' hal.out
                have hfx := all_false_of (p := fun c => isTextB (c.toNat : Int)) hltm'
                have hxx : tx.data.toList[m]?.getD 0 = tx[m] := by rw [List.getElem?_eq_getElem hltm']; rfl
                rw [hxx] at hsx hfx
                have Hsx := hide hsx; have Hfx := hide hfx; clear hsx hfx hxx
                by_cases hc10 : (tx[m].toNat : Int) = 10
                · have hb10 : ((tx[m].toNat : Int) != 10) = false := by simpa using hc10
                  have Hc := hide hc10; clear hc10
                  go_wp2
                  go_round
                  case rel => exact ⟨m + 1, by omega, by go_num, by rw [unhide Hsx]; exact isTextB_yes (.inl (unhide Hc))⟩
                  case measure => simp [intOf]; omega
                · have hb10 : ((tx[m].toNat : Int) != 10) = true := by simpa using hc10
                  go_wp2
                  all_goals first
                    | (go_ret; exact ⟨retB (by rw [unhide HF (unhide Hno hgood'.out (unhide Hfx (isTextB_no (by omega))))]), (hev.out.alloc _).drewN _⟩)
                    | (go_round
                       case rel => exact ⟨m + 1, by omega, by go_num, by rw [unhide Hsx]; exact isTextB_yes (by omega)⟩
                       case measure => simp [intOf]; omega)
              · have Hlx : Hid (tx.data.toList.take m = tx.data.toList) := List.take_of_length_le (by rw [size_toList]; omega)
                go_wp2
                go_roundw
                case rel => exact ⟨k + 1, by omega, by go_num, ⟨by rw [unhide Hs]; exact unhide Hyes hgood'.out (by rw [unhide Hlx] at hal; exact hal.out), unhide Hris⟩, (he.out.alloc _).drewN _⟩
                case measure => simp [intOf]; omega
        · have hbad := hide (unhide HF (unhide Hno2 hgood))
          cases t
          · have htx : ¬ tx.toList = [] := fun h => hgood (.inr ⟨rfl, h⟩)
            have hem : tx.toList.isEmpty = false := by simp [htx]
            clear hgood
            go_wp2
            go_ret
            exact ⟨retB (by rw [unhide hbad]), (hev.out.alloc _).drewN _⟩
          · have hnz : ¬ num = 0 := fun h => hgood (.inl ⟨rfl, h⟩)
            have hnz' : (num != 0) = true := by simpa using hnz
            clear hgood
            go_wp2
            go_ret
            exact ⟨retB (by rw [unhide hbad]), (hev.out.alloc _).drewN _⟩
    · have Hl : Hid (x.attrs.take k = x.attrs) := List.take_of_length_le (by omega)
      have Hfin : Hid (mayB x = (x.after.all idB && risesB lessI x.after)) := by
        have h := hall.out; rw [unhide Hl] at h; have := unhide H; rw [h.1, h.2] at this; simpa [Hid] using this
      clear hall Hl H
      obtain ⟨wo, rfl⟩ : ∃ wo : World, wo = wr := ⟨_, rfl⟩
      go_wp2_with fail
      go_loopw [9] (fun i wr => ∃ m : Nat, m ≤ x.after.length ∧ i = .int .i64 m ∧ Hid ((x.after.take m).all idB = true ∧ risesB lessI (x.after.take m) = true) ∧ Ext wo wr) (fun i _ => x.after.length - (intOf i).toNat)
      case atStart => exact ⟨0, Nat.zero_le _, rfl, by simp [Hid, risesB], Ext.refl _⟩
      case round =>
        obtain ⟨m, hml, rfl, hall, he2⟩ := hrel
        have f3 := he2.cells b3
        have hF2 := hF.out.ext ((((Ext.refl _).alloc _).trans he.out).trans he2)
        clear b2 b3
        by_cases hlt2 : m < x.after.length
        · obtain ⟨⟨a, cap, hav, hcap, hmax, hs⟩, hfew, hok⟩ := hF2
          obtain ⟨rfl, rfl⟩ : a = a3 ∧ cap = p3 := by simpa using hav.symm
          clear hav
          rcases hs with hs | ⟨b, off, rfl, hin⟩
          · rw [hs] at hlt2; simp at hlt2
          obtain ⟨y, hy⟩ := some_of_lt hlt2
          obtain ⟨g0, g1⟩ := hin m y hy
          have hoky := hok y (List.mem_of_getElem? hy)
          have o1 := hoky.1
          have o2 := hoky.2
          have Hs := hide (all_succ (p := idB) hy hall.out.1)
          have Hf := hide (all_no (p := idB) hy)
          have i2 : (m : Int) < (x.after.length : Int) := by omega
          have i4 : (0 : Int) ≤ (m : Int) := by omega
          replace he2 := hide he2
          replace hok := hide hok; replace hoky := hide hoky
          have Hy : Hid (idB y = (wordB y.kind.data.toList && wordB y.name.data.toList)) := rfl
          by_cases hm0 : m = 0
          · have e0 : ((m : Int) == 0) = true := by simpa using hm0
            have Hr : Hid (risesB lessI (x.after.take (m + 1)) = true) := by subst hm0; exact rises_one _
            replace hin := hide hin; replace hy := hide hy; replace hm0 := hide hm0
            go_wp2_with (go_at_call 64; refine (refWord _ _ (by omega)).mono ?_; rintro e w' ⟨rfl, rfl⟩)
            go_quiet (fail)
            cases hyk : wordB y.kind.data.toList
            · go_wp2
              go_ret
              exact ⟨retB (by rw [unhide Hfin, unhide Hf (by rw [unhide Hy, hyk]; rfl)]; rfl), ((((Ext.refl _).alloc _).trans he.out).trans he2.out).drewN _⟩
            cases hyn : wordB y.name.data.toList
            · go_wp2
              go_ret
              exact ⟨retB (by rw [unhide Hfin, unhide Hf (by rw [unhide Hy, hyk, hyn]; rfl)]; rfl), ((((Ext.refl _).alloc _).trans he.out).trans he2.out).drewN _⟩
            · go_wp2
              go_roundw
              case rel => exact ⟨m + 1, by omega, by go_num, ⟨by rw [unhide Hs, unhide Hy, hyk, hyn]; rfl, unhide Hr⟩, he2.out.drewN _⟩
              case measure => simp [intOf]; omega
          · obtain ⟨q, hq⟩ : ∃ q, m = q + 1 := ⟨m - 1, by omega⟩
            obtain ⟨z, hz⟩ := some_of_lt (show q < x.after.length by omega)
            obtain ⟨k0, k1⟩ := hin q z hz
            have e0 : ((m : Int) == 0) = false := by simpa using hm0
            have e1 : IntKind.i64.wrap ((m : Int) - 1) = (q : Int) := by rw [IntKind.wrap_i64]; omega
            have i1 : (0 : Int) ≤ (q : Int) := by omega
            have i3 : (q : Int) < (x.after.length : Int) := by omega
            have Hr : Hid (risesB lessI (x.after.take (m + 1)) = (risesB lessI (x.after.take m) && lessI z y)) := by subst hq; exact rises_take (lt := lessI) hz hy
            have Hg : Hid (lessI z y = false → risesB lessI x.after = false) := by subst hq; exact rises_no (lt := lessI) hz hy
            replace hin := hide hin; replace hy := hide hy; replace hm0 := hide hm0; replace hq := hide hq; replace hz := hide hz
            go_wp2_with (go_at_call 64; refine (refWord _ _ (by omega)).mono ?_; rintro e w' ⟨rfl, rfl⟩)
            go_region_held3 (fun w' => w'.cell? ⟨b, off + q * 2, none⟩ = some (.string z.kind) ∧ w'.cell? ⟨b, off + q * 2 + 1, none⟩ = some (.string z.name) ∧ w'.cell? ⟨b, off + m * 2, none⟩ = some (.string y.kind) ∧ w'.cell? ⟨b, off + m * 2 + 1, none⟩ = some (.string y.name) ∧ w'.cell? ⟨w.heap.size, 3, none⟩ = some (.slice (some ⟨b, off, none⟩) x.after.length cap)) (go_keep)
              ((go_at_call 34; refine (refLess z y _).mono ?_; rintro e w1 ⟨rfl, he1⟩; have q0 := he1.cells (p := ⟨b, off + q * 2, none⟩) (v := .string z.kind) (by simpa using k0); have q1 := he1.cells (p := ⟨b, off + q * 2 + 1, none⟩) (v := .string z.name) (by simpa using k1); have q2 := he1.cells (p := ⟨b, off + m * 2, none⟩) (v := .string y.kind) (by simpa using g0); have q3 := he1.cells (p := ⟨b, off + m * 2 + 1, none⟩) (v := .string y.name) (by simpa using g1); have q4 := he1.cells (p := ⟨w.heap.size, 3, none⟩) (v := .slice (some ⟨b, off, none⟩) x.after.length cap) (by simpa using f3); replace he1 := hide he1))
            cases hyk : wordB y.kind.data.toList
            · go_wp2
              go_ret
              exact ⟨retB (by rw [unhide Hfin, unhide Hf (by rw [unhide Hy, hyk]; rfl)]; rfl), ((((Ext.refl _).alloc _).trans he.out).trans he2.out).drew.trans he1.out⟩
            cases hyn : wordB y.name.data.toList
            · go_wp2
              go_ret
              exact ⟨retB (by rw [unhide Hfin, unhide Hf (by rw [unhide Hy, hyk, hyn]; rfl)]; rfl), ((((Ext.refl _).alloc _).trans he.out).trans he2.out).drew.trans he1.out⟩
            cases hyl : lessI z y
            · go_wp2
              go_ret
              exact ⟨retB (by rw [unhide Hfin, unhide Hg hyl]; simp), ((((Ext.refl _).alloc _).trans he.out).trans he2.out).drew.trans he1.out⟩
            · go_wp2
              go_roundw
              case rel => exact ⟨m + 1, by omega, by go_num, ⟨by rw [unhide Hs, unhide Hy, hyk, hyn]; rfl, by rw [unhide Hr, hyl, hall.out.2]; rfl⟩, he2.out.drew.trans he1.out⟩
              case measure => simp [intOf]; omega
        · have Hl : Hid (x.after.take m = x.after) := List.take_of_length_le (by omega)
          have Hf2 : Hid (mayB x = true) := by
            have h := hall.out; rw [unhide Hl] at h; have := unhide Hfin; rw [h.1, h.2] at this; simpa [Hid] using this
          replace he2 := hide he2
          clear hF2
          go_wp2_with fail
          go_ret
          exact ⟨retB (by rw [unhide Hf2]), (((Ext.refl _).alloc _).trans he.out).trans he2.out⟩
end Go.Proofs.YtodhhjlemmmjcaaGreat
