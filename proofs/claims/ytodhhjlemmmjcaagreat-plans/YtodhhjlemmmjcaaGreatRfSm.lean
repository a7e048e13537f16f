/-
  The reference: the same resource?
-/
import Derived.Test.YtodhhjlemmmjcaaGreatJ2
import Derived.Test.YtodhhjlemmmjcaaGreatJ9
import Derived.Deep.QuietTactic
import Derived.BigQuiet
import Derived.Deep.DeepCutAuto
import Derived.Deep.CutBlock
namespace Go.Proofs.YtodhhjlemmmjcaaGreat
open Go.RowKit

theorem ba_inj {a b : ByteArray} (h : a.toList = b.toList) : a = b := by
  rw [ByteArray.toList_eq, ByteArray.toList_eq] at h
  cases a with | mk x => cases b with | mk y => simp only at h; rw [Array.toList_inj.1 h]
theorem boxIs {w : World} {k : Nat} {a b c d : Value} {t : TypeId} {fz : Nat × Nat} (hk : w.heap[k]? = some (.cells #[a, b, c, d] t fz)) :
    w.cell? ⟨k, 0, none⟩ = some a ∧ w.cell? ⟨k, 1, none⟩ = some b ∧ w.cell? ⟨k, 2, none⟩ = some c ∧ w.cell? ⟨k, 3, none⟩ = some d := by
  refine ⟨?_, ?_, ?_, ?_⟩ <;> simp [World.cell?, hk]
theorem ext_at {w w' : World} {k : Nat} {o : Obj} (h : Ext w w') (hk : w.heap[k]? = some o) : w'.heap[k]? = some o := by
  rw [Below.block h _ (Array.getElem?_eq_some_iff.1 hk).1]; exact hk

theorem two_new (w : World) (o o' : Obj) : ((w.alloc o).alloc o').heap[w.heap.size + 1]? = some o' := by
  have := heap_alloc_new (w.alloc o) o'
  rw [show (w.alloc o).heap.size = w.heap.size + 1 by simp] at this
  exact this
set_option maxRecDepth 100000 in
set_option maxHeartbeats 1600000 in
theorem refSame (c2 c3 d2 d3 : Value) (x y : Resd) (w : World) (hx : ResV w c2 c3 x) (hy : ResV w d2 d3 y) :
    Calls Tryz.prog 14 #[.agg #[.string x.id.kind, .string x.id.name, c2, c3], .agg #[.string y.id.kind, .string y.id.name, d2, d3]] w fun e w' => ∃ b : Bool, e = .returned (.bool b) ∧ Hid (b = true ↔ x = y) ∧ Hid (Ext w w') := by
  obtain ⟨pa2, cap2, rfl⟩ := hx.attrs.form
  obtain ⟨pa3, cap3, rfl⟩ := hx.after.form
  obtain ⟨qa2, qap2, rfl⟩ := hy.attrs.form
  obtain ⟨qa3, qap3, rfl⟩ := hy.after.form
  replace hx := hide hx; replace hy := hide hy
  go_enter Tryz.func14, Tryz.ntmps14
  have B0 := heap_alloc_new w (.cells #[.string x.id.kind, .string x.id.name, .slice pa2 x.attrs.length cap2, .slice pa3 x.after.length cap3] 56)
  have X2 : Ext w ((w.alloc (.cells #[.string x.id.kind, .string x.id.name, .slice pa2 x.attrs.length cap2, .slice pa3 x.after.length cap3] 56)).alloc (.cells #[.string y.id.kind, .string y.id.name, .slice qa2 y.attrs.length qap2, .slice qa3 y.after.length qap3] 56)) := ((Ext.refl w).alloc _).alloc _
  have A2 := ext_at ((Ext.refl (w.alloc (.cells #[.string x.id.kind, .string x.id.name, .slice pa2 x.attrs.length cap2, .slice pa3 x.after.length cap3] 56))).alloc (.cells #[.string y.id.kind, .string y.id.name, .slice qa2 y.attrs.length qap2, .slice qa3 y.after.length qap3] 56)) B0
  have B2 := two_new w (.cells #[.string x.id.kind, .string x.id.name, .slice pa2 x.attrs.length cap2, .slice pa3 x.after.length cap3] 56) (.cells #[.string y.id.kind, .string y.id.name, .slice qa2 y.attrs.length qap2, .slice qa3 y.after.length qap3] 56)
  replace B0 := hide B0; replace X2 := hide X2
  obtain ⟨a0, a1, a2, a3⟩ := boxIs A2
  obtain ⟨b0, b1, b2, b3⟩ := boxIs B2
  replace A2 := hide A2; replace B2 := hide B2
  by_cases e1 : x.id.kind = y.id.kind
  · by_cases e2 : x.id.name = y.id.name
    · by_cases l1 : x.attrs.length = y.attrs.length
      · by_cases l2 : x.after.length = y.after.length
        · have l1b : ((x.attrs.length : Int) != (y.attrs.length : Int)) = false := by simp [l1]
          have l2b : ((x.after.length : Int) != (y.after.length : Int)) = false := by simp [l2]
          have e5 : x.id.kind.toList = y.id.kind.toList := by rw [e1]
          have e6 : x.id.name.toList = y.id.name.toList := by rw [e2]
          have hid : Hid (x.id = y.id) := by show _ = _; cases hq : x.id; cases hr : y.id; rw [hq, hr] at e1 e2; dsimp only at e1 e2; rw [e1, e2]
          replace l1 := hide l1; replace l2 := hide l2; replace e1 := hide e1; replace e2 := hide e2
          go_upto_block 0 with fail
          generalize hw2 : World.alloc (World.alloc w _) _ = w2 at *
          clear hw2
          clear a0 a1 a2 a3 b0 b1 b2 b3
          go_cut [] (fun wx => Hid (x.attrs = y.attrs) ∧ Hid (Ext w2 wx))
          case first =>
            go_wp2_with fail
            go_loopw [5] (fun kv wr => ∃ k : Nat, k ≤ x.attrs.length ∧ kv = .int .i64 k ∧ Hid (∀ t : Nat, t < k → x.attrs[t]? = y.attrs[t]?) ∧ Hid (Ext w2 wr)) (fun kv _ => x.attrs.length - (intOf kv).toNat)
            case atStart => exact ⟨0, Nat.zero_le _, rfl, fun _ h => absurd h (by omega), Ext.refl _⟩
            case round =>
              obtain ⟨k, hk, rfl, hsame, hxr⟩ := hrel
              have a2 := (boxIs (ext_at hxr.out A2.out)).2.2.1; have b2 := (boxIs (ext_at hxr.out B2.out)).2.2.1
              by_cases hlt : k < x.attrs.length
              · obtain ⟨xa, hxa⟩ := some_of_lt hlt
                obtain ⟨ya, hya⟩ := some_of_lt (l := y.attrs) (k := k) (by rw [← l1.out]; exact hlt)
                obtain ⟨_, _, hxe, _, _, hxin⟩ := hx.out.attrs.shape
                obtain ⟨_, _, hye, _, _, hyin⟩ := hy.out.attrs.shape
                cases hxe; cases hye
                rcases hxin with hh | ⟨bx, ox, rfl, hxin⟩
                · rw [hh] at hlt; simp at hlt
                rcases hyin with hh | ⟨by_, oy, rfl, hyin⟩
                · rw [hh] at hya; simp at hya
                obtain ⟨c0, c1, c2, c3⟩ := hxin k xa hxa
                obtain ⟨d0, d1, d2, d3⟩ := hyin k ya hya
                replace c0 := (X2.out.trans hxr.out).cells c0; replace c1 := (X2.out.trans hxr.out).cells c1; replace c2 := (X2.out.trans hxr.out).cells c2; replace c3 := (X2.out.trans hxr.out).cells c3
                replace d0 := (X2.out.trans hxr.out).cells d0; replace d1 := (X2.out.trans hxr.out).cells d1; replace d2 := (X2.out.trans hxr.out).cells d2; replace d3 := (X2.out.trans hxr.out).cells d3
                have k2 : (k : Int) < (x.attrs.length : Int) := by omega
                have k3 : (k : Int) < (y.attrs.length : Int) := by have := l1.out; omega
                have k4 : (0 : Int) ≤ (k : Int) := by omega
                replace hxa := hide hxa; replace hya := hide hya; replace hxin := hide hxin; replace hyin := hide hyin
                by_cases h0 : xa.name = ya.name
                · by_cases h1 : xa.isText = ya.isText
                  · by_cases h2 : xa.text = ya.text
                    · by_cases h3 : xa.number = ya.number
                      · have m0 : xa.name.toList = ya.name.toList := by rw [h0]
                        have m1 : (xa.isText == ya.isText) = true := by simp [h1]
                        have m2 : xa.text.toList = ya.text.toList := by rw [h2]
                        have m3 : (xa.number == ya.number) = true := by simp [h3]
                        have hxy : Hid (xa = ya) := by show xa = ya; cases xa; cases ya; simp only at h0 h1 h2 h3; subst h0 h1 h2 h3; rfl
                        replace h0 := hide h0; replace h1 := hide h1; replace h2 := hide h2; replace h3 := hide h3
                        go_wp2_with fail
                        go_quiet (fail)
                        go_wp2_with fail
                        go_roundw
                        case rel =>
                          refine ⟨k + 1, by omega, by go_num, fun t ht => ?_, hxr.out.drewN _⟩
                          by_cases htk : t = k
                          · subst htk; rw [hxa.out, hya.out, hxy.out]
                          · exact hsame.out t (by omega)
                        case measure => simp [intOf]; omega
                      · have hn := h3
                        have m0 : xa.name.toList = ya.name.toList := by rw [h0]
                        have m1 : (xa.isText == ya.isText) = true := by simp [h1]
                        have m2 : xa.text.toList = ya.text.toList := by rw [h2]
                        have n2 : (xa.number == ya.number) = false := by simpa using hn
                        have hne : Hid (¬ x = y) := by
                          intro h
                          subst h
                          have hab : xa = ya := Option.some.inj (hxa.out.symm.trans hya.out)
                          exact hn (by rw [hab])
                        replace hn := hide hn; replace h0 := hide h0; replace h1 := hide h1; replace h2 := hide h2; replace h3 := hide h3
                        go_wp2_with fail
                        go_quiet (fail)
                        go_wp2_with fail
                        go_ret
                        exact ⟨false, rfl, ⟨fun h => (by cases h), fun h => absurd h hne.out⟩, (X2.out.trans hxr.out).drewN _⟩
                    · have hn := h2
                      have m0 : xa.name.toList = ya.name.toList := by rw [h0]
                      have m1 : (xa.isText == ya.isText) = true := by simp [h1]
                      have n1 : ¬ xa.text.toList = ya.text.toList := fun h => hn (ba_inj h)
                      have n2 : (xa.text.toList == ya.text.toList) = false := by simpa using n1
                      have hne : Hid (¬ x = y) := by
                        intro h
                        subst h
                        have hab : xa = ya := Option.some.inj (hxa.out.symm.trans hya.out)
                        exact hn (by rw [hab])
                      replace hn := hide hn; replace h0 := hide h0; replace h1 := hide h1; replace h2 := hide h2
                      go_wp2_with fail
                      go_quiet (fail)
                      go_wp2_with fail
                      go_ret
                      exact ⟨false, rfl, ⟨fun h => (by cases h), fun h => absurd h hne.out⟩, (X2.out.trans hxr.out).drewN _⟩
                  · have hn := h1
                    have m0 : xa.name.toList = ya.name.toList := by rw [h0]
                    have n2 : (xa.isText == ya.isText) = false := by simpa using hn
                    have hne : Hid (¬ x = y) := by
                      intro h
                      subst h
                      have hab : xa = ya := Option.some.inj (hxa.out.symm.trans hya.out)
                      exact hn (by rw [hab])
                    replace hn := hide hn; replace h0 := hide h0; replace h1 := hide h1
                    go_wp2_with fail
                    go_quiet (fail)
                    go_wp2_with fail
                    go_ret
                    exact ⟨false, rfl, ⟨fun h => (by cases h), fun h => absurd h hne.out⟩, (X2.out.trans hxr.out).drewN _⟩
                · have hn := h0
                  have n1 : ¬ xa.name.toList = ya.name.toList := fun h => hn (ba_inj h)
                  have n2 : (xa.name.toList == ya.name.toList) = false := by simpa using n1
                  have hne : Hid (¬ x = y) := by
                    intro h
                    subst h
                    have hab : xa = ya := Option.some.inj (hxa.out.symm.trans hya.out)
                    exact hn (by rw [hab])
                  replace hn := hide hn; replace h0 := hide h0
                  go_wp2_with fail
                  go_quiet (fail)
                  go_wp2_with fail
                  go_ret
                  exact ⟨false, rfl, ⟨fun h => (by cases h), fun h => absurd h hne.out⟩, (X2.out.trans hxr.out).drewN _⟩
              · have hall : Hid (x.attrs = y.attrs) := by
                  show _ = _
                  refine List.ext_getElem? fun t => ?_
                  by_cases ht : t < k
                  · exact hsame.out t ht
                  · rw [List.getElem?_eq_none (by omega), List.getElem?_eq_none (by have := l1.out; omega)]
                go_wp2_with fail
                go_meet
                exact ⟨hall, hxr⟩
          case rest =>
            obtain ⟨hat, hx3⟩ := hcut
            obtain ⟨w3, rfl⟩ : ∃ w3 : World, w3 = wc := ⟨_, rfl⟩
            go_wp2_with fail
            go_loopw [6] (fun kv wr => ∃ k : Nat, k ≤ x.after.length ∧ kv = .int .i64 k ∧ Hid (∀ t : Nat, t < k → x.after[t]? = y.after[t]?) ∧ Hid (Ext w3 wr)) (fun kv _ => x.after.length - (intOf kv).toNat)
            case atStart => exact ⟨0, Nat.zero_le _, rfl, fun _ h => absurd h (by omega), Ext.refl _⟩
            case round =>
              obtain ⟨k, hk, rfl, hsame, hxr⟩ := hrel
              have a3 := (boxIs (ext_at (hx3.out.trans hxr.out) A2.out)).2.2.2; have b3 := (boxIs (ext_at (hx3.out.trans hxr.out) B2.out)).2.2.2
              by_cases hlt : k < x.after.length
              · obtain ⟨xa, hxa⟩ := some_of_lt hlt
                obtain ⟨ya, hya⟩ := some_of_lt (l := y.after) (k := k) (by rw [← l2.out]; exact hlt)
                obtain ⟨_, _, hxe, _, _, hxin⟩ := hx.out.after.shape
                obtain ⟨_, _, hye, _, _, hyin⟩ := hy.out.after.shape
                cases hxe; cases hye
                rcases hxin with hh | ⟨bx, ox, rfl, hxin⟩
                · rw [hh] at hlt; simp at hlt
                rcases hyin with hh | ⟨by_, oy, rfl, hyin⟩
                · rw [hh] at hya; simp at hya
                obtain ⟨c0, c1⟩ := hxin k xa hxa
                obtain ⟨d0, d1⟩ := hyin k ya hya
                replace c0 := (X2.out.trans (hx3.out.trans hxr.out)).cells c0; replace c1 := (X2.out.trans (hx3.out.trans hxr.out)).cells c1
                replace d0 := (X2.out.trans (hx3.out.trans hxr.out)).cells d0; replace d1 := (X2.out.trans (hx3.out.trans hxr.out)).cells d1
                have k2 : (k : Int) < (x.after.length : Int) := by omega
                have k3 : (k : Int) < (y.after.length : Int) := by have := l2.out; omega
                have k4 : (0 : Int) ≤ (k : Int) := by omega
                replace hxa := hide hxa; replace hya := hide hya; replace hxin := hide hxin; replace hyin := hide hyin
                by_cases h0 : xa.kind = ya.kind
                · by_cases h1 : xa.name = ya.name
                  · have m0 : xa.kind.toList = ya.kind.toList := by rw [h0]
                    have m1 : xa.name.toList = ya.name.toList := by rw [h1]
                    have hxy : Hid (xa = ya) := by show xa = ya; cases xa; cases ya; simp only at h0 h1; subst h0 h1; rfl
                    replace h0 := hide h0; replace h1 := hide h1
                    go_wp2_with fail
                    go_quiet (fail)
                    go_wp2_with fail
                    go_roundw
                    case rel =>
                      refine ⟨k + 1, by omega, by go_num, fun t ht => ?_, hxr.out.drewN _⟩
                      by_cases htk : t = k
                      · subst htk; rw [hxa.out, hya.out, hxy.out]
                      · exact hsame.out t (by omega)
                    case measure => simp [intOf]; omega
                  · have hn := h1
                    have m0 : xa.kind.toList = ya.kind.toList := by rw [h0]
                    have n1 : ¬ xa.name.toList = ya.name.toList := fun h => hn (ba_inj h)
                    have n2 : (xa.name.toList == ya.name.toList) = false := by simpa using n1
                    have hne : Hid (¬ x = y) := by
                      intro h
                      subst h
                      have hab : xa = ya := Option.some.inj (hxa.out.symm.trans hya.out)
                      exact hn (by rw [hab])
                    replace hn := hide hn; replace h0 := hide h0; replace h1 := hide h1
                    go_wp2_with fail
                    go_quiet (fail)
                    go_wp2_with fail
                    go_ret
                    exact ⟨false, rfl, ⟨fun h => (by cases h), fun h => absurd h hne.out⟩, (X2.out.trans (hx3.out.trans hxr.out)).drewN _⟩
                · have hn := h0
                  have n1 : ¬ xa.kind.toList = ya.kind.toList := fun h => hn (ba_inj h)
                  have n2 : (xa.kind.toList == ya.kind.toList) = false := by simpa using n1
                  have hne : Hid (¬ x = y) := by
                    intro h
                    subst h
                    have hab : xa = ya := Option.some.inj (hxa.out.symm.trans hya.out)
                    exact hn (by rw [hab])
                  replace hn := hide hn; replace h0 := hide h0
                  go_wp2_with fail
                  go_quiet (fail)
                  go_wp2_with fail
                  go_ret
                  exact ⟨false, rfl, ⟨fun h => (by cases h), fun h => absurd h hne.out⟩, (X2.out.trans (hx3.out.trans hxr.out)).drewN _⟩
              · have hall : Hid (x.after = y.after) := by
                  show _ = _
                  refine List.ext_getElem? fun t => ?_
                  by_cases ht : t < k
                  · exact hsame.out t ht
                  · rw [List.getElem?_eq_none (by omega), List.getElem?_eq_none (by have := l2.out; omega)]
                have hxy : Hid (x = y) := by
                  show x = y
                  have h1 := hid.out; have h2 := hat.out; have h3 := hall.out
                  cases x; cases y; simp only at h1 h2 h3; rw [h1, h2, h3]
                go_wp2_with fail
                go_ret
                exact ⟨true, rfl, ⟨fun _ => hxy.out, fun _ => rfl⟩, X2.out.trans (hx3.out.trans hxr.out)⟩
        · have l1b : ((x.attrs.length : Int) != (y.attrs.length : Int)) = false := by simp [l1]
          have l2b : ((x.after.length : Int) != (y.after.length : Int)) = true := by simp; omega
          have e5 : x.id.kind.toList = y.id.kind.toList := by rw [e1]
          have e6 : x.id.name.toList = y.id.name.toList := by rw [e2]
          have hne : Hid (¬ x = y) := fun h => l2 (by rw [h])
          replace l1 := hide l1; replace l2 := hide l2; replace e1 := hide e1; replace e2 := hide e2
          go_wp2_with fail
          go_ret
          exact ⟨false, rfl, ⟨fun h => (by cases h), fun h => absurd h hne.out⟩, ((Ext.refl w).alloc _).alloc _⟩
      · have l1b : ((x.attrs.length : Int) != (y.attrs.length : Int)) = true := by simp; omega
        have e5 : x.id.kind.toList = y.id.kind.toList := by rw [e1]
        have e6 : x.id.name.toList = y.id.name.toList := by rw [e2]
        have hne : Hid (¬ x = y) := fun h => l1 (by rw [h])
        replace l1 := hide l1; replace e1 := hide e1; replace e2 := hide e2
        go_wp2_with fail
        go_ret
        exact ⟨false, rfl, ⟨fun h => (by cases h), fun h => absurd h hne.out⟩, ((Ext.refl w).alloc _).alloc _⟩
    · have e3 : ¬ x.id.name.toList = y.id.name.toList := fun h => e2 (ba_inj h)
      have e4 : (x.id.name.toList == y.id.name.toList) = false := by simpa using e3
      have e5 : x.id.kind.toList = y.id.kind.toList := by rw [e1]
      have hne : Hid (¬ x = y) := fun h => e2 (by rw [h])
      replace e1 := hide e1; replace e2 := hide e2
      go_wp2_with fail
      go_ret
      exact ⟨false, rfl, ⟨fun h => (by cases h), fun h => absurd h hne.out⟩, ((Ext.refl w).alloc _).alloc _⟩
  · have e3 : ¬ x.id.kind.toList = y.id.kind.toList := fun h => e1 (ba_inj h)
    have e4 : (x.id.kind.toList == y.id.kind.toList) = false := by simpa using e3
    have hne : Hid (¬ x = y) := fun h => e1 (by rw [h])
    replace e1 := hide e1
    go_wp2_with fail
    go_ret
    exact ⟨false, rfl, ⟨fun h => (by cases h), fun h => absurd h hne.out⟩, ((Ext.refl w).alloc _).alloc _⟩
end Go.Proofs.YtodhhjlemmmjcaaGreat
