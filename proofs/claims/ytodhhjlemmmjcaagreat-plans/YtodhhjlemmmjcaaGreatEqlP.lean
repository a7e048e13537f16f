/-
  The same lists, the same resource: as the program tells.
-/
import Derived.Test.YtodhhjlemmmjcaaGreatRfSm
namespace Go.Proofs.YtodhhjlemmmjcaaGreat
open Go.RowKit

set_option maxRecDepth 100000 in
set_option maxHeartbeats 1600000 in
theorem eqAttrs (u v : Value) (l l' : List Attrd) (w : World) (hu : AttrsV w u l) (hv : AttrsV w v l') :
    Calls Tryz.prog 80 #[u, v] w fun e w' => ∃ b : Bool, e = .returned (.bool b) ∧ Hid (b = true ↔ l = l') ∧ Hid (Ext w w') := by
  obtain ⟨pa, cap, rfl, c1, c2, hxin⟩ := hu.shape
  obtain ⟨pb, cap', rfl, c3, c4, hyin⟩ := hv.shape
  have n1 := hu.few
  have n2 := hv.few
  replace hu := hide hu; replace hv := hide hv; replace hxin := hide hxin; replace hyin := hide hyin
  go_enter Tryz.func80, Tryz.ntmps80
  by_cases l1 : l.length = l'.length
  · have l1b : ((l.length : Int) != (l'.length : Int)) = false := by simp [l1]
    replace l1 := hide l1
    go_wp2_with fail
    go_loopw [13] (fun kv wr => ∃ k : Nat, k ≤ l.length ∧ kv = .int .i64 k ∧ Hid (∀ t : Nat, t < k → l[t]? = l'[t]?) ∧ Hid (Ext w wr)) (fun kv _ => l.length - (intOf kv).toNat)
    case atStart => exact ⟨0, Nat.zero_le _, rfl, fun _ h => absurd h (by omega), Ext.refl _⟩
    case round =>
      obtain ⟨k, hk, rfl, hsame, hxr⟩ := hrel
      by_cases hlt : k < l.length
      · obtain ⟨xa, hxa⟩ := some_of_lt hlt
        obtain ⟨ya, hya⟩ := some_of_lt (l := l') (k := k) (by rw [← l1.out]; exact hlt)
        rcases hxin.out with hh | ⟨bx, ox, rfl, hxi⟩
        · rw [hh] at hlt; simp at hlt
        rcases hyin.out with hh | ⟨by_, oy, rfl, hyi⟩
        · rw [hh] at hya; simp at hya
        obtain ⟨p0, p1, p2, p3⟩ := hxi k xa hxa
        obtain ⟨q0, q1, q2, q3⟩ := hyi k ya hya
        replace p0 := hxr.out.cells p0; replace p1 := hxr.out.cells p1; replace p2 := hxr.out.cells p2; replace p3 := hxr.out.cells p3
        replace q0 := hxr.out.cells q0; replace q1 := hxr.out.cells q1; replace q2 := hxr.out.cells q2; replace q3 := hxr.out.cells q3
        have k2 : (k : Int) < (l.length : Int) := by omega
        have k3 : (k : Int) < (l'.length : Int) := by have := l1.out; omega
        have k4 : (0 : Int) ≤ (k : Int) := by omega
        replace hxa := hide hxa; replace hya := hide hya; replace hxi := hide hxi; replace hyi := hide hyi
        by_cases h_name : xa.name = ya.name
        · by_cases h_isText : xa.isText = ya.isText
          · by_cases h_text : xa.text = ya.text
            · by_cases h_number : xa.number = ya.number
              · have m_name : xa.name.toList = ya.name.toList := by rw [h_name]
                have m_isText : (xa.isText == ya.isText) = true := by simp [h_isText]
                have m_text : xa.text.toList = ya.text.toList := by rw [h_text]
                have m_number : (xa.number == ya.number) = true := by simp [h_number]
                have hxy : Hid (xa = ya) := by show xa = ya; cases xa; cases ya; simp only at h_name h_isText h_text h_number; subst h_name h_isText h_text h_number; rfl
                replace h_name := hide h_name; replace h_isText := hide h_isText; replace h_text := hide h_text; replace h_number := hide h_number
                go_wp2_with fail
                go_quiet (fail)
                go_wp2_with fail
                go_roundw
                case rel =>
                  refine ⟨k + 1, by omega, by go_num, fun t ht => ?_, hxr.out.drewN _⟩
                  by_cases htk : t = k
                  · subst htk; rw [hxa.out, hya.out, hxy.out]
                  · exact hsame.out t (by omega)
                case measure => simp [intOf]; omega
              · have hn := h_number
                have m_name : xa.name.toList = ya.name.toList := by rw [h_name]
                have m_isText : (xa.isText == ya.isText) = true := by simp [h_isText]
                have m_text : xa.text.toList = ya.text.toList := by rw [h_text]
                have n_2 : (xa.number == ya.number) = false := by simpa using hn
                have hne : Hid (¬ l = l') := fun h => hn (by have hab : xa = ya := Option.some.inj (hxa.out.symm.trans ((congrArg (·[k]?) h).trans hya.out)); rw [hab])
                replace hn := hide hn; replace h_number := hide h_number; replace h_name := hide h_name; replace h_isText := hide h_isText; replace h_text := hide h_text
                go_wp2_with fail
                go_quiet (fail)
                go_wp2_with fail
                go_ret
                exact ⟨false, rfl, ⟨fun h => (by cases h), fun h => absurd h hne.out⟩, hxr.out.drewN _⟩
            · have hn := h_text
              have m_name : xa.name.toList = ya.name.toList := by rw [h_name]
              have m_isText : (xa.isText == ya.isText) = true := by simp [h_isText]
              have n_1 : ¬ xa.text.toList = ya.text.toList := fun h => hn (ba_inj h)
              have n_2 : (xa.text.toList == ya.text.toList) = false := by simpa using n_1
              have hne : Hid (¬ l = l') := fun h => hn (by have hab : xa = ya := Option.some.inj (hxa.out.symm.trans ((congrArg (·[k]?) h).trans hya.out)); rw [hab])
              replace hn := hide hn; replace h_text := hide h_text; replace h_name := hide h_name; replace h_isText := hide h_isText
              go_wp2_with fail
              go_quiet (fail)
              go_wp2_with fail
              go_ret
              exact ⟨false, rfl, ⟨fun h => (by cases h), fun h => absurd h hne.out⟩, hxr.out.drewN _⟩
          · have hn := h_isText
            have m_name : xa.name.toList = ya.name.toList := by rw [h_name]
            have n_2 : (xa.isText == ya.isText) = false := by simpa using hn
            have hne : Hid (¬ l = l') := fun h => hn (by have hab : xa = ya := Option.some.inj (hxa.out.symm.trans ((congrArg (·[k]?) h).trans hya.out)); rw [hab])
            replace hn := hide hn; replace h_isText := hide h_isText; replace h_name := hide h_name
            go_wp2_with fail
            go_quiet (fail)
            go_wp2_with fail
            go_ret
            exact ⟨false, rfl, ⟨fun h => (by cases h), fun h => absurd h hne.out⟩, hxr.out.drewN _⟩
        · have hn := h_name
          have n_1 : ¬ xa.name.toList = ya.name.toList := fun h => hn (ba_inj h)
          have n_2 : (xa.name.toList == ya.name.toList) = false := by simpa using n_1
          have hne : Hid (¬ l = l') := fun h => hn (by have hab : xa = ya := Option.some.inj (hxa.out.symm.trans ((congrArg (·[k]?) h).trans hya.out)); rw [hab])
          replace hn := hide hn; replace h_name := hide h_name
          go_wp2_with fail
          go_quiet (fail)
          go_wp2_with fail
          go_ret
          exact ⟨false, rfl, ⟨fun h => (by cases h), fun h => absurd h hne.out⟩, hxr.out.drewN _⟩
      · have hall : Hid (l = l') := by
          show _ = _
          refine List.ext_getElem? fun t => ?_
          by_cases ht : t < k
          · exact hsame.out t ht
          · rw [List.getElem?_eq_none (by omega), List.getElem?_eq_none (by have := l1.out; omega)]
        go_wp2_with fail
        go_ret
        exact ⟨true, rfl, ⟨fun _ => hall.out, fun _ => rfl⟩, hxr⟩
  · have l1b : ((l.length : Int) != (l'.length : Int)) = true := by simp; omega
    have hne : Hid (¬ l = l') := fun h => l1 (by rw [h])
    replace l1 := hide l1
    go_wp2_with fail
    go_ret
    exact ⟨false, rfl, ⟨fun h => (by cases h), fun h => absurd h hne.out⟩, Ext.refl _⟩

set_option maxRecDepth 100000 in
set_option maxHeartbeats 1600000 in
theorem eqIds (u v : Value) (l l' : List IDd) (w : World) (hu : IDsV w u l) (hv : IDsV w v l') :
    Calls Tryz.prog 81 #[u, v] w fun e w' => ∃ b : Bool, e = .returned (.bool b) ∧ Hid (b = true ↔ l = l') ∧ Hid (Ext w w') := by
  obtain ⟨pa, cap, rfl, c1, c2, hxin⟩ := hu.shape
  obtain ⟨pb, cap', rfl, c3, c4, hyin⟩ := hv.shape
  have n1 := hu.few
  have n2 := hv.few
  replace hu := hide hu; replace hv := hide hv; replace hxin := hide hxin; replace hyin := hide hyin
  go_enter Tryz.func81, Tryz.ntmps81
  by_cases l1 : l.length = l'.length
  · have l1b : ((l.length : Int) != (l'.length : Int)) = false := by simp [l1]
    replace l1 := hide l1
    go_wp2_with fail
    go_loopw [13] (fun kv wr => ∃ k : Nat, k ≤ l.length ∧ kv = .int .i64 k ∧ Hid (∀ t : Nat, t < k → l[t]? = l'[t]?) ∧ Hid (Ext w wr)) (fun kv _ => l.length - (intOf kv).toNat)
    case atStart => exact ⟨0, Nat.zero_le _, rfl, fun _ h => absurd h (by omega), Ext.refl _⟩
    case round =>
      obtain ⟨k, hk, rfl, hsame, hxr⟩ := hrel
      by_cases hlt : k < l.length
      · obtain ⟨xa, hxa⟩ := some_of_lt hlt
        obtain ⟨ya, hya⟩ := some_of_lt (l := l') (k := k) (by rw [← l1.out]; exact hlt)
        rcases hxin.out with hh | ⟨bx, ox, rfl, hxi⟩
        · rw [hh] at hlt; simp at hlt
        rcases hyin.out with hh | ⟨by_, oy, rfl, hyi⟩
        · rw [hh] at hya; simp at hya
        obtain ⟨p0, p1⟩ := hxi k xa hxa
        obtain ⟨q0, q1⟩ := hyi k ya hya
        replace p0 := hxr.out.cells p0; replace p1 := hxr.out.cells p1
        replace q0 := hxr.out.cells q0; replace q1 := hxr.out.cells q1
        have k2 : (k : Int) < (l.length : Int) := by omega
        have k3 : (k : Int) < (l'.length : Int) := by have := l1.out; omega
        have k4 : (0 : Int) ≤ (k : Int) := by omega
        replace hxa := hide hxa; replace hya := hide hya; replace hxi := hide hxi; replace hyi := hide hyi
        by_cases h_kind : xa.kind = ya.kind
        · by_cases h_name : xa.name = ya.name
          · have m_kind : xa.kind.toList = ya.kind.toList := by rw [h_kind]
            have m_name : xa.name.toList = ya.name.toList := by rw [h_name]
            have hxy : Hid (xa = ya) := by show xa = ya; cases xa; cases ya; simp only at h_kind h_name; subst h_kind h_name; rfl
            replace h_kind := hide h_kind; replace h_name := hide h_name
            go_wp2_with fail
            go_quiet (fail)
            go_wp2_with fail
            go_roundw
            case rel =>
              refine ⟨k + 1, by omega, by go_num, fun t ht => ?_, hxr.out.drewN _⟩
              by_cases htk : t = k
              · subst htk; rw [hxa.out, hya.out, hxy.out]
              · exact hsame.out t (by omega)
            case measure => simp [intOf]; omega
          · have hn := h_name
            have m_kind : xa.kind.toList = ya.kind.toList := by rw [h_kind]
            have n_1 : ¬ xa.name.toList = ya.name.toList := fun h => hn (ba_inj h)
            have n_2 : (xa.name.toList == ya.name.toList) = false := by simpa using n_1
            have hne : Hid (¬ l = l') := fun h => hn (by have hab : xa = ya := Option.some.inj (hxa.out.symm.trans ((congrArg (·[k]?) h).trans hya.out)); rw [hab])
            replace hn := hide hn; replace h_name := hide h_name; replace h_kind := hide h_kind
            go_wp2_with fail
            go_quiet (fail)
            go_wp2_with fail
            go_ret
            exact ⟨false, rfl, ⟨fun h => (by cases h), fun h => absurd h hne.out⟩, hxr.out.drewN _⟩
        · have hn := h_kind
          have n_1 : ¬ xa.kind.toList = ya.kind.toList := fun h => hn (ba_inj h)
          have n_2 : (xa.kind.toList == ya.kind.toList) = false := by simpa using n_1
          have hne : Hid (¬ l = l') := fun h => hn (by have hab : xa = ya := Option.some.inj (hxa.out.symm.trans ((congrArg (·[k]?) h).trans hya.out)); rw [hab])
          replace hn := hide hn; replace h_kind := hide h_kind
          go_wp2_with fail
          go_quiet (fail)
          go_wp2_with fail
          go_ret
          exact ⟨false, rfl, ⟨fun h => (by cases h), fun h => absurd h hne.out⟩, hxr.out.drewN _⟩
      · have hall : Hid (l = l') := by
          show _ = _
          refine List.ext_getElem? fun t => ?_
          by_cases ht : t < k
          · exact hsame.out t ht
          · rw [List.getElem?_eq_none (by omega), List.getElem?_eq_none (by have := l1.out; omega)]
        go_wp2_with fail
        go_ret
        exact ⟨true, rfl, ⟨fun _ => hall.out, fun _ => rfl⟩, hxr⟩
  · have l1b : ((l.length : Int) != (l'.length : Int)) = true := by simp; omega
    have hne : Hid (¬ l = l') := fun h => l1 (by rw [h])
    replace l1 := hide l1
    go_wp2_with fail
    go_ret
    exact ⟨false, rfl, ⟨fun h => (by cases h), fun h => absurd h hne.out⟩, Ext.refl _⟩

set_option maxRecDepth 100000 in
set_option maxHeartbeats 1600000 in
theorem sameP (c2 c3 d2 d3 : Value) (x y : Resd) (w : World) (hx : ResV w c2 c3 x) (hy : ResV w d2 d3 y) :
    Calls Tryz.prog 47 #[.agg #[.string x.id.kind, .string x.id.name, c2, c3], .agg #[.string y.id.kind, .string y.id.name, d2, d3]] w fun e w' => ∃ b : Bool, e = .returned (.bool b) ∧ Hid (b = true ↔ x = y) ∧ Hid (Ext w w') := by
  obtain ⟨pa2, cap2, rfl⟩ := hx.attrs.form
  obtain ⟨pa3, cap3, rfl⟩ := hx.after.form
  obtain ⟨qa2, qap2, rfl⟩ := hy.attrs.form
  obtain ⟨qa3, qap3, rfl⟩ := hy.after.form
  replace hx := hide hx; replace hy := hide hy
  go_enter Tryz.func47, Tryz.ntmps47
  have B0 := heap_alloc_new w (.cells #[.string x.id.kind, .string x.id.name, .slice pa2 x.attrs.length cap2, .slice pa3 x.after.length cap3] 56)
  have X2 : Ext w ((w.alloc (.cells #[.string x.id.kind, .string x.id.name, .slice pa2 x.attrs.length cap2, .slice pa3 x.after.length cap3] 56)).alloc (.cells #[.string y.id.kind, .string y.id.name, .slice qa2 y.attrs.length qap2, .slice qa3 y.after.length qap3] 56)) := ((Ext.refl w).alloc _).alloc _
  have A2 := ext_at ((Ext.refl (w.alloc (.cells #[.string x.id.kind, .string x.id.name, .slice pa2 x.attrs.length cap2, .slice pa3 x.after.length cap3] 56))).alloc (.cells #[.string y.id.kind, .string y.id.name, .slice qa2 y.attrs.length qap2, .slice qa3 y.after.length qap3] 56)) B0
  have B2 := two_new w (.cells #[.string x.id.kind, .string x.id.name, .slice pa2 x.attrs.length cap2, .slice pa3 x.after.length cap3] 56) (.cells #[.string y.id.kind, .string y.id.name, .slice qa2 y.attrs.length qap2, .slice qa3 y.after.length qap3] 56)
  replace B0 := hide B0; replace X2 := hide X2
  obtain ⟨a0, a1, a2, a3⟩ := boxIs A2
  obtain ⟨b0, b1, b2, b3⟩ := boxIs B2
  replace A2 := hide A2; replace B2 := hide B2
  by_cases e1 : x.id.kind = y.id.kind
  · by_cases e2 : x.id.name = y.id.name
    · have e5 : x.id.kind.toList = y.id.kind.toList := by rw [e1]
      have e6 : x.id.name.toList = y.id.name.toList := by rw [e2]
      have hid : Hid (x.id = y.id) := by show _ = _; cases hq : x.id; cases hr : y.id; rw [hq, hr] at e1 e2; dsimp only at e1 e2; rw [e1, e2]
      replace e1 := hide e1; replace e2 := hide e2
      go_wp2_with fail
      refine (eqAttrs _ _ x.attrs y.attrs _ (hx.out.attrs.ext X2.out) (hy.out.attrs.ext X2.out)).mono ?_
      rintro e3 w3 ⟨b3', rfl, hb3, he3⟩
      have A3 := ext_at he3.out A2.out
      have B3 := ext_at he3.out B2.out
      have a3' := (boxIs A3).2.2.2
      have b3'' := (boxIs B3).2.2.2
      replace A3 := hide A3; replace B3 := hide B3
      clear a0 a1 a2 a3 b0 b1 b2 b3
      cases b3' with
      | true =>
        have hat : Hid (x.attrs = y.attrs) := hb3.out.1 rfl
        go_wp2_with fail
        refine (eqIds _ _ x.after y.after _ (hx.out.after.ext (X2.out.trans he3.out)) (hy.out.after.ext (X2.out.trans he3.out))).mono ?_
        rintro e4 w4 ⟨b4, rfl, hb4, he4⟩
        go_wp2_with fail
        go_ret
        refine ⟨b4, rfl, ⟨fun h => ?_, fun h => hb4.out.2 (by rw [h])⟩, X2.out.trans (he3.out.trans he4.out)⟩
        have h1 := hid.out; have h2 := hat.out; have h3 := hb4.out.1 h
        cases x; cases y; simp only at h1 h2 h3; rw [h1, h2, h3]
      | false =>
        have hne : Hid (¬ x = y) := fun h => by have := hb3.out.2 (by rw [h]); cases this
        go_wp2_with fail
        go_ret
        exact ⟨false, rfl, ⟨fun h => (by cases h), fun h => absurd h hne.out⟩, X2.out.trans he3.out⟩
    · have e3 : ¬ x.id.name.toList = y.id.name.toList := fun h => e2 (ba_inj h)
      have e4 : (x.id.name.toList == y.id.name.toList) = false := by simpa using e3
      have e5 : x.id.kind.toList = y.id.kind.toList := by rw [e1]
      have hne : Hid (¬ x = y) := fun h => e2 (by rw [h])
      replace e1 := hide e1; replace e2 := hide e2
      go_wp2_with fail
      go_ret
      exact ⟨false, rfl, ⟨fun h => (by cases h), fun h => absurd h hne.out⟩, X2.out⟩
  · have e3 : ¬ x.id.kind.toList = y.id.kind.toList := fun h => e1 (ba_inj h)
    have e4 : (x.id.kind.toList == y.id.kind.toList) = false := by simpa using e3
    have hne : Hid (¬ x = y) := fun h => e1 (by rw [h])
    replace e1 := hide e1
    go_wp2_with fail
    go_ret
    exact ⟨false, rfl, ⟨fun h => (by cases h), fun h => absurd h hne.out⟩, X2.out⟩
end Go.Proofs.YtodhhjlemmmjcaaGreat
