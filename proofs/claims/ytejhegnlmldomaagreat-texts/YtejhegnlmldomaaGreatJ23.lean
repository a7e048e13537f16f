/-
  The parser: a text is read.
-/
/-
  The reference: its reader, the token that comes, an error.
-/
/-
  The reference: the token that comes is taken.
-/
import Derived.Test.YtejhegnlmldomaaGreatJ22
import Derived.Test.YtejhegnlmldomaaGreatJ18
import Derived.Deep.RegionHeld3
namespace Go.Proofs.YtejhegnlmldomaaGreat
open Go.RowKit

theorem resS_in {ts : List Tok} (he : TsEnd ts) {i : Nat} {es : List EntD} {rf : List (IDd × Nat)} {i' : Nat} {es' : List EntD} {rf' : List (IDd × Nat)} (h : resS ts i es rf = .ok (i', es', rf')) : i < i' ∧ i' < ts.length := by
  unfold resS at h
  split at h
  · cases h
  · rename_i i1 e1 h1
    have g0 := headS_up he h1
    split at h
    · cases h
    · rename_i _ i2 h2
      have g2 := take_in he h2 (by decide)
      split at h
      · cases h
      · rename_i i3 e3 rf3 h3
        have g3 := linesS_in he _ g2.2 h3
        split at h
        · cases h
        · rename_i _ i4 h4
          have g4 := take_in he h4 (by decide)
          cases h
          exact ⟨by omega, g4.2⟩
/-- Where the parser stands. -/
theorem Std.at_ {B : Nat} {w : World} {P : Nat} {ts : List Tok} {i : Nat} {bs : List Nat} {es : List EntD} {rf : List (IDd × Nat)} (h : Std B w P ts i bs es rf) : atOf w P = i := by
  obtain ⟨tE, vT, vE, vO, vR, hp⟩ := h.par
  unfold atOf
  rw [(five_cells hp.box).2.1]
  simp [intOf]
theorem peekS {B : Nat} {w : World} {P : Nat} {ts : List Tok} {i : Nat} {bs : List Nat} {es : List EntD} {rf : List (IDd × Nat)} (h : Std B w P ts i bs es rf) {t : Tok} (ht : ts[i]? = some t) :
    Calls Tryz.prog 39 #[.pointer (some ⟨P, 0, none⟩)] w fun e w' => e = .returned (.int .i64 t.kind) ∧ Hid (Ext w w') := by
  obtain ⟨tE, vT, vE, vO, vR, hp⟩ := h.par
  exact peekP hp ht
/-- What the reading of a text answers. -/
def TextIs (B : Nat) (w : World) (P : Nat) (ts : List Tok) (r : Except Flt (List EntD × List (IDd × Nat))) (e : Ending) (w' : World) : Prop :=
  Hid (Wr (ChgX B) w w') ∧ ((∃ en pl, Hid (r = .error (en, pl)) ∧ en ≠ 0 ∧ e = .returned (.agg #[.int .i64 en, .int .i64 pl])) ∨
    ∃ i' es' rf' bs', Hid (r = .ok (es', rf')) ∧ e = .returned (.agg #[.int .i64 0, .int .i64 0]) ∧ Hid (Std B w' P ts i' bs' es' rf') ∧ Hid (i' < ts.length))

set_option maxRecDepth 100000 in
set_option maxHeartbeats 3200000 in
theorem readTextP {B : Nat} {w : World} {P : Nat} {ts : List Tok} {i : Nat} {bs : List Nat} {es : List EntD} {rf : List (IDd × Nat)} (h : Std B w P ts i bs es rf) (hn : ts.length ≤ 1000000) (he : TsEnd ts) (hi : i < ts.length) :
    Calls Tryz.prog 18 #[.pointer (some ⟨P, 0, none⟩)] w (TextIs B w P ts (textS ts ts.length i es rf)) := by
  have hS0 := hide (h.ext ((Ext.refl w).alloc (.cells #[.int .i64 0, .int .i64 0] 62)))
  have O0 := hide (heap_alloc_new w (.cells #[.int .i64 0, .int .i64 0] 62))
  have W0 : Hid (Wr (ChgX B) w (w.alloc (.cells #[.int .i64 0, .int .i64 0] 62))) := Wr.ext ((Ext.refl w).alloc _)
  replace h := hide h; replace he := hide he
  go_enter Tryz.func18, Tryz.ntmps18
  go_wp2_with fail
  generalize w.alloc (.cells #[.int .i64 0, .int .i64 0] 62) = wx at *
  go_loopw [] (fun wr => ∃ (f j : Nat) (bsj : List Nat) (esj : List EntD) (rfj : List (IDd × Nat)), Hid (Std B wr P ts j bsj esj rfj) ∧ Hid (Wr (ChgX B) w wr) ∧ Hid (wr.heap[w.heap.size]? = some (.cells #[.int .i64 0, .int .i64 0] 62)) ∧ Hid (textS ts ts.length i es rf = textS ts f j esj rfj) ∧ j < ts.length ∧ ts.length ≤ f + j) (fun wr => ts.length - atOf wr P)
  case atStart => exact ⟨ts.length, i, bs, es, rf, hS0, W0, O0, rfl, hi, by omega⟩
  case round =>
    clear hS0 W0 O0 hi
    obtain ⟨f, j, bsj, esj, rfj, hS, hW, hO, hst, hlt, hfu⟩ := hrel
    obtain ⟨t, ht⟩ := TsEnd.there hlt
    have hpk := hide (peekS hS.out ht)
    obtain ⟨f', rfl⟩ : ∃ f', f = f' + 1 := ⟨f - 1, by omega⟩
    by_cases hk : t.kind = 11
    · have hk1 : ((t.kind : Int) != 11) = false := by simp [hk]
      have hfin : Hid (textS ts ts.length i es rf = .ok (esj, rfj)) := by
        show _ = _
        rw [hst.out]; unfold textS; rw [if_pos ((kind_at ht).trans hk)]
      replace ht := hide ht; replace hk := hide hk
      go_wp2_with fail
      refine hpk.out.mono ?_; rintro e5 w5 ⟨rfl, he5⟩
      have hS5 := hide (hS.out.ext he5.out)
      have O5 := ext_heap he5.out hO.out
      have W5 : Hid (Wr (ChgX B) w w5) := hW.out.trans (Wr.ext he5.out)
      have o0 := two_c0 O5; have o1 := two_c1 O5; have fO := row_frozen O5
      replace O5 := hide O5
      go_wp2_with fail
      refine bodyPost_ret (v := .agg #[.int .i64 0, .int .i64 0]) (by simp [results, Tryz.results18, go_sem, o0, o1]) rfl ?_
      have WF := Wr.ofF O5.out (.int .i64 0) (.int .i64 0)
      exact ⟨W5.out.thenNew WF fun j t hd => by have := hd.1; omega, .inr ⟨j, esj, rfj, bsj, hfin, rfl, hS5.out.onF WF, hlt⟩⟩
    · have hk1 : ((t.kind : Int) != 11) = true := by simp; omega
      have hka : kindAt ts j ≠ 11 := by rw [kind_at ht]; exact hk
      replace ht := hide ht; replace hk := hide hk
      go_wp2_with fail
      refine hpk.out.mono ?_; rintro e5 w5 ⟨rfl, he5⟩
      have hS5 := hide (hS.out.ext he5.out)
      go_wp2_with fail
      refine (readResourceP hS5.out hn he.out hlt).mono ?_
      rintro e6 w6 ⟨hW6, ⟨en, pl, hr6, hne, rfl⟩ | ⟨i6, es6, rf6, bs6, hr6, rfl, hS6⟩⟩
      · have hne1 : (en != 0) = true := by simpa using hne
        have hfin : Hid (textS ts ts.length i es rf = .error (en, pl)) := by
          show _ = _
          rw [hst.out]; unfold textS; rw [if_neg hka, hr6.out]
        have O6 := hide (Wr.keeps hW6.out (ext_heap he5.out hO.out) chgX_fault)
        have W6 : Hid (Wr (ChgX B) w w6) := hW.out.trans ((Wr.ext he5.out).trans hW6.out)
        go_wp2_with fail
        refine (faultIs _ _ _).mono ?_; rintro e7 w7 ⟨rfl, hw7⟩
        have X7 : Hid (Ext w6 w7) := (by show Ext _ _; rw [hw7]; exact (((Ext.refl w6).alloc _).alloc _))
        have F7 := (hw7 ▸ ext_heap ((Ext.refl _).alloc (.cells #[.int .i64 en, .int .i64 pl] 62)) (heap_alloc_new w6 (.cells #[.int .i64 en, .int .i64 pl] 62)) : w7.heap[w6.heap.size]? = some (.cells #[.int .i64 en, .int .i64 pl] 62))
        have O7 := ext_heap X7.out O6.out
        clear hw7
        have f0 := two_c0 F7; have f1 := two_c1 F7; have o0 := two_c0 O7; have o1 := two_c1 O7; have fO := row_frozen O7
        replace F7 := hide F7; replace O7 := hide O7
        go_wp2_with fail
        refine bodyPost_ret (v := .agg #[.int .i64 en, .int .i64 pl]) (by simp [results, Tryz.results18, go_sem, o0, o1]) rfl ?_
        have W : Wr (ChgX B) w w7 := W6.out.trans (Wr.ext X7.out)
        exact ⟨(W.setNew (p := ⟨w.heap.size, 0, none⟩) (Nat.le_refl _) _).setNew (p := ⟨w.heap.size, 1, none⟩) (Nat.le_refl _) _, .inl ⟨en, pl, hfin, hne, rfl⟩⟩
      · have O6 := hide (Wr.keeps hW6.out (ext_heap he5.out hO.out) chgX_fault)
        have W6 : Hid (Wr (ChgX B) w w6) := hW.out.trans ((Wr.ext he5.out).trans hW6.out)
        have hi6 := resS_in he.out hr6.out
        have hst6 : Hid (textS ts ts.length i es rf = textS ts f' i6 es6 rf6) := by
          show _ = _
          rw [hst.out]; conv => lhs; unfold textS
          rw [if_neg hka, hr6.out]
        go_wp2_with fail
        refine (faultIs _ _ _).mono ?_; rintro e7 w7 ⟨rfl, hw7⟩
        have X7 : Hid (Ext w6 w7) := (by show Ext _ _; rw [hw7]; exact (((Ext.refl w6).alloc _).alloc _))
        clear hw7
        have O7 := hide (ext_heap X7.out O6.out)
        have hS7 := hide (hS6.out.ext X7.out)
        have W7 : Hid (Wr (ChgX B) w w7) := W6.out.trans (Wr.ext X7.out)
        go_wp2_with fail
        go_roundw
        case rel => exact ⟨f', i6, bs6, es6, rf6, hS7, W7, O7, hst6, hi6.2, by omega⟩
        case measure =>
          rw [hS7.out.at_, hS.out.at_]; omega
end Go.Proofs.YtejhegnlmldomaaGreat

namespace Go.Proofs.YtejhegnlmldomaaGreat
open Go.RowKit

/-- Only the reader's box. -/
def OnR (R : Nat) (j : Nat) (t : TypeId) : Prop := j = R ∧ t = 48
structure RdrIn (w : World) (R : Nat) (vL vO vA vF : Value) (ts : List Tok) (i : Nat) (en : Int) (pl : Nat) : Prop where
  box : w.heap[R]? = some (.cells #[vL, .int .i64 i, .int .i64 en, .int .i64 pl, vO, vA, vF] 48 (0, 0))
  toks : w.ownsRow 0 50 4 vL ts.length (cellsT (ts.map rTok))
theorem seven_cells {w : World} {k : Nat} {a b c d e f g : Value} {t : TypeId} {fz : Nat × Nat} (hk : w.heap[k]? = some (.cells #[a, b, c, d, e, f, g] t fz)) :
    w.cell? ⟨k, 0, none⟩ = some a ∧ w.cell? ⟨k, 1, none⟩ = some b ∧ w.cell? ⟨k, 2, none⟩ = some c ∧ w.cell? ⟨k, 3, none⟩ = some d ∧ w.cell? ⟨k, 4, none⟩ = some e ∧ w.cell? ⟨k, 5, none⟩ = some f ∧ w.cell? ⟨k, 6, none⟩ = some g := by
  refine ⟨?_, ?_, ?_, ?_, ?_, ?_, ?_⟩ <;> simp [World.cell?, hk]
theorem RdrIn.turned {w w' : World} {R : Nat} {vL vO vA vF : Value} {ts : List Tok} {i : Nat} {en : Int} {pl : Nat} (h : RdrIn w R vL vO vA vF ts i en pl) (k : Wr (OnR R) w w') {vO' vA' vF' : Value} {i' : Nat} {en' : Int} {pl' : Nat} (hb : w'.heap[R]? = some (.cells #[vL, .int .i64 i', .int .i64 en', .int .i64 pl', vO', vA', vF'] 48 (0, 0))) : RdrIn w' R vL vO' vA' vF' ts i' en' pl' :=
  ⟨hb, ownsRow_wr h.toks k fun _ _ _ hd => absurd hd.2 (by decide)⟩
theorem RdrIn.ext {w w' : World} {R : Nat} {vL vO vA vF : Value} {ts : List Tok} {i : Nat} {en : Int} {pl : Nat} (h : RdrIn w R vL vO vA vF ts i en pl) (x : Ext w w') : RdrIn w' R vL vO vA vF ts i en pl :=
  ⟨ext_heap x h.box, ownsRow_wr (D := fun _ _ => False) h.toks (Wr.ext x) fun _ _ _ => id⟩
/-- An error, if there is none yet. -/
def stick (en : Int) (pl : Nat) (f : Flt) : Flt := if en = 0 then f else (en, pl)

set_option maxRecDepth 100000 in
set_option maxHeartbeats 1600000 in
theorem refWrong {w : World} {R : Nat} {vL vO vA vF : Value} {ts : List Tok} {i : Nat} {en : Int} {pl : Nat} (h : RdrIn w R vL vO vA vF ts i en pl) (e2 : Int) (p2 : Nat) :
    Calls Tryz.prog 12 #[.pointer (some ⟨R, 0, none⟩), .int .i64 e2, .int .i64 p2] w fun e w' => e = .returned (.tuple #[]) ∧ Hid (RdrIn w' R vL vO vA vF ts i (stick en pl (e2, p2)).1 (stick en pl (e2, p2)).2) ∧ Hid (Wr (OnR R) w w') := by
  obtain ⟨c0, c1, c2, c3, c4, c5, c6⟩ := seven_cells h.box
  have fr := row_frozen h.box
  by_cases hz : en = 0
  · subst hz
    have hb : Hid (((w.setCell ⟨R, 2, none⟩ (.int .i64 e2)).setCell ⟨R, 3, none⟩ (.int .i64 p2)).heap[R]? = some (.cells #[vL, .int .i64 i, .int .i64 e2, .int .i64 p2, vO, vA, vF] 48 (0, 0))) := (row_set (row_set h.box 2 _) 3 _).trans rfl
    have hW : Hid (Wr (OnR R) w ((w.setCell ⟨R, 2, none⟩ (.int .i64 e2)).setCell ⟨R, 3, none⟩ (.int .i64 p2))) := ((Wr.refl _ w).setOld (p := ⟨R, 2, none⟩) h.box ⟨rfl, rfl⟩ _).setOld (p := ⟨R, 3, none⟩) h.box ⟨rfl, rfl⟩ _
    replace h := hide h
    go_enter Tryz.func12, Tryz.ntmps12
    go_wp2
    refine ⟨rfl, .tuple #[], by simp [results, Tryz.results12], rfl, ?_, hW⟩
    show RdrIn _ _ _ _ _ _ _ _ _ _
    unfold stick; rw [if_pos rfl]
    exact h.out.turned hW.out hb.out
  · have hzb : (en == 0) = false := by simpa using hz
    replace h := hide h
    go_enter Tryz.func12, Tryz.ntmps12
    go_wp2
    refine ⟨rfl, .tuple #[], by simp [results, Tryz.results12], rfl, ?_, Wr.refl _ _⟩
    show RdrIn _ _ _ _ _ _ _ _ _ _
    unfold stick; rw [if_neg hz]
    exact h.out
theorem toList_inj {a b : ByteArray} (h : a.toList = b.toList) : a = b := by
  rw [ByteArray.toList_eq, ByteArray.toList_eq] at h
  cases a with | mk x => cases b with | mk y => simp only at h; rw [Array.toList_inj.1 h]
/-- Whether a token fits. -/
def fitsR (t : Tok) (k : Nat) (sg : ByteArray) : Prop := (rTok t).kind = k ∧ (sg = ⟨#[]⟩ ∨ (rTok t).text = sg)
theorem rtoks_in {w : World} {v : Value} {ts : List Tok} (h : w.ownsRow 0 50 4 v ts.length (cellsT (ts.map rTok))) {i : Nat} {t : Tok} (ht : ts[i]? = some t) :
    ∃ g cap, v = .slice (some ⟨g, 0, none⟩) ts.length cap ∧ w.cell? ⟨g, i * 4, none⟩ = some (.int .i64 (rTok t).kind) ∧ w.cell? ⟨g, i * 4 + 1, none⟩ = some (.int .i64 (rTok t).place) ∧ w.cell? ⟨g, i * 4 + 2, none⟩ = some (.string (rTok t).text) ∧ w.cell? ⟨g, i * 4 + 3, none⟩ = some (.int .i64 (rTok t).value) := by
  have hlt := (List.getElem?_eq_some_iff.1 ht).1
  have ht' : (ts.map rTok)[i]? = some (rTok t) := by rw [List.getElem?_map, ht]; rfl
  rcases h.2 with ⟨_, h0⟩ | ⟨g, cap, cur, rfl, _, hg, hc, hm, hs, htk⟩
  · omega
  · have key : ∀ r, r < 4 → w.cell? ⟨g, i * 4 + r, none⟩ = (cTk (rTok t))[r]? := by
      intro r hr
      have h1 : (cellsT (ts.map rTok))[i * 4 + r]? = (cTk (rTok t))[r]? := flat_get cTk_len ht' hr
      rw [← h1, ← htk, List.getElem?_take, if_pos (by omega)]
      simp [World.cell?, hg]
    exact ⟨g, cap, rfl, key 0 (by omega), key 1 (by omega), key 2 (by omega), key 3 (by omega)⟩
theorem rTok_place (t : Tok) : (rTok t).place = t.place := by unfold rTok; split; rfl; split <;> rfl

set_option maxRecDepth 100000 in
set_option maxHeartbeats 1600000 in
theorem refSees {w : World} {R : Nat} {vL vO vA vF : Value} {ts : List Tok} {i : Nat} {en : Int} {pl : Nat} (h : RdrIn w R vL vO vA vF ts i en pl) {t : Tok} (ht : ts[i]? = some t) (sg : ByteArray) :
    Calls Tryz.prog 76 #[.pointer (some ⟨R, 0, none⟩), .string sg] w fun e w' => ∃ b : Bool, e = .returned (.bool b) ∧ Hid (b = true ↔ en = 0 ∧ (rTok t).kind = 4 ∧ (rTok t).text = sg) ∧ Hid (Ext w w') := by
  obtain ⟨c0, c1, c2, c3, c4, c5, c6⟩ := seven_cells h.box
  obtain ⟨g, cap, rfl, k0, k1, k2, k3⟩ := rtoks_in h.toks ht
  have hi := (List.getElem?_eq_some_iff.1 ht).1
  have j1 : (i : Int) < (ts.length : Int) := by omega
  have j2 : (0 : Int) ≤ (i : Int) := by omega
  replace h := hide h; replace ht := hide ht
  generalize rTok t = rt at *
  by_cases hz : en = 0
  · have hzb : (en == 0) = true := by simp [hz]
    replace hz := hide hz
    by_cases hk : rt.kind = 4
    · have hkb : ((rt.kind : Int) == 4) = true := by simp [hk]
      replace hk := hide hk
      by_cases hs : rt.text = sg
      · have hsb : rt.text.toList = sg.toList := by rw [hs]
        have hsb2 : (rt.text.toList == sg.toList) = true := by rw [hsb]; simp
        replace hs := hide hs
        go_enter Tryz.func76, Tryz.ntmps76
        go_wp2_with fail
        go_quiet (fail)
        go_wp2_with fail
        go_ret
        exact ⟨true, rfl, ⟨fun _ => ⟨hz.out, hk.out, hs.out⟩, fun _ => rfl⟩, (Ext.refl w).drewN _⟩
      · have hsb : ¬ rt.text.toList = sg.toList := fun h => hs (toList_inj h)
        have hsb2 : (rt.text.toList == sg.toList) = false := by simpa using hsb
        replace hs := hide hs
        go_enter Tryz.func76, Tryz.ntmps76
        go_wp2_with fail
        go_quiet (fail)
        go_wp2_with fail
        go_ret
        exact ⟨false, rfl, ⟨fun h => (by cases h), fun h => absurd h.2.2 hs.out⟩, (Ext.refl w).drewN _⟩
    · have hkb : ((rt.kind : Int) == 4) = false := by simp; omega
      replace hk := hide hk
      go_enter Tryz.func76, Tryz.ntmps76
      go_wp2_with fail
      go_quiet (fail)
      go_wp2_with fail
      go_ret
      exact ⟨false, rfl, ⟨fun h => (by cases h), fun h => absurd h.2.1 hk.out⟩, (Ext.refl w).drewN _⟩
  · have hzb : (en == 0) = false := by simpa using hz
    replace hz := hide hz
    go_enter Tryz.func76, Tryz.ntmps76
    go_wp2_with fail
    go_quiet (fail)
    go_wp2_with fail
    go_ret
    exact ⟨false, rfl, ⟨fun h => (by cases h), fun h => absurd h.1 hz.out⟩, (Ext.refl w).drewN _⟩
end Go.Proofs.YtejhegnlmldomaaGreat

namespace Go.Proofs.YtejhegnlmldomaaGreat
open Go.RowKit

theorem RdrIn.aside {w : World} {R g n cap : Nat} {vO vA vF : Value} {ts : List Tok} {i : Nat} {en : Int} {pl : Nat} (h : RdrIn w R (.slice (some ⟨g, 0, none⟩) n cap) vO vA vF ts i en pl) {b j : Nat} (hR : b ≠ R) (hg : g ≠ b) (u : Value) : RdrIn (w.setCell ⟨b, j, none⟩ u) R (.slice (some ⟨g, 0, none⟩) n cap) vO vA vF ts i en pl :=
  ⟨World.setCell_other_row h.box hR j u, ownsRow_other h.toks (p := ⟨b, j, none⟩) hg (Nat.le_refl _) u⟩
/-- What the taking of a token answers. -/
def NextIs (w : World) (R : Nat) (vL vO vA vF : Value) (ts : List Tok) (i : Nat) (en : Int) (pl : Nat) (t : Tok) (k : Nat) (sg : ByteArray) (e : Ending) (w' : World) : Prop :=
  Hid (Wr (OnR R) w w') ∧ ((en = 0 ∧ fitsR t k sg ∧ e = .returned (.agg #[.int .i64 (rTok t).kind, .int .i64 (rTok t).place, .string (rTok t).text, .int .i64 (rTok t).value]) ∧ Hid (RdrIn w' R vL vO vA vF ts (i + 1) 0 pl)) ∨
    (¬ (en = 0 ∧ fitsR t k sg) ∧ e = .returned (.agg #[.int .i64 0, .int .i64 0, .string ⟨#[]⟩, .int .i64 0]) ∧ Hid (RdrIn w' R vL vO vA vF ts i (stick en pl (6, t.place)).1 (stick en pl (6, t.place)).2)))

set_option maxRecDepth 100000 in
set_option maxHeartbeats 1600000 in
theorem refNextNo {w : World} {R : Nat} {vL vO vA vF : Value} {ts : List Tok} {i : Nat} {en : Int} {pl : Nat} (h : RdrIn w R vL vO vA vF ts i en pl) {t : Tok} (ht : ts[i]? = some t) (k : Nat) (sg : ByteArray) (hno : ¬ (en = 0 ∧ fitsR t k sg)) :
    Calls Tryz.prog 32 #[.pointer (some ⟨R, 0, none⟩), .int .i64 k, .string sg] w (NextIs w R vL vO vA vF ts i en pl t k sg) := by
  obtain ⟨c0, c1, c2, c3, c4, c5, c6⟩ := seven_cells h.box
  obtain ⟨g, cap, rfl, k0, k1, k2, k3⟩ := rtoks_in h.toks ht
  have hi := (List.getElem?_eq_some_iff.1 ht).1
  have j1 : (i : Int) < (ts.length : Int) := by omega
  have j2 : (0 : Int) ≤ (i : Int) := by omega
  replace h := hide h; replace ht := hide ht; replace hno := hide hno
  have XO := (Ext.refl w).alloc (.cells #[.int .i64 0, .int .i64 0, .string ⟨#[]⟩, .int .i64 0] 50)
  replace c0 := XO.cells c0; replace c1 := XO.cells c1; replace k0 := XO.cells k0; replace k1 := XO.cells k1; replace k2 := XO.cells k2; replace k3 := XO.cells k3
  clear c2 c3 c4 c5 c6
  have hpl := hide (rTok_place t)
  have hfit := hide (Iff.refl (fitsR t k sg))
  unfold fitsR at hfit
  replace XO := hide XO
  go_enter Tryz.func32, Tryz.ntmps32
  go_wp2_with fail
  go_region_held3 (fun w' => w'.cell? ⟨R, 0, none⟩ = some (.slice (some ⟨g, 0, none⟩) ts.length cap) ∧ w'.cell? ⟨R, 1, none⟩ = some (.int .i64 i) ∧ w'.cell? ⟨g, i * 4, none⟩ = some (.int .i64 (rTok t).kind) ∧ w'.cell? ⟨g, i * 4 + 1, none⟩ = some (.int .i64 (rTok t).place) ∧ w'.cell? ⟨g, i * 4 + 2, none⟩ = some (.string (rTok t).text) ∧ w'.cell? ⟨g, i * 4 + 3, none⟩ = some (.int .i64 (rTok t).value)) (go_keep) ((fail))
  all_goals
    have XY : Hid (Ext w _) := (XO.out.alloc (.cells #[.int .i64 (rTok t).kind, .int .i64 (rTok t).place, .string (rTok t).text, .int .i64 (rTok t).value] 50)).drew
    have TY := ext_heap (Ext.refl _).drew (two_hi w (.cells #[.int .i64 0, .int .i64 0, .string ⟨#[]⟩, .int .i64 0] 50) (.cells #[.int .i64 (rTok t).kind, .int .i64 (rTok t).place, .string (rTok t).text, .int .i64 (rTok t).value] 50))
    have OY := hide (ext_heap ((Ext.refl _).alloc (.cells #[.int .i64 (rTok t).kind, .int .i64 (rTok t).place, .string (rTok t).text, .int .i64 (rTok t).value] 50)).drew (heap_alloc_new w (.cells #[.int .i64 0, .int .i64 0, .string ⟨#[]⟩, .int .i64 0] 50)))
    clear c0 c1 k0 k1 k2 k3
    try clear hHeld
    generalize (World.alloc (World.alloc w _) _).drew = wy at *
    have hRy := hide (h.out.ext XY.out)
    have hRO : Hid (w.heap.size ≠ R) := by show _ ≠ _; have := (Array.getElem?_eq_some_iff.1 h.out.box).1; omega
    have hgO : Hid (g ≠ w.heap.size) := by
      show _ ≠ _
      rcases h.out.toks.2 with ⟨hv, _⟩ | ⟨g', cap', cur, hv, _, hg, _⟩
      · cases hv
      · cases hv; have := (Array.getElem?_eq_some_iff.1 hg).1; omega
    have y2 := (seven_cells hRy.out.box).2.2.1
    obtain ⟨t0, t1, t2, t3⟩ := four_cells TY
    replace TY := hide TY
    by_cases hz : en = 0
    · have hzb : (en != 0) = false := by simp [hz]
      by_cases hk : (rTok t).kind = k
      · have hkb : (((rTok t).kind : Int) != (k : Int)) = false := by simp [hk]
        have hnt : sg ≠ ⟨#[]⟩ ∧ (rTok t).text ≠ sg := by
          refine ⟨fun h => hno.out ⟨hz, hk, .inl h⟩, fun h => hno.out ⟨hz, hk, .inr h⟩⟩
        have s1 : ¬ sg.toList = [] := fun h => hnt.1 (toList_inj (h.trans (by rw [ByteArray.toList_eq])))
        have s2 : ¬ (rTok t).text.toList = sg.toList := fun h => hnt.2 (toList_inj h)
        have s1b : sg.toList.isEmpty = false := by simpa using s1
        have s2b : ((rTok t).text.toList == sg.toList) = false := by simpa using s2
        replace hz := hide hz; replace hk := hide hk; replace hnt := hide hnt
        go_wp2_with fail
        refine (refWrong hRy.out 6 (rTok t).place).mono ?_
        rintro e1 w1 ⟨rfl, hR1, hW1⟩
        have O1 := Wr.keeps hW1.out OY.out (fun hd => absurd hd.2 (by decide))
        obtain ⟨o0, o1, o2, o3⟩ := four_cells O1
        have fO := row_frozen O1
        replace O1 := hide O1
        go_wp2_with fail
        refine bodyPost_ret (v := .agg #[.int .i64 0, .int .i64 0, .string ⟨#[]⟩, .int .i64 0]) (by simp [results, Tryz.results32, go_sem, o0, o1, o2, o3]) rfl ?_
        have W1 : Wr (OnR R) w w1 := (Wr.ext XY.out).trans hW1.out
        refine ⟨(((W1.setNew (p := ⟨w.heap.size, 0, none⟩) (Nat.le_refl _) _).setNew (p := ⟨w.heap.size, 1, none⟩) (Nat.le_refl _) _).setNew (p := ⟨w.heap.size, 2, none⟩) (Nat.le_refl _) _).setNew (p := ⟨w.heap.size, 3, none⟩) (Nat.le_refl _) _, .inr ⟨hno.out, rfl, ?_⟩⟩
        rw [← hpl.out]
        exact (((hR1.out.aside hRO.out hgO.out _).aside hRO.out hgO.out _).aside hRO.out hgO.out _).aside hRO.out hgO.out _
      · have hkb : (((rTok t).kind : Int) != (k : Int)) = true := by simp; omega
        replace hz := hide hz; replace hk := hide hk
        go_wp2_with fail
        refine (refWrong hRy.out 6 (rTok t).place).mono ?_
        rintro e1 w1 ⟨rfl, hR1, hW1⟩
        have O1 := Wr.keeps hW1.out OY.out (fun hd => absurd hd.2 (by decide))
        obtain ⟨o0, o1, o2, o3⟩ := four_cells O1
        have fO := row_frozen O1
        replace O1 := hide O1
        go_wp2_with fail
        refine bodyPost_ret (v := .agg #[.int .i64 0, .int .i64 0, .string ⟨#[]⟩, .int .i64 0]) (by simp [results, Tryz.results32, go_sem, o0, o1, o2, o3]) rfl ?_
        have W1 : Wr (OnR R) w w1 := (Wr.ext XY.out).trans hW1.out
        refine ⟨(((W1.setNew (p := ⟨w.heap.size, 0, none⟩) (Nat.le_refl _) _).setNew (p := ⟨w.heap.size, 1, none⟩) (Nat.le_refl _) _).setNew (p := ⟨w.heap.size, 2, none⟩) (Nat.le_refl _) _).setNew (p := ⟨w.heap.size, 3, none⟩) (Nat.le_refl _) _, .inr ⟨hno.out, rfl, ?_⟩⟩
        rw [← hpl.out]
        exact (((hR1.out.aside hRO.out hgO.out _).aside hRO.out hgO.out _).aside hRO.out hgO.out _).aside hRO.out hgO.out _
    · have hzb : (en != 0) = true := by simpa using hz
      replace hz := hide hz
      go_wp2_with fail
      refine (refWrong hRy.out 6 (rTok t).place).mono ?_
      rintro e1 w1 ⟨rfl, hR1, hW1⟩
      have O1 := Wr.keeps hW1.out OY.out (fun hd => absurd hd.2 (by decide))
      obtain ⟨o0, o1, o2, o3⟩ := four_cells O1
      have fO := row_frozen O1
      replace O1 := hide O1
      go_wp2_with fail
      refine bodyPost_ret (v := .agg #[.int .i64 0, .int .i64 0, .string ⟨#[]⟩, .int .i64 0]) (by simp [results, Tryz.results32, go_sem, o0, o1, o2, o3]) rfl ?_
      have W1 : Wr (OnR R) w w1 := (Wr.ext XY.out).trans hW1.out
      refine ⟨(((W1.setNew (p := ⟨w.heap.size, 0, none⟩) (Nat.le_refl _) _).setNew (p := ⟨w.heap.size, 1, none⟩) (Nat.le_refl _) _).setNew (p := ⟨w.heap.size, 2, none⟩) (Nat.le_refl _) _).setNew (p := ⟨w.heap.size, 3, none⟩) (Nat.le_refl _) _, .inr ⟨hno.out, rfl, ?_⟩⟩
      rw [← hpl.out]
      exact (((hR1.out.aside hRO.out hgO.out _).aside hRO.out hgO.out _).aside hRO.out hgO.out _).aside hRO.out hgO.out _

set_option maxRecDepth 100000 in
set_option maxHeartbeats 1600000 in
theorem refNextYes {w : World} {R : Nat} {vL vO vA vF : Value} {ts : List Tok} {i : Nat} {pl : Nat} (h : RdrIn w R vL vO vA vF ts i 0 pl) {t : Tok} (ht : ts[i]? = some t) (hn : ts.length ≤ 1000000) (k : Nat) (sg : ByteArray) (hfi : fitsR t k sg) :
    Calls Tryz.prog 32 #[.pointer (some ⟨R, 0, none⟩), .int .i64 k, .string sg] w (NextIs w R vL vO vA vF ts i 0 pl t k sg) := by
  obtain ⟨c0, c1, c2, c3, c4, c5, c6⟩ := seven_cells h.box
  obtain ⟨g, cap, rfl, k0, k1, k2, k3⟩ := rtoks_in h.toks ht
  have hi := (List.getElem?_eq_some_iff.1 ht).1
  have j1 : (i : Int) < (ts.length : Int) := by omega
  have j2 : (0 : Int) ≤ (i : Int) := by omega
  have hkb : (((rTok t).kind : Int) != (k : Int)) = false := by simp [hfi.1]
  have hor := hide hfi.2
  replace h := hide h; replace ht := hide ht; replace hfi := hide hfi
  have XO := (Ext.refl w).alloc (.cells #[.int .i64 0, .int .i64 0, .string ⟨#[]⟩, .int .i64 0] 50)
  replace c0 := XO.cells c0; replace c1 := XO.cells c1; replace k0 := XO.cells k0; replace k1 := XO.cells k1; replace k2 := XO.cells k2; replace k3 := XO.cells k3
  clear c2 c3 c4 c5 c6
  replace XO := hide XO
  have hkb2 := hide hkb
  clear hkb
  go_enter Tryz.func32, Tryz.ntmps32
  go_wp2_with fail
  go_region_held3 (fun w' => w'.cell? ⟨R, 0, none⟩ = some (.slice (some ⟨g, 0, none⟩) ts.length cap) ∧ w'.cell? ⟨R, 1, none⟩ = some (.int .i64 i) ∧ w'.cell? ⟨g, i * 4, none⟩ = some (.int .i64 (rTok t).kind) ∧ w'.cell? ⟨g, i * 4 + 1, none⟩ = some (.int .i64 (rTok t).place) ∧ w'.cell? ⟨g, i * 4 + 2, none⟩ = some (.string (rTok t).text) ∧ w'.cell? ⟨g, i * 4 + 3, none⟩ = some (.int .i64 (rTok t).value)) (go_keep) ((fail))
  all_goals
    have XY : Hid (Ext w _) := (XO.out.alloc (.cells #[.int .i64 (rTok t).kind, .int .i64 (rTok t).place, .string (rTok t).text, .int .i64 (rTok t).value] 50)).drew
    have TY := ext_heap (Ext.refl _).drew (two_hi w (.cells #[.int .i64 0, .int .i64 0, .string ⟨#[]⟩, .int .i64 0] 50) (.cells #[.int .i64 (rTok t).kind, .int .i64 (rTok t).place, .string (rTok t).text, .int .i64 (rTok t).value] 50))
    have OY := hide (ext_heap ((Ext.refl _).alloc (.cells #[.int .i64 (rTok t).kind, .int .i64 (rTok t).place, .string (rTok t).text, .int .i64 (rTok t).value] 50)).drew (heap_alloc_new w (.cells #[.int .i64 0, .int .i64 0, .string ⟨#[]⟩, .int .i64 0] 50)))
    clear c0 c1 k0 k1 k2 k3
    try clear hHeld
    generalize (World.alloc (World.alloc w _) _).drew = wy at *
    have hRy := hide (h.out.ext XY.out)
    have hRO : Hid (w.heap.size ≠ R) := by show _ ≠ _; have := (Array.getElem?_eq_some_iff.1 h.out.box).1; omega
    have hgO : Hid (g ≠ w.heap.size) := by
      show _ ≠ _
      rcases h.out.toks.2 with ⟨hv, _⟩ | ⟨g', cap', cur, hv, _, hg, _⟩
      · cases hv
      · cases hv; have := (Array.getElem?_eq_some_iff.1 hg).1; omega
    have y2 := (seven_cells hRy.out.box).2.2.1
    obtain ⟨t0, t1, t2, t3⟩ := four_cells TY
    replace TY := hide TY
    have y1 := (seven_cells hRy.out.box).2.1
    have yf := row_frozen hRy.out.box
    have hkb := hkb2.out
    have hRd := hRO.out
    have hRd2 : ¬ R = w.heap.size := fun h => hRO.out h.symm
    have hRt : ¬ R = w.heap.size + 1 := by have := (Array.getElem?_eq_some_iff.1 h.out.box).1; omega
    have hRt2 : ¬ w.heap.size + 1 = R := by have := (Array.getElem?_eq_some_iff.1 h.out.box).1; omega
    have hB1 : Hid ((wy.setCell ⟨R, 1, none⟩ (.int .i64 ((i : Int) + 1))).heap[R]? = some (.cells #[.slice (some ⟨g, 0, none⟩) ts.length cap, .int .i64 ((i + 1 : Nat) : Int), .int .i64 0, .int .i64 pl, vO, vA, vF] 48 (0, 0))) := (row_set hRy.out.box 1 _).trans rfl
    have hW1 : Hid (Wr (OnR R) wy (wy.setCell ⟨R, 1, none⟩ (.int .i64 ((i : Int) + 1)))) := (Wr.refl _ wy).setOld (p := ⟨R, 1, none⟩) hRy.out.box ⟨rfl, rfl⟩ _
    rcases hor.out with hs | hs
    · have s1 : sg.toList = [] := by rw [hs, ByteArray.toList_eq]
      have s1b : (sg.toList != []) = false := by simp [s1]
      replace hs := hide hs
      have OZ := Wr.keeps hW1.out OY.out (fun hd => absurd hd.2 (by decide))
      obtain ⟨o0, o1, o2, o3⟩ := four_cells OZ
      have fO := row_frozen OZ
      have TZ := Wr.keeps hW1.out TY.out (fun hd => absurd hd.2 (by decide))
      obtain ⟨z0, z1, z2, z3⟩ := four_cells TZ
      replace OZ := hide OZ; replace TZ := hide TZ
      go_wp2_with fail
      refine bodyPost_ret (v := .agg #[.int .i64 (rTok t).kind, .int .i64 (rTok t).place, .string (rTok t).text, .int .i64 (rTok t).value]) (by simp [results, Tryz.results32, go_sem, o0, o1, o2, o3]) rfl ?_
      have W1 : Wr (OnR R) w _ := (Wr.ext XY.out).trans hW1.out
      have hR1 := hRy.out.turned hW1.out hB1.out
      refine ⟨(((W1.setNew (p := ⟨w.heap.size, 0, none⟩) (Nat.le_refl _) _).setNew (p := ⟨w.heap.size, 1, none⟩) (Nat.le_refl _) _).setNew (p := ⟨w.heap.size, 2, none⟩) (Nat.le_refl _) _).setNew (p := ⟨w.heap.size, 3, none⟩) (Nat.le_refl _) _, .inl ⟨rfl, hfi.out, rfl, ?_⟩⟩
      exact (((hR1.aside hRO.out hgO.out _).aside hRO.out hgO.out _).aside hRO.out hgO.out _).aside hRO.out hgO.out _
    · have s2 : (rTok t).text.toList = sg.toList := by rw [hs]
      have s2b : ((rTok t).text.toList != sg.toList) = false := by simp [s2]
      by_cases hs0 : sg.toList = []
      · have s1b : (sg.toList != []) = false := by simp [hs0]
        replace hs := hide hs; replace s2 := hide s2; replace s2b := hide s2b
        have OZ := Wr.keeps hW1.out OY.out (fun hd => absurd hd.2 (by decide))
        obtain ⟨o0, o1, o2, o3⟩ := four_cells OZ
        have fO := row_frozen OZ
        have TZ := Wr.keeps hW1.out TY.out (fun hd => absurd hd.2 (by decide))
        obtain ⟨z0, z1, z2, z3⟩ := four_cells TZ
        replace OZ := hide OZ; replace TZ := hide TZ
        go_wp2_with fail
        refine bodyPost_ret (v := .agg #[.int .i64 (rTok t).kind, .int .i64 (rTok t).place, .string (rTok t).text, .int .i64 (rTok t).value]) (by simp [results, Tryz.results32, go_sem, o0, o1, o2, o3]) rfl ?_
        have W1 : Wr (OnR R) w _ := (Wr.ext XY.out).trans hW1.out
        have hR1 := hRy.out.turned hW1.out hB1.out
        refine ⟨(((W1.setNew (p := ⟨w.heap.size, 0, none⟩) (Nat.le_refl _) _).setNew (p := ⟨w.heap.size, 1, none⟩) (Nat.le_refl _) _).setNew (p := ⟨w.heap.size, 2, none⟩) (Nat.le_refl _) _).setNew (p := ⟨w.heap.size, 3, none⟩) (Nat.le_refl _) _, .inl ⟨rfl, hfi.out, rfl, ?_⟩⟩
        exact (((hR1.aside hRO.out hgO.out _).aside hRO.out hgO.out _).aside hRO.out hgO.out _).aside hRO.out hgO.out _
      · have s1b : (sg.toList != []) = true := by simpa using hs0
        replace hs := hide hs
        have OZ := Wr.keeps hW1.out OY.out (fun hd => absurd hd.2 (by decide))
        obtain ⟨o0, o1, o2, o3⟩ := four_cells OZ
        have fO := row_frozen OZ
        have TZ := Wr.keeps hW1.out TY.out (fun hd => absurd hd.2 (by decide))
        obtain ⟨z0, z1, z2, z3⟩ := four_cells TZ
        replace OZ := hide OZ; replace TZ := hide TZ
        go_wp2_with fail
        refine bodyPost_ret (v := .agg #[.int .i64 (rTok t).kind, .int .i64 (rTok t).place, .string (rTok t).text, .int .i64 (rTok t).value]) (by simp [results, Tryz.results32, go_sem, o0, o1, o2, o3]) rfl ?_
        have W1 : Wr (OnR R) w _ := (Wr.ext XY.out).trans hW1.out
        have hR1 := hRy.out.turned hW1.out hB1.out
        refine ⟨(((W1.setNew (p := ⟨w.heap.size, 0, none⟩) (Nat.le_refl _) _).setNew (p := ⟨w.heap.size, 1, none⟩) (Nat.le_refl _) _).setNew (p := ⟨w.heap.size, 2, none⟩) (Nat.le_refl _) _).setNew (p := ⟨w.heap.size, 3, none⟩) (Nat.le_refl _) _, .inl ⟨rfl, hfi.out, rfl, ?_⟩⟩
        exact (((hR1.aside hRO.out hgO.out _).aside hRO.out hgO.out _).aside hRO.out hgO.out _).aside hRO.out hgO.out _
end Go.Proofs.YtejhegnlmldomaaGreat
