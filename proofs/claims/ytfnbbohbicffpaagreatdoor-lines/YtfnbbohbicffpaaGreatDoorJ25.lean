/-
  The parser: refs are read, and lists of them.
-/
/-
  The parser: a list of refs, an attribute, a line.
-/
import Derived.Test.YtfnbbohbicffpaaGreatDoorParR2
namespace Go.Proofs.YtfnbbohbicffpaaGreatDoor
open Go.RowKit

theorem readRefP {B Be : Nat} {w : World} {P b : Nat} {ts : List Tok} {i : Nat} {rs : List RowE} {bs : List Nat} {rf : List (IDd × Nat)} {e : EntD} (h : Fits B Be w P b ts i rs bs rf e) (hn : ts.length ≤ 1000000) (he : TsEnd ts) (hi : i < ts.length) :
    Calls Tryz.prog 123 #[.pointer (some ⟨P, 0, none⟩), .pointer (some ⟨b, 0, none⟩)] w (ReadIs B Be w P b ts rs bs (refS ts i e rf)) := by
  obtain ⟨t0, h0⟩ := TsEnd.there hi
  by_cases k0 : t0.kind = 1
  · obtain ⟨t1, h1⟩ := TsEnd.there (he.next h0 (by omega))
    by_cases k1 : t1.kind = 10
    · obtain ⟨t2, h2⟩ := TsEnd.there (he.next h1 (by omega))
      by_cases k2 : t2.kind = 1
      · exact readRefYes h hn h0 k0 h1 k1 h2 k2
      · exact readRefNo3 h hn h0 k0 h1 k1 h2 k2
    · exact readRefNo2 h hn h0 k0 h1 k1
  · exact readRefNo1 h hn h0 k0
theorem take_is {ts : List Tok} {i k : Nat} {t : Tok} {j : Nat} (h : takeS ts i k = .ok (t, j)) : j = i + 1 ∧ ts[i]? = some t ∧ t.kind = k := by
  unfold takeS at h
  split at h
  · cases h
  · split at h
    · cases h; exact ⟨rfl, by assumption, by assumption⟩
    · cases h
theorem take_in {ts : List Tok} (he : TsEnd ts) {i k : Nat} {t : Tok} {j : Nat} (h : takeS ts i k = .ok (t, j)) (hk : k ≠ 11) : j = i + 1 ∧ j < ts.length := by
  obtain ⟨rfl, h1, rfl⟩ := take_is h
  exact ⟨rfl, he.next h1 hk⟩
theorem refS_in {ts : List Tok} (he : TsEnd ts) {i : Nat} {e : EntD} {rf : List (IDd × Nat)} {i' : Nat} {e' : EntD} {rf' : List (IDd × Nat)} (h : refS ts i e rf = .ok (i', e', rf')) : i < i' ∧ i' < ts.length := by
  unfold refS at h
  split at h
  · cases h
  · rename_i _ i1 h1
    split at h
    · cases h
    · rename_i _ i2 h2
      split at h
      · cases h
      · rename_i _ i3 h3
        have := take_in he h1 (by decide); have := take_in he h2 (by decide); have := take_in he h3 (by decide)
        split at h
        · cases h
        · split at h
          · cases h
          · cases h; omega
theorem Fits.ext {B Be : Nat} {w w' : World} {P b : Nat} {ts : List Tok} {i : Nat} {rs : List RowE} {bs : List Nat} {rf : List (IDd × Nat)} {e : EntD} (h : Fits B Be w P b ts i rs bs rf e) (x : Ext w w') : Fits B Be w' P b ts i rs bs rf e := by
  obtain ⟨⟨tE, vT, vE, vO, vR, hp⟩, h2, h3, h4, h5, h6, h7⟩ := h
  exact ⟨⟨tE, vT, vE, vO, vR, hp.ext x⟩, h2.ext x, h3, Nat.le_trans h4 (Ext.size x), h5, h6, h7⟩
theorem Fits.onF {B Be : Nat} {w w' : World} {P b : Nat} {ts : List Tok} {i : Nat} {rs : List RowE} {bs : List Nat} {rf : List (IDd × Nat)} {e : EntD} (h : Fits B Be w P b ts i rs bs rf e) {F : Nat} (x : Wr (OnF F) w w') : Fits B Be w' P b ts i rs bs rf e := by
  obtain ⟨⟨tE, vT, vE, vO, vR, hp⟩, h2, h3, h4, h5, h6, h7⟩ := h
  exact ⟨⟨tE, vT, vE, vO, vR, hp.onF x⟩, h2.onF x, h3, Nat.le_trans h4 x.size, h5, h6, h7⟩
theorem chgE_fault {B Be k : Nat} : ¬ ChgE B Be k 47 := by
  rintro (⟨_, h | h⟩ | ⟨_, h | h | h | h | h⟩) <;> exact absurd h (by decide)
theorem chgE_tok {B Be k : Nat} : ¬ ChgE B Be k 71 := by
  rintro (⟨_, h | h⟩ | ⟨_, h | h | h | h | h⟩) <;> exact absurd h (by decide)
theorem Wr.ofF {w : World} {O : Nat} {a b : Value} (h : w.heap[O]? = some (.cells #[a, b] 47 (0, 0))) (x y : Value) : Wr (OnF O) w ((w.setCell ⟨O, 0, none⟩ x).setCell ⟨O, 1, none⟩ y) :=
  ((Wr.refl _ w).setOld (p := ⟨O, 0, none⟩) h ⟨rfl, rfl⟩ _).setOld (p := ⟨O, 1, none⟩) h ⟨rfl, rfl⟩ _
/-- Where the parser stands. -/
def atOf (w : World) (P : Nat) : Nat := match w.cell? ⟨P, 1, none⟩ with
  | some v => (intOf v).toNat
  | none => 0
theorem Fits.at_ {B Be : Nat} {w : World} {P b : Nat} {ts : List Tok} {i : Nat} {rs : List RowE} {bs : List Nat} {rf : List (IDd × Nat)} {e : EntD} (h : Fits B Be w P b ts i rs bs rf e) : atOf w P = i := by
  obtain ⟨tE, vT, vE, vO, vR, hp⟩ := h.par
  unfold atOf
  rw [(five_cells hp.box).2.1]
  simp [intOf]
theorem Fits.took {B Be : Nat} {w w' : World} {P b : Nat} {ts : List Tok} {i : Nat} {rs : List RowE} {bs : List Nat} {rf : List (IDd × Nat)} {e : EntD} (h : Fits B Be w P b ts i rs bs rf e) {tE : Nat} {vT vE vO vR : Value} (hp : ParIn B w' P tE vT vE vO vR ts (i + 1) rs bs rf) (k : Wr (OnP P) w w') : Fits B Be w' P b ts (i + 1) rs bs rf e :=
  ⟨⟨tE, vT, vE, vO, vR, hp⟩, h.ent.onP k, h.base, Nat.le_trans h.size k.size, Nat.le_succ_of_le h.refsFew, h.afterFew, h.attrsFew⟩
theorem Fits.chg {B Be : Nat} {w w' : World} {P b : Nat} {ts : List Tok} {i : Nat} {rs : List RowE} {bs : List Nat} {rf : List (IDd × Nat)} {e : EntD} (h : Fits B Be w P b ts i rs bs rf e) (k : Wr (OnP P) w w') : Wr (ChgE B Be) w w' := by
  obtain ⟨tE, vT, vE, vO, vR, hp⟩ := h.par
  exact k.mono fun _ _ _ hd => onP_chg hp.base hd
theorem takeF {B Be : Nat} {w : World} {P b : Nat} {ts : List Tok} {i : Nat} {rs : List RowE} {bs : List Nat} {rf : List (IDd × Nat)} {e : EntD} (h : Fits B Be w P b ts i rs bs rf e) {t : Tok} (ht : ts[i]? = some t) (hn : ts.length ≤ 1000000) {k : Nat} (hk : t.kind = k) :
    Calls Tryz.prog 68 #[.pointer (some ⟨P, 0, none⟩), .int .i64 k] w fun e' w' => e' = .returned (.tuple #[.agg #[.int .i64 t.kind, .int .i64 t.place, .string t.text, .int .i64 t.value], .agg #[.int .i64 0, .int .i64 0]]) ∧ Hid (Fits B Be w' P b ts (i + 1) rs bs rf e) ∧ Hid (Wr (ChgE B Be) w w') := by
  obtain ⟨tE, vT, vE, vO, vR, hp⟩ := h.par
  exact (takeYes hp ht hn hk).mono fun _ _ hh => ⟨hh.1, h.took hh.2.1.out hh.2.2.out, h.chg hh.2.2.out⟩
theorem takeFN {B Be : Nat} {w : World} {P b : Nat} {ts : List Tok} {i : Nat} {rs : List RowE} {bs : List Nat} {rf : List (IDd × Nat)} {e : EntD} (h : Fits B Be w P b ts i rs bs rf e) {t : Tok} (ht : ts[i]? = some t) (hn : ts.length ≤ 1000000) {k : Nat} (hk : t.kind ≠ k) :
    Calls Tryz.prog 68 #[.pointer (some ⟨P, 0, none⟩), .int .i64 k] w fun e w' => e = .returned (.tuple #[.agg #[.int .i64 0, .int .i64 0, .string ⟨#[]⟩, .int .i64 0], .agg #[.int .i64 6, .int .i64 t.place]]) ∧ Hid (Ext w w') := by
  obtain ⟨tE, vT, vE, vO, vR, hp⟩ := h.par
  exact takeNot hp ht hn hk
theorem peekF {B Be : Nat} {w : World} {P b : Nat} {ts : List Tok} {i : Nat} {rs : List RowE} {bs : List Nat} {rf : List (IDd × Nat)} {e : EntD} (h : Fits B Be w P b ts i rs bs rf e) {t : Tok} (ht : ts[i]? = some t) :
    Calls Tryz.prog 33 #[.pointer (some ⟨P, 0, none⟩)] w fun e w' => e = .returned (.int .i64 t.kind) ∧ Hid (Ext w w') := by
  obtain ⟨tE, vT, vE, vO, vR, hp⟩ := h.par
  exact peekP hp ht
noncomputable def refsT (ts : List Tok) (f i : Nat) (e : EntD) (rf : List (IDd × Nat)) : Except Flt (Nat × EntD × List (IDd × Nat)) :=
  if kindAt ts i = 9 then refsS ts f (i + 1) e rf else .ok (i, e, rf)

set_option maxRecDepth 100000 in
set_option maxHeartbeats 3200000 in
theorem readRefsP {B Be : Nat} {w : World} {P b : Nat} {ts : List Tok} {i : Nat} {rs : List RowE} {bs : List Nat} {rf : List (IDd × Nat)} {e : EntD} (h : Fits B Be w P b ts i rs bs rf e) (hn : ts.length ≤ 1000000) (he : TsEnd ts) (hi : i < ts.length) :
    Calls Tryz.prog 110 #[.pointer (some ⟨P, 0, none⟩), .pointer (some ⟨b, 0, none⟩)] w (ReadIs B Be w P b ts rs bs (refsS ts ts.length i e rf)) := by
  have hf := hide (readRefP (h.ext ((Ext.refl w).alloc (.cells #[.int .i64 0, .int .i64 0] 47))) hn he hi)
  replace h := hide h; replace he := hide he; replace hi := hide hi
  go_enter Tryz.func110, Tryz.ntmps110
  go_wp2_with fail
  refine hf.out.mono ?_
  rintro e1 w1 ⟨hW1, ⟨en, pl, hr, hne, rfl⟩ | ⟨i1, x1, rf1, hr, rfl, hF1⟩⟩
  · have hne1 : (en != 0) = true := by simpa using hne
    have O1 := hide (Wr.keeps hW1.out (heap_alloc_new w (.cells #[.int .i64 0, .int .i64 0] 47)) chgE_fault)
    have hfin : Hid (refsS ts ts.length i e rf = .error (en, pl)) := by
      show _ = _
      obtain ⟨f, hf⟩ : ∃ f, ts.length = f + 1 := ⟨ts.length - 1, by have := hi.out; omega⟩
      rw [hf]; unfold refsS; rw [hr.out]
    go_wp2_with fail
    refine (faultIs _ _ _).mono ?_; rintro e2 w2 ⟨rfl, hw2⟩
    have X2 : Hid (Ext w1 w2) := (by show Ext _ _; rw [hw2]; exact ((Ext.refl w1).alloc _).alloc _)
    have F2 := (hw2 ▸ ext_heap ((Ext.refl _).alloc (.cells #[.int .i64 en, .int .i64 pl] 47)) (heap_alloc_new w1 (.cells #[.int .i64 en, .int .i64 pl] 47)) : w2.heap[w1.heap.size]? = some (.cells #[.int .i64 en, .int .i64 pl] 47))
    have O2 := ext_heap X2.out O1.out
    clear hw2
    have f0 := two_c0 F2; have f1 := two_c1 F2; have o0 := two_c0 O2; have o1 := two_c1 O2; have fO := row_frozen O2
    replace F2 := hide F2; replace O2 := hide O2
    go_wp2_with fail
    refine bodyPost_ret (v := .agg #[.int .i64 en, .int .i64 pl]) (by simp [results, Tryz.results110, go_sem, o0, o1]) rfl ?_
    have W : Wr (ChgE B Be) w w2 := (Wr.ext ((Ext.refl w).alloc _)).trans (hW1.out.trans (Wr.ext X2.out))
    exact ⟨(W.setNew (p := ⟨w.heap.size, 0, none⟩) (Nat.le_refl _) _).setNew (p := ⟨w.heap.size, 1, none⟩) (Nat.le_refl _) _, .inl ⟨en, pl, hfin, hne, rfl⟩⟩
  · have O1 := hide (Wr.keeps hW1.out (heap_alloc_new w (.cells #[.int .i64 0, .int .i64 0] 47)) chgE_fault)
    go_wp2_with fail
    refine (faultIs _ _ _).mono ?_; rintro e2 w2 ⟨rfl, hw2⟩
    have X2 : Hid (Ext w1 w2) := (by show Ext _ _; rw [hw2]; exact ((Ext.refl w1).alloc _).alloc _)
    clear hw2
    have O2 := hide (ext_heap X2.out O1.out)
    have hF2 := hide (hF1.out.ext X2.out)
    have W2 : Hid (Wr (ChgE B Be) w w2) := (Wr.ext ((Ext.refl w).alloc _)).trans (hW1.out.trans (Wr.ext X2.out))
    go_wp2_with fail
    have hi1 := refS_in he.out hr.out
    have hst : Hid (refsS ts ts.length i e rf = refsT ts (ts.length - 1) i1 x1 rf1) := by
      show _ = _
      obtain ⟨f, hf⟩ : ∃ f, ts.length = f + 1 := ⟨ts.length - 1, by have := hi.out; omega⟩
      rw [hf]; conv => lhs; unfold refsS
      rw [hr.out]; rfl
    obtain ⟨hlt1, hlt2⟩ := hi1
    clear hF1 hW1 O1 X2
    go_loopw [] (fun wr => ∃ (f j : Nat) (x : EntD) (rfj : List (IDd × Nat)), Hid (Fits B Be wr P b ts j rs bs rfj x) ∧ Hid (Wr (ChgE B Be) w wr) ∧ Hid (wr.heap[w.heap.size]? = some (.cells #[.int .i64 0, .int .i64 0] 47)) ∧ Hid (refsS ts ts.length i e rf = refsT ts f j x rfj) ∧ j < ts.length ∧ ts.length ≤ f + j) (fun wr => ts.length - atOf wr P)
    case atStart => exact ⟨ts.length - 1, i1, x1, rf1, hF2, W2, O2, hst, hlt2, by omega⟩
    case round =>
      clear hF2 W2 O2 hst hlt1 hlt2
      obtain ⟨f, j, x, rfj, hF, hW, hO, hst, hlt, hfu⟩ := hrel
      obtain ⟨t, ht⟩ := TsEnd.there hlt
      have hpk := hide (peekF hF.out ht)
      by_cases hk : t.kind = 9
      · have hk1 : ((t.kind : Int) == 9) = true := by simp [hk]
        have hka : kindAt ts j = 9 := by rw [kind_at ht]; exact hk
        have hj1 := he.out.next ht (by omega)
        replace hk := hide hk; replace hka := hide hka; replace ht := hide ht
        go_wp2_with fail
        refine hpk.out.mono ?_; rintro e3 w3 ⟨rfl, he3⟩
        have hF3 := hide (hF.out.ext he3.out)
        have hO3 := hide (ext_heap he3.out hO.out)
        go_wp2_with fail
        refine (takeF hF3.out ht.out hn hk.out).mono ?_; rintro e4 w4 ⟨rfl, hF4, hW4⟩
        have hO4 := hide (Wr.keeps hW4.out hO3.out chgE_fault)
        go_wp2_with fail
        refine (faultIs _ _ _).mono ?_; rintro e5 w5 ⟨rfl, hw5⟩
        have X5 : Hid (Ext w4 w5) := (by show Ext _ _; rw [hw5]; exact (((Ext.refl w4).alloc _).alloc _).alloc _)
        clear hw5
        have hF5 := hide (hF4.out.ext X5.out); have hO5 := hide (ext_heap X5.out hO4.out)
        have hW5 : Hid (Wr (ChgE B Be) w w5) := hW.out.trans ((Wr.ext he3.out).trans (hW4.out.trans (Wr.ext X5.out)))
        obtain ⟨f', rfl⟩ : ∃ f', f = f' + 1 := ⟨f - 1, by omega⟩
        have hst5 : Hid (refsS ts ts.length i e rf = refsS ts (f' + 1) (j + 1) x rfj) := by
          show _ = _
          rw [hst.out]; unfold refsT; rw [if_pos hka.out]
        clear hF3 hF4 hO3 hO4 hW4 he3 X5 hst
        go_wp2_with fail
        refine (readRefP hF5.out hn he.out hj1).mono ?_
        rintro e6 w6 ⟨hW6, ⟨en, pl, hr6, hne, rfl⟩ | ⟨i6, x6, rf6, hr6, rfl, hF6⟩⟩
        · have hne1 : (en != 0) = true := by simpa using hne
          have hfin : Hid (refsS ts ts.length i e rf = .error (en, pl)) := by
            show _ = _
            rw [hst5.out]; unfold refsS; rw [hr6.out]
          have O6 := hide (Wr.keeps hW6.out hO5.out chgE_fault)
          go_wp2_with fail
          refine (faultIs _ _ _).mono ?_; rintro e7 w7 ⟨rfl, hw7⟩
          have X7 : Hid (Ext w6 w7) := (by show Ext _ _; rw [hw7]; exact ((Ext.refl w6).alloc _).alloc _)
          have F7 := (hw7 ▸ ext_heap ((Ext.refl _).alloc (.cells #[.int .i64 en, .int .i64 pl] 47)) (heap_alloc_new w6 (.cells #[.int .i64 en, .int .i64 pl] 47)) : w7.heap[w6.heap.size]? = some (.cells #[.int .i64 en, .int .i64 pl] 47))
          have O7 := ext_heap X7.out O6.out
          clear hw7
          have f0 := two_c0 F7; have f1 := two_c1 F7; have o0 := two_c0 O7; have o1 := two_c1 O7; have fO := row_frozen O7
          replace F7 := hide F7; replace O7 := hide O7
          go_wp2_with fail
          refine bodyPost_ret (v := .agg #[.int .i64 en, .int .i64 pl]) (by simp [results, Tryz.results110, go_sem, o0, o1]) rfl ?_
          have W : Wr (ChgE B Be) w w7 := hW5.out.trans (hW6.out.trans (Wr.ext X7.out))
          exact ⟨(W.setNew (p := ⟨w.heap.size, 0, none⟩) (Nat.le_refl _) _).setNew (p := ⟨w.heap.size, 1, none⟩) (Nat.le_refl _) _, .inl ⟨en, pl, hfin, hne, rfl⟩⟩
        · have O6 := hide (Wr.keeps hW6.out hO5.out chgE_fault)
          have hi6 := refS_in he.out hr6.out
          have hst6 : Hid (refsS ts ts.length i e rf = refsT ts f' i6 x6 rf6) := by
            show _ = _
            rw [hst5.out]; conv => lhs; unfold refsS
            rw [hr6.out]; rfl
          go_wp2_with fail
          refine (faultIs _ _ _).mono ?_; rintro e7 w7 ⟨rfl, hw7⟩
          have X7 : Hid (Ext w6 w7) := (by show Ext _ _; rw [hw7]; exact ((Ext.refl w6).alloc _).alloc _)
          clear hw7
          have O7 := hide (ext_heap X7.out O6.out)
          have hF7 := hide (hF6.out.ext X7.out)
          have hW7 : Hid (Wr (ChgE B Be) w w7) := hW5.out.trans (hW6.out.trans (Wr.ext X7.out))
          go_wp2_with fail
          go_roundw
          case rel => exact ⟨f', i6, x6, rf6, hF7, hW7, O7, hst6, hi6.2, by omega⟩
          case measure =>
            rw [hF7.out.at_, hF.out.at_]; omega
      · have hk1 : ((t.kind : Int) == 9) = false := by simp; omega
        have hka : kindAt ts j ≠ 9 := by rw [kind_at ht]; exact hk
        have hfin : Hid (refsS ts ts.length i e rf = .ok (j, x, rfj)) := by
          show _ = _
          rw [hst.out]; unfold refsT; rw [if_neg hka]
        replace hk := hide hk; replace hka := hide hka; replace ht := hide ht
        go_wp2_with fail
        refine hpk.out.mono ?_; rintro e3 w3 ⟨rfl, he3⟩
        have hF3 := hide (hF.out.ext he3.out)
        have O3 := ext_heap he3.out hO.out
        have hW3 : Hid (Wr (ChgE B Be) w w3) := hW.out.trans (Wr.ext he3.out)
        have o0 := two_c0 O3; have o1 := two_c1 O3; have fO := row_frozen O3
        replace O3 := hide O3
        go_wp2_with fail
        refine bodyPost_ret (v := .agg #[.int .i64 0, .int .i64 0]) (by simp [results, Tryz.results110, go_sem, o0, o1]) rfl ?_
        have WF := Wr.ofF O3.out (.int .i64 0) (.int .i64 0)
        exact ⟨hW3.out.thenNew WF fun j t hd => by have := hd.1; omega, .inr ⟨j, x, rfj, hfin, rfl, hF3.out.onF WF⟩⟩
end Go.Proofs.YtfnbbohbicffpaaGreatDoor

namespace Go.Proofs.YtfnbbohbicffpaaGreatDoor
open Go.RowKit

theorem refsS_in {ts : List Tok} (he : TsEnd ts) : ∀ (f : Nat) {i : Nat} {e : EntD} {rf : List (IDd × Nat)} {i' : Nat} {e' : EntD} {rf' : List (IDd × Nat)}, refsS ts f i e rf = .ok (i', e', rf') → i < i' ∧ i' < ts.length
  | 0, i, e, rf, i', e', rf', h => by cases h
  | f + 1, i, e, rf, i', e', rf', h => by
    unfold refsS at h
    split at h
    · cases h
    · rename_i i1 e1 rf1 h1
      have h2 := refS_in he h1
      split at h
      · have := refsS_in he f h; omega
      · cases h; exact h2

set_option maxRecDepth 100000 in
set_option maxHeartbeats 3200000 in
theorem readListP {B Be : Nat} {w : World} {P b : Nat} {ts : List Tok} {i : Nat} {rs : List RowE} {bs : List Nat} {rf : List (IDd × Nat)} {e : EntD} (h : Fits B Be w P b ts i rs bs rf e) (hn : ts.length ≤ 1000000) (he : TsEnd ts) (hi : i < ts.length) :
    Calls Tryz.prog 89 #[.pointer (some ⟨P, 0, none⟩), .pointer (some ⟨b, 0, none⟩)] w (ReadIs B Be w P b ts rs bs (listS ts i e rf)) := by
  obtain ⟨t0, h0⟩ := TsEnd.there hi
  have hF0 := hide (h.ext ((Ext.refl w).alloc (.cells #[.int .i64 0, .int .i64 0] 47)))
  replace h := hide h; replace hi := hide hi
  by_cases k0 : t0.kind = 6
  · have hj1 := he.next h0 (by omega)
    obtain ⟨t1, h1⟩ := TsEnd.there hj1
    have hst : Hid (listS ts i e rf = match (if kindAt ts (i + 1) = 7 then .ok (i + 1, e, rf) else refsS ts ts.length (i + 1) e rf : Except Flt (Nat × EntD × List (IDd × Nat))) with
      | .error x => .error x
      | .ok (i, e, rf) => match takeS ts i 7 with
        | .error x => .error x
        | .ok (_, i) => .ok (i, e, rf)) := by
      show _ = _
      unfold listS; rw [take_ok h0 k0]; rfl
    replace h0 := hide h0; replace k0 := hide k0; replace he := hide he
    go_enter Tryz.func89, Tryz.ntmps89
    go_wp2_with fail
    refine (takeF hF0.out h0.out hn k0.out).mono ?_; rintro e1 w1 ⟨rfl, hF1, hW1⟩
    have O1 := hide (Wr.keeps hW1.out (heap_alloc_new w (.cells #[.int .i64 0, .int .i64 0] 47)) chgE_fault)
    go_wp2_with fail
    refine (faultIs _ _ _).mono ?_; rintro e2 w2 ⟨rfl, hw2⟩
    have X2 : Hid (Ext w1 w2) := (by show Ext _ _; rw [hw2]; exact ((((Ext.refl w1).alloc _).alloc _).alloc _))
    clear hw2
    have hF2 := hide (hF1.out.ext X2.out); have O2 := hide (ext_heap X2.out O1.out)
    have W2 : Hid (Wr (ChgE B Be) w w2) := (Wr.ext ((Ext.refl w).alloc _)).trans (hW1.out.trans (Wr.ext X2.out))
    clear hF1 hW1 O1 X2
    go_wp2_with fail
    refine (peekF hF2.out h1).mono ?_; rintro e3 w3 ⟨rfl, he3⟩
    have hF3 := hide (hF2.out.ext he3.out); have O3 := hide (ext_heap he3.out O2.out)
    have W3 : Hid (Wr (ChgE B Be) w w3) := W2.out.trans (Wr.ext he3.out)
    clear hF2 O2 W2 he3
    by_cases k1 : t1.kind = 7
    · have hk1 : ((t1.kind : Int) != 7) = false := by simp [k1]
      have hfin : Hid (listS ts i e rf = .ok (i + 1 + 1, e, rf)) := by
        show _ = _
        rw [hst.out, if_pos ((kind_at h1).trans k1)]; dsimp only; rw [take_ok h1 k1]
      replace h1 := hide h1; replace k1 := hide k1
      go_wp2_with fail
      refine (takeF hF3.out h1.out hn k1.out).mono ?_; rintro e4 w4 ⟨rfl, hF4, hW4⟩
      have hx := ((Ext.refl w4).alloc (.cells #[.int .i64 t1.kind, .int .i64 t1.place, .string t1.text, .int .i64 t1.value] 71)).alloc (.cells #[.int .i64 0, .int .i64 0] 47)
      have OZ := ext_heap hx (Wr.keeps hW4.out O3.out chgE_fault)
      have o0 := two_c0 OZ; have o1 := two_c1 OZ; have fO := row_frozen OZ
      replace hx := hide hx; replace OZ := hide OZ
      go_wp2_with fail
      refine bodyPost_ret (v := .agg #[.int .i64 0, .int .i64 0]) (by simp [results, Tryz.results89, go_sem, o0, o1]) rfl ?_
      have WF := Wr.ofF OZ.out (.int .i64 0) (.int .i64 0)
      have WZ : Wr (ChgE B Be) w _ := ((W3.out.trans hW4.out).trans (Wr.ext hx.out)).thenNew WF fun j t hd => by have := hd.1; omega
      exact ⟨WZ, .inr ⟨i + 1 + 1, e, rf, hfin, rfl, (hF4.out.ext hx.out).onF WF⟩⟩
    · have hk1 : ((t1.kind : Int) != 7) = true := by simp; omega
      rw [if_neg (by rw [kind_at h1]; exact k1)] at hst
      replace h1 := hide h1; replace k1 := hide k1
      go_wp2_with fail
      refine (readRefsP hF3.out hn he.out hj1).mono ?_
      rintro e4 w4 ⟨hW4, ⟨en, pl, hr, hne, rfl⟩ | ⟨i4, x4, rf4, hr, rfl, hF4⟩⟩
      · have hne1 : (en != 0) = true := by simpa using hne
        have hfin : Hid (listS ts i e rf = .error (en, pl)) := by
          show _ = _
          rw [hst.out, hr.out]
        have O4 := hide (Wr.keeps hW4.out O3.out chgE_fault)
        go_wp2_with fail
        refine (faultIs _ _ _).mono ?_; rintro e5 w5 ⟨rfl, hw5⟩
        have X5 : Hid (Ext w4 w5) := (by show Ext _ _; rw [hw5]; exact (((Ext.refl w4).alloc _).alloc _))
        have F5 := (hw5 ▸ ext_heap ((Ext.refl _).alloc (.cells #[.int .i64 en, .int .i64 pl] 47)) (heap_alloc_new w4 (.cells #[.int .i64 en, .int .i64 pl] 47)) : w5.heap[w4.heap.size]? = some (.cells #[.int .i64 en, .int .i64 pl] 47))
        have O5 := ext_heap X5.out O4.out
        clear hw5
        have f0 := two_c0 F5; have f1 := two_c1 F5; have o0 := two_c0 O5; have o1 := two_c1 O5; have fO := row_frozen O5
        replace F5 := hide F5; replace O5 := hide O5
        go_wp2_with fail
        refine bodyPost_ret (v := .agg #[.int .i64 en, .int .i64 pl]) (by simp [results, Tryz.results89, go_sem, o0, o1]) rfl ?_
        have W : Wr (ChgE B Be) w w5 := (W3.out.trans hW4.out).trans (Wr.ext X5.out)
        exact ⟨(W.setNew (p := ⟨w.heap.size, 0, none⟩) (Nat.le_refl _) _).setNew (p := ⟨w.heap.size, 1, none⟩) (Nat.le_refl _) _, .inl ⟨en, pl, hfin, hne, rfl⟩⟩
      · have O4 := hide (Wr.keeps hW4.out O3.out chgE_fault)
        have hi4 := (refsS_in he.out _ hr.out).2
        obtain ⟨t4, h4⟩ := TsEnd.there hi4
        rw [hr.out] at hst
        go_wp2_with fail
        refine (faultIs _ _ _).mono ?_; rintro e5 w5 ⟨rfl, hw5⟩
        have X5 : Hid (Ext w4 w5) := (by show Ext _ _; rw [hw5]; exact (((Ext.refl w4).alloc _).alloc _))
        clear hw5
        have hF5 := hide (hF4.out.ext X5.out); have O5 := hide (ext_heap X5.out O4.out)
        have W5 : Hid (Wr (ChgE B Be) w w5) := W3.out.trans (hW4.out.trans (Wr.ext X5.out))
        clear hF4 O4 hW4 X5
        by_cases k4 : t4.kind = 7
        · have hfin : Hid (listS ts i e rf = .ok (i4 + 1, x4, rf4)) := by
            show _ = _
            rw [hst.out, take_ok h4 k4]
          replace h4 := hide h4; replace k4 := hide k4
          go_wp2_with fail
          refine (takeF hF5.out h4.out hn k4.out).mono ?_; rintro e6 w6 ⟨rfl, hF6, hW6⟩
          have hx := ((Ext.refl w6).alloc (.cells #[.int .i64 t4.kind, .int .i64 t4.place, .string t4.text, .int .i64 t4.value] 71)).alloc (.cells #[.int .i64 0, .int .i64 0] 47)
          have OZ := ext_heap hx (Wr.keeps hW6.out O5.out chgE_fault)
          have o0 := two_c0 OZ; have o1 := two_c1 OZ; have fO := row_frozen OZ
          replace hx := hide hx; replace OZ := hide OZ
          go_wp2_with fail
          refine bodyPost_ret (v := .agg #[.int .i64 0, .int .i64 0]) (by simp [results, Tryz.results89, go_sem, o0, o1]) rfl ?_
          have WF := Wr.ofF OZ.out (.int .i64 0) (.int .i64 0)
          have WZ : Wr (ChgE B Be) w _ := ((W5.out.trans hW6.out).trans (Wr.ext hx.out)).thenNew WF fun j t hd => by have := hd.1; omega
          exact ⟨WZ, .inr ⟨i4 + 1, x4, rf4, hfin, rfl, (hF6.out.ext hx.out).onF WF⟩⟩
        · have hfin : Hid (listS ts i e rf = .error (6, t4.place)) := by
            show _ = _
            rw [hst.out, take_no h4 k4]
          replace h4 := hide h4; replace k4 := hide k4
          go_wp2_with fail
          refine (takeFN hF5.out h4.out hn k4.out).mono ?_; rintro e6 w6 ⟨rfl, he6⟩
          have hx := ((Ext.refl w6).alloc (.cells #[.int .i64 0, .int .i64 0, .string ⟨#[]⟩, .int .i64 0] 71)).alloc (.cells #[.int .i64 6, .int .i64 t4.place] 47)
          have OZ := ext_heap hx (ext_heap he6.out O5.out)
          have o0 := two_c0 OZ; have o1 := two_c1 OZ; have fO := row_frozen OZ
          replace hx := hide hx; replace OZ := hide OZ
          go_wp2_with fail
          refine bodyPost_ret (v := .agg #[.int .i64 6, .int .i64 t4.place]) (by simp [results, Tryz.results89, go_sem, o0, o1]) rfl ?_
          have WZ : Wr (ChgE B Be) w _ := (W5.out.trans (Wr.ext he6.out)).trans (Wr.ext hx.out)
          exact ⟨(WZ.setNew (p := ⟨w.heap.size, 0, none⟩) (Nat.le_refl _) _).setNew (p := ⟨w.heap.size, 1, none⟩) (Nat.le_refl _) _, .inl ⟨6, t4.place, hfin, by decide, rfl⟩⟩
  · have hfin : Hid (listS ts i e rf = .error (6, t0.place)) := by
      show _ = _
      unfold listS; rw [take_no h0 k0]
    replace h0 := hide h0; replace k0 := hide k0; replace he := hide he
    go_enter Tryz.func89, Tryz.ntmps89
    go_wp2_with fail
    refine (takeFN hF0.out h0.out hn k0.out).mono ?_; rintro e1 w1 ⟨rfl, he1⟩
    have O1 := hide (ext_heap he1.out (heap_alloc_new w (.cells #[.int .i64 0, .int .i64 0] 47)))
    have W1 : Hid (Wr (ChgE B Be) w w1) := (Wr.ext ((Ext.refl w).alloc _)).trans (Wr.ext he1.out)
    go_wp2_with fail
    refine (faultIs _ _ _).mono ?_; rintro e2 w2 ⟨rfl, hw2⟩
    have X2 : Hid (Ext w1 w2) := (by show Ext _ _; rw [hw2]; exact ((((Ext.refl w1).alloc _).alloc _).alloc _))
    have F2 := (hw2 ▸ ext_heap ((Ext.refl _).alloc (.cells #[.int .i64 6, .int .i64 t0.place] 47)) (two_hi w1 (.cells #[.int .i64 0, .int .i64 0, .string ⟨#[]⟩, .int .i64 0] 71) (.cells #[.int .i64 6, .int .i64 t0.place] 47)) : w2.heap[w1.heap.size + 1]? = some (.cells #[.int .i64 6, .int .i64 t0.place] 47))
    have O2 := ext_heap X2.out O1.out
    clear hw2
    have f0 := two_c0 F2; have f1 := two_c1 F2; have o0 := two_c0 O2; have o1 := two_c1 O2; have fO := row_frozen O2
    replace F2 := hide F2; replace O2 := hide O2
    go_wp2_with fail
    refine bodyPost_ret (v := .agg #[.int .i64 6, .int .i64 t0.place]) (by simp [results, Tryz.results89, go_sem, o0, o1]) rfl ?_
    have W : Wr (ChgE B Be) w w2 := W1.out.trans (Wr.ext X2.out)
    exact ⟨(W.setNew (p := ⟨w.heap.size, 0, none⟩) (Nat.le_refl _) _).setNew (p := ⟨w.heap.size, 1, none⟩) (Nat.le_refl _) _, .inl ⟨6, t0.place, hfin, by decide, rfl⟩⟩
end Go.Proofs.YtfnbbohbicffpaaGreatDoor
