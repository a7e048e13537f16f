/-
  The parser: a list of refs, an attribute, a line.
-/
/-
  The parser: a name ahead of one more '=', and a value behind it.
-/
/-
  The parser: a line of a resource.
-/
/-
  The parser: the head of a resource.
-/
/-
  A key is looked for among the rows (table St).
-/
import Derived.Test.YtfoelahabalbpaaGreatDoorJ19
import Derived.Test.YtfoelahabalbpaaGreatDoorJ18
import Derived.Test.YtfoelahabalbpaaGreatDoorJ7
import Derived.Laws.BitsAllLaws
namespace Go.Proofs.YtfoelahabalbpaaGreatDoor
open Go.RowKit

theorem refsS_in {ts : List Tok} (he : TsEnd ts) : ∀ (f : Nat) {i : Nat} {e : EntD} {rf : List (IDd × Nat)} {i' : Nat} {e' : EntD} {rf' : List (IDd × Nat)}, refsS ts f i e rf = .ok (i', e', rf') → i < i' ∧ i' < ts.length
  | 0, i, e, rf, i', e', rf', h => by cases h
  | f + 1, i, e, rf, i', e', rf', h => by
    unfold refsS at h
    split at h
    · cases h
    · rename_i i1 e1 rf1 h1
      have h2 := refS_in he h1
      split at h
      · have := refsS_in he f h; omega
      · cases h; exact h2

set_option maxRecDepth 100000 in
set_option maxHeartbeats 3200000 in
theorem readListP {B Be : Nat} {w : World} {P b : Nat} {ts : List Tok} {i : Nat} {rs : List RowE} {bs : List Nat} {rf : List (IDd × Nat)} {e : EntD} (h : Fits B Be w P b ts i rs bs rf e) (hn : ts.length ≤ 1000000) (he : TsEnd ts) (hi : i < ts.length) :
    Calls Tryz.prog 157 #[.pointer (some ⟨P, 0, none⟩), .pointer (some ⟨b, 0, none⟩)] w (ReadIs B Be w P b ts rs bs (listS ts i e rf)) := by
  obtain ⟨t0, h0⟩ := TsEnd.there hi
  have hF0 := hide (h.ext ((Ext.refl w).alloc (.cells #[.int .i64 0, .int .i64 0] 72)))
  replace h := hide h; replace hi := hide hi
  by_cases k0 : t0.kind = 6
  · have hj1 := he.next h0 (by omega)
    obtain ⟨t1, h1⟩ := TsEnd.there hj1
    have hst : Hid (listS ts i e rf = match (if kindAt ts (i + 1) = 7 then .ok (i + 1, e, rf) else refsS ts ts.length (i + 1) e rf : Except Flt (Nat × EntD × List (IDd × Nat))) with
      | .error x => .error x
      | .ok (i, e, rf) => match takeS ts i 7 with
        | .error x => .error x
        | .ok (_, i) => .ok (i, e, rf)) := by
      show _ = _
      unfold listS; rw [take_ok h0 k0]; rfl
    replace h0 := hide h0; replace k0 := hide k0; replace he := hide he
    go_enter Tryz.func157, Tryz.ntmps157
    go_wp2_with fail
    refine (takeF hF0.out h0.out hn k0.out).mono ?_; rintro e1 w1 ⟨rfl, hF1, hW1⟩
    have O1 := hide (Wr.keeps hW1.out (heap_alloc_new w (.cells #[.int .i64 0, .int .i64 0] 72)) chgE_fault)
    go_wp2_with fail
    refine (faultIs _ _ _).mono ?_; rintro e2 w2 ⟨rfl, hw2⟩
    have X2 : Hid (Ext w1 w2) := (by show Ext _ _; rw [hw2]; exact ((((Ext.refl w1).alloc _).alloc _).alloc _))
    clear hw2
    have hF2 := hide (hF1.out.ext X2.out); have O2 := hide (ext_heap X2.out O1.out)
    have W2 : Hid (Wr (ChgE B Be) w w2) := (Wr.ext ((Ext.refl w).alloc _)).trans (hW1.out.trans (Wr.ext X2.out))
    clear hF1 hW1 O1 X2
    go_wp2_with fail
    refine (peekF hF2.out h1).mono ?_; rintro e3 w3 ⟨rfl, he3⟩
    have hF3 := hide (hF2.out.ext he3.out); have O3 := hide (ext_heap he3.out O2.out)
    have W3 : Hid (Wr (ChgE B Be) w w3) := W2.out.trans (Wr.ext he3.out)
    clear hF2 O2 W2 he3
    by_cases k1 : t1.kind = 7
    · have hk1 : ((t1.kind : Int) != 7) = false := by simp [k1]
      have hfin : Hid (listS ts i e rf = .ok (i + 1 + 1, e, rf)) := by
        show _ = _
        rw [hst.out, if_pos ((kind_at h1).trans k1)]; dsimp only; rw [take_ok h1 k1]
      replace h1 := hide h1; replace k1 := hide k1
      go_wp2_with fail
      refine (takeF hF3.out h1.out hn k1.out).mono ?_; rintro e4 w4 ⟨rfl, hF4, hW4⟩
      have hx := ((Ext.refl w4).alloc (.cells #[.int .i64 t1.kind, .int .i64 t1.place, .string t1.text, .int .i64 t1.value] 114)).alloc (.cells #[.int .i64 0, .int .i64 0] 72)
      have OZ := ext_heap hx (Wr.keeps hW4.out O3.out chgE_fault)
      have o0 := two_c0 OZ; have o1 := two_c1 OZ; have fO := row_frozen OZ
      replace hx := hide hx; replace OZ := hide OZ
      go_wp2_with fail
      refine bodyPost_ret (v := .agg #[.int .i64 0, .int .i64 0]) (by simp [results, Tryz.results157, go_sem, o0, o1]) rfl ?_
      have WF := Wr.ofF OZ.out (.int .i64 0) (.int .i64 0)
      have WZ : Wr (ChgE B Be) w _ := ((W3.out.trans hW4.out).trans (Wr.ext hx.out)).thenNew WF fun j t hd => by have := hd.1; omega
      exact ⟨WZ, .inr ⟨i + 1 + 1, e, rf, hfin, rfl, (hF4.out.ext hx.out).onF WF⟩⟩
    · have hk1 : ((t1.kind : Int) != 7) = true := by simp; omega
      rw [if_neg (by rw [kind_at h1]; exact k1)] at hst
      replace h1 := hide h1; replace k1 := hide k1
      go_wp2_with fail
      refine (readRefsP hF3.out hn he.out hj1).mono ?_
      rintro e4 w4 ⟨hW4, ⟨en, pl, hr, hne, rfl⟩ | ⟨i4, x4, rf4, hr, rfl, hF4⟩⟩
      · have hne1 : (en != 0) = true := by simpa using hne
        have hfin : Hid (listS ts i e rf = .error (en, pl)) := by
          show _ = _
          rw [hst.out, hr.out]
        have O4 := hide (Wr.keeps hW4.out O3.out chgE_fault)
        go_wp2_with fail
        refine (faultIs _ _ _).mono ?_; rintro e5 w5 ⟨rfl, hw5⟩
        have X5 : Hid (Ext w4 w5) := (by show Ext _ _; rw [hw5]; exact (((Ext.refl w4).alloc _).alloc _))
        have F5 := (hw5 ▸ ext_heap ((Ext.refl _).alloc (.cells #[.int .i64 en, .int .i64 pl] 72)) (heap_alloc_new w4 (.cells #[.int .i64 en, .int .i64 pl] 72)) : w5.heap[w4.heap.size]? = some (.cells #[.int .i64 en, .int .i64 pl] 72))
        have O5 := ext_heap X5.out O4.out
        clear hw5
        have f0 := two_c0 F5; have f1 := two_c1 F5; have o0 := two_c0 O5; have o1 := two_c1 O5; have fO := row_frozen O5
        replace F5 := hide F5; replace O5 := hide O5
        go_wp2_with fail
        refine bodyPost_ret (v := .agg #[.int .i64 en, .int .i64 pl]) (by simp [results, Tryz.results157, go_sem, o0, o1]) rfl ?_
        have W : Wr (ChgE B Be) w w5 := (W3.out.trans hW4.out).trans (Wr.ext X5.out)
        exact ⟨(W.setNew (p := ⟨w.heap.size, 0, none⟩) (Nat.le_refl _) _).setNew (p := ⟨w.heap.size, 1, none⟩) (Nat.le_refl _) _, .inl ⟨en, pl, hfin, hne, rfl⟩⟩
      · have O4 := hide (Wr.keeps hW4.out O3.out chgE_fault)
        have hi4 := (refsS_in he.out _ hr.out).2
        obtain ⟨t4, h4⟩ := TsEnd.there hi4
        rw [hr.out] at hst
        go_wp2_with fail
        refine (faultIs _ _ _).mono ?_; rintro e5 w5 ⟨rfl, hw5⟩
        have X5 : Hid (Ext w4 w5) := (by show Ext _ _; rw [hw5]; exact (((Ext.refl w4).alloc _).alloc _))
        clear hw5
        have hF5 := hide (hF4.out.ext X5.out); have O5 := hide (ext_heap X5.out O4.out)
        have W5 : Hid (Wr (ChgE B Be) w w5) := W3.out.trans (hW4.out.trans (Wr.ext X5.out))
        clear hF4 O4 hW4 X5
        by_cases k4 : t4.kind = 7
        · have hfin : Hid (listS ts i e rf = .ok (i4 + 1, x4, rf4)) := by
            show _ = _
            rw [hst.out, take_ok h4 k4]
          replace h4 := hide h4; replace k4 := hide k4
          go_wp2_with fail
          refine (takeF hF5.out h4.out hn k4.out).mono ?_; rintro e6 w6 ⟨rfl, hF6, hW6⟩
          have hx := ((Ext.refl w6).alloc (.cells #[.int .i64 t4.kind, .int .i64 t4.place, .string t4.text, .int .i64 t4.value] 114)).alloc (.cells #[.int .i64 0, .int .i64 0] 72)
          have OZ := ext_heap hx (Wr.keeps hW6.out O5.out chgE_fault)
          have o0 := two_c0 OZ; have o1 := two_c1 OZ; have fO := row_frozen OZ
          replace hx := hide hx; replace OZ := hide OZ
          go_wp2_with fail
          refine bodyPost_ret (v := .agg #[.int .i64 0, .int .i64 0]) (by simp [results, Tryz.results157, go_sem, o0, o1]) rfl ?_
          have WF := Wr.ofF OZ.out (.int .i64 0) (.int .i64 0)
          have WZ : Wr (ChgE B Be) w _ := ((W5.out.trans hW6.out).trans (Wr.ext hx.out)).thenNew WF fun j t hd => by have := hd.1; omega
          exact ⟨WZ, .inr ⟨i4 + 1, x4, rf4, hfin, rfl, (hF6.out.ext hx.out).onF WF⟩⟩
        · have hfin : Hid (listS ts i e rf = .error (6, t4.place)) := by
            show _ = _
            rw [hst.out, take_no h4 k4]
          replace h4 := hide h4; replace k4 := hide k4
          go_wp2_with fail
          refine (takeFN hF5.out h4.out hn k4.out).mono ?_; rintro e6 w6 ⟨rfl, he6⟩
          have hx := ((Ext.refl w6).alloc (.cells #[.int .i64 0, .int .i64 0, .string ⟨#[]⟩, .int .i64 0] 114)).alloc (.cells #[.int .i64 6, .int .i64 t4.place] 72)
          have OZ := ext_heap hx (ext_heap he6.out O5.out)
          have o0 := two_c0 OZ; have o1 := two_c1 OZ; have fO := row_frozen OZ
          replace hx := hide hx; replace OZ := hide OZ
          go_wp2_with fail
          refine bodyPost_ret (v := .agg #[.int .i64 6, .int .i64 t4.place]) (by simp [results, Tryz.results157, go_sem, o0, o1]) rfl ?_
          have WZ : Wr (ChgE B Be) w _ := (W5.out.trans (Wr.ext he6.out)).trans (Wr.ext hx.out)
          exact ⟨(WZ.setNew (p := ⟨w.heap.size, 0, none⟩) (Nat.le_refl _) _).setNew (p := ⟨w.heap.size, 1, none⟩) (Nat.le_refl _) _, .inl ⟨6, t4.place, hfin, by decide, rfl⟩⟩
  · have hfin : Hid (listS ts i e rf = .error (6, t0.place)) := by
      show _ = _
      unfold listS; rw [take_no h0 k0]
    replace h0 := hide h0; replace k0 := hide k0; replace he := hide he
    go_enter Tryz.func157, Tryz.ntmps157
    go_wp2_with fail
    refine (takeFN hF0.out h0.out hn k0.out).mono ?_; rintro e1 w1 ⟨rfl, he1⟩
    have O1 := hide (ext_heap he1.out (heap_alloc_new w (.cells #[.int .i64 0, .int .i64 0] 72)))
    have W1 : Hid (Wr (ChgE B Be) w w1) := (Wr.ext ((Ext.refl w).alloc _)).trans (Wr.ext he1.out)
    go_wp2_with fail
    refine (faultIs _ _ _).mono ?_; rintro e2 w2 ⟨rfl, hw2⟩
    have X2 : Hid (Ext w1 w2) := (by show Ext _ _; rw [hw2]; exact ((((Ext.refl w1).alloc _).alloc _).alloc _))
    have F2 := (hw2 ▸ ext_heap ((Ext.refl _).alloc (.cells #[.int .i64 6, .int .i64 t0.place] 72)) (two_hi w1 (.cells #[.int .i64 0, .int .i64 0, .string ⟨#[]⟩, .int .i64 0] 114) (.cells #[.int .i64 6, .int .i64 t0.place] 72)) : w2.heap[w1.heap.size + 1]? = some (.cells #[.int .i64 6, .int .i64 t0.place] 72))
    have O2 := ext_heap X2.out O1.out
    clear hw2
    have f0 := two_c0 F2; have f1 := two_c1 F2; have o0 := two_c0 O2; have o1 := two_c1 O2; have fO := row_frozen O2
    replace F2 := hide F2; replace O2 := hide O2
    go_wp2_with fail
    refine bodyPost_ret (v := .agg #[.int .i64 6, .int .i64 t0.place]) (by simp [results, Tryz.results157, go_sem, o0, o1]) rfl ?_
    have W : Wr (ChgE B Be) w w2 := W1.out.trans (Wr.ext X2.out)
    exact ⟨(W.setNew (p := ⟨w.heap.size, 0, none⟩) (Nat.le_refl _) _).setNew (p := ⟨w.heap.size, 1, none⟩) (Nat.le_refl _) _, .inl ⟨6, t0.place, hfin, by decide, rfl⟩⟩
end Go.Proofs.YtfoelahabalbpaaGreatDoor

namespace Go.Proofs.YtfoelahabalbpaaGreatDoor
open Go.RowKit

theorem wAfter_eq (s : ByteArray) : (s.toList = [97, 102, 116, 101, 114]) = (s = wAfter) := by
  rw [ByteArray.toList_eq]
  apply propext
  constructor
  · intro h
    cases s with | mk d => cases d with | mk l => simp only at h; subst h; rfl
  · rintro rfl; rfl
set_option maxRecDepth 100000 in
set_option maxHeartbeats 3200000 in
theorem checkNameP {Be : Nat} {w : World} {b : Nat} {e : EntD} (h : EntAt Be w b e) (name : ByteArray) :
    Calls Tryz.prog 156 #[.pointer (some ⟨b, 0, none⟩), .string name] w fun r w' => r = .returned (.int .i64 (nameS e name)) ∧ Hid (Ext w w') := by
  obtain ⟨tA, tI, vA, vI, hE⟩ := h
  obtain ⟨a0, a1, a2, a3, a4, a5⟩ := six_cells hE.box
  have hh := hide (tabHasA Be vA e.attrs name tA w hE.attrs)
  replace hE := hide hE
  have hl := hide (tabLenA Be vA e.attrs tA w hE.out.attrs)
  by_cases ha : name = wAfter
  · have ha1 : name.toList = [97, 102, 116, 101, 114] := by rw [wAfter_eq]; exact ha
    have ha2 : (name.toList == [97, 102, 116, 101, 114]) = true := by simp [ha1]
    replace ha := hide ha
    cases hA : e.hasAfter
    · rw [hA] at a4
      replace hA := hide hA
      go_enter Tryz.func156, Tryz.ntmps156
      go_wp2_with fail
      refine hh.out.mono ?_; rintro e1 w1 ⟨b1, rfl, hb1, he1⟩
      cases b1
      · have hno : ¬ HasK RowA.key e.attrs name := fun hm => by have := hb1.out.2 hm; cases this
        replace hb1 := hide hb1
        go_wp2_with fail
        go_ret
        exact ⟨by unfold nameS; simp [ha.out, hA.out]; exact ha.out ▸ hno, he1⟩
      · have hys : HasK RowA.key e.attrs name := hb1.out.1 rfl
        replace hb1 := hide hb1
        go_wp2_with fail
        go_ret
        exact ⟨by unfold nameS; simp [ha.out, hA.out]; exact ha.out ▸ hys, he1⟩
    · rw [hA] at a4
      replace hA := hide hA
      go_enter Tryz.func156, Tryz.ntmps156
      go_wp2_with fail
      go_ret
      exact ⟨by unfold nameS; simp [ha.out, hA.out], Ext.refl w⟩
  · have ha1 : ¬ name.toList = [97, 102, 116, 101, 114] := by rw [wAfter_eq]; exact ha
    have ha2 : (name.toList == [97, 102, 116, 101, 114]) = false := by simpa using ha1
    replace ha := hide ha
    by_cases h6 : e.attrs.length = 6
    · have l1 : ((e.attrs.length : Int) == 6) = true := by simp [h6]
      replace h6 := hide h6
      go_enter Tryz.func156, Tryz.ntmps156
      go_wp2_with fail
      refine hl.out.mono ?_; rintro e0 w0 ⟨rfl, hw0⟩
      obtain rfl := hw0
      go_wp2_with fail
      go_ret
      exact ⟨by unfold nameS; simp [ha.out, h6.out], Ext.refl _⟩
    · have l1 : ((e.attrs.length : Int) == 6) = false := by simp; omega
      replace h6 := hide h6
      go_enter Tryz.func156, Tryz.ntmps156
      go_wp2_with fail
      refine hl.out.mono ?_; rintro e0 w0 ⟨rfl, hw0⟩
      obtain rfl := hw0
      go_wp2_with fail
      refine hh.out.mono ?_; rintro e1 w1 ⟨b1, rfl, hb1, he1⟩
      cases b1
      · have hno : ¬ HasK RowA.key e.attrs name := fun hm => by have := hb1.out.2 hm; cases this
        replace hb1 := hide hb1
        go_wp2_with fail
        go_ret
        exact ⟨by unfold nameS; simp [ha.out, h6.out, hno], he1⟩
      · have hys : HasK RowA.key e.attrs name := hb1.out.1 rfl
        replace hb1 := hide hb1
        go_wp2_with fail
        go_ret
        exact ⟨by unfold nameS; simp [ha.out, h6.out, hys], he1⟩

theorem chgE_attr {B Be k : Nat} : ¬ ChgE B Be k 56 := by
  rintro (⟨_, h | h⟩ | ⟨_, h | h | h | h | h⟩) <;> exact absurd h (by decide)
theorem Fits.onA {B Be : Nat} {w w' : World} {P b : Nat} {ts : List Tok} {i : Nat} {rs : List RowE} {bs : List Nat} {rf : List (IDd × Nat)} {e : EntD} (h : Fits B Be w P b ts i rs bs rf e) {F : Nat} (x : Wr (fun j t => j = F ∧ t = 56) w w') : Fits B Be w' P b ts i rs bs rf e := by
  obtain ⟨⟨tE, vT, vE, vO, vR, hp⟩, h2, h3, h4, h5, h6, h7⟩ := h
  exact ⟨⟨tE, vT, vE, vO, vR, hp.wr x fun _ _ _ _ ht hd => by obtain ⟨_, rfl⟩ := hd; rcases ht with h | h | h | h | h | h <;> exact absurd h (by decide)⟩, h2.wr x fun _ _ _ _ ht hd => by obtain ⟨_, rfl⟩ := hd; rcases ht with h | h | h | h | h <;> exact absurd h (by decide), h3, Nat.le_trans h4 x.size, h5, h6, h7⟩
theorem Fits.attred {B Be : Nat} {w w' : World} {P b : Nat} {ts : List Tok} {i : Nat} {rs : List RowE} {bs : List Nat} {rf : List (IDd × Nat)} {e : EntD} (h : Fits B Be w P b ts i rs bs rf e) {tA tI : Nat} {vA vI : Value} (hE : EntIn Be w b tA tI vA vI e) (k : Wrote Be (fun t => t = 237 ∨ t = 235) w w') {u : Value} {x : RowA} {j : Nat} (hT : TabAtA Be w' tA u (insG e.attrs j x)) (hst : StandsG cmpS RowA.key e.attrs x.key j) (h6 : e.attrs.length ≠ 6) : Fits B Be w' P b ts i rs bs rf { e with attrs := insA e.attrs x } := by
  obtain ⟨⟨tE, vT, vE, vO, vR, hp⟩, h2, h3, h4, h5, hf, hg⟩ := h
  refine ⟨⟨tE, vT, vE, vO, vR, hp.wr (Wr.wrote (D := fun _ t => t = 237 ∨ t = 235) k fun _ _ _ _ h => h) fun _ _ _ _ ht hd => by rcases hd with rfl | rfl <;> rcases ht with h | h | h | h | h | h <;> exact absurd h (by decide)⟩, ?_, h3, Nat.le_trans h4 k.size, h5, hf, ?_⟩
  · exact ⟨tA, tI, u, vI, hE.base, Wrote.keeps k hE.box (by decide), by rw [← insA_at hst]; exact hT, ⟨Wrote.keeps k hE.after.at_ (by decide), ownsRow_wr hE.after.keys (Wr.wrote (D := fun _ t => t = 237 ∨ t = 235) k fun _ _ _ _ h => h) (fun _ _ _ hd => by rcases hd with h | h <;> exact absurd h (by decide)), hE.after.up, hE.after.few, hE.after.base⟩⟩
  · show (insA e.attrs x).length ≤ 6
    rw [← insA_at hst, insG_len hst.le]; omega
/-- A value as one of the readings. -/
def valS (ts : List Tok) (i : Nat) (e : EntD) (name : ByteArray) (rf : List (IDd × Nat)) : Except Flt (Nat × EntD × List (IDd × Nat)) := match valueS ts i e name with
  | .error x => .error x
  | .ok (i, e) => .ok (i, e, rf)
set_option maxRecDepth 100000 in
set_option maxHeartbeats 3200000 in
theorem readValueP {B Be : Nat} {w : World} {P b : Nat} {ts : List Tok} {i : Nat} {rs : List RowE} {bs : List Nat} {rf : List (IDd × Nat)} {e : EntD} (h : Fits B Be w P b ts i rs bs rf e) (hn : ts.length ≤ 1000000) (hi : i < ts.length) (name : ByteArray) (hno : ¬ HasK RowA.key e.attrs name) (h6 : e.attrs.length ≠ 6) :
    Calls Tryz.prog 158 #[.pointer (some ⟨P, 0, none⟩), .pointer (some ⟨b, 0, none⟩), .string name] w (ReadIs B Be w P b ts rs bs (valS ts i e name rf)) := by
  obtain ⟨t0, h0⟩ := TsEnd.there hi
  have hF0 := hide (h.ext ((Ext.refl w).alloc (.cells #[.int .i64 0, .int .i64 0] 72)))
  have hpk := hide (peekF hF0.out h0)
  replace h := hide h; replace hi := hide hi; replace hno := hide hno; replace h6 := hide h6
  by_cases k0 : t0.kind = 3
  · have kk1 : ((t0.kind : Int) == 3) = true := by simp [k0]
    have hfin : Hid (valS ts i e name rf = .ok (i + 1, { e with attrs := insA e.attrs ⟨name, ⟨name, true, t0.text, t0.value⟩⟩ }, rf)) := by
      show _ = _
      unfold valS valueS; rw [kind_at h0, k0]
      simp only [reduceIte]
      rw [take_ok h0 k0]; simp
    replace h0 := hide h0; replace k0 := hide k0
    go_enter Tryz.func158, Tryz.ntmps158
    go_wp2_with fail
    refine hpk.out.mono ?_; rintro e1 w1 ⟨rfl, he1⟩
    have hF1 := hide (hF0.out.ext he1.out)
    have O1 := hide (ext_heap he1.out (heap_alloc_new w (.cells #[.int .i64 0, .int .i64 0] 72)))
    have W1 : Hid (Wr (ChgE B Be) w w1) := (Wr.ext ((Ext.refl w).alloc _)).trans (Wr.ext he1.out)
    go_wp2_with fail
    have XA : Ext w1 (w1.alloc (.cells #[.string name, .bool true, .string ⟨#[]⟩, .int .i64 0] 56)) := (Ext.refl w1).alloc _
    have A1 := heap_alloc_new w1 (.cells #[.string name, .bool true, .string ⟨#[]⟩, .int .i64 0] 56)
    generalize w1.alloc (.cells #[.string name, .bool true, .string ⟨#[]⟩, .int .i64 0] 56) = w2 at *
    have hF2 := hide (hF1.out.ext XA); have O2 := hide (ext_heap XA O1.out)
    have W2 : Hid (Wr (ChgE B Be) w w2) := W1.out.trans (Wr.ext XA)
    replace A1 := hide A1; replace XA := hide XA
    refine (takeF hF2.out h0.out hn k0.out).mono ?_; rintro e3 w3 ⟨rfl, hF3, hW3⟩
    have A3 := hide (Wr.keeps hW3.out A1.out chgE_attr)
    have O3 := hide (Wr.keeps hW3.out O2.out chgE_fault)
    have W3 : Hid (Wr (ChgE B Be) w w3) := W2.out.trans hW3.out
    go_wp2_with fail
    refine (faultIs _ _ _).mono ?_; rintro e4 w4 ⟨rfl, hw4⟩
    have X4 : Hid (Ext w3 w4) := (by show Ext _ _; rw [hw4]; exact (((Ext.refl w3).alloc _).alloc _).alloc _)
    have T4 := (hw4 ▸ ext_heap (((Ext.refl _).alloc (.cells #[.int .i64 0, .int .i64 0] 72)).alloc (.cells #[.int .i64 0, .int .i64 0] 72)) (heap_alloc_new w3 (.cells #[.int .i64 t0.kind, .int .i64 t0.place, .string t0.text, .int .i64 t0.value] 114)) : w4.heap[w3.heap.size]? = some (.cells #[.int .i64 t0.kind, .int .i64 t0.place, .string t0.text, .int .i64 t0.value] 114))
    clear hw4
    have A4 := ext_heap X4.out A3.out; have O4 := hide (ext_heap X4.out O3.out); have hF4 := hide (hF3.out.ext X4.out)
    obtain ⟨m0, m1, m2, m3⟩ := four_cells A4
    obtain ⟨n0, n1, n2, n3⟩ := four_cells T4
    have fA := row_frozen A4
    have hlt := (Array.getElem?_eq_some_iff.1 A3.out).1
    have d1 : ¬ w3.heap.size = w1.heap.size := by omega
    have d2 : ¬ w1.heap.size = w3.heap.size := by omega
    have A5 : Hid (((w4.setCell ⟨w1.heap.size, 2, none⟩ (.string t0.text)).setCell ⟨w1.heap.size, 3, none⟩ (.int .i64 t0.value)).drew.heap[w1.heap.size]? = some (.cells #[.string name, .bool true, .string t0.text, .int .i64 t0.value] 56)) := by
      show _ = _
      exact (row_set (row_set A4 2 _) 3 _).trans rfl
    have W5 : Hid (Wr (fun j t => j = w1.heap.size ∧ t = 56) w4 ((w4.setCell ⟨w1.heap.size, 2, none⟩ (.string t0.text)).setCell ⟨w1.heap.size, 3, none⟩ (.int .i64 t0.value)).drew) := (((Wr.refl _ w4).setOld (p := ⟨w1.heap.size, 2, none⟩) A4 ⟨rfl, rfl⟩ _).setOld (p := ⟨w1.heap.size, 3, none⟩) A4 ⟨rfl, rfl⟩ _).trans (Wr.ext (Ext.refl _).drew)
    replace A4 := hide A4; replace T4 := hide T4; replace hlt := hide hlt
    go_wp2_with fail
    go_region_with (fail)
    all_goals
      clear m0 m1 m2 m3 n0 n1 n2 n3 fA
      generalize ((w4.setCell ⟨w1.heap.size, 2, none⟩ (.string t0.text)).setCell ⟨w1.heap.size, 3, none⟩ (.int .i64 t0.value)).drew = w5 at *
      obtain ⟨m0, m1, m2, m3⟩ := four_cells A5.out
      have hF5 := hide (hF4.out.onA W5.out)
      have O5 := hide (Wr.keeps W5.out O4.out (fun hd => absurd hd.2 (by decide)))
      have W05 : Hid (Wr (ChgE B Be) w w5) := (W3.out.trans (Wr.ext X4.out)).thenNew W5.out fun j t hd => by have := hd.1; have := W1.out.size; omega
      obtain ⟨tA, tI, vA, vI, hE⟩ := hF5.out.ent
      have a3 := (six_cells hE.box).2.2.2.1
      have hpt := hide (tabPutA Be vA e.attrs name ⟨name, true, t0.text, t0.value⟩ tA w5.drew (hE.attrs.ext (Ext.refl w5).drew) hno.out hF5.out.size (by have := h.out.attrsFew; omega))
      replace hE := hide hE
      go_wp2_with fail
      go_region_held3 (fun w' => w'.cell? ⟨b, 3, none⟩ = some (.pointer (some ⟨tA, 0, none⟩)) ∧ w'.cell? ⟨w1.heap.size, 0, none⟩ = some (.string name) ∧ w'.cell? ⟨w1.heap.size, 1, none⟩ = some (.bool true) ∧ w'.cell? ⟨w1.heap.size, 2, none⟩ = some (.string t0.text) ∧ w'.cell? ⟨w1.heap.size, 3, none⟩ = some (.int .i64 t0.value)) (go_keep) ((go_at_call 180; refine hpt.out.mono ?_; rintro e6 w6 ⟨j6, pa, cap, n6, rfl, hst, hT6, hW6⟩; go_must (have z0 := (six_cells (Wrote.keeps hW6.out (ext_heap (Ext.refl w5).drew hE.out.box) (by decide))).2.2.2.1; have zA := Wrote.keeps hW6.out (ext_heap (Ext.refl w5).drew A5.out) (by decide); obtain ⟨z1, z2, z3, z4⟩ := four_cells zA; clear zA)))
      all_goals
        have W6 : Wrote Be (fun t => t = 237 ∨ t = 235) w5 w6 := (Wrote.ext (Ext.refl w5).drew).trans hW6.out
        have O6 := Wrote.keeps W6 O5.out (by decide)
        have hF6 := hide (hF5.out.attred hE.out W6 hT6.out hst.out h6.out)
        have W06 : Hid (Wr (ChgE B Be) w w6) := W05.out.trans (Wr.wrote W6 fun _ _ _ hb h => .inr ⟨hb, h.elim (fun h => .inr (.inr (.inl h))) (fun h => .inr (.inl h))⟩)
        have o0 := two_c0 O6; have o1 := two_c1 O6; have fO := row_frozen O6
        replace O6 := hide O6; replace W6 := hide W6
        go_wp2_with fail
        refine bodyPost_ret (v := .agg #[.int .i64 0, .int .i64 0]) (by simp [results, Tryz.results158, go_sem, o0, o1]) rfl ?_
        have WF := Wr.ofF O6.out (.int .i64 0) (.int .i64 0)
        exact ⟨W06.out.thenNew WF fun j t hd => by have := hd.1; omega, .inr ⟨_, _, _, hfin, rfl, hF6.out.onF WF⟩⟩
  · by_cases k2 : t0.kind = 2
    · have kk1 : ((t0.kind : Int) == 3) = false := by simp [k2]
      have hfin : Hid (valS ts i e name rf = .ok (i + 1, { e with attrs := insA e.attrs ⟨name, ⟨name, false, t0.text, t0.value⟩⟩ }, rf)) := by
        show _ = _
        unfold valS valueS; rw [kind_at h0, k2]
        simp only [reduceIte, Nat.reduceEqDiff]
        rw [take_ok h0 k2]; simp
      replace h0 := hide h0; replace k2 := hide k2
      go_enter Tryz.func158, Tryz.ntmps158
      go_wp2_with fail
      refine hpk.out.mono ?_; rintro e1 w1 ⟨rfl, he1⟩
      have hF1 := hide (hF0.out.ext he1.out)
      have O1 := hide (ext_heap he1.out (heap_alloc_new w (.cells #[.int .i64 0, .int .i64 0] 72)))
      have W1 : Hid (Wr (ChgE B Be) w w1) := (Wr.ext ((Ext.refl w).alloc _)).trans (Wr.ext he1.out)
      go_wp2_with fail
      have XA : Ext w1 (w1.alloc (.cells #[.string name, .bool false, .string ⟨#[]⟩, .int .i64 0] 56)) := (Ext.refl w1).alloc _
      have A1 := heap_alloc_new w1 (.cells #[.string name, .bool false, .string ⟨#[]⟩, .int .i64 0] 56)
      generalize w1.alloc (.cells #[.string name, .bool false, .string ⟨#[]⟩, .int .i64 0] 56) = w2 at *
      have hF2 := hide (hF1.out.ext XA); have O2 := hide (ext_heap XA O1.out)
      have W2 : Hid (Wr (ChgE B Be) w w2) := W1.out.trans (Wr.ext XA)
      replace A1 := hide A1; replace XA := hide XA
      refine (takeF hF2.out h0.out hn k2.out).mono ?_; rintro e3 w3 ⟨rfl, hF3, hW3⟩
      have A3 := hide (Wr.keeps hW3.out A1.out chgE_attr)
      have O3 := hide (Wr.keeps hW3.out O2.out chgE_fault)
      have W3 : Hid (Wr (ChgE B Be) w w3) := W2.out.trans hW3.out
      go_wp2_with fail
      refine (faultIs _ _ _).mono ?_; rintro e4 w4 ⟨rfl, hw4⟩
      have X4 : Hid (Ext w3 w4) := (by show Ext _ _; rw [hw4]; exact (((Ext.refl w3).alloc _).alloc _).alloc _)
      have T4 := (hw4 ▸ ext_heap (((Ext.refl _).alloc (.cells #[.int .i64 0, .int .i64 0] 72)).alloc (.cells #[.int .i64 0, .int .i64 0] 72)) (heap_alloc_new w3 (.cells #[.int .i64 t0.kind, .int .i64 t0.place, .string t0.text, .int .i64 t0.value] 114)) : w4.heap[w3.heap.size]? = some (.cells #[.int .i64 t0.kind, .int .i64 t0.place, .string t0.text, .int .i64 t0.value] 114))
      clear hw4
      have A4 := ext_heap X4.out A3.out; have O4 := hide (ext_heap X4.out O3.out); have hF4 := hide (hF3.out.ext X4.out)
      obtain ⟨m0, m1, m2, m3⟩ := four_cells A4
      obtain ⟨n0, n1, n2, n3⟩ := four_cells T4
      have fA := row_frozen A4
      have hlt := (Array.getElem?_eq_some_iff.1 A3.out).1
      have d1 : ¬ w3.heap.size = w1.heap.size := by omega
      have d2 : ¬ w1.heap.size = w3.heap.size := by omega
      have A5 : Hid (((w4.setCell ⟨w1.heap.size, 2, none⟩ (.string t0.text)).setCell ⟨w1.heap.size, 3, none⟩ (.int .i64 t0.value)).drew.heap[w1.heap.size]? = some (.cells #[.string name, .bool false, .string t0.text, .int .i64 t0.value] 56)) := by
        show _ = _
        exact (row_set (row_set A4 2 _) 3 _).trans rfl
      have W5 : Hid (Wr (fun j t => j = w1.heap.size ∧ t = 56) w4 ((w4.setCell ⟨w1.heap.size, 2, none⟩ (.string t0.text)).setCell ⟨w1.heap.size, 3, none⟩ (.int .i64 t0.value)).drew) := (((Wr.refl _ w4).setOld (p := ⟨w1.heap.size, 2, none⟩) A4 ⟨rfl, rfl⟩ _).setOld (p := ⟨w1.heap.size, 3, none⟩) A4 ⟨rfl, rfl⟩ _).trans (Wr.ext (Ext.refl _).drew)
      replace A4 := hide A4; replace T4 := hide T4; replace hlt := hide hlt
      go_wp2_with fail
      go_region_with (fail)
      all_goals
        clear m0 m1 m2 m3 n0 n1 n2 n3 fA
        generalize ((w4.setCell ⟨w1.heap.size, 2, none⟩ (.string t0.text)).setCell ⟨w1.heap.size, 3, none⟩ (.int .i64 t0.value)).drew = w5 at *
        obtain ⟨m0, m1, m2, m3⟩ := four_cells A5.out
        have hF5 := hide (hF4.out.onA W5.out)
        have O5 := hide (Wr.keeps W5.out O4.out (fun hd => absurd hd.2 (by decide)))
        have W05 : Hid (Wr (ChgE B Be) w w5) := (W3.out.trans (Wr.ext X4.out)).thenNew W5.out fun j t hd => by have := hd.1; have := W1.out.size; omega
        obtain ⟨tA, tI, vA, vI, hE⟩ := hF5.out.ent
        have a3 := (six_cells hE.box).2.2.2.1
        have hpt := hide (tabPutA Be vA e.attrs name ⟨name, false, t0.text, t0.value⟩ tA w5.drew (hE.attrs.ext (Ext.refl w5).drew) hno.out hF5.out.size (by have := h.out.attrsFew; omega))
        replace hE := hide hE
        go_wp2_with fail
        go_region_held3 (fun w' => w'.cell? ⟨b, 3, none⟩ = some (.pointer (some ⟨tA, 0, none⟩)) ∧ w'.cell? ⟨w1.heap.size, 0, none⟩ = some (.string name) ∧ w'.cell? ⟨w1.heap.size, 1, none⟩ = some (.bool false) ∧ w'.cell? ⟨w1.heap.size, 2, none⟩ = some (.string t0.text) ∧ w'.cell? ⟨w1.heap.size, 3, none⟩ = some (.int .i64 t0.value)) (go_keep) ((go_at_call 180; refine hpt.out.mono ?_; rintro e6 w6 ⟨j6, pa, cap, n6, rfl, hst, hT6, hW6⟩; go_must (have z0 := (six_cells (Wrote.keeps hW6.out (ext_heap (Ext.refl w5).drew hE.out.box) (by decide))).2.2.2.1; have zA := Wrote.keeps hW6.out (ext_heap (Ext.refl w5).drew A5.out) (by decide); obtain ⟨z1, z2, z3, z4⟩ := four_cells zA; clear zA)))
        all_goals
          have W6 : Wrote Be (fun t => t = 237 ∨ t = 235) w5 w6 := (Wrote.ext (Ext.refl w5).drew).trans hW6.out
          have O6 := Wrote.keeps W6 O5.out (by decide)
          have hF6 := hide (hF5.out.attred hE.out W6 hT6.out hst.out h6.out)
          have W06 : Hid (Wr (ChgE B Be) w w6) := W05.out.trans (Wr.wrote W6 fun _ _ _ hb h => .inr ⟨hb, h.elim (fun h => .inr (.inr (.inl h))) (fun h => .inr (.inl h))⟩)
          have o0 := two_c0 O6; have o1 := two_c1 O6; have fO := row_frozen O6
          replace O6 := hide O6; replace W6 := hide W6
          go_wp2_with fail
          refine bodyPost_ret (v := .agg #[.int .i64 0, .int .i64 0]) (by simp [results, Tryz.results158, go_sem, o0, o1]) rfl ?_
          have WF := Wr.ofF O6.out (.int .i64 0) (.int .i64 0)
          exact ⟨W06.out.thenNew WF fun j t hd => by have := hd.1; omega, .inr ⟨_, _, _, hfin, rfl, hF6.out.onF WF⟩⟩
    · have kk1 : ((t0.kind : Int) == 3) = false := by simp; omega
      have hfin : Hid (valS ts i e name rf = .error (6, t0.place)) := by
        show _ = _
        unfold valS valueS; rw [kind_at h0, if_neg k0, take_no h0 k2]
      replace h0 := hide h0; replace k0 := hide k0; replace k2 := hide k2
      go_enter Tryz.func158, Tryz.ntmps158
      go_wp2_with fail
      refine hpk.out.mono ?_; rintro e1 w1 ⟨rfl, he1⟩
      have hF1 := hide (hF0.out.ext he1.out)
      have O1 := hide (ext_heap he1.out (heap_alloc_new w (.cells #[.int .i64 0, .int .i64 0] 72)))
      have W1 : Hid (Wr (ChgE B Be) w w1) := (Wr.ext ((Ext.refl w).alloc _)).trans (Wr.ext he1.out)
      go_wp2_with fail
      have XA : Ext w1 (w1.alloc (.cells #[.string name, .bool false, .string ⟨#[]⟩, .int .i64 0] 56)) := (Ext.refl w1).alloc _
      generalize w1.alloc (.cells #[.string name, .bool false, .string ⟨#[]⟩, .int .i64 0] 56) = w2 at *
      have hF2 := hide (hF1.out.ext XA); have O2 := hide (ext_heap XA O1.out)
      have W2 : Hid (Wr (ChgE B Be) w w2) := W1.out.trans (Wr.ext XA)
      replace XA := hide XA
      refine (takeFN hF2.out h0.out hn k2.out).mono ?_; rintro e3 w3 ⟨rfl, he3⟩
      have O3 := hide (ext_heap he3.out O2.out)
      have W3 : Hid (Wr (ChgE B Be) w w3) := W2.out.trans (Wr.ext he3.out)
      go_wp2_with fail
      refine (faultIs _ _ _).mono ?_; rintro e4 w4 ⟨rfl, hw4⟩
      have X4 : Hid (Ext w3 w4) := (by show Ext _ _; rw [hw4]; exact ((((Ext.refl w3).alloc _).alloc _).alloc _))
      have F4 := (hw4 ▸ ext_heap ((Ext.refl _).alloc (.cells #[.int .i64 6, .int .i64 t0.place] 72)) (two_hi w3 (.cells #[.int .i64 0, .int .i64 0, .string ⟨#[]⟩, .int .i64 0] 114) (.cells #[.int .i64 6, .int .i64 t0.place] 72)) : w4.heap[w3.heap.size + 1]? = some (.cells #[.int .i64 6, .int .i64 t0.place] 72))
      have O4 := ext_heap X4.out O3.out
      clear hw4
      have f0 := two_c0 F4; have f1 := two_c1 F4; have o0 := two_c0 O4; have o1 := two_c1 O4; have fO := row_frozen O4
      replace F4 := hide F4; replace O4 := hide O4
      go_wp2_with fail
      refine bodyPost_ret (v := .agg #[.int .i64 6, .int .i64 t0.place]) (by simp [results, Tryz.results158, go_sem, o0, o1]) rfl ?_
      have W : Wr (ChgE B Be) w w4 := W3.out.trans (Wr.ext X4.out)
      exact ⟨(W.setNew (p := ⟨w.heap.size, 0, none⟩) (Nat.le_refl _) _).setNew (p := ⟨w.heap.size, 1, none⟩) (Nat.le_refl _) _, .inl ⟨6, t0.place, hfin, by decide, rfl⟩⟩
end Go.Proofs.YtfoelahabalbpaaGreatDoor

namespace Go.Proofs.YtfoelahabalbpaaGreatDoor
open Go.RowKit

theorem nameS_ok {e : EntD} {name : ByteArray} (h : nameS e name = 0) : ¬ HasK RowA.key e.attrs name ∧ (name ≠ wAfter → e.attrs.length ≠ 6) := by
  unfold nameS at h
  split at h
  · cases h
  · rename_i h1
    split at h
    · cases h
    · rename_i h2
      exact ⟨fun hk => h2 (.inr hk), fun hn h6 => h1 ⟨hn, h6⟩⟩
theorem Fits.marked {B Be : Nat} {w : World} {P b : Nat} {ts : List Tok} {i : Nat} {rs : List RowE} {bs : List Nat} {rf : List (IDd × Nat)} {e : EntD} (h : Fits B Be w P b ts i rs bs rf e) : Fits B Be (w.setCell ⟨b, 4, none⟩ (.bool true)) P b ts i rs bs rf { e with hasAfter := true } ∧ Wr (ChgE B Be) w (w.setCell ⟨b, 4, none⟩ (.bool true)) := by
  obtain ⟨⟨tE, vT, vE, vO, vR, hp⟩, ⟨tA, tI, vA, vI, hE⟩, h3, h4, h5, h6, h7⟩ := h
  have W : Wr (fun j t => j = b ∧ t = 135) w (w.setCell ⟨b, 4, none⟩ (.bool true)) := (Wr.refl _ w).setOld (p := ⟨b, 4, none⟩) hE.box ⟨rfl, rfl⟩ _
  have no : ∀ {j t}, t ≠ 135 → ¬ (j = b ∧ t = 135) := fun h hd => h hd.2
  refine ⟨⟨⟨tE, vT, vE, vO, vR, hp.wr W fun _ _ _ _ ht hd => by obtain ⟨_, rfl⟩ := hd; rcases ht with h | h | h | h | h | h <;> exact absurd h (by decide)⟩, ⟨tA, tI, vA, vI, hE.base, (row_set hE.box 4 _).trans rfl, ?_, ?_⟩, h3, Nat.le_trans h4 W.size, h5, h6, h7⟩, W.mono fun _ _ _ hd => .inr ⟨hd.1 ▸ hE.base, .inl hd.2⟩⟩
  · exact ⟨W.keeps hE.attrs.at_ (no (by decide)), ownsRow_wr hE.attrs.rows W fun _ _ _ => no (by decide), hE.attrs.up, hE.attrs.few, hE.attrs.base⟩
  · exact ⟨W.keeps hE.after.at_ (no (by decide)), ownsRow_wr hE.after.keys W fun _ _ _ => no (by decide), hE.after.up, hE.after.few, hE.after.base⟩

set_option maxRecDepth 100000 in
set_option maxHeartbeats 3200000 in
theorem readLineP {B Be : Nat} {w : World} {P b : Nat} {ts : List Tok} {i : Nat} {rs : List RowE} {bs : List Nat} {rf : List (IDd × Nat)} {e : EntD} (h : Fits B Be w P b ts i rs bs rf e) (hn : ts.length ≤ 1000000) (he : TsEnd ts) (hi : i < ts.length) :
    Calls Tryz.prog 123 #[.pointer (some ⟨P, 0, none⟩), .pointer (some ⟨b, 0, none⟩)] w (ReadIs B Be w P b ts rs bs (lineS ts i e rf)) := by
  obtain ⟨t0, h0⟩ := TsEnd.there hi
  have hF0 := hide (h.ext ((Ext.refl w).alloc (.cells #[.int .i64 0, .int .i64 0] 72)))
  replace h := hide h; replace hi := hide hi
  by_cases k0 : t0.kind = 1
  · have hj1 := he.next h0 (by omega)
    obtain ⟨t1, h1⟩ := TsEnd.there hj1
    classical
    have hst : Hid (lineS ts i e rf = if nameS e t0.text ≠ 0 then .error (nameS e t0.text, t0.place) else match takeS ts (i + 1) 8 with
      | .error x => .error x
      | .ok (_, i) => if t0.text = wAfter then listS ts i { e with hasAfter := true } rf else valS ts i e t0.text rf) := by
      show _ = _
      unfold lineS; rw [take_ok h0 k0]; rfl
    replace h0 := hide h0; replace k0 := hide k0; replace he := hide he
    go_enter Tryz.func123, Tryz.ntmps123
    go_wp2_with fail
    refine (takeF hF0.out h0.out hn k0.out).mono ?_; rintro e1 w1 ⟨rfl, hF1, hW1⟩
    have O1 := hide (Wr.keeps hW1.out (heap_alloc_new w (.cells #[.int .i64 0, .int .i64 0] 72)) chgE_fault)
    go_wp2_with fail
    refine (faultIs _ _ _).mono ?_; rintro e2 w2 ⟨rfl, hw2⟩
    have X2 : Hid (Ext w1 w2) := (by show Ext _ _; rw [hw2]; exact (((Ext.refl w1).alloc _).alloc _).alloc _)
    have N2 := (hw2 ▸ ext_heap (((Ext.refl _).alloc (.cells #[.int .i64 0, .int .i64 0] 72)).alloc (.cells #[.int .i64 0, .int .i64 0] 72)) (heap_alloc_new w1 (.cells #[.int .i64 t0.kind, .int .i64 t0.place, .string t0.text, .int .i64 t0.value] 114)) : w2.heap[w1.heap.size]? = some (.cells #[.int .i64 t0.kind, .int .i64 t0.place, .string t0.text, .int .i64 t0.value] 114))
    clear hw2
    have hF2 := hide (hF1.out.ext X2.out); have O2 := hide (ext_heap X2.out O1.out)
    have W2 : Hid (Wr (ChgE B Be) w w2) := (Wr.ext ((Ext.refl w).alloc _)).trans (hW1.out.trans (Wr.ext X2.out))
    obtain ⟨n0, n1, n2, n3⟩ := four_cells N2
    replace N2 := hide N2
    go_wp2_with fail
    refine (checkNameP hF2.out.ent t0.text).mono ?_; rintro e3 w3 ⟨rfl, he3⟩
    have hF3 := hide (hF2.out.ext he3.out); have O3 := hide (ext_heap he3.out O2.out); have N3 := hide (ext_heap he3.out N2.out)
    have W3 : Hid (Wr (ChgE B Be) w w3) := W2.out.trans (Wr.ext he3.out)
    clear n0 n1 n2 n3 hF1 hW1 O1 X2 hF2 O2 W2
    obtain ⟨n0, n1, n2, n3⟩ := four_cells N3.out
    by_cases hz : nameS e t0.text = 0
    · have hz1 : (nameS e t0.text != 0) = false := by simp [hz]
      obtain ⟨hno, h6⟩ := nameS_ok hz
      rw [if_neg (by simp [hz])] at hst
      replace hz := hide hz; replace hno := hide hno; replace h6 := hide h6
      go_wp2_with fail
      by_cases k1 : t1.kind = 8
      · rw [take_ok h1 k1] at hst
        have hj2 := he.out.next h1 (by omega)
        replace h1 := hide h1; replace k1 := hide k1
        refine (takeF hF3.out h1.out hn k1.out).mono ?_; rintro e4 w4 ⟨rfl, hF4, hW4⟩
        have O4 := hide (Wr.keeps hW4.out O3.out chgE_fault); have N4 := hide (Wr.keeps hW4.out N3.out chgE_tok)
        go_wp2_with fail
        refine (faultIs _ _ _).mono ?_; rintro e5 w5 ⟨rfl, hw5⟩
        have X5 : Hid (Ext w4 w5) := (by show Ext _ _; rw [hw5]; exact ((((Ext.refl w4).alloc _).alloc _).alloc _))
        clear hw5
        have hF5 := hide (hF4.out.ext X5.out); have O5 := hide (ext_heap X5.out O4.out); have N5 := hide (ext_heap X5.out N4.out)
        have W5 : Hid (Wr (ChgE B Be) w w5) := W3.out.trans (hW4.out.trans (Wr.ext X5.out))
        clear n0 n1 n2 n3 hF3 O3 N3 W3 hF4 O4 N4 hW4 X5
        obtain ⟨n0, n1, n2, n3⟩ := four_cells N5.out
        by_cases ha : t0.text = wAfter
        · have ha1 : t0.text.toList = [97, 102, 116, 101, 114] := by rw [wAfter_eq]; exact ha
          have ha2 : (t0.text.toList == [97, 102, 116, 101, 114]) = true := by simp [ha1]
          have hfin : Hid (lineS ts i e rf = listS ts (i + 1 + 1) { e with hasAfter := true } rf) := by
            show _ = _
            rw [hst.out, if_pos ha]
          replace ha := hide ha
          obtain ⟨tA, tI, vA, vI, hE⟩ := hF5.out.ent
          have a4 := (six_cells hE.box).2.2.2.2.1
          have fE := row_frozen hE.box
          have nb : ¬ b = w1.heap.size := fun hb => by have h1 := hE.box; rw [hb, N5.out] at h1; cases h1
          replace hE := hide hE
          obtain ⟨hF6, hW6⟩ := hF5.out.marked
          have O6 := Wr.keeps hW6 O5.out chgE_fault
          go_wp2_with fail
          generalize w5.setCell ⟨b, 4, none⟩ (.bool true) = w6 at *
          replace hF6 := hide hF6; replace hW6 := hide hW6; replace O6 := hide O6
          refine (readListP hF6.out hn he.out hj2).mono ?_
          rintro e7 w7 ⟨hW7, hr7⟩
          have O7 := Wr.keeps hW7.out O6.out chgE_fault
          have W7 : Hid (Wr (ChgE B Be) w w7) := W5.out.trans (hW6.out.trans hW7.out)
          have o0 := two_c0 O7; have o1 := two_c1 O7; have fO := row_frozen O7
          replace O7 := hide O7
          rcases hr7 with ⟨en, pl, hr, hne, rfl⟩ | ⟨i7, x7, rf7, hr, rfl, hF7⟩
          · go_wp2_with fail
            refine bodyPost_ret (v := .agg #[.int .i64 en, .int .i64 pl]) (by simp [results, Tryz.results123, go_sem, o0, o1]) rfl ?_
            exact ⟨(W7.out.setNew (p := ⟨w.heap.size, 0, none⟩) (Nat.le_refl _) _).setNew (p := ⟨w.heap.size, 1, none⟩) (Nat.le_refl _) _, .inl ⟨en, pl, hfin.out.trans hr.out, hne, rfl⟩⟩
          · go_wp2_with fail
            refine bodyPost_ret (v := .agg #[.int .i64 0, .int .i64 0]) (by simp [results, Tryz.results123, go_sem, o0, o1]) rfl ?_
            have WF := Wr.ofF O7.out (.int .i64 0) (.int .i64 0)
            exact ⟨W7.out.thenNew WF fun j t hd => by have := hd.1; omega, .inr ⟨i7, x7, rf7, hfin.out.trans hr.out, rfl, hF7.out.onF WF⟩⟩
        · have ha1 : ¬ t0.text.toList = [97, 102, 116, 101, 114] := by rw [wAfter_eq]; exact ha
          have ha2 : (t0.text.toList == [97, 102, 116, 101, 114]) = false := by simpa using ha1
          have hfin : Hid (lineS ts i e rf = valS ts (i + 1 + 1) e t0.text rf) := by
            show _ = _
            rw [hst.out, if_neg ha]
          have h6' := hide (h6.out ha)
          replace ha := hide ha
          go_wp2_with fail
          refine (readValueP hF5.out hn hj2 t0.text hno.out h6'.out).mono ?_
          rintro e7 w7 ⟨hW7, hr7⟩
          have O7 := Wr.keeps hW7.out O5.out chgE_fault
          have W7 : Hid (Wr (ChgE B Be) w w7) := W5.out.trans hW7.out
          have o0 := two_c0 O7; have o1 := two_c1 O7; have fO := row_frozen O7
          replace O7 := hide O7
          rcases hr7 with ⟨en, pl, hr, hne, rfl⟩ | ⟨i7, x7, rf7, hr, rfl, hF7⟩
          · go_wp2_with fail
            refine bodyPost_ret (v := .agg #[.int .i64 en, .int .i64 pl]) (by simp [results, Tryz.results123, go_sem, o0, o1]) rfl ?_
            exact ⟨(W7.out.setNew (p := ⟨w.heap.size, 0, none⟩) (Nat.le_refl _) _).setNew (p := ⟨w.heap.size, 1, none⟩) (Nat.le_refl _) _, .inl ⟨en, pl, hfin.out.trans hr.out, hne, rfl⟩⟩
          · go_wp2_with fail
            refine bodyPost_ret (v := .agg #[.int .i64 0, .int .i64 0]) (by simp [results, Tryz.results123, go_sem, o0, o1]) rfl ?_
            have WF := Wr.ofF O7.out (.int .i64 0) (.int .i64 0)
            exact ⟨W7.out.thenNew WF fun j t hd => by have := hd.1; omega, .inr ⟨i7, x7, rf7, hfin.out.trans hr.out, rfl, hF7.out.onF WF⟩⟩
      · have hfin : Hid (lineS ts i e rf = .error (6, t1.place)) := by
          show _ = _
          rw [hst.out, take_no h1 k1]
        replace h1 := hide h1; replace k1 := hide k1
        refine (takeFN hF3.out h1.out hn k1.out).mono ?_; rintro e4 w4 ⟨rfl, he4⟩
        have O4 := hide (ext_heap he4.out O3.out)
        have W4 : Hid (Wr (ChgE B Be) w w4) := W3.out.trans (Wr.ext he4.out)
        go_wp2_with fail
        refine (faultIs _ _ _).mono ?_; rintro e5 w5 ⟨rfl, hw5⟩
        have X5 : Hid (Ext w4 w5) := (by show Ext _ _; rw [hw5]; exact ((((Ext.refl w4).alloc _).alloc _).alloc _))
        have F5 := (hw5 ▸ ext_heap ((Ext.refl _).alloc (.cells #[.int .i64 6, .int .i64 t1.place] 72)) (two_hi w4 (.cells #[.int .i64 0, .int .i64 0, .string ⟨#[]⟩, .int .i64 0] 114) (.cells #[.int .i64 6, .int .i64 t1.place] 72)) : w5.heap[w4.heap.size + 1]? = some (.cells #[.int .i64 6, .int .i64 t1.place] 72))
        have O5 := ext_heap X5.out O4.out
        clear hw5
        have f0 := two_c0 F5; have f1 := two_c1 F5; have o0 := two_c0 O5; have o1 := two_c1 O5; have fO := row_frozen O5
        replace F5 := hide F5; replace O5 := hide O5
        go_wp2_with fail
        refine bodyPost_ret (v := .agg #[.int .i64 6, .int .i64 t1.place]) (by simp [results, Tryz.results123, go_sem, o0, o1]) rfl ?_
        have W : Wr (ChgE B Be) w w5 := W4.out.trans (Wr.ext X5.out)
        exact ⟨(W.setNew (p := ⟨w.heap.size, 0, none⟩) (Nat.le_refl _) _).setNew (p := ⟨w.heap.size, 1, none⟩) (Nat.le_refl _) _, .inl ⟨6, t1.place, hfin, by decide, rfl⟩⟩
    · have hz1 : (nameS e t0.text != 0) = true := by simpa using hz
      have hfin : Hid (lineS ts i e rf = .error (nameS e t0.text, t0.place)) := by
        show _ = _
        rw [hst.out, if_pos hz]
      replace hz := hide hz
      have o0 := two_c0 O3.out; have o1 := two_c1 O3.out; have fO := row_frozen O3.out
      go_wp2_with fail
      refine bodyPost_ret (v := .agg #[.int .i64 (nameS e t0.text), .int .i64 t0.place]) (by simp [results, Tryz.results123, go_sem, o0, o1]) rfl ?_
      exact ⟨(W3.out.setNew (p := ⟨w.heap.size, 0, none⟩) (Nat.le_refl _) _).setNew (p := ⟨w.heap.size, 1, none⟩) (Nat.le_refl _) _, .inl ⟨_, t0.place, hfin, hz.out, rfl⟩⟩
  · have hfin : Hid (lineS ts i e rf = .error (6, t0.place)) := by
      show _ = _
      unfold lineS; rw [take_no h0 k0]
    replace h0 := hide h0; replace k0 := hide k0; replace he := hide he
    go_enter Tryz.func123, Tryz.ntmps123
    go_wp2_with fail
    refine (takeFN hF0.out h0.out hn k0.out).mono ?_; rintro e1 w1 ⟨rfl, he1⟩
    have O1 := hide (ext_heap he1.out (heap_alloc_new w (.cells #[.int .i64 0, .int .i64 0] 72)))
    have W1 : Hid (Wr (ChgE B Be) w w1) := (Wr.ext ((Ext.refl w).alloc _)).trans (Wr.ext he1.out)
    go_wp2_with fail
    refine (faultIs _ _ _).mono ?_; rintro e2 w2 ⟨rfl, hw2⟩
    have X2 : Hid (Ext w1 w2) := (by show Ext _ _; rw [hw2]; exact ((((Ext.refl w1).alloc _).alloc _).alloc _))
    have F2 := (hw2 ▸ ext_heap ((Ext.refl _).alloc (.cells #[.int .i64 6, .int .i64 t0.place] 72)) (two_hi w1 (.cells #[.int .i64 0, .int .i64 0, .string ⟨#[]⟩, .int .i64 0] 114) (.cells #[.int .i64 6, .int .i64 t0.place] 72)) : w2.heap[w1.heap.size + 1]? = some (.cells #[.int .i64 6, .int .i64 t0.place] 72))
    have O2 := ext_heap X2.out O1.out
    clear hw2
    have f0 := two_c0 F2; have f1 := two_c1 F2; have o0 := two_c0 O2; have o1 := two_c1 O2; have fO := row_frozen O2
    replace F2 := hide F2; replace O2 := hide O2
    go_wp2_with fail
    refine bodyPost_ret (v := .agg #[.int .i64 6, .int .i64 t0.place]) (by simp [results, Tryz.results123, go_sem, o0, o1]) rfl ?_
    have W : Wr (ChgE B Be) w w2 := W1.out.trans (Wr.ext X2.out)
    exact ⟨(W.setNew (p := ⟨w.heap.size, 0, none⟩) (Nat.le_refl _) _).setNew (p := ⟨w.heap.size, 1, none⟩) (Nat.le_refl _) _, .inl ⟨6, t0.place, hfin, by decide, rfl⟩⟩
end Go.Proofs.YtfoelahabalbpaaGreatDoor

namespace Go.Proofs.YtfoelahabalbpaaGreatDoor
open Go.RowKit

/-- What the reading of a head may change. -/
def ChgP (B k : Nat) (t : TypeId) : Prop := B ≤ k ∧ TyP t
def insE (rs : List RowE) (x : RowE) : List RowE := rs.takeWhile (fun r => decide (cmpI r.key x.key < 0)) ++ x :: rs.dropWhile (fun r => decide (cmpI r.key x.key < 0))
theorem insE_at {rs : List RowE} {x : RowE} {i : Nat} (h : StandsG cmpI RowE.key rs x.key i) : insG rs i x = insE rs x := by
  obtain ⟨h1, h2⟩ := cut_while (fun r : RowE => decide (cmpI r.key x.key < 0)) rs i h.le (fun k y hk hy => by simpa using h.ahead k y hk hy) (fun k y hk hy => by simpa using h.behind k y hk hy)
  unfold insE insG
  rw [h1, h2]
/-- What the keeping of a head leaves. -/
def KeepIs (B : Nat) (w : World) (P : Nat) (ts : List Tok) (i : Nat) (rs : List RowE) (bs : List Nat) (rf : List (IDd × Nat)) (id : IDd) (pl : Nat) (e : Ending) (w' : World) : Prop :=
  ∃ b, e = .returned (.pointer (some ⟨b, 0, none⟩)) ∧ Hid (Fits B w.heap.size w' P b ts i (insE rs ⟨id, b⟩) (bs ++ [b]) rf ⟨id, pl, [], false, []⟩) ∧ Hid (Wr (ChgP B) w w')
set_option maxRecDepth 100000 in
set_option maxHeartbeats 800000 in
theorem tabNewX (w : World) :
    Calls Tryz.prog 58 #[.func (.func 59) #[] #[]] w fun e w' => e = .returned (.pointer (some ⟨w.heap.size, 0, none⟩)) ∧ w' = w.alloc (.cells #[.func (.func 59) #[] #[], .slice none 0 0] 172) := by
  go_enter Tryz.func58, Tryz.ntmps58
  go_wp2
  go_ret
  exact ⟨rfl, rfl⟩
set_option maxRecDepth 100000 in
set_option maxHeartbeats 800000 in
theorem tabNewAX (w : World) :
    Calls Tryz.prog 175 #[.func (.func 104) #[] #[]] w fun e w' => e = .returned (.pointer (some ⟨w.heap.size, 0, none⟩)) ∧ w' = w.alloc (.cells #[.func (.func 104) #[] #[], .slice none 0 0] 235) := by
  refine (tabNewA w).mono ?_
  rintro e w' ⟨rfl, _, h⟩
  exact ⟨rfl, h.out⟩

theorem infoPt : (Tryz.prog.info? 119).map (fun i => (i.zero, i.size, i.bytes)) = some (some (.pointer none), 1, 8) := by kernel_rfl
theorem cPt_one {x : Nat} : ∀ u ∈ cPt x, u.oneCell' = true := by
  intro u hu
  simp [cPt] at hu
  subst hu; rfl
theorem ParIn.putE {B : Nat} {w w1 : World} {P tE : Nat} {vT vE vO vR : Value} {ts : List Tok} {i : Nat} {rs : List RowE} {bs : List Nat} {rf : List (IDd × Nat)} (h : ParIn B w P tE vT vE vO vR ts i rs bs rf) (k : WroteTE B w w1) {u : Value} {rs' : List RowE} (hT : TabAtE B w1 tE u rs') : ParIn B w1 P tE vT u vO vR ts i rs' bs rf := by
  have W : Wr (fun _ t => t = 196 ∨ t = 188) w w1 := Wr.wrote k fun _ _ _ _ h => h
  have no : ∀ {t : TypeId}, t ≠ 196 → t ≠ 188 → ¬ (t = 196 ∨ t = 188) := fun h1 h2 hd => hd.elim h1 h2
  exact ⟨h.base, W.keeps h.box (no (by decide) (by decide)), ownsRow_wr h.toks W fun _ _ _ => no (by decide) (by decide), hT, ownsRow_wr h.order W fun _ _ _ => no (by decide) (by decide), ownsRow_wr h.refs W fun _ _ _ => no (by decide) (by decide)⟩
theorem ParIn.ordered {B : Nat} {w w1 : World} {P tE : Nat} {vT vE vO vR : Value} {ts : List Tok} {i : Nat} {rs : List RowE} {bs : List Nat} {rf : List (IDd × Nat)} (h : ParIn B w P tE vT vE vO vR ts i rs bs rf) (k : Wrote B (· = 119) w w1) {g cap : Nat} {x : Nat} (hown : w1.ownsRow B 119 1 (.slice (some ⟨g, 0, none⟩) (bs.length + 1) cap) (bs.length + 1) (bs.flatMap cPt ++ cPt x)) :
    ParIn B (w1.setCell ⟨P, 3, none⟩ (.slice (some ⟨g, 0, none⟩) (bs.length + 1) cap)) P tE vT vE (.slice (some ⟨g, 0, none⟩) (bs.length + 1) cap) vR ts i rs (bs ++ [x]) rf ∧
    Wr (fun j t => (B ≤ j ∧ t = 119) ∨ OnP P j t) w (w1.setCell ⟨P, 3, none⟩ (.slice (some ⟨g, 0, none⟩) (bs.length + 1) cap)) := by
  have W : Wr (fun j t => (B ≤ j ∧ t = 119) ∨ OnP P j t) w (w1.setCell ⟨P, 3, none⟩ (.slice (some ⟨g, 0, none⟩) (bs.length + 1) cap)) := (Wr.wrote k (fun _ _ _ hb h => .inl ⟨hb, h⟩)).setOld (p := ⟨P, 3, none⟩) h.box (.inr ⟨rfl, rfl⟩) _
  have no : ∀ {j t}, t ≠ 119 → t ≠ 123 → ¬ ((B ≤ j ∧ t = 119) ∨ OnP P j t) := fun h1 h2 hd => hd.elim (fun h => h1 h.2) (fun h => h2 h.2)
  have hb := Wrote.keeps k h.box (by decide)
  have hl : (bs ++ [x]).length = bs.length + 1 := by simp
  refine ⟨⟨h.base, (row_set hb 3 _).trans rfl, ownsRow_wr h.toks W fun _ _ _ => no (by decide) (by decide),
    ⟨W.keeps h.ents.at_ (no (by decide) (by decide)), ownsRow_wr h.ents.rows W fun _ _ _ => no (by decide) (by decide), h.ents.up, h.ents.few, h.ents.base⟩,
    ?_, ownsRow_wr h.refs W fun _ _ _ => no (by decide) (by decide)⟩, W⟩
  rw [hl, show (bs ++ [x]).flatMap cPt = bs.flatMap cPt ++ cPt x by simp]
  exact ownsRow_set hown hb (by decide) _

attribute [local go_sem] Go.World.cell?_alloc_some
set_option maxRecDepth 100000 in
set_option maxHeartbeats 3200000 in
theorem keepP {B : Nat} {w : World} {P tE : Nat} {vT vE vO vR : Value} {ts : List Tok} {i : Nat} {rs : List RowE} {bs : List Nat} {rf : List (IDd × Nat)} (h : ParIn B w P tE vT vE vO vR ts i rs bs rf) (hB : B ≤ w.heap.size) (id : IDd) (pl : Nat) (hno : ¬ HasK RowE.key rs id) (hr : rs.length ≤ 100) (hb : bs.length ≤ 100) (hf : rf.length ≤ i) :
    Calls Tryz.prog 155 #[.pointer (some ⟨P, 0, none⟩), .agg #[.string id.kind, .string id.name], .int .i64 pl] w (KeepIs B w P ts i rs bs rf id pl) := by
  obtain ⟨paO, capO, rfl⟩ := ownsRow_form h.order
  obtain ⟨iR, hiR, hr0, hr1, hr2⟩ := info_of infoPt
  replace hiR := hide hiR
  replace h := hide h; replace hno := hide hno
  go_enter Tryz.func155, Tryz.ntmps155
  go_wp2_with fail
  go_region_held3 (fun w' => w'.cell? ⟨w.heap.size, 0, none⟩ = some (.string id.kind) ∧ w'.cell? ⟨w.heap.size, 1, none⟩ = some (.string id.name)) (go_keep) ((first
    | (go_at_call 175; refine (tabNewAX _).mono ?_; rintro e1 w1 ⟨rfl, rfl⟩)
    | (go_at_call 58; refine (tabNewX _).mono ?_; rintro e2 w2 ⟨rfl, rfl⟩)))
  have X3 : Hid (Ext w _) := (((((Ext.refl w).alloc (.cells #[.string id.kind, .string id.name] 31)).alloc (.cells #[.func (.func 104) #[] #[], .slice none 0 0] 235)).alloc (.cells #[.func (.func 59) #[] #[], .slice none 0 0] 172)).alloc (.cells #[.string id.kind, .string id.name, .int .i64 pl, .pointer (some ⟨w.heap.size + 1, 0, none⟩), .bool false, .pointer (some ⟨w.heap.size + 1 + 1, 0, none⟩)] 135)).drew
  have hI3 := hide (ext_heap ((((Ext.refl _).alloc (.cells #[.func (.func 104) #[] #[], .slice none 0 0] 235)).alloc (.cells #[.func (.func 59) #[] #[], .slice none 0 0] 172)).alloc (.cells #[.string id.kind, .string id.name, .int .i64 pl, .pointer (some ⟨w.heap.size + 1, 0, none⟩), .bool false, .pointer (some ⟨w.heap.size + 1 + 1, 0, none⟩)] 135)).drew (heap_alloc_new w (.cells #[.string id.kind, .string id.name] 31)))
  have hA3 := hide (ext_heap (((Ext.refl _).alloc (.cells #[.func (.func 59) #[] #[], .slice none 0 0] 172)).alloc (.cells #[.string id.kind, .string id.name, .int .i64 pl, .pointer (some ⟨w.heap.size + 1, 0, none⟩), .bool false, .pointer (some ⟨w.heap.size + 1 + 1, 0, none⟩)] 135)).drew (two_hi w (.cells #[.string id.kind, .string id.name] 31) (.cells #[.func (.func 104) #[] #[], .slice none 0 0] 235)))
  have hT3 := hide (ext_heap ((Ext.refl _).alloc (.cells #[.string id.kind, .string id.name, .int .i64 pl, .pointer (some ⟨w.heap.size + 1, 0, none⟩), .bool false, .pointer (some ⟨w.heap.size + 1 + 1, 0, none⟩)] 135)).drew (two_hi (w.alloc (.cells #[.string id.kind, .string id.name] 31)) (.cells #[.func (.func 104) #[] #[], .slice none 0 0] 235) (.cells #[.func (.func 59) #[] #[], .slice none 0 0] 172)))
  have hE3 := hide (ext_heap (Ext.refl _).drew (two_hi ((w.alloc (.cells #[.string id.kind, .string id.name] 31)).alloc (.cells #[.func (.func 104) #[] #[], .slice none 0 0] 235)) (.cells #[.func (.func 59) #[] #[], .slice none 0 0] 172) (.cells #[.string id.kind, .string id.name, .int .i64 pl, .pointer (some ⟨w.heap.size + 1, 0, none⟩), .bool false, .pointer (some ⟨w.heap.size + 1 + 1, 0, none⟩)] 135)))
  simp only [World.size_alloc] at hT3 hE3
  generalize (World.alloc (World.alloc (World.alloc (World.alloc w _) _) _) _).drew = w3 at *
  have hp3 := hide (h.out.ext X3.out)
  have hEn3 : Hid (EntAt w.heap.size w3 (w.heap.size + 1 + 1 + 1) ⟨id, pl, [], false, []⟩) := ⟨w.heap.size + 1, w.heap.size + 1 + 1, .slice none 0 0, .slice none 0 0, by omega, hE3.out, ⟨hA3.out, World.ownsRow_nil _ _ _ _, List.Pairwise.nil, Nat.zero_le _, by omega⟩, ⟨hT3.out, World.ownsRow_nil _ _ _ _, List.Pairwise.nil, Nat.zero_le _, by omega⟩⟩
  have i0 := two_c0 hI3.out; have i1 := two_c1 hI3.out
  have p2 := (five_cells hp3.out.box).2.2.1
  have hpt := hide (tabPutE B vE rs id (w.heap.size + 1 + 1 + 1) tE w3.drew (hp3.out.ents.ext (Ext.refl w3).drew) hno.out (Nat.le_trans hB (Ext.size (X3.out.trans (Ext.refl w3).drew))) (by omega))
  go_wp2_with fail
  go_region_held3 (fun w' => w'.cell? ⟨P, 2, none⟩ = some (.pointer (some ⟨tE, 0, none⟩)) ∧ w'.cell? ⟨w.heap.size, 0, none⟩ = some (.string id.kind) ∧ w'.cell? ⟨w.heap.size, 1, none⟩ = some (.string id.name)) (go_keep) ((go_at_call 176; refine hpt.out.mono ?_; rintro e4 w4 ⟨j4, pa, cap, n4, rfl, hst, hT4, hW4⟩; go_must (have z0 := (five_cells (Wrote.keeps hW4.out (ext_heap (Ext.refl w3).drew hp3.out.box) (by decide))).2.2.1; have zI := Wrote.keeps hW4.out (ext_heap (Ext.refl w3).drew hI3.out) (by decide); have z1 := two_c0 zI; have z2 := two_c1 zI; clear zI)))
  have W4 : WroteTE B w3 w4 := (Wrote.ext (Ext.refl w3).drew).trans hW4.out
  have hp4 := hp3.out.putE W4 hT4.out
  rw [insE_at hst.out] at hp4
  have hEn4 : Hid (EntAt w.heap.size w4 (w.heap.size + 1 + 1 + 1) ⟨id, pl, [], false, []⟩) := hEn3.out.wr (Wr.wrote (D := fun _ t => t = 196 ∨ t = 188) W4 fun _ _ _ _ h => h) fun _ _ _ _ ht hd => by rcases hd with rfl | rfl <;> rcases ht with h | h | h | h | h <;> exact absurd h (by decide)
  have W04 : Hid (Wr (ChgP B) w w4) := (Wr.ext X3.out).trans (Wr.wrote W4 fun _ _ _ hb h => ⟨hb, h.elim (fun h => .inr (.inr (.inr (.inl h)))) (fun h => .inr (.inr (.inl h)))⟩)
  clear i0 i1 p2
  have p3 := (five_cells hp4.box).2.2.2.1
  have hX4 := hp4.ext ((Ext.refl w4).alloc (.cells #[.pointer (some ⟨w.heap.size + 1 + 1 + 1, 0, none⟩)] 119))
  have q3 := (five_cells hX4.box).2.2.2.1
  replace hp4 := hide hp4; replace hX4 := hide hX4; replace W4 := hide W4
  have hsz4 : Hid (B ≤ (w4.alloc (.cells (cPt (w.heap.size + 1 + 1 + 1)).toArray 119)).heap.size) := by show _ ≤ _; have := W04.out.size; simp; omega
  have hnew : Hid (∀ j u, (cPt (w.heap.size + 1 + 1 + 1))[j]? = some u → (w4.alloc (.cells (cPt (w.heap.size + 1 + 1 + 1)).toArray 119)).cell? ((⟨w4.heap.size, 0, none⟩ : Addr).add j) = some u) := by
    show ∀ j u, _
    intro j u hu
    rw [add_eq]
    refine Eq.trans (cell_of (heap_alloc_new w4 (.cells (cPt (w.heap.size + 1 + 1 + 1)).toArray 119)) (0 + j)) ?_
    simpa using hu
  go_wp2_with (at_builtin; go_must (refine wpList_append_lies _ rfl (.tmp 25) (.tmp 27) 120 rfl B 119 iR (.pointer none) 1 8 Tryz.underlying120 hiR.out hr0 hr1 hr2 rfl (by omega) (.slice paO bs.length capO) bs.length (bs.flatMap cPt) rfl hX4.out.order ⟨w4.heap.size, 0, none⟩ 1 1 (cPt (w.heap.size + 1 + 1 + 1)) rfl rfl hnew.out cPt_one (by omega) (by unfold maxLen; omega) (by omega) hsz4.out (w4.heap.size + 1) (by simp) ?_; intro g1 cap1 w5 hown5 hgrow5 hat5 hlt5; clear hat5; have W5 : Wrote B (· = 119) w4 w5 := (Wrote.refl _ _ w4).grownAt hp4.out.order rfl hgrow5; have P5 := Wrote.keeps W5 hp4.out.box (by decide); have v5 := row_frozen P5; have u5 := (five_cells P5).2.2.2.1; replace P5 := hide P5; replace W5 := hide W5; replace hown5 := hide hown5; clear hgrow5; replace hlt5 := hide hlt5))
  obtain ⟨hP6, hW6⟩ := hp4.out.ordered W5.out hown5.out
  have hE6 := hEn4.out.wr hW6 fun _ _ _ _ ht hd => by
    rcases hd with ⟨_, rfl⟩ | ⟨_, rfl⟩ <;> rcases ht with h | h | h | h | h <;> exact absurd h (by decide)
  have W06 : Wr (ChgP B) w _ := W04.out.trans (hW6.mono fun _ _ _ hd => hd.elim (fun h => ⟨h.1, .inr (.inr (.inr (.inr (.inl h.2))))⟩) (fun h => ⟨h.1 ▸ hp4.out.base, .inl h.2⟩))
  refine bodyPost_ret (v := .pointer (some ⟨w.heap.size + 1 + 1 + 1, 0, none⟩)) (by simp [results, Tryz.results155, go_sem]) rfl ?_
  exact ⟨_, rfl, ⟨⟨_, _, _, _, _, hP6⟩, hE6, hB, W06.size, hf, by simp, by simp⟩, W06⟩
end Go.Proofs.YtfoelahabalbpaaGreatDoor

namespace Go.Proofs.YtfoelahabalbpaaGreatDoor
open Go.RowKit

theorem rowsSt_in {B : Nat} {w : World} {pa : Option Addr} {n cap : Nat} {rs : List RowSt} (h : RowsSt B w (.slice pa n cap) rs) : n = rs.length ∧ n ≤ cap ∧ cap ≤ maxLen ∧ (rs = [] ∨ ∃ g, pa = some ⟨g, 0, none⟩ ∧ ∀ (i : Nat) x, rs[i]? = some x → ∀ r u, (cRowSt x)[r]? = some u → w.cell? ⟨g, i * 7 + r, none⟩ = some u) := by
  rcases h.2 with ⟨h1, h2⟩ | ⟨g, c, cur, h1, _, hg, hc, hm, hs, ht⟩
  · cases h1
    exact ⟨h2.symm, Nat.le_refl _, by unfold maxLen; omega, .inl (List.eq_nil_of_length_eq_zero h2)⟩
  · cases h1
    refine ⟨rfl, hc, hm, .inr ⟨g, rfl, fun i x hx r u hu => ?_⟩⟩
    have hlt : i < rs.length := (List.getElem?_eq_some_iff.1 hx).1
    have hr : r < 7 := (List.getElem?_eq_some_iff.1 hu).1
    have h1 : (cellsG cRowSt rs)[i * 7 + r]? = (cRowSt x)[r]? := flat_get cRowSt_len hx hr
    rw [← hu, ← h1, ← ht, List.getElem?_take, if_pos (by omega)]
    simp [World.cell?, hg]

set_option maxRecDepth 100000 in
set_option maxHeartbeats 800000 in
theorem findCmpSt (x : RowSt) (a : IDd) (p t : Nat) (w : World) (hp : w.cell? ⟨p, 0, none⟩ = some (.pointer (some ⟨t, 0, none⟩))) (ht : w.cell? ⟨t, 0, none⟩ = some (.func (.func 59) #[] #[])) :
    Calls Tryz.prog 110 #[.agg #[.string x.key.kind, .string x.key.name, .int .i64 x.val.op, .string x.val.r.x.id.kind, .string x.val.r.x.id.name, .slice x.val.r.a2 x.val.r.n2 x.val.r.p2, .slice x.val.r.a3 x.val.r.n3 x.val.r.p3], .agg #[.string a.kind, .string a.name], .pointer (some ⟨p, 0, none⟩)] w fun e w' => e = .returned (.int .i64 (cmpI x.key a)) ∧ Ext w w' := by
  have hpl : p < w.heap.size := World.block_lt_of_cell? w _ hp
  have htl : t < w.heap.size := World.block_lt_of_cell? w _ ht
  have g0 := World.cell?_alloc_past (w := w.alloc (.cells #[.string x.key.kind, .string x.key.name, .int .i64 x.val.op, .string x.val.r.x.id.kind, .string x.val.r.x.id.name, .slice x.val.r.a2 x.val.r.n2 x.val.r.p2, .slice x.val.r.a3 x.val.r.n3 x.val.r.p3] 159)) (.cells #[.string a.kind, .string a.name] 31) p 0 (by simp; omega)
  have g1 := World.cell?_alloc_past (w := w.alloc (.cells #[.string x.key.kind, .string x.key.name, .int .i64 x.val.op, .string x.val.r.x.id.kind, .string x.val.r.x.id.name, .slice x.val.r.a2 x.val.r.n2 x.val.r.p2, .slice x.val.r.a3 x.val.r.n3 x.val.r.p3] 159)) (.cells #[.string a.kind, .string a.name] 31) t 0 (by simp; omega)
  rw [World.cell?_alloc_past (w := w) _ p 0 hpl, hp] at g0
  rw [World.cell?_alloc_past (w := w) _ t 0 htl, ht] at g1
  replace hp := hide hp; replace ht := hide ht; replace hpl := hide hpl; replace htl := hide htl
  go_enter Tryz.func110, Tryz.ntmps110
  go_wp2_with fail
  go_region_held3 (fun w' => w'.cell? ⟨p, 0, none⟩ = some (.pointer (some ⟨t, 0, none⟩)) ∧ w'.cell? ⟨t, 0, none⟩ = some (.func (.func 59) #[] #[]) ∧ w'.cell? ⟨w.heap.size, 0, none⟩ = some (.string x.key.kind) ∧ w'.cell? ⟨w.heap.size, 1, none⟩ = some (.string x.key.name) ∧ w'.cell? ⟨w.heap.size + 1, 0, none⟩ = some (.string a.kind) ∧ w'.cell? ⟨w.heap.size + 1, 1, none⟩ = some (.string a.name)) (go_keep)
    ((go_at_call 59; refine (compareIDs x.key a _).mono ?_; rintro e w1 ⟨rfl, he1⟩; go_must (have q0 := he1.cells (p := ⟨p, 0, none⟩) (by simp [g0]; rfl); have q1 := he1.cells (p := ⟨t, 0, none⟩) (by simp [g1]; rfl); have qa0 := he1.cells (p := ⟨w.heap.size, 0, none⟩) (v := .string x.key.kind) (by simp [go_sem]); have qa1 := he1.cells (p := ⟨w.heap.size, 1, none⟩) (v := .string x.key.name) (by simp [go_sem]); have qb0 := he1.cells (p := ⟨w.heap.size + 1, 0, none⟩) (v := .string a.kind) (by simp [go_sem]); have qb1 := he1.cells (p := ⟨w.heap.size + 1, 1, none⟩) (v := .string a.name) (by simp [go_sem])); replace he1 := hide he1))
  go_wp2
  go_ret
  exact ⟨rfl, (((Ext.refl _).alloc _).alloc _).drew.trans he1.out⟩

/-- What the look for a key answers. -/
def SrcIsSt (w : World) (rs : List RowSt) (a : IDd) (e : Ending) (w' : World) : Prop :=
  ∃ (i : Nat) (b : Bool), e = .returned (.tuple #[.int .i64 i, .bool b]) ∧ i ≤ rs.length ∧ Hid (StandsG cmpI RowSt.key rs a i) ∧ Hid (b = true ↔ HasK RowSt.key rs a) ∧ Hid (b = true → ∃ x, rs[i]? = some x ∧ x.key = a) ∧ Hid (Ext w w')

set_option maxRecDepth 100000 in
set_option maxHeartbeats 3200000 in
theorem searchSt (B : Nat) (v : Value) (rs : List RowSt) (a : IDd) (p t : Nat) (w : World) (hv : RowsSt B w v rs) (hu : UpG cmpI RowSt.key rs) (hn : rs.length ≤ 1000000)
    (hp : w.cell? ⟨p, 0, none⟩ = some (.pointer (some ⟨t, 0, none⟩))) (ht : w.cell? ⟨t, 0, none⟩ = some (.func (.func 59) #[] #[])) :
    Calls Tryz.prog 109 #[v, .agg #[.string a.kind, .string a.name], .func (.func 110) #[] #[.pointer (some ⟨p, 0, none⟩)]] w (SrcIsSt w rs a) := by
  obtain ⟨pa, cap, rfl⟩ := ownsRow_form hv
  obtain ⟨-, hc1, hc2, hin⟩ := rowsSt_in hv
  unfold maxLen at hc2
  replace hin := hide hin; replace hp := hide hp; replace ht := hide ht; replace hv := hide hv; replace hu := hide hu
  go_enter Tryz.func109, Tryz.ntmps109
  go_wp2_with fail
  go_loopw [9, 10] (fun i j wr => ∃ i' j' : Nat, i' ≤ j' ∧ j' ≤ rs.length ∧ i = .int .i64 i' ∧ j = .int .i64 j' ∧ Hid (∀ (k : Nat) x, k < i' → rs[k]? = some x → cmpI x.key a < 0) ∧ Hid (∀ (k : Nat) x, j' ≤ k → rs[k]? = some x → 0 ≤ cmpI x.key a) ∧ Hid (Ext (w.alloc (.cells #[.string a.kind, .string a.name] 31)) wr)) (fun i j _ => (intOf j).toNat - (intOf i).toNat)
  case atStart => exact ⟨0, rs.length, Nat.zero_le _, Nat.le_refl _, rfl, rfl, fun _ _ h => absurd h (by omega), fun k x h hx => absurd (List.getElem?_eq_some_iff.1 hx).1 (by omega), Ext.refl _⟩
  case round =>
    obtain ⟨i, j, hij, hj, rfl, rfl, hA, hB, hx⟩ := hrel
    have X0 := hide (((Ext.refl w).alloc _).trans hx.out)
    have m0 := hx.out.cells (p := ⟨w.heap.size, 0, none⟩) (v := .string a.kind) (by simp [go_sem])
    have m1 := hx.out.cells (p := ⟨w.heap.size, 1, none⟩) (v := .string a.name) (by simp [go_sem])
    have hp1 := hide (X0.out.drew.cells hp.out)
    have ht1 := hide (X0.out.drew.cells ht.out)
    by_cases hlt : i < j
    · obtain ⟨h, hh⟩ : ∃ h, h = (i + j) / 2 := ⟨_, rfl⟩
      have e1 : IntKind.u64.wrap ((i : Int) + (j : Int)) = ((i + j : Nat) : Int) := by rw [IntKind.wrap_u64]; omega
      obtain ⟨x, hxh⟩ := some_of_lt (show h < rs.length by omega)
      rcases hin.out with hnil | ⟨g, rfl, hI⟩
      · rw [hnil] at hj; simp at hj; omega
      replace hI := hI h x hxh
      have k0 := X0.out.cells (hI 0 _ rfl)
      have k1 := X0.out.cells (hI 1 _ rfl)
      have k2 := X0.out.cells (hI 2 _ rfl)
      have k3 := X0.out.cells (hI 3 _ rfl)
      have k4 := X0.out.cells (hI 4 _ rfl)
      have k5 := X0.out.cells (hI 5 _ rfl)
      have k6 := X0.out.cells (hI 6 _ rfl)
      rw [Nat.add_zero] at k0
      have h2 : (h : Int) < (rs.length : Int) := by omega
      have h3 : (0 : Int) ≤ (h : Int) := by omega
      have h4 : ((i : Int) + (j : Int)) / 2 = (h : Int) := by omega
      have hlo : i ≤ h := by omega
      have hhi : h < j := by omega
      replace hI := hide hI; replace hxh := hide hxh; replace hh := hide hh
      go_wp2_with fail
      go_region_held3 (fun w' => w'.cell? ⟨g, h * 7, none⟩ = some (.string x.key.kind) ∧ w'.cell? ⟨g, h * 7 + 1, none⟩ = some (.string x.key.name) ∧ w'.cell? ⟨g, h * 7 + 2, none⟩ = some (.int .i64 x.val.op) ∧ w'.cell? ⟨g, h * 7 + 3, none⟩ = some (.string x.val.r.x.id.kind) ∧ w'.cell? ⟨g, h * 7 + 4, none⟩ = some (.string x.val.r.x.id.name) ∧ w'.cell? ⟨g, h * 7 + 5, none⟩ = some (.slice x.val.r.a2 x.val.r.n2 x.val.r.p2) ∧ w'.cell? ⟨g, h * 7 + 6, none⟩ = some (.slice x.val.r.a3 x.val.r.n3 x.val.r.p3) ∧ w'.cell? ⟨w.heap.size, 0, none⟩ = some (.string a.kind) ∧ w'.cell? ⟨w.heap.size, 1, none⟩ = some (.string a.name)) (go_keep)
        ((go_at_call 110; refine (findCmpSt x a p t wr.drew hp1.out ht1.out).mono ?_; rintro e w1 ⟨rfl, he1⟩; go_must (have qr0 := he1.cells (p := ⟨g, h * 7, none⟩) (v := .string x.key.kind) (by simpa using k0); have qr1 := he1.cells (p := ⟨g, h * 7 + 1, none⟩) (v := .string x.key.name) (by simpa using k1); have qr2 := he1.cells (p := ⟨g, h * 7 + 2, none⟩) (v := .int .i64 x.val.op) (by simpa using k2); have qr3 := he1.cells (p := ⟨g, h * 7 + 3, none⟩) (v := .string x.val.r.x.id.kind) (by simpa using k3); have qr4 := he1.cells (p := ⟨g, h * 7 + 4, none⟩) (v := .string x.val.r.x.id.name) (by simpa using k4); have qr5 := he1.cells (p := ⟨g, h * 7 + 5, none⟩) (v := .slice x.val.r.a2 x.val.r.n2 x.val.r.p2) (by simpa using k5); have qr6 := he1.cells (p := ⟨g, h * 7 + 6, none⟩) (v := .slice x.val.r.a3 x.val.r.n3 x.val.r.p3) (by simpa using k6); have qk0 := he1.cells (p := ⟨w.heap.size, 0, none⟩) (v := .string a.kind) (by simpa using m0); have qk1 := he1.cells (p := ⟨w.heap.size, 1, none⟩) (v := .string a.name) (by simpa using m1)); replace he1 := hide he1))
      by_cases hb : cmpI x.key a < 0
      · go_wp2_with fail
        go_roundw
        case rel => exact ⟨h + 1, j, by omega, hj, by go_num, rfl, hu.out.stands ordI hxh.out hb, hB, hx.out.drew.trans he1.out⟩
        case measure => simp [intOf]; omega
      · have hb' : ¬ cmpI x.key a < 0 := hb
        replace hb' := hide hb'
        go_wp2_with fail
        go_roundw
        case rel => exact ⟨i, h, by omega, by omega, rfl, rfl, hA, hu.out.stands' ordI hxh.out (by first | exact hb'.out | exact Int.not_lt.2 hb'.out), hx.out.drew.trans he1.out⟩
        case measure => simp [intOf]; omega
    · obtain rfl : i = j := by omega
      have hst : Hid (StandsG cmpI RowSt.key rs a i) := ⟨hj, hA.out, fun k x hk hx => Int.not_lt.2 (hB.out k x hk hx)⟩
      by_cases hend : i < rs.length
      · obtain ⟨x, hxh⟩ := some_of_lt hend
        rcases hin.out with hnil | ⟨g, rfl, hI⟩
        · rw [hnil] at hend; simp at hend
        replace hI := hI i x hxh
        have k0 := X0.out.cells (hI 0 _ rfl)
        have k1 := X0.out.cells (hI 1 _ rfl)
        have k2 := X0.out.cells (hI 2 _ rfl)
        have k3 := X0.out.cells (hI 3 _ rfl)
        have k4 := X0.out.cells (hI 4 _ rfl)
        have k5 := X0.out.cells (hI 5 _ rfl)
        have k6 := X0.out.cells (hI 6 _ rfl)
        rw [Nat.add_zero] at k0
        have h2 : (i : Int) < (rs.length : Int) := by omega
        have h3 : (0 : Int) ≤ (i : Int) := by omega
        replace hI := hide hI; replace hxh := hide hxh
        go_wp2_with fail
        go_region_held3 (fun w' => w'.cell? ⟨g, i * 7, none⟩ = some (.string x.key.kind) ∧ w'.cell? ⟨g, i * 7 + 1, none⟩ = some (.string x.key.name) ∧ w'.cell? ⟨g, i * 7 + 2, none⟩ = some (.int .i64 x.val.op) ∧ w'.cell? ⟨g, i * 7 + 3, none⟩ = some (.string x.val.r.x.id.kind) ∧ w'.cell? ⟨g, i * 7 + 4, none⟩ = some (.string x.val.r.x.id.name) ∧ w'.cell? ⟨g, i * 7 + 5, none⟩ = some (.slice x.val.r.a2 x.val.r.n2 x.val.r.p2) ∧ w'.cell? ⟨g, i * 7 + 6, none⟩ = some (.slice x.val.r.a3 x.val.r.n3 x.val.r.p3) ∧ w'.cell? ⟨w.heap.size, 0, none⟩ = some (.string a.kind) ∧ w'.cell? ⟨w.heap.size, 1, none⟩ = some (.string a.name)) (go_keep)
          ((go_at_call 110; refine (findCmpSt x a p t wr.drew hp1.out ht1.out).mono ?_; rintro e w1 ⟨rfl, he1⟩; go_must (have qr0 := he1.cells (p := ⟨g, i * 7, none⟩) (v := .string x.key.kind) (by simpa using k0); have qr1 := he1.cells (p := ⟨g, i * 7 + 1, none⟩) (v := .string x.key.name) (by simpa using k1); have qr2 := he1.cells (p := ⟨g, i * 7 + 2, none⟩) (v := .int .i64 x.val.op) (by simpa using k2); have qr3 := he1.cells (p := ⟨g, i * 7 + 3, none⟩) (v := .string x.val.r.x.id.kind) (by simpa using k3); have qr4 := he1.cells (p := ⟨g, i * 7 + 4, none⟩) (v := .string x.val.r.x.id.name) (by simpa using k4); have qr5 := he1.cells (p := ⟨g, i * 7 + 5, none⟩) (v := .slice x.val.r.a2 x.val.r.n2 x.val.r.p2) (by simpa using k5); have qr6 := he1.cells (p := ⟨g, i * 7 + 6, none⟩) (v := .slice x.val.r.a3 x.val.r.n3 x.val.r.p3) (by simpa using k6); have qk0 := he1.cells (p := ⟨w.heap.size, 0, none⟩) (v := .string a.kind) (by simpa using m0); have qk1 := he1.cells (p := ⟨w.heap.size, 1, none⟩) (v := .string a.name) (by simpa using m1)); replace he1 := hide he1))
        go_wp2
        go_ret2
        refine ⟨i, cmpI x.key a == 0, rfl, hj, hst, ?_, ?_, X0.out.drew.trans he1.out⟩
        · show _ ↔ _
          constructor
          · intro h; exact StandsG.there ordI hxh.out (by simpa using h)
          · intro h
            by_cases e : cmpI x.key a = 0
            · simpa using e
            · exact absurd h (hst.out.gone ordI hu.out fun y hy => by rw [hxh.out] at hy; cases hy; exact e)
        · intro h
          exact ⟨x, hxh.out, ordI.zero.1 (by simpa using h)⟩
      · have h2 : ¬ (i : Int) < (rs.length : Int) := by omega
        go_wp2_with fail
        go_quiet (fail)
        go_wp2
        go_ret2
        refine ⟨i, false, rfl, hj, hst, ?_, ?_, X0.out.drewN _⟩
        · show _ ↔ _
          constructor
          · intro h; cases h
          · intro h
            exact absurd h (hst.out.gone ordI hu.out fun y hy => absurd (List.getElem?_eq_some_iff.1 hy).1 (by omega))
        · intro h; cases h
end Go.Proofs.YtfoelahabalbpaaGreatDoor
