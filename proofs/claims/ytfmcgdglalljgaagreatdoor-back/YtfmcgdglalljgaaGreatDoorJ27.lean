/-
  The parser: a line of a resource.
-/
/-
  The parser: the head of a resource.
-/
import Derived.Test.YtfmcgdglalljgaaGreatDoorJ26
namespace Go.Proofs.YtfmcgdglalljgaaGreatDoor
open Go.RowKit

theorem nameS_ok {e : EntD} {name : ByteArray} (h : nameS e name = 0) : ¬ HasK RowA.key e.attrs name ∧ (name ≠ wAfter → e.attrs.length ≠ 6) := by
  unfold nameS at h
  split at h
  · cases h
  · rename_i h1
    split at h
    · cases h
    · rename_i h2
      exact ⟨fun hk => h2 (.inr hk), fun hn h6 => h1 ⟨hn, h6⟩⟩
theorem Fits.marked {B Be : Nat} {w : World} {P b : Nat} {ts : List Tok} {i : Nat} {rs : List RowE} {bs : List Nat} {rf : List (IDd × Nat)} {e : EntD} (h : Fits B Be w P b ts i rs bs rf e) : Fits B Be (w.setCell ⟨b, 4, none⟩ (.bool true)) P b ts i rs bs rf { e with hasAfter := true } ∧ Wr (ChgE B Be) w (w.setCell ⟨b, 4, none⟩ (.bool true)) := by
  obtain ⟨⟨tE, vT, vE, vO, vR, hp⟩, ⟨tA, tI, vA, vI, hE⟩, h3, h4, h5, h6, h7⟩ := h
  have W : Wr (fun j t => j = b ∧ t = 144) w (w.setCell ⟨b, 4, none⟩ (.bool true)) := (Wr.refl _ w).setOld (p := ⟨b, 4, none⟩) hE.box ⟨rfl, rfl⟩ _
  have no : ∀ {j t}, t ≠ 144 → ¬ (j = b ∧ t = 144) := fun h hd => h hd.2
  refine ⟨⟨⟨tE, vT, vE, vO, vR, hp.wr W fun _ _ _ _ ht hd => by obtain ⟨_, rfl⟩ := hd; rcases ht with h | h | h | h | h | h <;> exact absurd h (by decide)⟩, ⟨tA, tI, vA, vI, hE.base, (row_set hE.box 4 _).trans rfl, ?_, ?_⟩, h3, Nat.le_trans h4 W.size, h5, h6, h7⟩, W.mono fun _ _ _ hd => .inr ⟨hd.1 ▸ hE.base, .inl hd.2⟩⟩
  · exact ⟨W.keeps hE.attrs.at_ (no (by decide)), ownsRow_wr hE.attrs.rows W fun _ _ _ => no (by decide), hE.attrs.up, hE.attrs.few, hE.attrs.base⟩
  · exact ⟨W.keeps hE.after.at_ (no (by decide)), ownsRow_wr hE.after.keys W fun _ _ _ => no (by decide), hE.after.up, hE.after.few, hE.after.base⟩

set_option maxRecDepth 100000 in
set_option maxHeartbeats 3200000 in
theorem readLineP {B Be : Nat} {w : World} {P b : Nat} {ts : List Tok} {i : Nat} {rs : List RowE} {bs : List Nat} {rf : List (IDd × Nat)} {e : EntD} (h : Fits B Be w P b ts i rs bs rf e) (hn : ts.length ≤ 1000000) (he : TsEnd ts) (hi : i < ts.length) :
    Calls Tryz.prog 106 #[.pointer (some ⟨P, 0, none⟩), .pointer (some ⟨b, 0, none⟩)] w (ReadIs B Be w P b ts rs bs (lineS ts i e rf)) := by
  obtain ⟨t0, h0⟩ := TsEnd.there hi
  have hF0 := hide (h.ext ((Ext.refl w).alloc (.cells #[.int .i64 0, .int .i64 0] 88)))
  replace h := hide h; replace hi := hide hi
  by_cases k0 : t0.kind = 1
  · have hj1 := he.next h0 (by omega)
    obtain ⟨t1, h1⟩ := TsEnd.there hj1
    classical
    have hst : Hid (lineS ts i e rf = if nameS e t0.text ≠ 0 then .error (nameS e t0.text, t0.place) else match takeS ts (i + 1) 8 with
      | .error x => .error x
      | .ok (_, i) => if t0.text = wAfter then listS ts i { e with hasAfter := true } rf else valS ts i e t0.text rf) := by
      show _ = _
      unfold lineS; rw [take_ok h0 k0]; rfl
    replace h0 := hide h0; replace k0 := hide k0; replace he := hide he
    go_enter Tryz.func106, Tryz.ntmps106
    go_wp2_with fail
    refine (takeF hF0.out h0.out hn k0.out).mono ?_; rintro e1 w1 ⟨rfl, hF1, hW1⟩
    have O1 := hide (Wr.keeps hW1.out (heap_alloc_new w (.cells #[.int .i64 0, .int .i64 0] 88)) chgE_fault)
    go_wp2_with fail
    refine (faultIs _ _ _).mono ?_; rintro e2 w2 ⟨rfl, hw2⟩
    have X2 : Hid (Ext w1 w2) := (by show Ext _ _; rw [hw2]; exact (((Ext.refl w1).alloc _).alloc _).alloc _)
    have N2 := (hw2 ▸ ext_heap (((Ext.refl _).alloc (.cells #[.int .i64 0, .int .i64 0] 88)).alloc (.cells #[.int .i64 0, .int .i64 0] 88)) (heap_alloc_new w1 (.cells #[.int .i64 t0.kind, .int .i64 t0.place, .string t0.text, .int .i64 t0.value] 120)) : w2.heap[w1.heap.size]? = some (.cells #[.int .i64 t0.kind, .int .i64 t0.place, .string t0.text, .int .i64 t0.value] 120))
    clear hw2
    have hF2 := hide (hF1.out.ext X2.out); have O2 := hide (ext_heap X2.out O1.out)
    have W2 : Hid (Wr (ChgE B Be) w w2) := (Wr.ext ((Ext.refl w).alloc _)).trans (hW1.out.trans (Wr.ext X2.out))
    obtain ⟨n0, n1, n2, n3⟩ := four_cells N2
    replace N2 := hide N2
    go_wp2_with fail
    refine (checkNameP hF2.out.ent t0.text).mono ?_; rintro e3 w3 ⟨rfl, he3⟩
    have hF3 := hide (hF2.out.ext he3.out); have O3 := hide (ext_heap he3.out O2.out); have N3 := hide (ext_heap he3.out N2.out)
    have W3 : Hid (Wr (ChgE B Be) w w3) := W2.out.trans (Wr.ext he3.out)
    clear n0 n1 n2 n3 hF1 hW1 O1 X2 hF2 O2 W2
    obtain ⟨n0, n1, n2, n3⟩ := four_cells N3.out
    by_cases hz : nameS e t0.text = 0
    · have hz1 : (nameS e t0.text != 0) = false := by simp [hz]
      obtain ⟨hno, h6⟩ := nameS_ok hz
      rw [if_neg (by simp [hz])] at hst
      replace hz := hide hz; replace hno := hide hno; replace h6 := hide h6
      go_wp2_with fail
      by_cases k1 : t1.kind = 8
      · rw [take_ok h1 k1] at hst
        have hj2 := he.out.next h1 (by omega)
        replace h1 := hide h1; replace k1 := hide k1
        refine (takeF hF3.out h1.out hn k1.out).mono ?_; rintro e4 w4 ⟨rfl, hF4, hW4⟩
        have O4 := hide (Wr.keeps hW4.out O3.out chgE_fault); have N4 := hide (Wr.keeps hW4.out N3.out chgE_tok)
        go_wp2_with fail
        refine (faultIs _ _ _).mono ?_; rintro e5 w5 ⟨rfl, hw5⟩
        have X5 : Hid (Ext w4 w5) := (by show Ext _ _; rw [hw5]; exact ((((Ext.refl w4).alloc _).alloc _).alloc _))
        clear hw5
        have hF5 := hide (hF4.out.ext X5.out); have O5 := hide (ext_heap X5.out O4.out); have N5 := hide (ext_heap X5.out N4.out)
        have W5 : Hid (Wr (ChgE B Be) w w5) := W3.out.trans (hW4.out.trans (Wr.ext X5.out))
        clear n0 n1 n2 n3 hF3 O3 N3 W3 hF4 O4 N4 hW4 X5
        obtain ⟨n0, n1, n2, n3⟩ := four_cells N5.out
        by_cases ha : t0.text = wAfter
        · have ha1 : t0.text.toList = [97, 102, 116, 101, 114] := by rw [wAfter_eq]; exact ha
          have ha2 : (t0.text.toList == [97, 102, 116, 101, 114]) = true := by simp [ha1]
          have hfin : Hid (lineS ts i e rf = listS ts (i + 1 + 1) { e with hasAfter := true } rf) := by
            show _ = _
            rw [hst.out, if_pos ha]
          replace ha := hide ha
          obtain ⟨tA, tI, vA, vI, hE⟩ := hF5.out.ent
          have a4 := (six_cells hE.box).2.2.2.2.1
          have fE := row_frozen hE.box
          have nb : ¬ b = w1.heap.size := fun hb => by have h1 := hE.box; rw [hb, N5.out] at h1; cases h1
          replace hE := hide hE
          obtain ⟨hF6, hW6⟩ := hF5.out.marked
          have O6 := Wr.keeps hW6 O5.out chgE_fault
          go_wp2_with fail
          generalize w5.setCell ⟨b, 4, none⟩ (.bool true) = w6 at *
          replace hF6 := hide hF6; replace hW6 := hide hW6; replace O6 := hide O6
          refine (readListP hF6.out hn he.out hj2).mono ?_
          rintro e7 w7 ⟨hW7, hr7⟩
          have O7 := Wr.keeps hW7.out O6.out chgE_fault
          have W7 : Hid (Wr (ChgE B Be) w w7) := W5.out.trans (hW6.out.trans hW7.out)
          have o0 := two_c0 O7; have o1 := two_c1 O7; have fO := row_frozen O7
          replace O7 := hide O7
          rcases hr7 with ⟨en, pl, hr, hne, rfl⟩ | ⟨i7, x7, rf7, hr, rfl, hF7⟩
          · go_wp2_with fail
            refine bodyPost_ret (v := .agg #[.int .i64 en, .int .i64 pl]) (by simp [results, Tryz.results106, go_sem, o0, o1]) rfl ?_
            exact ⟨(W7.out.setNew (p := ⟨w.heap.size, 0, none⟩) (Nat.le_refl _) _).setNew (p := ⟨w.heap.size, 1, none⟩) (Nat.le_refl _) _, .inl ⟨en, pl, hfin.out.trans hr.out, hne, rfl⟩⟩
          · go_wp2_with fail
            refine bodyPost_ret (v := .agg #[.int .i64 0, .int .i64 0]) (by simp [results, Tryz.results106, go_sem, o0, o1]) rfl ?_
            have WF := Wr.ofF O7.out (.int .i64 0) (.int .i64 0)
            exact ⟨W7.out.thenNew WF fun j t hd => by have := hd.1; omega, .inr ⟨i7, x7, rf7, hfin.out.trans hr.out, rfl, hF7.out.onF WF⟩⟩
        · have ha1 : ¬ t0.text.toList = [97, 102, 116, 101, 114] := by rw [wAfter_eq]; exact ha
          have ha2 : (t0.text.toList == [97, 102, 116, 101, 114]) = false := by simpa using ha1
          have hfin : Hid (lineS ts i e rf = valS ts (i + 1 + 1) e t0.text rf) := by
            show _ = _
            rw [hst.out, if_neg ha]
          have h6' := hide (h6.out ha)
          replace ha := hide ha
          go_wp2_with fail
          refine (readValueP hF5.out hn hj2 t0.text hno.out h6'.out).mono ?_
          rintro e7 w7 ⟨hW7, hr7⟩
          have O7 := Wr.keeps hW7.out O5.out chgE_fault
          have W7 : Hid (Wr (ChgE B Be) w w7) := W5.out.trans hW7.out
          have o0 := two_c0 O7; have o1 := two_c1 O7; have fO := row_frozen O7
          replace O7 := hide O7
          rcases hr7 with ⟨en, pl, hr, hne, rfl⟩ | ⟨i7, x7, rf7, hr, rfl, hF7⟩
          · go_wp2_with fail
            refine bodyPost_ret (v := .agg #[.int .i64 en, .int .i64 pl]) (by simp [results, Tryz.results106, go_sem, o0, o1]) rfl ?_
            exact ⟨(W7.out.setNew (p := ⟨w.heap.size, 0, none⟩) (Nat.le_refl _) _).setNew (p := ⟨w.heap.size, 1, none⟩) (Nat.le_refl _) _, .inl ⟨en, pl, hfin.out.trans hr.out, hne, rfl⟩⟩
          · go_wp2_with fail
            refine bodyPost_ret (v := .agg #[.int .i64 0, .int .i64 0]) (by simp [results, Tryz.results106, go_sem, o0, o1]) rfl ?_
            have WF := Wr.ofF O7.out (.int .i64 0) (.int .i64 0)
            exact ⟨W7.out.thenNew WF fun j t hd => by have := hd.1; omega, .inr ⟨i7, x7, rf7, hfin.out.trans hr.out, rfl, hF7.out.onF WF⟩⟩
      · have hfin : Hid (lineS ts i e rf = .error (6, t1.place)) := by
          show _ = _
          rw [hst.out, take_no h1 k1]
        replace h1 := hide h1; replace k1 := hide k1
        refine (takeFN hF3.out h1.out hn k1.out).mono ?_; rintro e4 w4 ⟨rfl, he4⟩
        have O4 := hide (ext_heap he4.out O3.out)
        have W4 : Hid (Wr (ChgE B Be) w w4) := W3.out.trans (Wr.ext he4.out)
        go_wp2_with fail
        refine (faultIs _ _ _).mono ?_; rintro e5 w5 ⟨rfl, hw5⟩
        have X5 : Hid (Ext w4 w5) := (by show Ext _ _; rw [hw5]; exact ((((Ext.refl w4).alloc _).alloc _).alloc _))
        have F5 := (hw5 ▸ ext_heap ((Ext.refl _).alloc (.cells #[.int .i64 6, .int .i64 t1.place] 88)) (two_hi w4 (.cells #[.int .i64 0, .int .i64 0, .string ⟨#[]⟩, .int .i64 0] 120) (.cells #[.int .i64 6, .int .i64 t1.place] 88)) : w5.heap[w4.heap.size + 1]? = some (.cells #[.int .i64 6, .int .i64 t1.place] 88))
        have O5 := ext_heap X5.out O4.out
        clear hw5
        have f0 := two_c0 F5; have f1 := two_c1 F5; have o0 := two_c0 O5; have o1 := two_c1 O5; have fO := row_frozen O5
        replace F5 := hide F5; replace O5 := hide O5
        go_wp2_with fail
        refine bodyPost_ret (v := .agg #[.int .i64 6, .int .i64 t1.place]) (by simp [results, Tryz.results106, go_sem, o0, o1]) rfl ?_
        have W : Wr (ChgE B Be) w w5 := W4.out.trans (Wr.ext X5.out)
        exact ⟨(W.setNew (p := ⟨w.heap.size, 0, none⟩) (Nat.le_refl _) _).setNew (p := ⟨w.heap.size, 1, none⟩) (Nat.le_refl _) _, .inl ⟨6, t1.place, hfin, by decide, rfl⟩⟩
    · have hz1 : (nameS e t0.text != 0) = true := by simpa using hz
      have hfin : Hid (lineS ts i e rf = .error (nameS e t0.text, t0.place)) := by
        show _ = _
        rw [hst.out, if_pos hz]
      replace hz := hide hz
      have o0 := two_c0 O3.out; have o1 := two_c1 O3.out; have fO := row_frozen O3.out
      go_wp2_with fail
      refine bodyPost_ret (v := .agg #[.int .i64 (nameS e t0.text), .int .i64 t0.place]) (by simp [results, Tryz.results106, go_sem, o0, o1]) rfl ?_
      exact ⟨(W3.out.setNew (p := ⟨w.heap.size, 0, none⟩) (Nat.le_refl _) _).setNew (p := ⟨w.heap.size, 1, none⟩) (Nat.le_refl _) _, .inl ⟨_, t0.place, hfin, hz.out, rfl⟩⟩
  · have hfin : Hid (lineS ts i e rf = .error (6, t0.place)) := by
      show _ = _
      unfold lineS; rw [take_no h0 k0]
    replace h0 := hide h0; replace k0 := hide k0; replace he := hide he
    go_enter Tryz.func106, Tryz.ntmps106
    go_wp2_with fail
    refine (takeFN hF0.out h0.out hn k0.out).mono ?_; rintro e1 w1 ⟨rfl, he1⟩
    have O1 := hide (ext_heap he1.out (heap_alloc_new w (.cells #[.int .i64 0, .int .i64 0] 88)))
    have W1 : Hid (Wr (ChgE B Be) w w1) := (Wr.ext ((Ext.refl w).alloc _)).trans (Wr.ext he1.out)
    go_wp2_with fail
    refine (faultIs _ _ _).mono ?_; rintro e2 w2 ⟨rfl, hw2⟩
    have X2 : Hid (Ext w1 w2) := (by show Ext _ _; rw [hw2]; exact ((((Ext.refl w1).alloc _).alloc _).alloc _))
    have F2 := (hw2 ▸ ext_heap ((Ext.refl _).alloc (.cells #[.int .i64 6, .int .i64 t0.place] 88)) (two_hi w1 (.cells #[.int .i64 0, .int .i64 0, .string ⟨#[]⟩, .int .i64 0] 120) (.cells #[.int .i64 6, .int .i64 t0.place] 88)) : w2.heap[w1.heap.size + 1]? = some (.cells #[.int .i64 6, .int .i64 t0.place] 88))
    have O2 := ext_heap X2.out O1.out
    clear hw2
    have f0 := two_c0 F2; have f1 := two_c1 F2; have o0 := two_c0 O2; have o1 := two_c1 O2; have fO := row_frozen O2
    replace F2 := hide F2; replace O2 := hide O2
    go_wp2_with fail
    refine bodyPost_ret (v := .agg #[.int .i64 6, .int .i64 t0.place]) (by simp [results, Tryz.results106, go_sem, o0, o1]) rfl ?_
    have W : Wr (ChgE B Be) w w2 := W1.out.trans (Wr.ext X2.out)
    exact ⟨(W.setNew (p := ⟨w.heap.size, 0, none⟩) (Nat.le_refl _) _).setNew (p := ⟨w.heap.size, 1, none⟩) (Nat.le_refl _) _, .inl ⟨6, t0.place, hfin, by decide, rfl⟩⟩
end Go.Proofs.YtfmcgdglalljgaaGreatDoor

namespace Go.Proofs.YtfmcgdglalljgaaGreatDoor
open Go.RowKit

/-- What the reading of a head may change. -/
def ChgP (B k : Nat) (t : TypeId) : Prop := B ≤ k ∧ TyP t
def insE (rs : List RowE) (x : RowE) : List RowE := rs.takeWhile (fun r => decide (cmpI r.key x.key < 0)) ++ x :: rs.dropWhile (fun r => decide (cmpI r.key x.key < 0))
theorem insE_at {rs : List RowE} {x : RowE} {i : Nat} (h : StandsG cmpI RowE.key rs x.key i) : insG rs i x = insE rs x := by
  obtain ⟨h1, h2⟩ := cut_while (fun r : RowE => decide (cmpI r.key x.key < 0)) rs i h.le (fun k y hk hy => by simpa using h.ahead k y hk hy) (fun k y hk hy => by simpa using h.behind k y hk hy)
  unfold insE insG
  rw [h1, h2]
/-- What the keeping of a head leaves. -/
def KeepIs (B : Nat) (w : World) (P : Nat) (ts : List Tok) (i : Nat) (rs : List RowE) (bs : List Nat) (rf : List (IDd × Nat)) (id : IDd) (pl : Nat) (e : Ending) (w' : World) : Prop :=
  ∃ b, e = .returned (.pointer (some ⟨b, 0, none⟩)) ∧ Hid (Fits B w.heap.size w' P b ts i (insE rs ⟨id, b⟩) (bs ++ [b]) rf ⟨id, pl, [], false, []⟩) ∧ Hid (Wr (ChgP B) w w')
set_option maxRecDepth 100000 in
set_option maxHeartbeats 800000 in
theorem tabNewX (w : World) :
    Calls Tryz.prog 122 #[.func (.func 68) #[] #[]] w fun e w' => e = .returned (.pointer (some ⟨w.heap.size, 0, none⟩)) ∧ w' = w.alloc (.cells #[.func (.func 68) #[] #[], .slice none 0 0] 216) := by
  go_enter Tryz.func122, Tryz.ntmps122
  go_wp2
  go_ret
  exact ⟨rfl, rfl⟩
set_option maxRecDepth 100000 in
set_option maxHeartbeats 800000 in
theorem tabNewAX (w : World) :
    Calls Tryz.prog 154 #[.func (.func 103) #[] #[]] w fun e w' => e = .returned (.pointer (some ⟨w.heap.size, 0, none⟩)) ∧ w' = w.alloc (.cells #[.func (.func 103) #[] #[], .slice none 0 0] 210) := by
  refine (tabNewA w).mono ?_
  rintro e w' ⟨rfl, _, h⟩
  exact ⟨rfl, h.out⟩

theorem infoPt : (Tryz.prog.info? 125).map (fun i => (i.zero, i.size, i.bytes)) = some (some (.pointer none), 1, 8) := by kernel_rfl
theorem cPt_one {x : Nat} : ∀ u ∈ cPt x, u.oneCell' = true := by
  intro u hu
  simp [cPt] at hu
  subst hu; rfl
theorem ParIn.putE {B : Nat} {w w1 : World} {P tE : Nat} {vT vE vO vR : Value} {ts : List Tok} {i : Nat} {rs : List RowE} {bs : List Nat} {rf : List (IDd × Nat)} (h : ParIn B w P tE vT vE vO vR ts i rs bs rf) (k : WroteTE B w w1) {u : Value} {rs' : List RowE} (hT : TabAtE B w1 tE u rs') : ParIn B w1 P tE vT u vO vR ts i rs' bs rf := by
  have W : Wr (fun _ t => t = 180 ∨ t = 168) w w1 := Wr.wrote k fun _ _ _ _ h => h
  have no : ∀ {t : TypeId}, t ≠ 180 → t ≠ 168 → ¬ (t = 180 ∨ t = 168) := fun h1 h2 hd => hd.elim h1 h2
  exact ⟨h.base, W.keeps h.box (no (by decide) (by decide)), ownsRow_wr h.toks W fun _ _ _ => no (by decide) (by decide), hT, ownsRow_wr h.order W fun _ _ _ => no (by decide) (by decide), ownsRow_wr h.refs W fun _ _ _ => no (by decide) (by decide)⟩
theorem ParIn.ordered {B : Nat} {w w1 : World} {P tE : Nat} {vT vE vO vR : Value} {ts : List Tok} {i : Nat} {rs : List RowE} {bs : List Nat} {rf : List (IDd × Nat)} (h : ParIn B w P tE vT vE vO vR ts i rs bs rf) (k : Wrote B (· = 125) w w1) {g cap : Nat} {x : Nat} (hown : w1.ownsRow B 125 1 (.slice (some ⟨g, 0, none⟩) (bs.length + 1) cap) (bs.length + 1) (bs.flatMap cPt ++ cPt x)) :
    ParIn B (w1.setCell ⟨P, 3, none⟩ (.slice (some ⟨g, 0, none⟩) (bs.length + 1) cap)) P tE vT vE (.slice (some ⟨g, 0, none⟩) (bs.length + 1) cap) vR ts i rs (bs ++ [x]) rf ∧
    Wr (fun j t => (B ≤ j ∧ t = 125) ∨ OnP P j t) w (w1.setCell ⟨P, 3, none⟩ (.slice (some ⟨g, 0, none⟩) (bs.length + 1) cap)) := by
  have W : Wr (fun j t => (B ≤ j ∧ t = 125) ∨ OnP P j t) w (w1.setCell ⟨P, 3, none⟩ (.slice (some ⟨g, 0, none⟩) (bs.length + 1) cap)) := (Wr.wrote k (fun _ _ _ hb h => .inl ⟨hb, h⟩)).setOld (p := ⟨P, 3, none⟩) h.box (.inr ⟨rfl, rfl⟩) _
  have no : ∀ {j t}, t ≠ 125 → t ≠ 130 → ¬ ((B ≤ j ∧ t = 125) ∨ OnP P j t) := fun h1 h2 hd => hd.elim (fun h => h1 h.2) (fun h => h2 h.2)
  have hb := Wrote.keeps k h.box (by decide)
  have hl : (bs ++ [x]).length = bs.length + 1 := by simp
  refine ⟨⟨h.base, (row_set hb 3 _).trans rfl, ownsRow_wr h.toks W fun _ _ _ => no (by decide) (by decide),
    ⟨W.keeps h.ents.at_ (no (by decide) (by decide)), ownsRow_wr h.ents.rows W fun _ _ _ => no (by decide) (by decide), h.ents.up, h.ents.few, h.ents.base⟩,
    ?_, ownsRow_wr h.refs W fun _ _ _ => no (by decide) (by decide)⟩, W⟩
  rw [hl, show (bs ++ [x]).flatMap cPt = bs.flatMap cPt ++ cPt x by simp]
  exact ownsRow_set hown hb (by decide) _

attribute [local go_sem] Go.World.cell?_alloc_some
set_option maxRecDepth 100000 in
set_option maxHeartbeats 3200000 in
theorem keepP {B : Nat} {w : World} {P tE : Nat} {vT vE vO vR : Value} {ts : List Tok} {i : Nat} {rs : List RowE} {bs : List Nat} {rf : List (IDd × Nat)} (h : ParIn B w P tE vT vE vO vR ts i rs bs rf) (hB : B ≤ w.heap.size) (id : IDd) (pl : Nat) (hno : ¬ HasK RowE.key rs id) (hr : rs.length ≤ 100) (hb : bs.length ≤ 100) (hf : rf.length ≤ i) :
    Calls Tryz.prog 134 #[.pointer (some ⟨P, 0, none⟩), .agg #[.string id.kind, .string id.name], .int .i64 pl] w (KeepIs B w P ts i rs bs rf id pl) := by
  obtain ⟨paO, capO, rfl⟩ := ownsRow_form h.order
  obtain ⟨iR, hiR, hr0, hr1, hr2⟩ := info_of infoPt
  replace hiR := hide hiR
  replace h := hide h; replace hno := hide hno
  go_enter Tryz.func134, Tryz.ntmps134
  go_wp2_with fail
  go_region_held3 (fun w' => w'.cell? ⟨w.heap.size, 0, none⟩ = some (.string id.kind) ∧ w'.cell? ⟨w.heap.size, 1, none⟩ = some (.string id.name)) (go_keep) ((first
    | (go_at_call 154; refine (tabNewAX _).mono ?_; rintro e1 w1 ⟨rfl, rfl⟩)
    | (go_at_call 122; refine (tabNewX _).mono ?_; rintro e2 w2 ⟨rfl, rfl⟩)))
  have X3 : Hid (Ext w _) := (((((Ext.refl w).alloc (.cells #[.string id.kind, .string id.name] 25)).alloc (.cells #[.func (.func 103) #[] #[], .slice none 0 0] 210)).alloc (.cells #[.func (.func 68) #[] #[], .slice none 0 0] 216)).alloc (.cells #[.string id.kind, .string id.name, .int .i64 pl, .pointer (some ⟨w.heap.size + 1, 0, none⟩), .bool false, .pointer (some ⟨w.heap.size + 1 + 1, 0, none⟩)] 144)).drew
  have hI3 := hide (ext_heap ((((Ext.refl _).alloc (.cells #[.func (.func 103) #[] #[], .slice none 0 0] 210)).alloc (.cells #[.func (.func 68) #[] #[], .slice none 0 0] 216)).alloc (.cells #[.string id.kind, .string id.name, .int .i64 pl, .pointer (some ⟨w.heap.size + 1, 0, none⟩), .bool false, .pointer (some ⟨w.heap.size + 1 + 1, 0, none⟩)] 144)).drew (heap_alloc_new w (.cells #[.string id.kind, .string id.name] 25)))
  have hA3 := hide (ext_heap (((Ext.refl _).alloc (.cells #[.func (.func 68) #[] #[], .slice none 0 0] 216)).alloc (.cells #[.string id.kind, .string id.name, .int .i64 pl, .pointer (some ⟨w.heap.size + 1, 0, none⟩), .bool false, .pointer (some ⟨w.heap.size + 1 + 1, 0, none⟩)] 144)).drew (two_hi w (.cells #[.string id.kind, .string id.name] 25) (.cells #[.func (.func 103) #[] #[], .slice none 0 0] 210)))
  have hT3 := hide (ext_heap ((Ext.refl _).alloc (.cells #[.string id.kind, .string id.name, .int .i64 pl, .pointer (some ⟨w.heap.size + 1, 0, none⟩), .bool false, .pointer (some ⟨w.heap.size + 1 + 1, 0, none⟩)] 144)).drew (two_hi (w.alloc (.cells #[.string id.kind, .string id.name] 25)) (.cells #[.func (.func 103) #[] #[], .slice none 0 0] 210) (.cells #[.func (.func 68) #[] #[], .slice none 0 0] 216)))
  have hE3 := hide (ext_heap (Ext.refl _).drew (two_hi ((w.alloc (.cells #[.string id.kind, .string id.name] 25)).alloc (.cells #[.func (.func 103) #[] #[], .slice none 0 0] 210)) (.cells #[.func (.func 68) #[] #[], .slice none 0 0] 216) (.cells #[.string id.kind, .string id.name, .int .i64 pl, .pointer (some ⟨w.heap.size + 1, 0, none⟩), .bool false, .pointer (some ⟨w.heap.size + 1 + 1, 0, none⟩)] 144)))
  simp only [World.size_alloc] at hT3 hE3
  generalize (World.alloc (World.alloc (World.alloc (World.alloc w _) _) _) _).drew = w3 at *
  have hp3 := hide (h.out.ext X3.out)
  have hEn3 : Hid (EntAt w.heap.size w3 (w.heap.size + 1 + 1 + 1) ⟨id, pl, [], false, []⟩) := ⟨w.heap.size + 1, w.heap.size + 1 + 1, .slice none 0 0, .slice none 0 0, by omega, hE3.out, ⟨hA3.out, World.ownsRow_nil _ _ _ _, List.Pairwise.nil, Nat.zero_le _, by omega⟩, ⟨hT3.out, World.ownsRow_nil _ _ _ _, List.Pairwise.nil, Nat.zero_le _, by omega⟩⟩
  have i0 := two_c0 hI3.out; have i1 := two_c1 hI3.out
  have p2 := (five_cells hp3.out.box).2.2.1
  have hpt := hide (tabPutE B vE rs id (w.heap.size + 1 + 1 + 1) tE w3.drew (hp3.out.ents.ext (Ext.refl w3).drew) hno.out (Nat.le_trans hB (Ext.size (X3.out.trans (Ext.refl w3).drew))) (by omega))
  go_wp2_with fail
  go_region_held3 (fun w' => w'.cell? ⟨P, 2, none⟩ = some (.pointer (some ⟨tE, 0, none⟩)) ∧ w'.cell? ⟨w.heap.size, 0, none⟩ = some (.string id.kind) ∧ w'.cell? ⟨w.heap.size, 1, none⟩ = some (.string id.name)) (go_keep) ((go_at_call 155; refine hpt.out.mono ?_; rintro e4 w4 ⟨j4, pa, cap, n4, rfl, hst, hT4, hW4⟩; go_must (have z0 := (five_cells (Wrote.keeps hW4.out (ext_heap (Ext.refl w3).drew hp3.out.box) (by decide))).2.2.1; have zI := Wrote.keeps hW4.out (ext_heap (Ext.refl w3).drew hI3.out) (by decide); have z1 := two_c0 zI; have z2 := two_c1 zI; clear zI)))
  have W4 : WroteTE B w3 w4 := (Wrote.ext (Ext.refl w3).drew).trans hW4.out
  have hp4 := hp3.out.putE W4 hT4.out
  rw [insE_at hst.out] at hp4
  have hEn4 : Hid (EntAt w.heap.size w4 (w.heap.size + 1 + 1 + 1) ⟨id, pl, [], false, []⟩) := hEn3.out.wr (Wr.wrote (D := fun _ t => t = 180 ∨ t = 168) W4 fun _ _ _ _ h => h) fun _ _ _ _ ht hd => by rcases hd with rfl | rfl <;> rcases ht with h | h | h | h | h <;> exact absurd h (by decide)
  have W04 : Hid (Wr (ChgP B) w w4) := (Wr.ext X3.out).trans (Wr.wrote W4 fun _ _ _ hb h => ⟨hb, h.elim (fun h => .inr (.inr (.inr (.inl h)))) (fun h => .inr (.inr (.inl h)))⟩)
  clear i0 i1 p2
  have p3 := (five_cells hp4.box).2.2.2.1
  have hX4 := hp4.ext ((Ext.refl w4).alloc (.cells #[.pointer (some ⟨w.heap.size + 1 + 1 + 1, 0, none⟩)] 125))
  have q3 := (five_cells hX4.box).2.2.2.1
  replace hp4 := hide hp4; replace hX4 := hide hX4; replace W4 := hide W4
  have hsz4 : Hid (B ≤ (w4.alloc (.cells (cPt (w.heap.size + 1 + 1 + 1)).toArray 125)).heap.size) := by show _ ≤ _; have := W04.out.size; simp; omega
  have hnew : Hid (∀ j u, (cPt (w.heap.size + 1 + 1 + 1))[j]? = some u → (w4.alloc (.cells (cPt (w.heap.size + 1 + 1 + 1)).toArray 125)).cell? ((⟨w4.heap.size, 0, none⟩ : Addr).add j) = some u) := by
    show ∀ j u, _
    intro j u hu
    rw [add_eq]
    refine Eq.trans (cell_of (heap_alloc_new w4 (.cells (cPt (w.heap.size + 1 + 1 + 1)).toArray 125)) (0 + j)) ?_
    simpa using hu
  go_wp2_with (at_builtin; go_must (refine wpList_append_lies _ rfl (.tmp 25) (.tmp 27) 127 rfl B 125 iR (.pointer none) 1 8 Tryz.underlying127 hiR.out hr0 hr1 hr2 rfl (by omega) (.slice paO bs.length capO) bs.length (bs.flatMap cPt) rfl hX4.out.order ⟨w4.heap.size, 0, none⟩ 1 1 (cPt (w.heap.size + 1 + 1 + 1)) rfl rfl hnew.out cPt_one (by omega) (by unfold maxLen; omega) (by omega) hsz4.out (w4.heap.size + 1) (by simp) ?_; intro g1 cap1 w5 hown5 hgrow5 hat5 hlt5; clear hat5; have W5 : Wrote B (· = 125) w4 w5 := (Wrote.refl _ _ w4).grownAt hp4.out.order rfl hgrow5; have P5 := Wrote.keeps W5 hp4.out.box (by decide); have v5 := row_frozen P5; have u5 := (five_cells P5).2.2.2.1; replace P5 := hide P5; replace W5 := hide W5; replace hown5 := hide hown5; clear hgrow5; replace hlt5 := hide hlt5))
  obtain ⟨hP6, hW6⟩ := hp4.out.ordered W5.out hown5.out
  have hE6 := hEn4.out.wr hW6 fun _ _ _ _ ht hd => by
    rcases hd with ⟨_, rfl⟩ | ⟨_, rfl⟩ <;> rcases ht with h | h | h | h | h <;> exact absurd h (by decide)
  have W06 : Wr (ChgP B) w _ := W04.out.trans (hW6.mono fun _ _ _ hd => hd.elim (fun h => ⟨h.1, .inr (.inr (.inr (.inr (.inl h.2))))⟩) (fun h => ⟨h.1 ▸ hp4.out.base, .inl h.2⟩))
  refine bodyPost_ret (v := .pointer (some ⟨w.heap.size + 1 + 1 + 1, 0, none⟩)) (by simp [results, Tryz.results134, go_sem]) rfl ?_
  exact ⟨_, rfl, ⟨⟨_, _, _, _, _, hP6⟩, hE6, hB, W06.size, hf, by simp, by simp⟩, W06⟩
end Go.Proofs.YtfmcgdglalljgaaGreatDoor
