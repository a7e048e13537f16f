/-
  The parser: a name ahead of one more '=', and a value behind it.
-/
import Derived.Test.YtfnbbohbicffpaaGreatDoorJ25
namespace Go.Proofs.YtfnbbohbicffpaaGreatDoor
open Go.RowKit

theorem wAfter_eq (s : ByteArray) : (s.toList = [97, 102, 116, 101, 114]) = (s = wAfter) := by
  rw [ByteArray.toList_eq]
  apply propext
  constructor
  · intro h
    cases s with | mk d => cases d with | mk l => simp only at h; subst h; rfl
  · rintro rfl; rfl
set_option maxRecDepth 100000 in
set_option maxHeartbeats 3200000 in
theorem checkNameP {Be : Nat} {w : World} {b : Nat} {e : EntD} (h : EntAt Be w b e) (name : ByteArray) :
    Calls Tryz.prog 88 #[.pointer (some ⟨b, 0, none⟩), .string name] w fun r w' => r = .returned (.int .i64 (nameS e name)) ∧ Hid (Ext w w') := by
  obtain ⟨tA, tI, vA, vI, hE⟩ := h
  obtain ⟨a0, a1, a2, a3, a4, a5⟩ := six_cells hE.box
  have hh := hide (tabHasA Be vA e.attrs name tA w hE.attrs)
  replace hE := hide hE
  have hl := hide (tabLenA Be vA e.attrs tA w hE.out.attrs)
  by_cases ha : name = wAfter
  · have ha1 : name.toList = [97, 102, 116, 101, 114] := by rw [wAfter_eq]; exact ha
    have ha2 : (name.toList == [97, 102, 116, 101, 114]) = true := by simp [ha1]
    replace ha := hide ha
    cases hA : e.hasAfter
    · rw [hA] at a4
      replace hA := hide hA
      go_enter Tryz.func88, Tryz.ntmps88
      go_wp2_with fail
      refine hh.out.mono ?_; rintro e1 w1 ⟨b1, rfl, hb1, he1⟩
      cases b1
      · have hno : ¬ HasK RowA.key e.attrs name := fun hm => by have := hb1.out.2 hm; cases this
        replace hb1 := hide hb1
        go_wp2_with fail
        go_ret
        exact ⟨by unfold nameS; simp [ha.out, hA.out]; exact ha.out ▸ hno, he1⟩
      · have hys : HasK RowA.key e.attrs name := hb1.out.1 rfl
        replace hb1 := hide hb1
        go_wp2_with fail
        go_ret
        exact ⟨by unfold nameS; simp [ha.out, hA.out]; exact ha.out ▸ hys, he1⟩
    · rw [hA] at a4
      replace hA := hide hA
      go_enter Tryz.func88, Tryz.ntmps88
      go_wp2_with fail
      go_ret
      exact ⟨by unfold nameS; simp [ha.out, hA.out], Ext.refl w⟩
  · have ha1 : ¬ name.toList = [97, 102, 116, 101, 114] := by rw [wAfter_eq]; exact ha
    have ha2 : (name.toList == [97, 102, 116, 101, 114]) = false := by simpa using ha1
    replace ha := hide ha
    by_cases h6 : e.attrs.length = 6
    · have l1 : ((e.attrs.length : Int) == 6) = true := by simp [h6]
      replace h6 := hide h6
      go_enter Tryz.func88, Tryz.ntmps88
      go_wp2_with fail
      refine hl.out.mono ?_; rintro e0 w0 ⟨rfl, hw0⟩
      obtain rfl := hw0
      go_wp2_with fail
      go_ret
      exact ⟨by unfold nameS; simp [ha.out, h6.out], Ext.refl _⟩
    · have l1 : ((e.attrs.length : Int) == 6) = false := by simp; omega
      replace h6 := hide h6
      go_enter Tryz.func88, Tryz.ntmps88
      go_wp2_with fail
      refine hl.out.mono ?_; rintro e0 w0 ⟨rfl, hw0⟩
      obtain rfl := hw0
      go_wp2_with fail
      refine hh.out.mono ?_; rintro e1 w1 ⟨b1, rfl, hb1, he1⟩
      cases b1
      · have hno : ¬ HasK RowA.key e.attrs name := fun hm => by have := hb1.out.2 hm; cases this
        replace hb1 := hide hb1
        go_wp2_with fail
        go_ret
        exact ⟨by unfold nameS; simp [ha.out, h6.out, hno], he1⟩
      · have hys : HasK RowA.key e.attrs name := hb1.out.1 rfl
        replace hb1 := hide hb1
        go_wp2_with fail
        go_ret
        exact ⟨by unfold nameS; simp [ha.out, h6.out, hys], he1⟩

theorem chgE_attr {B Be k : Nat} : ¬ ChgE B Be k 57 := by
  rintro (⟨_, h | h⟩ | ⟨_, h | h | h | h | h⟩) <;> exact absurd h (by decide)
theorem Fits.onA {B Be : Nat} {w w' : World} {P b : Nat} {ts : List Tok} {i : Nat} {rs : List RowE} {bs : List Nat} {rf : List (IDd × Nat)} {e : EntD} (h : Fits B Be w P b ts i rs bs rf e) {F : Nat} (x : Wr (fun j t => j = F ∧ t = 57) w w') : Fits B Be w' P b ts i rs bs rf e := by
  obtain ⟨⟨tE, vT, vE, vO, vR, hp⟩, h2, h3, h4, h5, h6, h7⟩ := h
  exact ⟨⟨tE, vT, vE, vO, vR, hp.wr x fun _ _ _ _ ht hd => by obtain ⟨_, rfl⟩ := hd; rcases ht with h | h | h | h | h | h <;> exact absurd h (by decide)⟩, h2.wr x fun _ _ _ _ ht hd => by obtain ⟨_, rfl⟩ := hd; rcases ht with h | h | h | h | h <;> exact absurd h (by decide), h3, Nat.le_trans h4 x.size, h5, h6, h7⟩
theorem Fits.attred {B Be : Nat} {w w' : World} {P b : Nat} {ts : List Tok} {i : Nat} {rs : List RowE} {bs : List Nat} {rf : List (IDd × Nat)} {e : EntD} (h : Fits B Be w P b ts i rs bs rf e) {tA tI : Nat} {vA vI : Value} (hE : EntIn Be w b tA tI vA vI e) (k : Wrote Be (fun t => t = 158 ∨ t = 156) w w') {u : Value} {x : RowA} {j : Nat} (hT : TabAtA Be w' tA u (insG e.attrs j x)) (hst : StandsG cmpS RowA.key e.attrs x.key j) (h6 : e.attrs.length ≠ 6) : Fits B Be w' P b ts i rs bs rf { e with attrs := insA e.attrs x } := by
  obtain ⟨⟨tE, vT, vE, vO, vR, hp⟩, h2, h3, h4, h5, hf, hg⟩ := h
  refine ⟨⟨tE, vT, vE, vO, vR, hp.wr (Wr.wrote (D := fun _ t => t = 158 ∨ t = 156) k fun _ _ _ _ h => h) fun _ _ _ _ ht hd => by rcases hd with rfl | rfl <;> rcases ht with h | h | h | h | h | h <;> exact absurd h (by decide)⟩, ?_, h3, Nat.le_trans h4 k.size, h5, hf, ?_⟩
  · exact ⟨tA, tI, u, vI, hE.base, Wrote.keeps k hE.box (by decide), by rw [← insA_at hst]; exact hT, ⟨Wrote.keeps k hE.after.at_ (by decide), ownsRow_wr hE.after.keys (Wr.wrote (D := fun _ t => t = 158 ∨ t = 156) k fun _ _ _ _ h => h) (fun _ _ _ hd => by rcases hd with h | h <;> exact absurd h (by decide)), hE.after.up, hE.after.few, hE.after.base⟩⟩
  · show (insA e.attrs x).length ≤ 6
    rw [← insA_at hst, insG_len hst.le]; omega
/-- A value as one of the readings. -/
def valS (ts : List Tok) (i : Nat) (e : EntD) (name : ByteArray) (rf : List (IDd × Nat)) : Except Flt (Nat × EntD × List (IDd × Nat)) := match valueS ts i e name with
  | .error x => .error x
  | .ok (i, e) => .ok (i, e, rf)
set_option maxRecDepth 100000 in
set_option maxHeartbeats 3200000 in
theorem readValueP {B Be : Nat} {w : World} {P b : Nat} {ts : List Tok} {i : Nat} {rs : List RowE} {bs : List Nat} {rf : List (IDd × Nat)} {e : EntD} (h : Fits B Be w P b ts i rs bs rf e) (hn : ts.length ≤ 1000000) (hi : i < ts.length) (name : ByteArray) (hno : ¬ HasK RowA.key e.attrs name) (h6 : e.attrs.length ≠ 6) :
    Calls Tryz.prog 90 #[.pointer (some ⟨P, 0, none⟩), .pointer (some ⟨b, 0, none⟩), .string name] w (ReadIs B Be w P b ts rs bs (valS ts i e name rf)) := by
  obtain ⟨t0, h0⟩ := TsEnd.there hi
  have hF0 := hide (h.ext ((Ext.refl w).alloc (.cells #[.int .i64 0, .int .i64 0] 47)))
  have hpk := hide (peekF hF0.out h0)
  replace h := hide h; replace hi := hide hi; replace hno := hide hno; replace h6 := hide h6
  by_cases k0 : t0.kind = 3
  · have kk1 : ((t0.kind : Int) == 3) = true := by simp [k0]
    have hfin : Hid (valS ts i e name rf = .ok (i + 1, { e with attrs := insA e.attrs ⟨name, ⟨name, true, t0.text, t0.value⟩⟩ }, rf)) := by
      show _ = _
      unfold valS valueS; rw [kind_at h0, k0]
      simp only [reduceIte]
      rw [take_ok h0 k0]; simp
    replace h0 := hide h0; replace k0 := hide k0
    go_enter Tryz.func90, Tryz.ntmps90
    go_wp2_with fail
    refine hpk.out.mono ?_; rintro e1 w1 ⟨rfl, he1⟩
    have hF1 := hide (hF0.out.ext he1.out)
    have O1 := hide (ext_heap he1.out (heap_alloc_new w (.cells #[.int .i64 0, .int .i64 0] 47)))
    have W1 : Hid (Wr (ChgE B Be) w w1) := (Wr.ext ((Ext.refl w).alloc _)).trans (Wr.ext he1.out)
    go_wp2_with fail
    have XA : Ext w1 (w1.alloc (.cells #[.string name, .bool true, .string ⟨#[]⟩, .int .i64 0] 57)) := (Ext.refl w1).alloc _
    have A1 := heap_alloc_new w1 (.cells #[.string name, .bool true, .string ⟨#[]⟩, .int .i64 0] 57)
    generalize w1.alloc (.cells #[.string name, .bool true, .string ⟨#[]⟩, .int .i64 0] 57) = w2 at *
    have hF2 := hide (hF1.out.ext XA); have O2 := hide (ext_heap XA O1.out)
    have W2 : Hid (Wr (ChgE B Be) w w2) := W1.out.trans (Wr.ext XA)
    replace A1 := hide A1; replace XA := hide XA
    refine (takeF hF2.out h0.out hn k0.out).mono ?_; rintro e3 w3 ⟨rfl, hF3, hW3⟩
    have A3 := hide (Wr.keeps hW3.out A1.out chgE_attr)
    have O3 := hide (Wr.keeps hW3.out O2.out chgE_fault)
    have W3 : Hid (Wr (ChgE B Be) w w3) := W2.out.trans hW3.out
    go_wp2_with fail
    refine (faultIs _ _ _).mono ?_; rintro e4 w4 ⟨rfl, hw4⟩
    have X4 : Hid (Ext w3 w4) := (by show Ext _ _; rw [hw4]; exact (((Ext.refl w3).alloc _).alloc _).alloc _)
    have T4 := (hw4 ▸ ext_heap (((Ext.refl _).alloc (.cells #[.int .i64 0, .int .i64 0] 47)).alloc (.cells #[.int .i64 0, .int .i64 0] 47)) (heap_alloc_new w3 (.cells #[.int .i64 t0.kind, .int .i64 t0.place, .string t0.text, .int .i64 t0.value] 71)) : w4.heap[w3.heap.size]? = some (.cells #[.int .i64 t0.kind, .int .i64 t0.place, .string t0.text, .int .i64 t0.value] 71))
    clear hw4
    have A4 := ext_heap X4.out A3.out; have O4 := hide (ext_heap X4.out O3.out); have hF4 := hide (hF3.out.ext X4.out)
    obtain ⟨m0, m1, m2, m3⟩ := four_cells A4
    obtain ⟨n0, n1, n2, n3⟩ := four_cells T4
    have fA := row_frozen A4
    have hlt := (Array.getElem?_eq_some_iff.1 A3.out).1
    have d1 : ¬ w3.heap.size = w1.heap.size := by omega
    have d2 : ¬ w1.heap.size = w3.heap.size := by omega
    have A5 : Hid (((w4.setCell ⟨w1.heap.size, 2, none⟩ (.string t0.text)).setCell ⟨w1.heap.size, 3, none⟩ (.int .i64 t0.value)).drew.heap[w1.heap.size]? = some (.cells #[.string name, .bool true, .string t0.text, .int .i64 t0.value] 57)) := by
      show _ = _
      exact (row_set (row_set A4 2 _) 3 _).trans rfl
    have W5 : Hid (Wr (fun j t => j = w1.heap.size ∧ t = 57) w4 ((w4.setCell ⟨w1.heap.size, 2, none⟩ (.string t0.text)).setCell ⟨w1.heap.size, 3, none⟩ (.int .i64 t0.value)).drew) := (((Wr.refl _ w4).setOld (p := ⟨w1.heap.size, 2, none⟩) A4 ⟨rfl, rfl⟩ _).setOld (p := ⟨w1.heap.size, 3, none⟩) A4 ⟨rfl, rfl⟩ _).trans (Wr.ext (Ext.refl _).drew)
    replace A4 := hide A4; replace T4 := hide T4; replace hlt := hide hlt
    go_wp2_with fail
    go_region_with (fail)
    all_goals
      clear m0 m1 m2 m3 n0 n1 n2 n3 fA
      generalize ((w4.setCell ⟨w1.heap.size, 2, none⟩ (.string t0.text)).setCell ⟨w1.heap.size, 3, none⟩ (.int .i64 t0.value)).drew = w5 at *
      obtain ⟨m0, m1, m2, m3⟩ := four_cells A5.out
      have hF5 := hide (hF4.out.onA W5.out)
      have O5 := hide (Wr.keeps W5.out O4.out (fun hd => absurd hd.2 (by decide)))
      have W05 : Hid (Wr (ChgE B Be) w w5) := (W3.out.trans (Wr.ext X4.out)).thenNew W5.out fun j t hd => by have := hd.1; have := W1.out.size; omega
      obtain ⟨tA, tI, vA, vI, hE⟩ := hF5.out.ent
      have a3 := (six_cells hE.box).2.2.2.1
      have hpt := hide (tabPutA Be vA e.attrs name ⟨name, true, t0.text, t0.value⟩ tA w5.drew (hE.attrs.ext (Ext.refl w5).drew) hno.out hF5.out.size (by have := h.out.attrsFew; omega))
      replace hE := hide hE
      go_wp2_with fail
      go_region_held3 (fun w' => w'.cell? ⟨b, 3, none⟩ = some (.pointer (some ⟨tA, 0, none⟩)) ∧ w'.cell? ⟨w1.heap.size, 0, none⟩ = some (.string name) ∧ w'.cell? ⟨w1.heap.size, 1, none⟩ = some (.bool true) ∧ w'.cell? ⟨w1.heap.size, 2, none⟩ = some (.string t0.text) ∧ w'.cell? ⟨w1.heap.size, 3, none⟩ = some (.int .i64 t0.value)) (go_keep) ((go_at_call 111; refine hpt.out.mono ?_; rintro e6 w6 ⟨j6, pa, cap, n6, rfl, hst, hT6, hW6⟩; go_must (have z0 := (six_cells (Wrote.keeps hW6.out (ext_heap (Ext.refl w5).drew hE.out.box) (by decide))).2.2.2.1; have zA := Wrote.keeps hW6.out (ext_heap (Ext.refl w5).drew A5.out) (by decide); obtain ⟨z1, z2, z3, z4⟩ := four_cells zA; clear zA)))
      all_goals
        have W6 : Wrote Be (fun t => t = 158 ∨ t = 156) w5 w6 := (Wrote.ext (Ext.refl w5).drew).trans hW6.out
        have O6 := Wrote.keeps W6 O5.out (by decide)
        have hF6 := hide (hF5.out.attred hE.out W6 hT6.out hst.out h6.out)
        have W06 : Hid (Wr (ChgE B Be) w w6) := W05.out.trans (Wr.wrote W6 fun _ _ _ hb h => .inr ⟨hb, h.elim (fun h => .inr (.inr (.inl h))) (fun h => .inr (.inl h))⟩)
        have o0 := two_c0 O6; have o1 := two_c1 O6; have fO := row_frozen O6
        replace O6 := hide O6; replace W6 := hide W6
        go_wp2_with fail
        refine bodyPost_ret (v := .agg #[.int .i64 0, .int .i64 0]) (by simp [results, Tryz.results90, go_sem, o0, o1]) rfl ?_
        have WF := Wr.ofF O6.out (.int .i64 0) (.int .i64 0)
        exact ⟨W06.out.thenNew WF fun j t hd => by have := hd.1; omega, .inr ⟨_, _, _, hfin, rfl, hF6.out.onF WF⟩⟩
  · by_cases k2 : t0.kind = 2
    · have kk1 : ((t0.kind : Int) == 3) = false := by simp [k2]
      have hfin : Hid (valS ts i e name rf = .ok (i + 1, { e with attrs := insA e.attrs ⟨name, ⟨name, false, t0.text, t0.value⟩⟩ }, rf)) := by
        show _ = _
        unfold valS valueS; rw [kind_at h0, k2]
        simp only [reduceIte, Nat.reduceEqDiff]
        rw [take_ok h0 k2]; simp
      replace h0 := hide h0; replace k2 := hide k2
      go_enter Tryz.func90, Tryz.ntmps90
      go_wp2_with fail
      refine hpk.out.mono ?_; rintro e1 w1 ⟨rfl, he1⟩
      have hF1 := hide (hF0.out.ext he1.out)
      have O1 := hide (ext_heap he1.out (heap_alloc_new w (.cells #[.int .i64 0, .int .i64 0] 47)))
      have W1 : Hid (Wr (ChgE B Be) w w1) := (Wr.ext ((Ext.refl w).alloc _)).trans (Wr.ext he1.out)
      go_wp2_with fail
      have XA : Ext w1 (w1.alloc (.cells #[.string name, .bool false, .string ⟨#[]⟩, .int .i64 0] 57)) := (Ext.refl w1).alloc _
      have A1 := heap_alloc_new w1 (.cells #[.string name, .bool false, .string ⟨#[]⟩, .int .i64 0] 57)
      generalize w1.alloc (.cells #[.string name, .bool false, .string ⟨#[]⟩, .int .i64 0] 57) = w2 at *
      have hF2 := hide (hF1.out.ext XA); have O2 := hide (ext_heap XA O1.out)
      have W2 : Hid (Wr (ChgE B Be) w w2) := W1.out.trans (Wr.ext XA)
      replace A1 := hide A1; replace XA := hide XA
      refine (takeF hF2.out h0.out hn k2.out).mono ?_; rintro e3 w3 ⟨rfl, hF3, hW3⟩
      have A3 := hide (Wr.keeps hW3.out A1.out chgE_attr)
      have O3 := hide (Wr.keeps hW3.out O2.out chgE_fault)
      have W3 : Hid (Wr (ChgE B Be) w w3) := W2.out.trans hW3.out
      go_wp2_with fail
      refine (faultIs _ _ _).mono ?_; rintro e4 w4 ⟨rfl, hw4⟩
      have X4 : Hid (Ext w3 w4) := (by show Ext _ _; rw [hw4]; exact (((Ext.refl w3).alloc _).alloc _).alloc _)
      have T4 := (hw4 ▸ ext_heap (((Ext.refl _).alloc (.cells #[.int .i64 0, .int .i64 0] 47)).alloc (.cells #[.int .i64 0, .int .i64 0] 47)) (heap_alloc_new w3 (.cells #[.int .i64 t0.kind, .int .i64 t0.place, .string t0.text, .int .i64 t0.value] 71)) : w4.heap[w3.heap.size]? = some (.cells #[.int .i64 t0.kind, .int .i64 t0.place, .string t0.text, .int .i64 t0.value] 71))
      clear hw4
      have A4 := ext_heap X4.out A3.out; have O4 := hide (ext_heap X4.out O3.out); have hF4 := hide (hF3.out.ext X4.out)
      obtain ⟨m0, m1, m2, m3⟩ := four_cells A4
      obtain ⟨n0, n1, n2, n3⟩ := four_cells T4
      have fA := row_frozen A4
      have hlt := (Array.getElem?_eq_some_iff.1 A3.out).1
      have d1 : ¬ w3.heap.size = w1.heap.size := by omega
      have d2 : ¬ w1.heap.size = w3.heap.size := by omega
      have A5 : Hid (((w4.setCell ⟨w1.heap.size, 2, none⟩ (.string t0.text)).setCell ⟨w1.heap.size, 3, none⟩ (.int .i64 t0.value)).drew.heap[w1.heap.size]? = some (.cells #[.string name, .bool false, .string t0.text, .int .i64 t0.value] 57)) := by
        show _ = _
        exact (row_set (row_set A4 2 _) 3 _).trans rfl
      have W5 : Hid (Wr (fun j t => j = w1.heap.size ∧ t = 57) w4 ((w4.setCell ⟨w1.heap.size, 2, none⟩ (.string t0.text)).setCell ⟨w1.heap.size, 3, none⟩ (.int .i64 t0.value)).drew) := (((Wr.refl _ w4).setOld (p := ⟨w1.heap.size, 2, none⟩) A4 ⟨rfl, rfl⟩ _).setOld (p := ⟨w1.heap.size, 3, none⟩) A4 ⟨rfl, rfl⟩ _).trans (Wr.ext (Ext.refl _).drew)
      replace A4 := hide A4; replace T4 := hide T4; replace hlt := hide hlt
      go_wp2_with fail
      go_region_with (fail)
      all_goals
        clear m0 m1 m2 m3 n0 n1 n2 n3 fA
        generalize ((w4.setCell ⟨w1.heap.size, 2, none⟩ (.string t0.text)).setCell ⟨w1.heap.size, 3, none⟩ (.int .i64 t0.value)).drew = w5 at *
        obtain ⟨m0, m1, m2, m3⟩ := four_cells A5.out
        have hF5 := hide (hF4.out.onA W5.out)
        have O5 := hide (Wr.keeps W5.out O4.out (fun hd => absurd hd.2 (by decide)))
        have W05 : Hid (Wr (ChgE B Be) w w5) := (W3.out.trans (Wr.ext X4.out)).thenNew W5.out fun j t hd => by have := hd.1; have := W1.out.size; omega
        obtain ⟨tA, tI, vA, vI, hE⟩ := hF5.out.ent
        have a3 := (six_cells hE.box).2.2.2.1
        have hpt := hide (tabPutA Be vA e.attrs name ⟨name, false, t0.text, t0.value⟩ tA w5.drew (hE.attrs.ext (Ext.refl w5).drew) hno.out hF5.out.size (by have := h.out.attrsFew; omega))
        replace hE := hide hE
        go_wp2_with fail
        go_region_held3 (fun w' => w'.cell? ⟨b, 3, none⟩ = some (.pointer (some ⟨tA, 0, none⟩)) ∧ w'.cell? ⟨w1.heap.size, 0, none⟩ = some (.string name) ∧ w'.cell? ⟨w1.heap.size, 1, none⟩ = some (.bool false) ∧ w'.cell? ⟨w1.heap.size, 2, none⟩ = some (.string t0.text) ∧ w'.cell? ⟨w1.heap.size, 3, none⟩ = some (.int .i64 t0.value)) (go_keep) ((go_at_call 111; refine hpt.out.mono ?_; rintro e6 w6 ⟨j6, pa, cap, n6, rfl, hst, hT6, hW6⟩; go_must (have z0 := (six_cells (Wrote.keeps hW6.out (ext_heap (Ext.refl w5).drew hE.out.box) (by decide))).2.2.2.1; have zA := Wrote.keeps hW6.out (ext_heap (Ext.refl w5).drew A5.out) (by decide); obtain ⟨z1, z2, z3, z4⟩ := four_cells zA; clear zA)))
        all_goals
          have W6 : Wrote Be (fun t => t = 158 ∨ t = 156) w5 w6 := (Wrote.ext (Ext.refl w5).drew).trans hW6.out
          have O6 := Wrote.keeps W6 O5.out (by decide)
          have hF6 := hide (hF5.out.attred hE.out W6 hT6.out hst.out h6.out)
          have W06 : Hid (Wr (ChgE B Be) w w6) := W05.out.trans (Wr.wrote W6 fun _ _ _ hb h => .inr ⟨hb, h.elim (fun h => .inr (.inr (.inl h))) (fun h => .inr (.inl h))⟩)
          have o0 := two_c0 O6; have o1 := two_c1 O6; have fO := row_frozen O6
          replace O6 := hide O6; replace W6 := hide W6
          go_wp2_with fail
          refine bodyPost_ret (v := .agg #[.int .i64 0, .int .i64 0]) (by simp [results, Tryz.results90, go_sem, o0, o1]) rfl ?_
          have WF := Wr.ofF O6.out (.int .i64 0) (.int .i64 0)
          exact ⟨W06.out.thenNew WF fun j t hd => by have := hd.1; omega, .inr ⟨_, _, _, hfin, rfl, hF6.out.onF WF⟩⟩
    · have kk1 : ((t0.kind : Int) == 3) = false := by simp; omega
      have hfin : Hid (valS ts i e name rf = .error (6, t0.place)) := by
        show _ = _
        unfold valS valueS; rw [kind_at h0, if_neg k0, take_no h0 k2]
      replace h0 := hide h0; replace k0 := hide k0; replace k2 := hide k2
      go_enter Tryz.func90, Tryz.ntmps90
      go_wp2_with fail
      refine hpk.out.mono ?_; rintro e1 w1 ⟨rfl, he1⟩
      have hF1 := hide (hF0.out.ext he1.out)
      have O1 := hide (ext_heap he1.out (heap_alloc_new w (.cells #[.int .i64 0, .int .i64 0] 47)))
      have W1 : Hid (Wr (ChgE B Be) w w1) := (Wr.ext ((Ext.refl w).alloc _)).trans (Wr.ext he1.out)
      go_wp2_with fail
      have XA : Ext w1 (w1.alloc (.cells #[.string name, .bool false, .string ⟨#[]⟩, .int .i64 0] 57)) := (Ext.refl w1).alloc _
      generalize w1.alloc (.cells #[.string name, .bool false, .string ⟨#[]⟩, .int .i64 0] 57) = w2 at *
      have hF2 := hide (hF1.out.ext XA); have O2 := hide (ext_heap XA O1.out)
      have W2 : Hid (Wr (ChgE B Be) w w2) := W1.out.trans (Wr.ext XA)
      replace XA := hide XA
      refine (takeFN hF2.out h0.out hn k2.out).mono ?_; rintro e3 w3 ⟨rfl, he3⟩
      have O3 := hide (ext_heap he3.out O2.out)
      have W3 : Hid (Wr (ChgE B Be) w w3) := W2.out.trans (Wr.ext he3.out)
      go_wp2_with fail
      refine (faultIs _ _ _).mono ?_; rintro e4 w4 ⟨rfl, hw4⟩
      have X4 : Hid (Ext w3 w4) := (by show Ext _ _; rw [hw4]; exact ((((Ext.refl w3).alloc _).alloc _).alloc _))
      have F4 := (hw4 ▸ ext_heap ((Ext.refl _).alloc (.cells #[.int .i64 6, .int .i64 t0.place] 47)) (two_hi w3 (.cells #[.int .i64 0, .int .i64 0, .string ⟨#[]⟩, .int .i64 0] 71) (.cells #[.int .i64 6, .int .i64 t0.place] 47)) : w4.heap[w3.heap.size + 1]? = some (.cells #[.int .i64 6, .int .i64 t0.place] 47))
      have O4 := ext_heap X4.out O3.out
      clear hw4
      have f0 := two_c0 F4; have f1 := two_c1 F4; have o0 := two_c0 O4; have o1 := two_c1 O4; have fO := row_frozen O4
      replace F4 := hide F4; replace O4 := hide O4
      go_wp2_with fail
      refine bodyPost_ret (v := .agg #[.int .i64 6, .int .i64 t0.place]) (by simp [results, Tryz.results90, go_sem, o0, o1]) rfl ?_
      have W : Wr (ChgE B Be) w w4 := W3.out.trans (Wr.ext X4.out)
      exact ⟨(W.setNew (p := ⟨w.heap.size, 0, none⟩) (Nat.le_refl _) _).setNew (p := ⟨w.heap.size, 1, none⟩) (Nat.le_refl _) _, .inl ⟨6, t0.place, hfin, by decide, rfl⟩⟩
end Go.Proofs.YtfnbbohbicffpaaGreatDoor
