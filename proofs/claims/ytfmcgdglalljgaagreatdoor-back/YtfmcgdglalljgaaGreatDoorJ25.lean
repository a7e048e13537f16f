/-
  The parser: a ref is read, whose three tokens are there.
-/
/-
  The parser: refs are read, and lists of them.
-/
import Derived.Test.YtfmcgdglalljgaaGreatDoorJ24
import Derived.Test.YtfmcgdglalljgaaGreatDoorJ21
import Derived.Deep.RegionLaw
import Derived.Deep.RegionHeld3
namespace Go.Proofs.YtfmcgdglalljgaaGreatDoor
open Go.RowKit

theorem infoRef : (Tryz.prog.info? 133).map (fun i => (i.zero, i.size, i.bytes)) = some (some (.agg #[.string ⟨#[]⟩, .string ⟨#[]⟩, .int .i64 0]), 3, 40) := by kernel_rfl
theorem cRf_one {x : IDd × Nat} : ∀ u ∈ cRf x, u.oneCell' = true := by
  intro u hu
  simp [cRf] at hu
  rcases hu with rfl | rfl | rfl <;> rfl
theorem six_cells {w : World} {k : Nat} {a b c d e f : Value} {t : TypeId} {fz : Nat × Nat} (hk : w.heap[k]? = some (.cells #[a, b, c, d, e, f] t fz)) :
    w.cell? ⟨k, 0, none⟩ = some a ∧ w.cell? ⟨k, 1, none⟩ = some b ∧ w.cell? ⟨k, 2, none⟩ = some c ∧ w.cell? ⟨k, 3, none⟩ = some d ∧ w.cell? ⟨k, 4, none⟩ = some e ∧ w.cell? ⟨k, 5, none⟩ = some f := by
  refine ⟨?_, ?_, ?_, ?_, ?_, ?_⟩ <;> simp [World.cell?, hk]
theorem EntAt.onP {Be : Nat} {w w' : World} {b P : Nat} {e : EntD} (h : EntAt Be w b e) (k : Wr (OnP P) w w') : EntAt Be w' b e :=
  h.wr k fun _ _ _ _ ht hd => by rcases hd with ⟨_, rfl⟩; rcases ht with h | h | h | h | h <;> exact absurd h (by decide)
theorem Wr.thenNew {D D' : Nat → TypeId → Prop} {a b c : World} (h : Wr D a b) (k : Wr D' b c) (hd : ∀ j t, D' j t → a.heap.size ≤ j) : Wr D a c :=
  ⟨k.os.trans h.os, k.tape.trans h.tape, k.output.trans h.output, Nat.le_trans h.size k.size, fun j hj hn => by
    rw [k.heap j (Nat.lt_of_lt_of_le hj h.size) fun _ t _ _ hD => by have := hd j t hD; omega]
    exact h.heap j hj hn⟩
/-- Only a fault's box. -/
def OnF (F : Nat) (j : Nat) (t : TypeId) : Prop := j = F ∧ t = 88
theorem ParIn.onF {B : Nat} {w w' : World} {P tE : Nat} {vT vE vO vR : Value} {ts : List Tok} {i : Nat} {rs : List RowE} {bs : List Nat} {refs : List (IDd × Nat)} (h : ParIn B w P tE vT vE vO vR ts i rs bs refs) {F : Nat} (k : Wr (OnF F) w w') : ParIn B w' P tE vT vE vO vR ts i rs bs refs :=
  h.wr k fun _ _ _ _ ht hd => by obtain ⟨_, rfl⟩ := hd; rcases ht with h | h | h | h | h | h <;> exact absurd h (by decide)
theorem EntAt.onF {Be : Nat} {w w' : World} {b : Nat} {e : EntD} (h : EntAt Be w b e) {F : Nat} (k : Wr (OnF F) w w') : EntAt Be w' b e :=
  h.wr k fun _ _ _ _ ht hd => by obtain ⟨_, rfl⟩ := hd; rcases ht with h | h | h | h | h <;> exact absurd h (by decide)
theorem ParIn.refd {B : Nat} {w w1 : World} {P tE : Nat} {vT vE vO vR : Value} {ts : List Tok} {i : Nat} {rs : List RowE} {bs : List Nat} {rf : List (IDd × Nat)} (h : ParIn B w P tE vT vE vO vR ts i rs bs rf) (k : Wrote B (· = 133) w w1) {g cap : Nat} {x : IDd × Nat} (hown : w1.ownsRow B 133 3 (.slice (some ⟨g, 0, none⟩) (rf.length + 1) cap) (rf.length + 1) (rf.flatMap cRf ++ cRf x)) :
    ParIn B (w1.setCell ⟨P, 4, none⟩ (.slice (some ⟨g, 0, none⟩) (rf.length + 1) cap)) P tE vT vE vO (.slice (some ⟨g, 0, none⟩) (rf.length + 1) cap) ts i rs bs (rf ++ [x]) ∧
    Wr (fun j t => (B ≤ j ∧ t = 133) ∨ OnP P j t) w (w1.setCell ⟨P, 4, none⟩ (.slice (some ⟨g, 0, none⟩) (rf.length + 1) cap)) := by
  have W : Wr (fun j t => (B ≤ j ∧ t = 133) ∨ OnP P j t) w (w1.setCell ⟨P, 4, none⟩ (.slice (some ⟨g, 0, none⟩) (rf.length + 1) cap)) := (Wr.wrote k (fun _ _ _ hb h => .inl ⟨hb, h⟩)).setOld (p := ⟨P, 4, none⟩) h.box (.inr ⟨rfl, rfl⟩) _
  have no : ∀ {j t}, t ≠ 133 → t ≠ 130 → ¬ ((B ≤ j ∧ t = 133) ∨ OnP P j t) := fun h1 h2 hd => hd.elim (fun h => h1 h.2) (fun h => h2 h.2)
  have hb := Wrote.keeps k h.box (by decide)
  have hl : (rf ++ [x]).length = rf.length + 1 := by simp
  refine ⟨⟨h.base, (row_set hb 4 _).trans rfl, ownsRow_wr h.toks W fun _ _ _ => no (by decide) (by decide),
    ⟨W.keeps h.ents.at_ (no (by decide) (by decide)), ownsRow_wr h.ents.rows W fun _ _ _ => no (by decide) (by decide), h.ents.up, h.ents.few, h.ents.base⟩,
    ownsRow_wr h.order W fun _ _ _ => no (by decide) (by decide), ?_⟩, W⟩
  rw [hl, show (rf ++ [x]).flatMap cRf = rf.flatMap cRf ++ cRf x by simp]
  exact ownsRow_set hown hb (by decide) _

set_option maxRecDepth 100000 in
set_option maxHeartbeats 3200000 in
theorem readRefYes {B Be : Nat} {w : World} {P b : Nat} {ts : List Tok} {i : Nat} {rs : List RowE} {bs : List Nat} {rf : List (IDd × Nat)} {e : EntD} (h : Fits B Be w P b ts i rs bs rf e) (hn : ts.length ≤ 1000000) {t0 t1 t2 : Tok} (h0 : ts[i]? = some t0) (k0 : t0.kind = 1) (h1 : ts[i + 1]? = some t1) (k1 : t1.kind = 10) (h2 : ts[i + 1 + 1]? = some t2) (k2 : t2.kind = 1) :
    Calls Tryz.prog 170 #[.pointer (some ⟨P, 0, none⟩), .pointer (some ⟨b, 0, none⟩)] w (ReadIs B Be w P b ts rs bs (refS ts i e rf)) := by
  obtain ⟨tE, vT, vE, vO, vR, hp⟩ := h.par
  obtain ⟨paR, capR, rfl⟩ := ownsRow_form hp.refs
  obtain ⟨iR, hiR, hr0, hr1, hr2⟩ := info_of infoRef
  replace hiR := hide hiR
  have hrf : rf.length ≤ 1000000 := by have := (List.getElem?_eq_some_iff.1 h0).1; have := h.refsFew; omega
  classical
  have hfin : Hid (refS ts i e rf = if e.after.length = 6 then .error (7, t0.place) else if (⟨t0.text, t2.text⟩ : IDd) ∈ e.after then .error (8, t0.place) else .ok (i + 1 + 1 + 1, { e with after := insI e.after ⟨t0.text, t2.text⟩ }, rf ++ [(⟨t0.text, t2.text⟩, t0.place)])) := by
    show _ = _
    unfold refS; rw [take_ok h0 k0]; dsimp only; rw [take_ok h1 k1]; dsimp only; rw [take_ok h2 k2]
  have hPB := hide hp.base
  have ht := hide (takeYes (hp.ext ((Ext.refl w).alloc (.cells #[.int .i64 0, .int .i64 0] 88))) h0 hn k0)
  replace hp := hide hp; replace h := hide h
  replace h0 := hide h0; replace k0 := hide k0; replace h1 := hide h1; replace k1 := hide k1; replace h2 := hide h2; replace k2 := hide k2
  go_enter Tryz.func170, Tryz.ntmps170
  go_wp2_with fail
  refine ht.out.mono ?_; rintro e1 w1 ⟨rfl, hp1, hW1⟩
  have hO := hide (Wr.keeps hW1.out (heap_alloc_new w (.cells #[.int .i64 0, .int .i64 0] 88)) (onP_no (by decide)))
  go_wp2_with fail
  refine (faultIs _ _ _).mono ?_; rintro e2 w2 ⟨rfl, hw2⟩
  have X2 : Hid (Ext w1 w2) := (by show Ext _ _; rw [hw2]; exact (((Ext.refl w1).alloc _).alloc _).alloc _)
  have K2 := hide (hw2 ▸ ext_heap (((Ext.refl _).alloc (.cells #[.int .i64 0, .int .i64 0] 88)).alloc (.cells #[.int .i64 0, .int .i64 0] 88)) (heap_alloc_new w1 (.cells #[.int .i64 t0.kind, .int .i64 t0.place, .string t0.text, .int .i64 t0.value] 120)) : w2.heap[w1.heap.size]? = some (.cells #[.int .i64 t0.kind, .int .i64 t0.place, .string t0.text, .int .i64 t0.value] 120))
  have F2 := hide (hw2 ▸ ext_heap ((Ext.refl _).alloc (.cells #[.int .i64 0, .int .i64 0] 88)) (two_hi w1 (.cells #[.int .i64 t0.kind, .int .i64 t0.place, .string t0.text, .int .i64 t0.value] 120) (.cells #[.int .i64 0, .int .i64 0] 88)) : w2.heap[w1.heap.size + 1]? = some (.cells #[.int .i64 0, .int .i64 0] 88))
  clear hw2
  have hO2 := hide (ext_heap X2.out hO.out); have hp2 := hide (hp1.out.ext X2.out)
  go_wp2_with fail
  refine (takeYes hp2.out h1.out hn k1.out).mono ?_; rintro e3 w3 ⟨rfl, hp3, hW3⟩
  have hO3 := hide (Wr.keeps hW3.out hO2.out (onP_no (by decide))); have F3 := hide (Wr.keeps hW3.out F2.out (onP_no (by decide))); have K3 := hide (Wr.keeps hW3.out K2.out (onP_no (by decide)))
  go_wp2_with fail
  refine (faultIs _ _ _).mono ?_; rintro e4 w4 ⟨rfl, hw4⟩
  have X4 : Hid (Ext w3 w4) := (by show Ext _ _; rw [hw4]; exact (((Ext.refl w3).alloc _).alloc _).alloc _)
  clear hw4
  have hO4 := hide (ext_heap X4.out hO3.out); have F4 := hide (ext_heap X4.out F3.out); have K4 := hide (ext_heap X4.out K3.out); have hp4 := hide (hp3.out.ext X4.out)
  go_wp2_with fail
  refine (takeYes hp4.out h2.out hn k2.out).mono ?_; rintro e5 w5 ⟨rfl, hp5, hW5⟩
  have hO5 := hide (Wr.keeps hW5.out hO4.out (onP_no (by decide))); have K5 := hide (Wr.keeps hW5.out K4.out (onP_no (by decide)))
  have F5 := ext_heap ((Ext.refl w5).alloc (.cells #[.int .i64 t2.kind, .int .i64 t2.place, .string t2.text, .int .i64 t2.value] 120)) (Wr.keeps hW5.out F4.out (onP_no (by decide)))
  have f0 := two_c0 F5; have f1 := two_c1 F5; have ff := row_frozen F5; replace F5 := hide F5
  go_wp2_with fail
  refine (faultIs _ _ _).mono ?_; rintro e6 w6 ⟨rfl, hw6⟩
  have W6 : Wr (OnF (w1.heap.size + 1)) w5 w6 := by
    rw [hw6]
    exact ((((Wr.ext ((Ext.refl w5).alloc (.cells #[.int .i64 t2.kind, .int .i64 t2.place, .string t2.text, .int .i64 t2.value] 120))).setOld (p := ⟨w1.heap.size + 1, 0, none⟩) (Wr.keeps hW5.out F4.out (onP_no (by decide))) ⟨rfl, rfl⟩ _).setOld (p := ⟨w1.heap.size + 1, 1, none⟩) (Wr.keeps hW5.out F4.out (onP_no (by decide))) ⟨rfl, rfl⟩ _)).trans (Wr.ext ((Ext.refl _).alloc _))
  have N6 : w6.heap[w5.heap.size]? = some (.cells #[.int .i64 t2.kind, .int .i64 t2.place, .string t2.text, .int .i64 t2.value] 120) := by
    have hlt := (Array.getElem?_eq_some_iff.1 (Wr.keeps hW5.out F4.out (onP_no (by decide)))).1
    rw [hw6]
    exact ext_heap ((Ext.refl _).alloc _) (World.setCell_other_row (World.setCell_other_row (heap_alloc_new w5 _) (by omega) 0 _) (by omega) 1 _)
  clear hw6 f0 f1 ff
  have K6 := Wr.keeps W6 K5.out (fun hd => absurd hd.2 (by decide))
  have hO6 := Wr.keeps W6 hO5.out (fun hd => by have := (Array.getElem?_eq_some_iff.1 hO.out).1; have := hd.1; omega)
  have hp6 := hide (hp5.out.onF W6)
  have hE0 := h.out.ent.ext ((Ext.refl w).alloc (.cells #[.int .i64 0, .int .i64 0] 88))
  have hE6 := (((((hE0.onP hW1.out).ext X2.out).onP hW3.out).ext X4.out).onP hW5.out).onF W6
  obtain ⟨tA, tI, vA, vI, hEi⟩ := hE6
  have a5 := (six_cells (ext_heap ((Ext.refl w6).alloc (.cells #[.string t0.text, .string t2.text] 25)) hEi.box)).2.2.2.2.2
  obtain ⟨b0, b1, b2, b3⟩ := four_cells K6
  obtain ⟨d0, d1, d2, d3⟩ := four_cells N6
  replace W6 := hide W6; replace K6 := hide K6; replace N6 := hide N6; replace hEi := hide hEi; replace hO6 := hide hO6
  go_wp2_with fail
  clear b0 b1 b2 b3 d0 d1 d2 d3 a5
  have X7 : Ext w6 (w6.alloc (.cells #[.string t0.text, .string t2.text] 25)) := (Ext.refl w6).alloc _
  have I7 := heap_alloc_new w6 (.cells #[.string t0.text, .string t2.text] 25)
  generalize w6.alloc (.cells #[.string t0.text, .string t2.text] 25) = w7 at *
  have hp7 := hide (hp6.out.ext X7)
  have K7 := ext_heap X7 K6.out; have O7 := ext_heap X7 hO6.out
  have L7 : Hid (hEi.out.after.ext X7 = hEi.out.after.ext X7) := rfl
  refine (tabLen Be vI e.after tI w7 (hEi.out.after.ext X7)).mono ?_; rintro e7 w8 ⟨rfl, hw8⟩
  obtain rfl := hw8.symm
  obtain ⟨b0, b1, b2, b3⟩ := four_cells K7
  have o0 := two_c0 O7; have o1 := two_c1 O7; have fO := row_frozen O7
  have i0 := two_c0 I7; have i1 := two_c1 I7
  replace X7 := hide X7; replace I7 := hide I7; replace K7 := hide K7; replace O7 := hide O7
  have hlt1 := hide (Array.getElem?_eq_some_iff.1 hO.out).1
  have W5 : Hid (Wr (ChgE B Be) w w5) := (Wr.ext ((Ext.refl w).alloc _)).trans ((hW1.out.mono fun _ _ _ hd => onP_chg hPB.out hd).trans ((Wr.ext X2.out).trans ((hW3.out.mono fun _ _ _ hd => onP_chg hPB.out hd).trans ((Wr.ext X4.out).trans (hW5.out.mono fun _ _ _ hd => onP_chg hPB.out hd)))))
  have W7 : Hid (Wr (ChgE B Be) w w7) := (W5.out.thenNew W6.out fun j t hd => by have := hd.1; have := hlt1.out; omega).trans (Wr.ext X7.out)
  by_cases hl : e.after.length = 6
  · have hl1 : ((e.after.length : Int) == 6) = true := by simp [hl]
    have hl2 : ((e.after.length : Int) != 6) = false := by simp [hl]
    rw [if_pos hl] at hfin
    replace hl := hide hl
    go_wp2_with fail
    refine bodyPost_ret (v := .agg #[.int .i64 7, .int .i64 t0.place]) (by simp [results, Tryz.results170, go_sem, o0, o1]) rfl ?_
    exact ⟨(W7.out.setNew (p := ⟨w.heap.size, 0, none⟩) (Nat.le_refl _) _).setNew (p := ⟨w.heap.size, 1, none⟩) (Nat.le_refl _) _, .inl ⟨7, t0.place, hfin, by decide, rfl⟩⟩
  · have hl1 : ((e.after.length : Int) == 6) = false := by simp; omega
    have hl2 : ((e.after.length : Int) != 6) = true := by simp; omega
    rw [if_neg hl] at hfin
    replace hl := hide hl
    have a5 := (six_cells (ext_heap X7.out hEi.out.box)).2.2.2.2.2
    have hh := hide (tabHas Be vI e.after ⟨t0.text, t2.text⟩ tI w7.drew ((hEi.out.after.ext X7.out).ext (Ext.refl w7).drew))
    go_wp2_with fail
    go_region_held3 (fun w' => w'.cell? ⟨b, 5, none⟩ = some (.pointer (some ⟨tI, 0, none⟩)) ∧ w'.cell? ⟨w6.heap.size, 0, none⟩ = some (.string t0.text) ∧ w'.cell? ⟨w6.heap.size, 1, none⟩ = some (.string t2.text)) (go_keep) ((go_at_call 124; refine hh.out.mono ?_; rintro e9 w9 ⟨b9, rfl, hb9, he9⟩; go_must (have z0 := he9.out.cells (p := ⟨b, 5, none⟩) a5; have z1 := he9.out.cells (p := ⟨w6.heap.size, 0, none⟩) i0; have z2 := he9.out.cells (p := ⟨w6.heap.size, 1, none⟩) i1)))
    all_goals
      have X9 : Ext w7 w9 := (Ext.refl w7).drew.trans he9.out
      clear b0 b1 b2 b3 o0 o1 fO i0 i1 a5
      have K9 := ext_heap X9 K7.out; have O9 := ext_heap X9 O7.out; have I9 := ext_heap X9 I7.out
      obtain ⟨b0, b1, b2, b3⟩ := four_cells K9
      have o0 := two_c0 O9; have o1 := two_c1 O9; have fO := row_frozen O9
      have i0 := two_c0 I9; have i1 := two_c1 I9
      have T9 := hide ((hEi.out.after.ext X7.out).ext X9)
      have E9 := ext_heap X9 (ext_heap X7.out hEi.out.box)
      have a5 := (six_cells E9).2.2.2.2.2
      replace K9 := hide K9; replace O9 := hide O9; replace I9 := hide I9; replace E9 := hide E9
      have W9 : Hid (Wr (ChgE B Be) w w9) := W7.out.trans (Wr.ext X9)
      have hp9 := hide (hp7.out.ext X9)
      have hs9 : Hid (Be ≤ w9.heap.size) := Nat.le_trans h.out.size W9.out.size
      replace X9 := hide X9
      cases b9
      · have hmem : (⟨t0.text, t2.text⟩ : IDd) ∉ e.after := fun hm => by have := hb9.out.2 hm; cases this
        rw [if_neg hmem] at hfin
        have hpt := hide (tabPut Be vI e.after ⟨t0.text, t2.text⟩ tI w9.drew (T9.out.ext (Ext.refl w9).drew) hmem hs9.out (by have := h.out.afterFew; omega))
        replace hmem := hide hmem
        go_wp2_with fail
        go_region_held3 (fun w' => w'.cell? ⟨b, 5, none⟩ = some (.pointer (some ⟨tI, 0, none⟩)) ∧ w'.cell? ⟨w6.heap.size, 0, none⟩ = some (.string t0.text) ∧ w'.cell? ⟨w6.heap.size, 1, none⟩ = some (.string t2.text)) (go_keep) ((go_at_call 125; refine hpt.out.mono ?_; rintro e10 w10 ⟨j10, pa, cap, n10, rfl, hst, hT10, hW10⟩; go_must (have z0 := (six_cells (Wrote.keeps hW10.out (ext_heap (Ext.refl w9).drew E9.out) (by decide))).2.2.2.2.2; have z1 := two_c0 (Wrote.keeps hW10.out (ext_heap (Ext.refl w9).drew I9.out) (by decide)); have z2 := two_c1 (Wrote.keeps hW10.out (ext_heap (Ext.refl w9).drew I9.out) (by decide)))))
        all_goals
          have W10 : Wrote Be (fun t => t = 218 ∨ t = 216) w9 w10 := (Wrote.ext (Ext.refl w9).drew).trans hW10.out
          clear b0 b1 b2 b3 o0 o1 fO i0 i1 a5
          have K10 := Wrote.keeps W10 K9.out (by decide); have O10 := Wrote.keeps W10 O9.out (by decide); have I10 := Wrote.keeps W10 I9.out (by decide); have E10 := Wrote.keeps W10 E9.out (by decide)
          obtain ⟨b0, b1, b2, b3⟩ := four_cells K10
          have i0 := two_c0 I10; have i1 := two_c1 I10
          have hp10 : ParIn B w10 P tE vT vE vO (.slice paR rf.length capR) ts (i + 1 + 1 + 1) rs bs rf := hp9.out.wr (D := fun _ t => t = 218 ∨ t = 216) (Wr.wrote W10 fun _ _ _ _ h => h) fun _ _ _ _ ht hd => by
            rcases hd with rfl | rfl <;> rcases ht with h | h | h | h | h | h <;> exact absurd h (by decide)
          have hX10 := hp10.ext ((Ext.refl w10).alloc (.cells #[.string t0.text, .string t2.text, .int .i64 t0.place] 133))
          obtain ⟨p0, p1, p2, p3, p4⟩ := five_cells hp10.box
          obtain ⟨q0, q1, q2, q3, q4⟩ := five_cells hX10.box
          clear p0 p1 p2 p3 q0 q1 q2 q3
          replace hX10 := hide hX10
          replace hp10 := hide hp10; replace W10 := hide W10; replace K10 := hide K10; replace O10 := hide O10; replace I10 := hide I10; replace E10 := hide E10
          have hEnt10 : Hid (EntAt Be w10 b { e with after := insI e.after ⟨t0.text, t2.text⟩ }) := ⟨tA, tI, vA, _, hEi.out.base, E10.out, ((hEi.out.attrs.ext X7.out).ext X9.out).wrote W10.out (by decide), by rw [← insI_at hst.out]; exact hT10.out⟩
          have hW10' : Hid (Wr (ChgE B Be) w w10) := W9.out.trans (Wr.wrote W10.out fun _ _ _ hb h => .inr ⟨hb, h.elim (fun h => .inr (.inr (.inr (.inr h)))) (fun h => .inr (.inr (.inr (.inl h))))⟩)
          have hfew10 : Hid ((insI e.after ⟨t0.text, t2.text⟩).length ≤ 6) := by
            show _ ≤ _
            rw [← insI_at hst.out, ins_len hst.out.le]
            have := h.out.afterFew; have := hl.out; omega
          have hbw : Hid (B ≤ w10.heap.size) := Nat.le_trans (Nat.le_trans h.out.base hs9.out) W10.out.size
          go_wp2_with fail
          have hsz10 : Hid (B ≤ ((w10.drew).alloc (.cells (cRf (⟨t0.text, t2.text⟩, t0.place)).toArray 133)).heap.size) := by show _ ≤ _; have := hbw.out; simp; omega
          have hnew : Hid (∀ j u, (cRf (⟨t0.text, t2.text⟩, t0.place))[j]? = some u → ((w10.drew).alloc (.cells (cRf (⟨t0.text, t2.text⟩, t0.place)).toArray 133)).cell? ((⟨w10.heap.size, 0, none⟩ : Addr).add j) = some u) := by
            show ∀ j u, _
            intro j u hu
            rw [add_eq]
            refine Eq.trans (cell_of (heap_alloc_new w10.drew (.cells (cRf (⟨t0.text, t2.text⟩, t0.place)).toArray 133)) (0 + j)) ?_
            simpa using hu
          go_region_law (refine step_append_lies _ rfl (.tmp 69) (.tmp 74) 128 rfl B 133 iR (.agg #[.string ⟨#[]⟩, .string ⟨#[]⟩, .int .i64 0]) 3 40 Tryz.underlying128 hiR.out hr0 hr1 hr2 rfl (by omega) (.slice paR rf.length capR) rf.length (rf.flatMap cRf) (by simp [Act.eval]) hX10.out.refs ⟨w10.heap.size, 0, none⟩ 1 1 (cRf (⟨t0.text, t2.text⟩, t0.place)) (by simp [Act.eval]) rfl hnew.out cRf_one (by omega) (by unfold maxLen; omega) (by omega) hsz10.out (w10.heap.size + 1) (by simp) ?_; intro g1 cap1 w11 hown11 hgrow11 hat11 hlt11; clear hat11; have W11 : Wrote B (· = 133) w10 w11 := (Wrote.ext (Ext.refl w10).drew).grownAt (hp10.out.refs.drew) rfl hgrow11; have P11 := Wrote.keeps W11 hp10.out.box (by decide); have v11 := row_frozen P11; have u11 := (five_cells P11).2.2.2.2; replace P11 := hide P11; replace W11 := hide W11; replace hown11 := hide hown11; replace hgrow11 := hide hgrow11; replace hlt11 := hide hlt11)
          all_goals
            have O11 := Wrote.keeps W11.out O10.out (by decide)
            have hPne : P ≠ w.heap.size := by have := (Array.getElem?_eq_some_iff.1 hp.out.box).1; omega
            have O12 := World.setCell_other_row O11 hPne 4 (.slice (some ⟨g1, 0, none⟩) (rf.length + 1) cap1)
            obtain ⟨hP12, W12⟩ := hp10.out.refd W11.out hown11.out
            have hE12 : EntAt Be _ b _ := hEnt10.out.wr W12 fun _ _ _ _ ht hd => by
              rcases hd with ⟨_, rfl⟩ | ⟨_, rfl⟩ <;> rcases ht with h | h | h | h | h <;> exact absurd h (by decide)
            have hW12 : Wr (ChgE B Be) w _ := hW10'.out.trans (W12.mono fun _ _ _ hd => hd.elim (fun h => .inl ⟨h.1, .inr h.2⟩) (onP_chg hPB.out))
            generalize w11.setCell ⟨P, 4, none⟩ (.slice (some ⟨g1, 0, none⟩) (rf.length + 1) cap1) = w12 at *
            have o0 := two_c0 O12; have o1 := two_c1 O12; have fO := row_frozen O12
            replace hP12 := hide hP12; replace W12 := hide W12; replace hE12 := hide hE12; replace hW12 := hide hW12; replace O12 := hide O12
            go_wp2_with fail
            refine bodyPost_ret (v := .agg #[.int .i64 0, .int .i64 0]) (by simp [results, Tryz.results170, go_sem, o0, o1]) rfl ?_
            have WF : Wr (OnF w.heap.size) w12 ((w12.setCell ⟨w.heap.size, 0, none⟩ (.int .i64 0)).setCell ⟨w.heap.size, 1, none⟩ (.int .i64 0)) := ((Wr.refl _ w12).setOld (p := ⟨w.heap.size, 0, none⟩) O12.out ⟨rfl, rfl⟩ _).setOld (p := ⟨w.heap.size, 1, none⟩) O12.out ⟨rfl, rfl⟩ _
            have hWz := hW12.out.thenNew WF fun j t hd => by have := hd.1; omega
            exact ⟨hWz, .inr ⟨i + 1 + 1 + 1, _, _, hfin, rfl, ⟨⟨_, _, _, _, _, hP12.out.onF WF⟩, hE12.out.onF WF, h.out.base, Nat.le_trans h.out.size hWz.size, by have := h.out.refsFew; simp; omega, hfew10.out, h.out.attrsFew⟩⟩⟩
      · have hmem : (⟨t0.text, t2.text⟩ : IDd) ∈ e.after := hb9.out.1 rfl
        rw [if_pos hmem] at hfin
        replace hmem := hide hmem
        go_wp2_with fail
        refine bodyPost_ret (v := .agg #[.int .i64 8, .int .i64 t0.place]) (by simp [results, Tryz.results170, go_sem, o0, o1]) rfl ?_
        exact ⟨(W9.out.setNew (p := ⟨w.heap.size, 0, none⟩) (Nat.le_refl _) _).setNew (p := ⟨w.heap.size, 1, none⟩) (Nat.le_refl _) _, .inl ⟨8, t0.place, hfin, by decide, rfl⟩⟩
end Go.Proofs.YtfmcgdglalljgaaGreatDoor

namespace Go.Proofs.YtfmcgdglalljgaaGreatDoor
open Go.RowKit

theorem readRefP {B Be : Nat} {w : World} {P b : Nat} {ts : List Tok} {i : Nat} {rs : List RowE} {bs : List Nat} {rf : List (IDd × Nat)} {e : EntD} (h : Fits B Be w P b ts i rs bs rf e) (hn : ts.length ≤ 1000000) (he : TsEnd ts) (hi : i < ts.length) :
    Calls Tryz.prog 170 #[.pointer (some ⟨P, 0, none⟩), .pointer (some ⟨b, 0, none⟩)] w (ReadIs B Be w P b ts rs bs (refS ts i e rf)) := by
  obtain ⟨t0, h0⟩ := TsEnd.there hi
  by_cases k0 : t0.kind = 1
  · obtain ⟨t1, h1⟩ := TsEnd.there (he.next h0 (by omega))
    by_cases k1 : t1.kind = 10
    · obtain ⟨t2, h2⟩ := TsEnd.there (he.next h1 (by omega))
      by_cases k2 : t2.kind = 1
      · exact readRefYes h hn h0 k0 h1 k1 h2 k2
      · exact readRefNo3 h hn h0 k0 h1 k1 h2 k2
    · exact readRefNo2 h hn h0 k0 h1 k1
  · exact readRefNo1 h hn h0 k0
theorem take_is {ts : List Tok} {i k : Nat} {t : Tok} {j : Nat} (h : takeS ts i k = .ok (t, j)) : j = i + 1 ∧ ts[i]? = some t ∧ t.kind = k := by
  unfold takeS at h
  split at h
  · cases h
  · split at h
    · cases h; exact ⟨rfl, by assumption, by assumption⟩
    · cases h
theorem take_in {ts : List Tok} (he : TsEnd ts) {i k : Nat} {t : Tok} {j : Nat} (h : takeS ts i k = .ok (t, j)) (hk : k ≠ 11) : j = i + 1 ∧ j < ts.length := by
  obtain ⟨rfl, h1, rfl⟩ := take_is h
  exact ⟨rfl, he.next h1 hk⟩
theorem refS_in {ts : List Tok} (he : TsEnd ts) {i : Nat} {e : EntD} {rf : List (IDd × Nat)} {i' : Nat} {e' : EntD} {rf' : List (IDd × Nat)} (h : refS ts i e rf = .ok (i', e', rf')) : i < i' ∧ i' < ts.length := by
  unfold refS at h
  split at h
  · cases h
  · rename_i _ i1 h1
    split at h
    · cases h
    · rename_i _ i2 h2
      split at h
      · cases h
      · rename_i _ i3 h3
        have := take_in he h1 (by decide); have := take_in he h2 (by decide); have := take_in he h3 (by decide)
        split at h
        · cases h
        · split at h
          · cases h
          · cases h; omega
theorem Fits.ext {B Be : Nat} {w w' : World} {P b : Nat} {ts : List Tok} {i : Nat} {rs : List RowE} {bs : List Nat} {rf : List (IDd × Nat)} {e : EntD} (h : Fits B Be w P b ts i rs bs rf e) (x : Ext w w') : Fits B Be w' P b ts i rs bs rf e := by
  obtain ⟨⟨tE, vT, vE, vO, vR, hp⟩, h2, h3, h4, h5, h6, h7⟩ := h
  exact ⟨⟨tE, vT, vE, vO, vR, hp.ext x⟩, h2.ext x, h3, Nat.le_trans h4 (Ext.size x), h5, h6, h7⟩
theorem Fits.onF {B Be : Nat} {w w' : World} {P b : Nat} {ts : List Tok} {i : Nat} {rs : List RowE} {bs : List Nat} {rf : List (IDd × Nat)} {e : EntD} (h : Fits B Be w P b ts i rs bs rf e) {F : Nat} (x : Wr (OnF F) w w') : Fits B Be w' P b ts i rs bs rf e := by
  obtain ⟨⟨tE, vT, vE, vO, vR, hp⟩, h2, h3, h4, h5, h6, h7⟩ := h
  exact ⟨⟨tE, vT, vE, vO, vR, hp.onF x⟩, h2.onF x, h3, Nat.le_trans h4 x.size, h5, h6, h7⟩
theorem chgE_fault {B Be k : Nat} : ¬ ChgE B Be k 88 := by
  rintro (⟨_, h | h⟩ | ⟨_, h | h | h | h | h⟩) <;> exact absurd h (by decide)
theorem chgE_tok {B Be k : Nat} : ¬ ChgE B Be k 120 := by
  rintro (⟨_, h | h⟩ | ⟨_, h | h | h | h | h⟩) <;> exact absurd h (by decide)
theorem Wr.ofF {w : World} {O : Nat} {a b : Value} (h : w.heap[O]? = some (.cells #[a, b] 88 (0, 0))) (x y : Value) : Wr (OnF O) w ((w.setCell ⟨O, 0, none⟩ x).setCell ⟨O, 1, none⟩ y) :=
  ((Wr.refl _ w).setOld (p := ⟨O, 0, none⟩) h ⟨rfl, rfl⟩ _).setOld (p := ⟨O, 1, none⟩) h ⟨rfl, rfl⟩ _
/-- Where the parser stands. -/
def atOf (w : World) (P : Nat) : Nat := match w.cell? ⟨P, 1, none⟩ with
  | some v => (intOf v).toNat
  | none => 0
theorem Fits.at_ {B Be : Nat} {w : World} {P b : Nat} {ts : List Tok} {i : Nat} {rs : List RowE} {bs : List Nat} {rf : List (IDd × Nat)} {e : EntD} (h : Fits B Be w P b ts i rs bs rf e) : atOf w P = i := by
  obtain ⟨tE, vT, vE, vO, vR, hp⟩ := h.par
  unfold atOf
  rw [(five_cells hp.box).2.1]
  simp [intOf]
theorem Fits.took {B Be : Nat} {w w' : World} {P b : Nat} {ts : List Tok} {i : Nat} {rs : List RowE} {bs : List Nat} {rf : List (IDd × Nat)} {e : EntD} (h : Fits B Be w P b ts i rs bs rf e) {tE : Nat} {vT vE vO vR : Value} (hp : ParIn B w' P tE vT vE vO vR ts (i + 1) rs bs rf) (k : Wr (OnP P) w w') : Fits B Be w' P b ts (i + 1) rs bs rf e :=
  ⟨⟨tE, vT, vE, vO, vR, hp⟩, h.ent.onP k, h.base, Nat.le_trans h.size k.size, Nat.le_succ_of_le h.refsFew, h.afterFew, h.attrsFew⟩
theorem Fits.chg {B Be : Nat} {w w' : World} {P b : Nat} {ts : List Tok} {i : Nat} {rs : List RowE} {bs : List Nat} {rf : List (IDd × Nat)} {e : EntD} (h : Fits B Be w P b ts i rs bs rf e) (k : Wr (OnP P) w w') : Wr (ChgE B Be) w w' := by
  obtain ⟨tE, vT, vE, vO, vR, hp⟩ := h.par
  exact k.mono fun _ _ _ hd => onP_chg hp.base hd
theorem takeF {B Be : Nat} {w : World} {P b : Nat} {ts : List Tok} {i : Nat} {rs : List RowE} {bs : List Nat} {rf : List (IDd × Nat)} {e : EntD} (h : Fits B Be w P b ts i rs bs rf e) {t : Tok} (ht : ts[i]? = some t) (hn : ts.length ≤ 1000000) {k : Nat} (hk : t.kind = k) :
    Calls Tryz.prog 105 #[.pointer (some ⟨P, 0, none⟩), .int .i64 k] w fun e' w' => e' = .returned (.tuple #[.agg #[.int .i64 t.kind, .int .i64 t.place, .string t.text, .int .i64 t.value], .agg #[.int .i64 0, .int .i64 0]]) ∧ Hid (Fits B Be w' P b ts (i + 1) rs bs rf e) ∧ Hid (Wr (ChgE B Be) w w') := by
  obtain ⟨tE, vT, vE, vO, vR, hp⟩ := h.par
  exact (takeYes hp ht hn hk).mono fun _ _ hh => ⟨hh.1, h.took hh.2.1.out hh.2.2.out, h.chg hh.2.2.out⟩
theorem takeFN {B Be : Nat} {w : World} {P b : Nat} {ts : List Tok} {i : Nat} {rs : List RowE} {bs : List Nat} {rf : List (IDd × Nat)} {e : EntD} (h : Fits B Be w P b ts i rs bs rf e) {t : Tok} (ht : ts[i]? = some t) (hn : ts.length ≤ 1000000) {k : Nat} (hk : t.kind ≠ k) :
    Calls Tryz.prog 105 #[.pointer (some ⟨P, 0, none⟩), .int .i64 k] w fun e w' => e = .returned (.tuple #[.agg #[.int .i64 0, .int .i64 0, .string ⟨#[]⟩, .int .i64 0], .agg #[.int .i64 6, .int .i64 t.place]]) ∧ Hid (Ext w w') := by
  obtain ⟨tE, vT, vE, vO, vR, hp⟩ := h.par
  exact takeNot hp ht hn hk
theorem peekF {B Be : Nat} {w : World} {P b : Nat} {ts : List Tok} {i : Nat} {rs : List RowE} {bs : List Nat} {rf : List (IDd × Nat)} {e : EntD} (h : Fits B Be w P b ts i rs bs rf e) {t : Tok} (ht : ts[i]? = some t) :
    Calls Tryz.prog 69 #[.pointer (some ⟨P, 0, none⟩)] w fun e w' => e = .returned (.int .i64 t.kind) ∧ Hid (Ext w w') := by
  obtain ⟨tE, vT, vE, vO, vR, hp⟩ := h.par
  exact peekP hp ht
noncomputable def refsT (ts : List Tok) (f i : Nat) (e : EntD) (rf : List (IDd × Nat)) : Except Flt (Nat × EntD × List (IDd × Nat)) :=
  if kindAt ts i = 9 then refsS ts f (i + 1) e rf else .ok (i, e, rf)

set_option maxRecDepth 100000 in
set_option maxHeartbeats 3200000 in
theorem readRefsP {B Be : Nat} {w : World} {P b : Nat} {ts : List Tok} {i : Nat} {rs : List RowE} {bs : List Nat} {rf : List (IDd × Nat)} {e : EntD} (h : Fits B Be w P b ts i rs bs rf e) (hn : ts.length ≤ 1000000) (he : TsEnd ts) (hi : i < ts.length) :
    Calls Tryz.prog 158 #[.pointer (some ⟨P, 0, none⟩), .pointer (some ⟨b, 0, none⟩)] w (ReadIs B Be w P b ts rs bs (refsS ts ts.length i e rf)) := by
  have hf := hide (readRefP (h.ext ((Ext.refl w).alloc (.cells #[.int .i64 0, .int .i64 0] 88))) hn he hi)
  replace h := hide h; replace he := hide he; replace hi := hide hi
  go_enter Tryz.func158, Tryz.ntmps158
  go_wp2_with fail
  refine hf.out.mono ?_
  rintro e1 w1 ⟨hW1, ⟨en, pl, hr, hne, rfl⟩ | ⟨i1, x1, rf1, hr, rfl, hF1⟩⟩
  · have hne1 : (en != 0) = true := by simpa using hne
    have O1 := hide (Wr.keeps hW1.out (heap_alloc_new w (.cells #[.int .i64 0, .int .i64 0] 88)) chgE_fault)
    have hfin : Hid (refsS ts ts.length i e rf = .error (en, pl)) := by
      show _ = _
      obtain ⟨f, hf⟩ : ∃ f, ts.length = f + 1 := ⟨ts.length - 1, by have := hi.out; omega⟩
      rw [hf]; unfold refsS; rw [hr.out]
    go_wp2_with fail
    refine (faultIs _ _ _).mono ?_; rintro e2 w2 ⟨rfl, hw2⟩
    have X2 : Hid (Ext w1 w2) := (by show Ext _ _; rw [hw2]; exact ((Ext.refl w1).alloc _).alloc _)
    have F2 := (hw2 ▸ ext_heap ((Ext.refl _).alloc (.cells #[.int .i64 en, .int .i64 pl] 88)) (heap_alloc_new w1 (.cells #[.int .i64 en, .int .i64 pl] 88)) : w2.heap[w1.heap.size]? = some (.cells #[.int .i64 en, .int .i64 pl] 88))
    have O2 := ext_heap X2.out O1.out
    clear hw2
    have f0 := two_c0 F2; have f1 := two_c1 F2; have o0 := two_c0 O2; have o1 := two_c1 O2; have fO := row_frozen O2
    replace F2 := hide F2; replace O2 := hide O2
    go_wp2_with fail
    refine bodyPost_ret (v := .agg #[.int .i64 en, .int .i64 pl]) (by simp [results, Tryz.results158, go_sem, o0, o1]) rfl ?_
    have W : Wr (ChgE B Be) w w2 := (Wr.ext ((Ext.refl w).alloc _)).trans (hW1.out.trans (Wr.ext X2.out))
    exact ⟨(W.setNew (p := ⟨w.heap.size, 0, none⟩) (Nat.le_refl _) _).setNew (p := ⟨w.heap.size, 1, none⟩) (Nat.le_refl _) _, .inl ⟨en, pl, hfin, hne, rfl⟩⟩
  · have O1 := hide (Wr.keeps hW1.out (heap_alloc_new w (.cells #[.int .i64 0, .int .i64 0] 88)) chgE_fault)
    go_wp2_with fail
    refine (faultIs _ _ _).mono ?_; rintro e2 w2 ⟨rfl, hw2⟩
    have X2 : Hid (Ext w1 w2) := (by show Ext _ _; rw [hw2]; exact ((Ext.refl w1).alloc _).alloc _)
    clear hw2
    have O2 := hide (ext_heap X2.out O1.out)
    have hF2 := hide (hF1.out.ext X2.out)
    have W2 : Hid (Wr (ChgE B Be) w w2) := (Wr.ext ((Ext.refl w).alloc _)).trans (hW1.out.trans (Wr.ext X2.out))
    go_wp2_with fail
    have hi1 := refS_in he.out hr.out
    have hst : Hid (refsS ts ts.length i e rf = refsT ts (ts.length - 1) i1 x1 rf1) := by
      show _ = _
      obtain ⟨f, hf⟩ : ∃ f, ts.length = f + 1 := ⟨ts.length - 1, by have := hi.out; omega⟩
      rw [hf]; conv => lhs; unfold refsS
      rw [hr.out]; rfl
    obtain ⟨hlt1, hlt2⟩ := hi1
    clear hF1 hW1 O1 X2
    go_loopw [] (fun wr => ∃ (f j : Nat) (x : EntD) (rfj : List (IDd × Nat)), Hid (Fits B Be wr P b ts j rs bs rfj x) ∧ Hid (Wr (ChgE B Be) w wr) ∧ Hid (wr.heap[w.heap.size]? = some (.cells #[.int .i64 0, .int .i64 0] 88)) ∧ Hid (refsS ts ts.length i e rf = refsT ts f j x rfj) ∧ j < ts.length ∧ ts.length ≤ f + j) (fun wr => ts.length - atOf wr P)
    case atStart => exact ⟨ts.length - 1, i1, x1, rf1, hF2, W2, O2, hst, hlt2, by omega⟩
    case round =>
      clear hF2 W2 O2 hst hlt1 hlt2
      obtain ⟨f, j, x, rfj, hF, hW, hO, hst, hlt, hfu⟩ := hrel
      obtain ⟨t, ht⟩ := TsEnd.there hlt
      have hpk := hide (peekF hF.out ht)
      by_cases hk : t.kind = 9
      · have hk1 : ((t.kind : Int) == 9) = true := by simp [hk]
        have hka : kindAt ts j = 9 := by rw [kind_at ht]; exact hk
        have hj1 := he.out.next ht (by omega)
        replace hk := hide hk; replace hka := hide hka; replace ht := hide ht
        go_wp2_with fail
        refine hpk.out.mono ?_; rintro e3 w3 ⟨rfl, he3⟩
        have hF3 := hide (hF.out.ext he3.out)
        have hO3 := hide (ext_heap he3.out hO.out)
        go_wp2_with fail
        refine (takeF hF3.out ht.out hn hk.out).mono ?_; rintro e4 w4 ⟨rfl, hF4, hW4⟩
        have hO4 := hide (Wr.keeps hW4.out hO3.out chgE_fault)
        go_wp2_with fail
        refine (faultIs _ _ _).mono ?_; rintro e5 w5 ⟨rfl, hw5⟩
        have X5 : Hid (Ext w4 w5) := (by show Ext _ _; rw [hw5]; exact (((Ext.refl w4).alloc _).alloc _).alloc _)
        clear hw5
        have hF5 := hide (hF4.out.ext X5.out); have hO5 := hide (ext_heap X5.out hO4.out)
        have hW5 : Hid (Wr (ChgE B Be) w w5) := hW.out.trans ((Wr.ext he3.out).trans (hW4.out.trans (Wr.ext X5.out)))
        obtain ⟨f', rfl⟩ : ∃ f', f = f' + 1 := ⟨f - 1, by omega⟩
        have hst5 : Hid (refsS ts ts.length i e rf = refsS ts (f' + 1) (j + 1) x rfj) := by
          show _ = _
          rw [hst.out]; unfold refsT; rw [if_pos hka.out]
        clear hF3 hF4 hO3 hO4 hW4 he3 X5 hst
        go_wp2_with fail
        refine (readRefP hF5.out hn he.out hj1).mono ?_
        rintro e6 w6 ⟨hW6, ⟨en, pl, hr6, hne, rfl⟩ | ⟨i6, x6, rf6, hr6, rfl, hF6⟩⟩
        · have hne1 : (en != 0) = true := by simpa using hne
          have hfin : Hid (refsS ts ts.length i e rf = .error (en, pl)) := by
            show _ = _
            rw [hst5.out]; unfold refsS; rw [hr6.out]
          have O6 := hide (Wr.keeps hW6.out hO5.out chgE_fault)
          go_wp2_with fail
          refine (faultIs _ _ _).mono ?_; rintro e7 w7 ⟨rfl, hw7⟩
          have X7 : Hid (Ext w6 w7) := (by show Ext _ _; rw [hw7]; exact ((Ext.refl w6).alloc _).alloc _)
          have F7 := (hw7 ▸ ext_heap ((Ext.refl _).alloc (.cells #[.int .i64 en, .int .i64 pl] 88)) (heap_alloc_new w6 (.cells #[.int .i64 en, .int .i64 pl] 88)) : w7.heap[w6.heap.size]? = some (.cells #[.int .i64 en, .int .i64 pl] 88))
          have O7 := ext_heap X7.out O6.out
          clear hw7
          have f0 := two_c0 F7; have f1 := two_c1 F7; have o0 := two_c0 O7; have o1 := two_c1 O7; have fO := row_frozen O7
          replace F7 := hide F7; replace O7 := hide O7
          go_wp2_with fail
          refine bodyPost_ret (v := .agg #[.int .i64 en, .int .i64 pl]) (by simp [results, Tryz.results158, go_sem, o0, o1]) rfl ?_
          have W : Wr (ChgE B Be) w w7 := hW5.out.trans (hW6.out.trans (Wr.ext X7.out))
          exact ⟨(W.setNew (p := ⟨w.heap.size, 0, none⟩) (Nat.le_refl _) _).setNew (p := ⟨w.heap.size, 1, none⟩) (Nat.le_refl _) _, .inl ⟨en, pl, hfin, hne, rfl⟩⟩
        · have O6 := hide (Wr.keeps hW6.out hO5.out chgE_fault)
          have hi6 := refS_in he.out hr6.out
          have hst6 : Hid (refsS ts ts.length i e rf = refsT ts f' i6 x6 rf6) := by
            show _ = _
            rw [hst5.out]; conv => lhs; unfold refsS
            rw [hr6.out]; rfl
          go_wp2_with fail
          refine (faultIs _ _ _).mono ?_; rintro e7 w7 ⟨rfl, hw7⟩
          have X7 : Hid (Ext w6 w7) := (by show Ext _ _; rw [hw7]; exact ((Ext.refl w6).alloc _).alloc _)
          clear hw7
          have O7 := hide (ext_heap X7.out O6.out)
          have hF7 := hide (hF6.out.ext X7.out)
          have hW7 : Hid (Wr (ChgE B Be) w w7) := hW5.out.trans (hW6.out.trans (Wr.ext X7.out))
          go_wp2_with fail
          go_roundw
          case rel => exact ⟨f', i6, x6, rf6, hF7, hW7, O7, hst6, hi6.2, by omega⟩
          case measure =>
            rw [hF7.out.at_, hF.out.at_]; omega
      · have hk1 : ((t.kind : Int) == 9) = false := by simp; omega
        have hka : kindAt ts j ≠ 9 := by rw [kind_at ht]; exact hk
        have hfin : Hid (refsS ts ts.length i e rf = .ok (j, x, rfj)) := by
          show _ = _
          rw [hst.out]; unfold refsT; rw [if_neg hka]
        replace hk := hide hk; replace hka := hide hka; replace ht := hide ht
        go_wp2_with fail
        refine hpk.out.mono ?_; rintro e3 w3 ⟨rfl, he3⟩
        have hF3 := hide (hF.out.ext he3.out)
        have O3 := ext_heap he3.out hO.out
        have hW3 : Hid (Wr (ChgE B Be) w w3) := hW.out.trans (Wr.ext he3.out)
        have o0 := two_c0 O3; have o1 := two_c1 O3; have fO := row_frozen O3
        replace O3 := hide O3
        go_wp2_with fail
        refine bodyPost_ret (v := .agg #[.int .i64 0, .int .i64 0]) (by simp [results, Tryz.results158, go_sem, o0, o1]) rfl ?_
        have WF := Wr.ofF O3.out (.int .i64 0) (.int .i64 0)
        exact ⟨hW3.out.thenNew WF fun j t hd => by have := hd.1; omega, .inr ⟨j, x, rfj, hfin, rfl, hF3.out.onF WF⟩⟩
end Go.Proofs.YtfmcgdglalljgaaGreatDoor
