/-
  The parser: the head of a resource is read.
-/
import Derived.Test.YtfnbbohbicffpaaGreatDoorJ26
namespace Go.Proofs.YtfnbbohbicffpaaGreatDoor
open Go.RowKit

theorem wRes_eq (s : ByteArray) : (s.toList = [114, 101, 115, 111, 117, 114, 99, 101]) = (s = wRes) := by
  rw [ByteArray.toList_eq]
  apply propext
  constructor
  · intro h
    cases s with | mk d => cases d with | mk l => simp only at h; subst h; rfl
  · rintro rfl; rfl
theorem onP_chgP {B P k : Nat} {t : TypeId} (h : B ≤ P) (hd : OnP P k t) : ChgP B k t := ⟨hd.1 ▸ h, .inl hd.2⟩
theorem chgP_fault {B k : Nat} : ¬ ChgP B k 47 := by
  rintro ⟨_, h | h | h | h | h | h⟩ <;> exact absurd h (by decide)
/-- What the reading of a head answers. -/
def HeadIs (B : Nat) (w : World) (P : Nat) (ts : List Tok) (rs : List RowE) (bs : List Nat) (rf : List (IDd × Nat)) (r : Except Flt (Nat × EntD)) (e : Ending) (w' : World) : Prop :=
  Hid (Wr (ChgP B) w w') ∧ ((∃ en pl, Hid (r = .error (en, pl)) ∧ en ≠ 0 ∧ e = .returned (.tuple #[.pointer none, .agg #[.int .i64 en, .int .i64 pl]])) ∨
    ∃ i' x b Be, Hid (r = .ok (i', x)) ∧ e = .returned (.tuple #[.pointer (some ⟨b, 0, none⟩), .agg #[.int .i64 0, .int .i64 0]]) ∧ Hid (w.heap.size ≤ Be) ∧ Hid (Fits B Be w' P b ts i' (insE rs ⟨x.id, b⟩) (bs ++ [b]) rf x))

set_option maxRecDepth 100000 in
set_option maxHeartbeats 3200000 in
theorem readHeadP {B : Nat} {w : World} {P tE : Nat} {vT vE vO vR : Value} {ts : List Tok} {i : Nat} {rs : List RowE} {bs : List Nat} {rf : List (IDd × Nat)} (h : ParIn B w P tE vT vE vO vR ts i rs bs rf) (hn : ts.length ≤ 1000000) (he : TsEnd ts) (hi : i < ts.length) (hB : B ≤ w.heap.size) (es : List EntD) (hk : ∀ id, HasK RowE.key rs id ↔ id ∈ es.map EntD.id) (hrl : rs.length = es.length) (hbl : bs.length = es.length) (h12 : es.length ≤ 12) (hf : rf.length ≤ i) :
    Calls Tryz.prog 67 #[.pointer (some ⟨P, 0, none⟩)] w (HeadIs B w P ts rs bs rf (headS ts i es)) := by
  classical
  obtain ⟨t0, h0⟩ := TsEnd.there hi
  have hp0 := hide (h.ext ((Ext.refl w).alloc (.cells #[.int .i64 0, .int .i64 0] 47)))
  have hPB := hide h.base
  have O0 := hide (heap_alloc_new w (.cells #[.int .i64 0, .int .i64 0] 47))
  have W0 : Hid (Wr (ChgP B) w (w.alloc (.cells #[.int .i64 0, .int .i64 0] 47))) := Wr.ext ((Ext.refl w).alloc _)
  replace h := hide h; replace hi := hide hi; replace hk := hide hk
  by_cases k0 : t0.kind = 1
  · have hj1 := he.next h0 (by omega)
    have hst : Hid (headS ts i es = if t0.text ≠ wRes then .error (6, t0.place) else if es.length = 12 then .error (7, t0.place) else match takeS ts (i + 1) 1 with
      | .error x => .error x
      | .ok (k, i) => match takeS ts i 1 with
        | .error x => .error x
        | .ok (n, i) => if (⟨k.text, n.text⟩ : IDd) ∈ es.map EntD.id then .error (8, k.place) else .ok (i, ⟨⟨k.text, n.text⟩, k.place, [], false, []⟩)) := by
      show _ = _
      unfold headS; rw [take_ok h0 k0]; rfl
    replace h0 := hide h0; replace k0 := hide k0; replace he := hide he
    go_enter Tryz.func67, Tryz.ntmps67
    go_wp2_with fail
    refine (takeYes hp0.out h0.out hn k0.out).mono ?_; rintro e1 w1 ⟨rfl, hp1, hW1⟩
    have O1 := hide (Wr.keeps hW1.out O0.out (onP_no (by decide)))
    have hlt1 := hide (Array.getElem?_eq_some_iff.1 O1.out).1
    go_wp2_with fail
    refine (faultIs _ _ _).mono ?_; rintro e2 w2 ⟨rfl, hw2⟩
    have X2 : Hid (Ext w1 w2) := (by show Ext _ _; rw [hw2]; exact (((Ext.refl w1).alloc _).alloc _).alloc _)
    have N2 := (hw2 ▸ ext_heap (((Ext.refl _).alloc (.cells #[.int .i64 0, .int .i64 0] 47)).alloc (.cells #[.int .i64 0, .int .i64 0] 47)) (heap_alloc_new w1 (.cells #[.int .i64 t0.kind, .int .i64 t0.place, .string t0.text, .int .i64 t0.value] 71)) : w2.heap[w1.heap.size]? = some (.cells #[.int .i64 t0.kind, .int .i64 t0.place, .string t0.text, .int .i64 t0.value] 71))
    have F2 := hide (hw2 ▸ ext_heap ((Ext.refl _).alloc (.cells #[.int .i64 0, .int .i64 0] 47)) (two_hi w1 (.cells #[.int .i64 t0.kind, .int .i64 t0.place, .string t0.text, .int .i64 t0.value] 71) (.cells #[.int .i64 0, .int .i64 0] 47)) : w2.heap[w1.heap.size + 1]? = some (.cells #[.int .i64 0, .int .i64 0] 47))
    clear hw2
    have hp2 := hide (hp1.out.ext X2.out); have O2 := hide (ext_heap X2.out O1.out)
    have W2 : Hid (Wr (ChgP B) w w2) := W0.out.trans ((hW1.out.mono fun _ _ _ hd => onP_chgP hPB.out hd).trans (Wr.ext X2.out))
    obtain ⟨n0, n1, n2, n3⟩ := four_cells N2
    have o0 := two_c0 O2.out; have o1 := two_c1 O2.out; have fO := row_frozen O2.out
    replace N2 := hide N2
    by_cases hw : t0.text = wRes
    · have hw1 : t0.text.toList = [114, 101, 115, 111, 117, 114, 99, 101] := by rw [wRes_eq]; exact hw
      have hw2 : (t0.text.toList == [114, 101, 115, 111, 117, 114, 99, 101]) = true := by simp [hw1]
      have hw3 : (t0.text.toList != [114, 101, 115, 111, 117, 114, 99, 101]) = false := by simp [hw1]
      rw [if_neg (by simp [hw])] at hst
      replace hw := hide hw
      have p2 := (five_cells hp2.out.box).2.2.1
      go_wp2_with fail
      refine (tabLenE B vE rs tE w2 hp2.out.ents).mono ?_; rintro e3 w3 ⟨rfl, hw3⟩
      obtain rfl := hw3.symm
      by_cases hl : es.length = 12
      · have hl1 : ((rs.length : Int) == 12) = true := by simp; omega
        have hfin : Hid (headS ts i es = .error (7, t0.place)) := by
          show _ = _
          rw [hst.out, if_pos hl]
        replace hl := hide hl
        go_wp2_with fail
        go_region_with (fail)
        all_goals go_wp2_with fail
        all_goals
          refine bodyPost_ret (v := .tuple #[.pointer none, .agg #[.int .i64 7, .int .i64 t0.place]]) (by simp [results, Tryz.results67, go_sem, o0, o1]) rfl ?_
          exact ⟨((W2.out.setNew (p := ⟨w.heap.size, 0, none⟩) (Nat.le_refl _) _).setNew (p := ⟨w.heap.size, 1, none⟩) (Nat.le_refl _) _).trans (Wr.ext (Ext.refl _).drew), .inl ⟨7, t0.place, hfin, by decide, rfl⟩⟩
      · have hl1 : ((rs.length : Int) == 12) = false := by simp; omega
        rw [if_neg hl] at hst
        replace hl := hide hl
        obtain ⟨t1, h1⟩ := TsEnd.there hj1
        by_cases k1 : t1.kind = 1
        · rw [take_ok h1 k1] at hst
          have hj2 := he.out.next h1 (by omega)
          obtain ⟨t2, h2⟩ := TsEnd.there hj2
          replace h1 := hide h1; replace k1 := hide k1
          go_wp2_with fail
          refine (takeYes hp2.out h1.out hn k1.out).mono ?_; rintro e4 w4 ⟨rfl, hp4, hW4⟩
          clear o0 o1 fO n0 n1 n2 n3 p2
          have O4 := hide (Wr.keeps hW4.out O2.out (onP_no (by decide)))
          have G4 := hide (Wr.keeps hW4.out F2.out (onP_no (by decide)))
          have F4 := ext_heap ((Ext.refl w4).alloc (.cells #[.int .i64 t1.kind, .int .i64 t1.place, .string t1.text, .int .i64 t1.value] 71)) G4.out
          have f0 := two_c0 F4; have f1 := two_c1 F4; have ff := row_frozen F4
          replace F4 := hide F4
          go_wp2_with fail
          refine (faultIs _ _ _).mono ?_; rintro e5 w5 ⟨rfl, hw5⟩
          have W5 : Wr (OnF (w1.heap.size + 1)) w4 w5 := by
            rw [hw5]
            exact ((((Wr.ext ((Ext.refl w4).alloc (.cells #[.int .i64 t1.kind, .int .i64 t1.place, .string t1.text, .int .i64 t1.value] 71))).setOld (p := ⟨w1.heap.size + 1, 0, none⟩) G4.out ⟨rfl, rfl⟩ _).setOld (p := ⟨w1.heap.size + 1, 1, none⟩) G4.out ⟨rfl, rfl⟩ _)).trans (Wr.ext ((Ext.refl _).alloc _))
          have T5 : w5.heap[w4.heap.size]? = some (.cells #[.int .i64 t1.kind, .int .i64 t1.place, .string t1.text, .int .i64 t1.value] 71) := by
            have hlt := (Array.getElem?_eq_some_iff.1 G4.out).1
            rw [hw5]
            exact ext_heap ((Ext.refl _).alloc _) (World.setCell_other_row (World.setCell_other_row (heap_alloc_new w4 _) (by omega) 0 _) (by omega) 1 _)
          have F5 := hide (hw5 ▸ ext_heap ((Ext.refl _).alloc _) (two_sets F4.out (.int .i64 0) (.int .i64 0)) : w5.heap[w1.heap.size + 1]? = some (.cells #[.int .i64 0, .int .i64 0] 47))
          clear hw5 f0 f1 ff
          replace W5 := hide W5; replace T5 := hide T5
          have hp5 := hide (hp4.out.onF W5.out)
          have O5 := hide (Wr.keeps W5.out O4.out (fun hd => by have := hlt1.out; have := hd.1; omega))
          have W05 : Hid (Wr (ChgP B) w w5) := (W2.out.trans (hW4.out.mono fun _ _ _ hd => onP_chgP hPB.out hd)).thenNew W5.out fun j t hd => by have := hd.1; have := hlt1.out; omega
          clear hp4 hW4 O4 G4 F4 W5
          by_cases k2 : t2.kind = 1
          · rw [take_ok h2 k2] at hst
            have hj3 := he.out.next h2 (by omega)
            replace h2 := hide h2; replace k2 := hide k2
            go_wp2_with fail
            refine (takeYes hp5.out h2.out hn k2.out).mono ?_; rintro e6 w6 ⟨rfl, hp6, hW6⟩
            have O6 := hide (Wr.keeps hW6.out O5.out (onP_no (by decide)))
            have T6 := hide (Wr.keeps hW6.out T5.out (onP_no (by decide)))
            have G6 := hide (Wr.keeps hW6.out F5.out (onP_no (by decide)))
            have F6 := ext_heap ((Ext.refl w6).alloc (.cells #[.int .i64 t2.kind, .int .i64 t2.place, .string t2.text, .int .i64 t2.value] 71)) G6.out
            have f0 := two_c0 F6; have f1 := two_c1 F6; have ff := row_frozen F6
            replace F6 := hide F6
            go_wp2_with fail
            refine (faultIs _ _ _).mono ?_; rintro e7 w7 ⟨rfl, hw7⟩
            have W7 : Wr (OnF (w1.heap.size + 1)) w6 w7 := by
              rw [hw7]
              exact ((((Wr.ext ((Ext.refl w6).alloc (.cells #[.int .i64 t2.kind, .int .i64 t2.place, .string t2.text, .int .i64 t2.value] 71))).setOld (p := ⟨w1.heap.size + 1, 0, none⟩) G6.out ⟨rfl, rfl⟩ _).setOld (p := ⟨w1.heap.size + 1, 1, none⟩) G6.out ⟨rfl, rfl⟩ _)).trans (Wr.ext ((Ext.refl _).alloc _))
            have T7 : w7.heap[w6.heap.size]? = some (.cells #[.int .i64 t2.kind, .int .i64 t2.place, .string t2.text, .int .i64 t2.value] 71) := by
              have hlt := (Array.getElem?_eq_some_iff.1 G6.out).1
              rw [hw7]
              exact ext_heap ((Ext.refl _).alloc _) (World.setCell_other_row (World.setCell_other_row (heap_alloc_new w6 _) (by omega) 0 _) (by omega) 1 _)
            have F7 := hide (hw7 ▸ ext_heap ((Ext.refl _).alloc _) (two_sets F6.out (.int .i64 0) (.int .i64 0)) : w7.heap[w1.heap.size + 1]? = some (.cells #[.int .i64 0, .int .i64 0] 47))
            clear hw7 f0 f1 ff
            replace W7 := hide W7; replace T7 := hide T7
            have hp7 := hide (hp6.out.onF W7.out)
            have O7 := hide (Wr.keeps W7.out O6.out (fun hd => by have := hlt1.out; have := hd.1; omega))
            have K7 := hide (Wr.keeps W7.out T6.out (fun hd => absurd hd.2 (by decide)))
            have W07 : Hid (Wr (ChgP B) w w7) := (W05.out.trans (hW6.out.mono fun _ _ _ hd => onP_chgP hPB.out hd)).thenNew W7.out fun j t hd => by have := hd.1; have := hlt1.out; omega
            clear hp6 hW6 O6 T6 G6 F6 W7 T5
            obtain ⟨b0, b1, b2, b3⟩ := four_cells K7.out
            obtain ⟨d0, d1, d2, d3⟩ := four_cells T7.out
            have X8 : Ext w7 (w7.alloc (.cells #[.string t1.text, .string t2.text] 33)) := (Ext.refl w7).alloc _
            have I8 := heap_alloc_new w7 (.cells #[.string t1.text, .string t2.text] 33)
            have p2 := (five_cells (hp7.out.ext X8).box).2.2.1
            go_wp2_with fail
            generalize w7.alloc (.cells #[.string t1.text, .string t2.text] 33) = w8 at *
            clear b0 b1 b2 b3 d0 d1 d2 d3
            have hp8 := hide (hp7.out.ext X8); have O8 := hide (ext_heap X8 O7.out); have K8 := hide (ext_heap X8 K7.out)
            have W08 : Hid (Wr (ChgP B) w w8) := W07.out.trans (Wr.ext X8)
            have i0 := two_c0 I8; have i1 := two_c1 I8
            replace I8 := hide I8; replace X8 := hide X8
            have hh := hide (tabHasE B vE rs ⟨t1.text, t2.text⟩ tE w8.drew (hp8.out.ents.ext (Ext.refl w8).drew))
            go_region_held3 (fun w' => w'.cell? ⟨P, 2, none⟩ = some (.pointer (some ⟨tE, 0, none⟩)) ∧ w'.cell? ⟨w7.heap.size, 0, none⟩ = some (.string t1.text) ∧ w'.cell? ⟨w7.heap.size, 1, none⟩ = some (.string t2.text)) (go_keep) ((go_at_call 37; refine hh.out.mono ?_; rintro e9 w9 ⟨b9, rfl, hb9, he9⟩; go_must (have z0 := he9.out.cells (p := ⟨P, 2, none⟩) p2; have z1 := he9.out.cells (p := ⟨w7.heap.size, 0, none⟩) i0; have z2 := he9.out.cells (p := ⟨w7.heap.size, 1, none⟩) i1)))
            have X9 : Ext w8 w9 := (Ext.refl w8).drew.trans he9.out
            clear p2 i0 i1
            have hp9 := hide (hp8.out.ext X9); have O9 := hide (ext_heap X9 O8.out); have K9 := hide (ext_heap X9 K8.out); have I9 := hide (ext_heap X9 I8.out)
            have W09 : Hid (Wr (ChgP B) w w9) := W08.out.trans (Wr.ext X9)
            obtain ⟨b0, b1, b2, b3⟩ := four_cells K9.out
            have i0 := two_c0 I9.out; have i1 := two_c1 I9.out
            have o0 := two_c0 O9.out; have o1 := two_c1 O9.out; have fO := row_frozen O9.out
            replace X9 := hide X9
            cases b9
            · have hmem : (⟨t1.text, t2.text⟩ : IDd) ∉ es.map EntD.id := fun hm => by have := hb9.out.2 ((hk.out _).2 hm); cases this
              have hno : ¬ HasK RowE.key rs ⟨t1.text, t2.text⟩ := fun hm => hmem ((hk.out _).1 hm)
              have hfin : Hid (headS ts i es = .ok (i + 1 + 1 + 1, ⟨⟨t1.text, t2.text⟩, t1.place, [], false, []⟩)) := by
                show _ = _
                rw [hst.out, if_neg hmem]
              replace hmem := hide hmem; replace hno := hide hno; replace hb9 := hide hb9
              go_wp2_with fail
              refine (keepP hp9.out (Nat.le_trans hB W09.out.size) ⟨t1.text, t2.text⟩ t1.place hno.out (by omega) (by omega) (by omega)).mono ?_
              rintro e10 w10 ⟨b, rfl, hF10, hW10⟩
              have O10 := Wr.keeps hW10.out O9.out chgP_fault
              clear o0 o1 fO b0 b1 b2 b3 i0 i1
              have o0 := two_c0 O10; have o1 := two_c1 O10; have fO := row_frozen O10
              replace O10 := hide O10
              go_wp2_with fail
              refine bodyPost_ret (v := .tuple #[.pointer (some ⟨b, 0, none⟩), .agg #[.int .i64 0, .int .i64 0]]) (by simp [results, Tryz.results67, go_sem, o0, o1]) rfl ?_
              have WF := Wr.ofF O10.out (.int .i64 0) (.int .i64 0)
              exact ⟨(W09.out.trans hW10.out).thenNew WF fun j t hd => by have := hd.1; omega, .inr ⟨_, _, b, w9.heap.size, hfin, rfl, W09.out.size, hF10.out.onF WF⟩⟩
            · have hmem : (⟨t1.text, t2.text⟩ : IDd) ∈ es.map EntD.id := (hk.out _).1 (hb9.out.1 rfl)
              have hfin : Hid (headS ts i es = .error (8, t1.place)) := by
                show _ = _
                rw [hst.out, if_pos hmem]
              replace hmem := hide hmem; replace hb9 := hide hb9
              go_wp2_with fail
              go_region_with (fail)
              all_goals go_wp2_with fail
              all_goals
                refine bodyPost_ret (v := .tuple #[.pointer none, .agg #[.int .i64 8, .int .i64 t1.place]]) (by simp [results, Tryz.results67, go_sem, o0, o1]) rfl ?_
                exact ⟨((W09.out.setNew (p := ⟨w.heap.size, 0, none⟩) (Nat.le_refl _) _).setNew (p := ⟨w.heap.size, 1, none⟩) (Nat.le_refl _) _).trans (Wr.ext (Ext.refl _).drew), .inl ⟨8, t1.place, hfin, by decide, rfl⟩⟩
          · have hfin : Hid (headS ts i es = .error (6, t2.place)) := by
              show _ = _
              rw [hst.out, take_no h2 k2]
            replace h2 := hide h2; replace k2 := hide k2
            go_wp2_with fail
            refine (takeNot hp5.out h2.out hn k2.out).mono ?_; rintro e6 w6 ⟨rfl, he6⟩
            have F6 := ext_heap ((Ext.refl w6).alloc (.cells #[.int .i64 0, .int .i64 0, .string ⟨#[]⟩, .int .i64 0] 71)) (ext_heap he6.out F5.out)
            have f0 := two_c0 F6; have f1 := two_c1 F6; have ff := row_frozen F6; replace F6 := hide F6
            go_wp2_with fail
            refine (faultIs _ _ _).mono ?_; rintro e7 w7 ⟨rfl, hw7⟩
            have hle : w.heap.size ≠ w1.heap.size + 1 := by have := hlt1.out; omega
            have hle2 : w.heap.size ≤ w1.heap.size + 1 := by have := hlt1.out; omega
            have G7 := (hw7 ▸ ext_heap ((Ext.refl _).alloc _) (two_sets F6.out (.int .i64 6) (.int .i64 t2.place)) : w7.heap[w1.heap.size + 1]? = some (.cells #[.int .i64 6, .int .i64 t2.place] 47))
            have O7 := (hw7 ▸ ext_heap ((Ext.refl _).alloc _) (World.setCell_other_row (World.setCell_other_row (ext_heap ((Ext.refl w6).alloc (.cells #[.int .i64 0, .int .i64 0, .string ⟨#[]⟩, .int .i64 0] 71)) (ext_heap he6.out O5.out)) hle.symm 0 (.int .i64 6)) hle.symm 1 (.int .i64 t2.place)) : w7.heap[w.heap.size]? = some (.cells #[.int .i64 0, .int .i64 0] 47))
            have W : Hid (Wr (ChgP B) w w7) := by
              show Wr _ _ _
              rw [hw7]
              exact (((((W05.out.trans (Wr.ext he6.out)).trans (Wr.ext ((Ext.refl _).alloc _))).setNew (p := ⟨w1.heap.size + 1, 0, none⟩) hle2 _).setNew (p := ⟨w1.heap.size + 1, 1, none⟩) hle2 _)).trans (Wr.ext ((Ext.refl _).alloc _))
            clear f0 f1 ff hw7 hle hle2
            have o0 := two_c0 O7; have o1 := two_c1 O7; have fO := row_frozen O7; have g0 := two_c0 G7; have g1 := two_c1 G7
            replace G7 := hide G7; replace O7 := hide O7
            go_wp2_with fail
            go_region_with (fail)
            all_goals go_wp2_with fail
            all_goals
              refine bodyPost_ret (v := .tuple #[.pointer none, .agg #[.int .i64 6, .int .i64 t2.place]]) (by simp [results, Tryz.results67, go_sem, o0, o1]) rfl ?_
              exact ⟨((W.out.setNew (p := ⟨w.heap.size, 0, none⟩) (Nat.le_refl _) _).setNew (p := ⟨w.heap.size, 1, none⟩) (Nat.le_refl _) _).trans (Wr.ext (Ext.refl _).drew), .inl ⟨6, t2.place, hfin, by decide, rfl⟩⟩
        · have hfin : Hid (headS ts i es = .error (6, t1.place)) := by
            show _ = _
            rw [hst.out, take_no h1 k1]
          replace h1 := hide h1; replace k1 := hide k1
          go_wp2_with fail
          refine (takeNot hp2.out h1.out hn k1.out).mono ?_; rintro e4 w4 ⟨rfl, he4⟩
          clear o0 o1 fO n0 n1 n2 n3 p2
          have F4 := ext_heap ((Ext.refl w4).alloc (.cells #[.int .i64 0, .int .i64 0, .string ⟨#[]⟩, .int .i64 0] 71)) (ext_heap he4.out F2.out)
          have f0 := two_c0 F4; have f1 := two_c1 F4; have ff := row_frozen F4; replace F4 := hide F4
          go_wp2_with fail
          refine (faultIs _ _ _).mono ?_; rintro e5 w5 ⟨rfl, hw5⟩
          have hle : w.heap.size ≠ w1.heap.size + 1 := by have := hlt1.out; omega
          have hle2 : w.heap.size ≤ w1.heap.size + 1 := by have := hlt1.out; omega
          have G5 := (hw5 ▸ ext_heap ((Ext.refl _).alloc _) (two_sets F4.out (.int .i64 6) (.int .i64 t1.place)) : w5.heap[w1.heap.size + 1]? = some (.cells #[.int .i64 6, .int .i64 t1.place] 47))
          have O5 := (hw5 ▸ ext_heap ((Ext.refl _).alloc _) (World.setCell_other_row (World.setCell_other_row (ext_heap ((Ext.refl w4).alloc (.cells #[.int .i64 0, .int .i64 0, .string ⟨#[]⟩, .int .i64 0] 71)) (ext_heap he4.out O2.out)) hle.symm 0 (.int .i64 6)) hle.symm 1 (.int .i64 t1.place)) : w5.heap[w.heap.size]? = some (.cells #[.int .i64 0, .int .i64 0] 47))
          have W : Hid (Wr (ChgP B) w w5) := by
            show Wr _ _ _
            rw [hw5]
            exact (((((W2.out.trans (Wr.ext he4.out)).trans (Wr.ext ((Ext.refl _).alloc _))).setNew (p := ⟨w1.heap.size + 1, 0, none⟩) hle2 _).setNew (p := ⟨w1.heap.size + 1, 1, none⟩) hle2 _)).trans (Wr.ext ((Ext.refl _).alloc _))
          clear f0 f1 ff hw5 hle hle2
          have o0 := two_c0 O5; have o1 := two_c1 O5; have fO := row_frozen O5; have g0 := two_c0 G5; have g1 := two_c1 G5
          replace G5 := hide G5; replace O5 := hide O5
          go_wp2_with fail
          go_region_with (fail)
          all_goals go_wp2_with fail
          all_goals
            refine bodyPost_ret (v := .tuple #[.pointer none, .agg #[.int .i64 6, .int .i64 t1.place]]) (by simp [results, Tryz.results67, go_sem, o0, o1]) rfl ?_
            exact ⟨((W.out.setNew (p := ⟨w.heap.size, 0, none⟩) (Nat.le_refl _) _).setNew (p := ⟨w.heap.size, 1, none⟩) (Nat.le_refl _) _).trans (Wr.ext (Ext.refl _).drew), .inl ⟨6, t1.place, hfin, by decide, rfl⟩⟩
    · have hw1 : ¬ t0.text.toList = [114, 101, 115, 111, 117, 114, 99, 101] := by rw [wRes_eq]; exact hw
      have hw2 : (t0.text.toList == [114, 101, 115, 111, 117, 114, 99, 101]) = false := by simpa using hw1
      have hw3 : (t0.text.toList != [114, 101, 115, 111, 117, 114, 99, 101]) = true := by simpa using hw1
      have hfin : Hid (headS ts i es = .error (6, t0.place)) := by
        show _ = _
        rw [hst.out, if_pos hw]
      replace hw := hide hw
      go_wp2_with fail
      go_region_with (fail)
      all_goals go_wp2_with fail
      all_goals
        refine bodyPost_ret (v := .tuple #[.pointer none, .agg #[.int .i64 6, .int .i64 t0.place]]) (by simp [results, Tryz.results67, go_sem, o0, o1]) rfl ?_
        exact ⟨((W2.out.setNew (p := ⟨w.heap.size, 0, none⟩) (Nat.le_refl _) _).setNew (p := ⟨w.heap.size, 1, none⟩) (Nat.le_refl _) _).trans (Wr.ext (Ext.refl _).drew), .inl ⟨6, t0.place, hfin, by decide, rfl⟩⟩
  · have hfin : Hid (headS ts i es = .error (6, t0.place)) := by
      show _ = _
      unfold headS; rw [take_no h0 k0]
    replace h0 := hide h0; replace k0 := hide k0; replace he := hide he
    go_enter Tryz.func67, Tryz.ntmps67
    go_wp2_with fail
    refine (takeNot hp0.out h0.out hn k0.out).mono ?_; rintro e1 w1 ⟨rfl, he1⟩
    go_wp2_with fail
    refine (faultIs _ _ _).mono ?_; rintro e2 w2 ⟨rfl, hw2⟩
    have X2 : Hid (Ext w1 w2) := (by show Ext _ _; rw [hw2]; exact (((Ext.refl w1).alloc _).alloc _).alloc _)
    have F2 := (hw2 ▸ ext_heap ((Ext.refl _).alloc (.cells #[.int .i64 6, .int .i64 t0.place] 47)) (two_hi w1 (.cells #[.int .i64 0, .int .i64 0, .string ⟨#[]⟩, .int .i64 0] 71) (.cells #[.int .i64 6, .int .i64 t0.place] 47)) : w2.heap[w1.heap.size + 1]? = some (.cells #[.int .i64 6, .int .i64 t0.place] 47))
    have O2 := ext_heap X2.out (ext_heap he1.out O0.out)
    clear hw2
    have f0 := two_c0 F2; have f1 := two_c1 F2; have o0 := two_c0 O2; have o1 := two_c1 O2; have fO := row_frozen O2
    replace F2 := hide F2; replace O2 := hide O2
    have W : Wr (ChgP B) w w2 := (W0.out.trans (Wr.ext he1.out)).trans (Wr.ext X2.out)
    replace W := hide W
    go_wp2_with fail
    go_region_with (fail)
    all_goals go_wp2_with fail
    all_goals
      refine bodyPost_ret (v := .tuple #[.pointer none, .agg #[.int .i64 6, .int .i64 t0.place]]) (by simp [results, Tryz.results67, go_sem, o0, o1]) rfl ?_
      exact ⟨((W.out.setNew (p := ⟨w.heap.size, 0, none⟩) (Nat.le_refl _) _).setNew (p := ⟨w.heap.size, 1, none⟩) (Nat.le_refl _) _).trans (Wr.ext (Ext.refl _).drew), .inl ⟨6, t0.place, hfin, by decide, rfl⟩⟩
end Go.Proofs.YtfnbbohbicffpaaGreatDoor
