/-
  What the text of resources is cut into.
-/
/-
  The parser: the head of a resource is read.
-/
/-
  The parser: a resource, and a text of them.
-/
/-
  The parser: a resource is read.
-/
/-
  The parser: a text is read.
-/
import Derived.Test.YtfmcgdglalljgaaGreatDoorJ2
import Derived.Test.YtfmcgdglalljgaaGreatDoorJ24
import Derived.Test.YtfmcgdglalljgaaGreatDoorJ27
namespace Go.Proofs.YtfmcgdglalljgaaGreatDoor
open Go.RowKit

end Go.Proofs.YtfmcgdglalljgaaGreatDoor

namespace Go.Proofs.YtfmcgdglalljgaaGreatDoor
open Go.RowKit

theorem wRes_eq (s : ByteArray) : (s.toList = [114, 101, 115, 111, 117, 114, 99, 101]) = (s = wRes) := by
  rw [ByteArray.toList_eq]
  apply propext
  constructor
  · intro h
    cases s with | mk d => cases d with | mk l => simp only at h; subst h; rfl
  · rintro rfl; rfl
theorem onP_chgP {B P k : Nat} {t : TypeId} (h : B ≤ P) (hd : OnP P k t) : ChgP B k t := ⟨hd.1 ▸ h, .inl hd.2⟩
theorem chgP_fault {B k : Nat} : ¬ ChgP B k 88 := by
  rintro ⟨_, h | h | h | h | h | h⟩ <;> exact absurd h (by decide)
/-- What the reading of a head answers. -/
def HeadIs (B : Nat) (w : World) (P : Nat) (ts : List Tok) (rs : List RowE) (bs : List Nat) (rf : List (IDd × Nat)) (r : Except Flt (Nat × EntD)) (e : Ending) (w' : World) : Prop :=
  Hid (Wr (ChgP B) w w') ∧ ((∃ en pl, Hid (r = .error (en, pl)) ∧ en ≠ 0 ∧ e = .returned (.tuple #[.pointer none, .agg #[.int .i64 en, .int .i64 pl]])) ∨
    ∃ i' x b Be, Hid (r = .ok (i', x)) ∧ e = .returned (.tuple #[.pointer (some ⟨b, 0, none⟩), .agg #[.int .i64 0, .int .i64 0]]) ∧ Hid (w.heap.size ≤ Be) ∧ Hid (Fits B Be w' P b ts i' (insE rs ⟨x.id, b⟩) (bs ++ [b]) rf x))

set_option maxRecDepth 100000 in
set_option maxHeartbeats 3200000 in
theorem readHeadP {B : Nat} {w : World} {P tE : Nat} {vT vE vO vR : Value} {ts : List Tok} {i : Nat} {rs : List RowE} {bs : List Nat} {rf : List (IDd × Nat)} (h : ParIn B w P tE vT vE vO vR ts i rs bs rf) (hn : ts.length ≤ 1000000) (he : TsEnd ts) (hi : i < ts.length) (hB : B ≤ w.heap.size) (es : List EntD) (hk : ∀ id, HasK RowE.key rs id ↔ id ∈ es.map EntD.id) (hrl : rs.length = es.length) (hbl : bs.length = es.length) (h12 : es.length ≤ 12) (hf : rf.length ≤ i) :
    Calls Tryz.prog 104 #[.pointer (some ⟨P, 0, none⟩)] w (HeadIs B w P ts rs bs rf (headS ts i es)) := by
  classical
  obtain ⟨t0, h0⟩ := TsEnd.there hi
  have hp0 := hide (h.ext ((Ext.refl w).alloc (.cells #[.int .i64 0, .int .i64 0] 88)))
  have hPB := hide h.base
  have O0 := hide (heap_alloc_new w (.cells #[.int .i64 0, .int .i64 0] 88))
  have W0 : Hid (Wr (ChgP B) w (w.alloc (.cells #[.int .i64 0, .int .i64 0] 88))) := Wr.ext ((Ext.refl w).alloc _)
  replace h := hide h; replace hi := hide hi; replace hk := hide hk
  by_cases k0 : t0.kind = 1
  · have hj1 := he.next h0 (by omega)
    have hst : Hid (headS ts i es = if t0.text ≠ wRes then .error (6, t0.place) else if es.length = 12 then .error (7, t0.place) else match takeS ts (i + 1) 1 with
      | .error x => .error x
      | .ok (k, i) => match takeS ts i 1 with
        | .error x => .error x
        | .ok (n, i) => if (⟨k.text, n.text⟩ : IDd) ∈ es.map EntD.id then .error (8, k.place) else .ok (i, ⟨⟨k.text, n.text⟩, k.place, [], false, []⟩)) := by
      show _ = _
      unfold headS; rw [take_ok h0 k0]; rfl
    replace h0 := hide h0; replace k0 := hide k0; replace he := hide he
    go_enter Tryz.func104, Tryz.ntmps104
    go_wp2_with fail
    refine (takeYes hp0.out h0.out hn k0.out).mono ?_; rintro e1 w1 ⟨rfl, hp1, hW1⟩
    have O1 := hide (Wr.keeps hW1.out O0.out (onP_no (by decide)))
    have hlt1 := hide (Array.getElem?_eq_some_iff.1 O1.out).1
    go_wp2_with fail
    refine (faultIs _ _ _).mono ?_; rintro e2 w2 ⟨rfl, hw2⟩
    have X2 : Hid (Ext w1 w2) := (by show Ext _ _; rw [hw2]; exact (((Ext.refl w1).alloc _).alloc _).alloc _)
    have N2 := (hw2 ▸ ext_heap (((Ext.refl _).alloc (.cells #[.int .i64 0, .int .i64 0] 88)).alloc (.cells #[.int .i64 0, .int .i64 0] 88)) (heap_alloc_new w1 (.cells #[.int .i64 t0.kind, .int .i64 t0.place, .string t0.text, .int .i64 t0.value] 120)) : w2.heap[w1.heap.size]? = some (.cells #[.int .i64 t0.kind, .int .i64 t0.place, .string t0.text, .int .i64 t0.value] 120))
    have F2 := hide (hw2 ▸ ext_heap ((Ext.refl _).alloc (.cells #[.int .i64 0, .int .i64 0] 88)) (two_hi w1 (.cells #[.int .i64 t0.kind, .int .i64 t0.place, .string t0.text, .int .i64 t0.value] 120) (.cells #[.int .i64 0, .int .i64 0] 88)) : w2.heap[w1.heap.size + 1]? = some (.cells #[.int .i64 0, .int .i64 0] 88))
    clear hw2
    have hp2 := hide (hp1.out.ext X2.out); have O2 := hide (ext_heap X2.out O1.out)
    have W2 : Hid (Wr (ChgP B) w w2) := W0.out.trans ((hW1.out.mono fun _ _ _ hd => onP_chgP hPB.out hd).trans (Wr.ext X2.out))
    obtain ⟨n0, n1, n2, n3⟩ := four_cells N2
    have o0 := two_c0 O2.out; have o1 := two_c1 O2.out; have fO := row_frozen O2.out
    replace N2 := hide N2
    by_cases hw : t0.text = wRes
    · have hw1 : t0.text.toList = [114, 101, 115, 111, 117, 114, 99, 101] := by rw [wRes_eq]; exact hw
      have hw2 : (t0.text.toList == [114, 101, 115, 111, 117, 114, 99, 101]) = true := by simp [hw1]
      have hw3 : (t0.text.toList != [114, 101, 115, 111, 117, 114, 99, 101]) = false := by simp [hw1]
      rw [if_neg (by simp [hw])] at hst
      replace hw := hide hw
      have p2 := (five_cells hp2.out.box).2.2.1
      go_wp2_with fail
      refine (tabLenE B vE rs tE w2 hp2.out.ents).mono ?_; rintro e3 w3 ⟨rfl, hw3⟩
      obtain rfl := hw3.symm
      by_cases hl : es.length = 12
      · have hl1 : ((rs.length : Int) == 12) = true := by simp; omega
        have hfin : Hid (headS ts i es = .error (7, t0.place)) := by
          show _ = _
          rw [hst.out, if_pos hl]
        replace hl := hide hl
        go_wp2_with fail
        go_region_with (fail)
        all_goals go_wp2_with fail
        all_goals
          refine bodyPost_ret (v := .tuple #[.pointer none, .agg #[.int .i64 7, .int .i64 t0.place]]) (by simp [results, Tryz.results104, go_sem, o0, o1]) rfl ?_
          exact ⟨((W2.out.setNew (p := ⟨w.heap.size, 0, none⟩) (Nat.le_refl _) _).setNew (p := ⟨w.heap.size, 1, none⟩) (Nat.le_refl _) _).trans (Wr.ext (Ext.refl _).drew), .inl ⟨7, t0.place, hfin, by decide, rfl⟩⟩
      · have hl1 : ((rs.length : Int) == 12) = false := by simp; omega
        rw [if_neg hl] at hst
        replace hl := hide hl
        obtain ⟨t1, h1⟩ := TsEnd.there hj1
        by_cases k1 : t1.kind = 1
        · rw [take_ok h1 k1] at hst
          have hj2 := he.out.next h1 (by omega)
          obtain ⟨t2, h2⟩ := TsEnd.there hj2
          replace h1 := hide h1; replace k1 := hide k1
          go_wp2_with fail
          refine (takeYes hp2.out h1.out hn k1.out).mono ?_; rintro e4 w4 ⟨rfl, hp4, hW4⟩
          clear o0 o1 fO n0 n1 n2 n3 p2
          have O4 := hide (Wr.keeps hW4.out O2.out (onP_no (by decide)))
          have G4 := hide (Wr.keeps hW4.out F2.out (onP_no (by decide)))
          have F4 := ext_heap ((Ext.refl w4).alloc (.cells #[.int .i64 t1.kind, .int .i64 t1.place, .string t1.text, .int .i64 t1.value] 120)) G4.out
          have f0 := two_c0 F4; have f1 := two_c1 F4; have ff := row_frozen F4
          replace F4 := hide F4
          go_wp2_with fail
          refine (faultIs _ _ _).mono ?_; rintro e5 w5 ⟨rfl, hw5⟩
          have W5 : Wr (OnF (w1.heap.size + 1)) w4 w5 := by
            rw [hw5]
            exact ((((Wr.ext ((Ext.refl w4).alloc (.cells #[.int .i64 t1.kind, .int .i64 t1.place, .string t1.text, .int .i64 t1.value] 120))).setOld (p := ⟨w1.heap.size + 1, 0, none⟩) G4.out ⟨rfl, rfl⟩ _).setOld (p := ⟨w1.heap.size + 1, 1, none⟩) G4.out ⟨rfl, rfl⟩ _)).trans (Wr.ext ((Ext.refl _).alloc _))
          have T5 : w5.heap[w4.heap.size]? = some (.cells #[.int .i64 t1.kind, .int .i64 t1.place, .string t1.text, .int .i64 t1.value] 120) := by
            have hlt := (Array.getElem?_eq_some_iff.1 G4.out).1
            rw [hw5]
            exact ext_heap ((Ext.refl _).alloc _) (World.setCell_other_row (World.setCell_other_row (heap_alloc_new w4 _) (by omega) 0 _) (by omega) 1 _)
          have F5 := hide (hw5 ▸ ext_heap ((Ext.refl _).alloc _) (two_sets F4.out (.int .i64 0) (.int .i64 0)) : w5.heap[w1.heap.size + 1]? = some (.cells #[.int .i64 0, .int .i64 0] 88))
          clear hw5 f0 f1 ff
          replace W5 := hide W5; replace T5 := hide T5
          have hp5 := hide (hp4.out.onF W5.out)
          have O5 := hide (Wr.keeps W5.out O4.out (fun hd => by have := hlt1.out; have := hd.1; omega))
          have W05 : Hid (Wr (ChgP B) w w5) := (W2.out.trans (hW4.out.mono fun _ _ _ hd => onP_chgP hPB.out hd)).thenNew W5.out fun j t hd => by have := hd.1; have := hlt1.out; omega
          clear hp4 hW4 O4 G4 F4 W5
          by_cases k2 : t2.kind = 1
          · rw [take_ok h2 k2] at hst
            have hj3 := he.out.next h2 (by omega)
            replace h2 := hide h2; replace k2 := hide k2
            go_wp2_with fail
            refine (takeYes hp5.out h2.out hn k2.out).mono ?_; rintro e6 w6 ⟨rfl, hp6, hW6⟩
            have O6 := hide (Wr.keeps hW6.out O5.out (onP_no (by decide)))
            have T6 := hide (Wr.keeps hW6.out T5.out (onP_no (by decide)))
            have G6 := hide (Wr.keeps hW6.out F5.out (onP_no (by decide)))
            have F6 := ext_heap ((Ext.refl w6).alloc (.cells #[.int .i64 t2.kind, .int .i64 t2.place, .string t2.text, .int .i64 t2.value] 120)) G6.out
            have f0 := two_c0 F6; have f1 := two_c1 F6; have ff := row_frozen F6
            replace F6 := hide F6
            go_wp2_with fail
            refine (faultIs _ _ _).mono ?_; rintro e7 w7 ⟨rfl, hw7⟩
            have W7 : Wr (OnF (w1.heap.size + 1)) w6 w7 := by
              rw [hw7]
              exact ((((Wr.ext ((Ext.refl w6).alloc (.cells #[.int .i64 t2.kind, .int .i64 t2.place, .string t2.text, .int .i64 t2.value] 120))).setOld (p := ⟨w1.heap.size + 1, 0, none⟩) G6.out ⟨rfl, rfl⟩ _).setOld (p := ⟨w1.heap.size + 1, 1, none⟩) G6.out ⟨rfl, rfl⟩ _)).trans (Wr.ext ((Ext.refl _).alloc _))
            have T7 : w7.heap[w6.heap.size]? = some (.cells #[.int .i64 t2.kind, .int .i64 t2.place, .string t2.text, .int .i64 t2.value] 120) := by
              have hlt := (Array.getElem?_eq_some_iff.1 G6.out).1
              rw [hw7]
              exact ext_heap ((Ext.refl _).alloc _) (World.setCell_other_row (World.setCell_other_row (heap_alloc_new w6 _) (by omega) 0 _) (by omega) 1 _)
            have F7 := hide (hw7 ▸ ext_heap ((Ext.refl _).alloc _) (two_sets F6.out (.int .i64 0) (.int .i64 0)) : w7.heap[w1.heap.size + 1]? = some (.cells #[.int .i64 0, .int .i64 0] 88))
            clear hw7 f0 f1 ff
            replace W7 := hide W7; replace T7 := hide T7
            have hp7 := hide (hp6.out.onF W7.out)
            have O7 := hide (Wr.keeps W7.out O6.out (fun hd => by have := hlt1.out; have := hd.1; omega))
            have K7 := hide (Wr.keeps W7.out T6.out (fun hd => absurd hd.2 (by decide)))
            have W07 : Hid (Wr (ChgP B) w w7) := (W05.out.trans (hW6.out.mono fun _ _ _ hd => onP_chgP hPB.out hd)).thenNew W7.out fun j t hd => by have := hd.1; have := hlt1.out; omega
            clear hp6 hW6 O6 T6 G6 F6 W7 T5
            obtain ⟨b0, b1, b2, b3⟩ := four_cells K7.out
            obtain ⟨d0, d1, d2, d3⟩ := four_cells T7.out
            have X8 : Ext w7 (w7.alloc (.cells #[.string t1.text, .string t2.text] 25)) := (Ext.refl w7).alloc _
            have I8 := heap_alloc_new w7 (.cells #[.string t1.text, .string t2.text] 25)
            have p2 := (five_cells (hp7.out.ext X8).box).2.2.1
            go_wp2_with fail
            generalize w7.alloc (.cells #[.string t1.text, .string t2.text] 25) = w8 at *
            clear b0 b1 b2 b3 d0 d1 d2 d3
            have hp8 := hide (hp7.out.ext X8); have O8 := hide (ext_heap X8 O7.out); have K8 := hide (ext_heap X8 K7.out)
            have W08 : Hid (Wr (ChgP B) w w8) := W07.out.trans (Wr.ext X8)
            have i0 := two_c0 I8; have i1 := two_c1 I8
            replace I8 := hide I8; replace X8 := hide X8
            have hh := hide (tabHasE B vE rs ⟨t1.text, t2.text⟩ tE w8.drew (hp8.out.ents.ext (Ext.refl w8).drew))
            go_region_held3 (fun w' => w'.cell? ⟨P, 2, none⟩ = some (.pointer (some ⟨tE, 0, none⟩)) ∧ w'.cell? ⟨w7.heap.size, 0, none⟩ = some (.string t1.text) ∧ w'.cell? ⟨w7.heap.size, 1, none⟩ = some (.string t2.text)) (go_keep) ((go_at_call 73; refine hh.out.mono ?_; rintro e9 w9 ⟨b9, rfl, hb9, he9⟩; go_must (have z0 := he9.out.cells (p := ⟨P, 2, none⟩) p2; have z1 := he9.out.cells (p := ⟨w7.heap.size, 0, none⟩) i0; have z2 := he9.out.cells (p := ⟨w7.heap.size, 1, none⟩) i1)))
            have X9 : Ext w8 w9 := (Ext.refl w8).drew.trans he9.out
            clear p2 i0 i1
            have hp9 := hide (hp8.out.ext X9); have O9 := hide (ext_heap X9 O8.out); have K9 := hide (ext_heap X9 K8.out); have I9 := hide (ext_heap X9 I8.out)
            have W09 : Hid (Wr (ChgP B) w w9) := W08.out.trans (Wr.ext X9)
            obtain ⟨b0, b1, b2, b3⟩ := four_cells K9.out
            have i0 := two_c0 I9.out; have i1 := two_c1 I9.out
            have o0 := two_c0 O9.out; have o1 := two_c1 O9.out; have fO := row_frozen O9.out
            replace X9 := hide X9
            cases b9
            · have hmem : (⟨t1.text, t2.text⟩ : IDd) ∉ es.map EntD.id := fun hm => by have := hb9.out.2 ((hk.out _).2 hm); cases this
              have hno : ¬ HasK RowE.key rs ⟨t1.text, t2.text⟩ := fun hm => hmem ((hk.out _).1 hm)
              have hfin : Hid (headS ts i es = .ok (i + 1 + 1 + 1, ⟨⟨t1.text, t2.text⟩, t1.place, [], false, []⟩)) := by
                show _ = _
                rw [hst.out, if_neg hmem]
              replace hmem := hide hmem; replace hno := hide hno; replace hb9 := hide hb9
              go_wp2_with fail
              refine (keepP hp9.out (Nat.le_trans hB W09.out.size) ⟨t1.text, t2.text⟩ t1.place hno.out (by omega) (by omega) (by omega)).mono ?_
              rintro e10 w10 ⟨b, rfl, hF10, hW10⟩
              have O10 := Wr.keeps hW10.out O9.out chgP_fault
              clear o0 o1 fO b0 b1 b2 b3 i0 i1
              have o0 := two_c0 O10; have o1 := two_c1 O10; have fO := row_frozen O10
              replace O10 := hide O10
              go_wp2_with fail
              refine bodyPost_ret (v := .tuple #[.pointer (some ⟨b, 0, none⟩), .agg #[.int .i64 0, .int .i64 0]]) (by simp [results, Tryz.results104, go_sem, o0, o1]) rfl ?_
              have WF := Wr.ofF O10.out (.int .i64 0) (.int .i64 0)
              exact ⟨(W09.out.trans hW10.out).thenNew WF fun j t hd => by have := hd.1; omega, .inr ⟨_, _, b, w9.heap.size, hfin, rfl, W09.out.size, hF10.out.onF WF⟩⟩
            · have hmem : (⟨t1.text, t2.text⟩ : IDd) ∈ es.map EntD.id := (hk.out _).1 (hb9.out.1 rfl)
              have hfin : Hid (headS ts i es = .error (8, t1.place)) := by
                show _ = _
                rw [hst.out, if_pos hmem]
              replace hmem := hide hmem; replace hb9 := hide hb9
              go_wp2_with fail
              go_region_with (fail)
              all_goals go_wp2_with fail
              all_goals
                refine bodyPost_ret (v := .tuple #[.pointer none, .agg #[.int .i64 8, .int .i64 t1.place]]) (by simp [results, Tryz.results104, go_sem, o0, o1]) rfl ?_
                exact ⟨((W09.out.setNew (p := ⟨w.heap.size, 0, none⟩) (Nat.le_refl _) _).setNew (p := ⟨w.heap.size, 1, none⟩) (Nat.le_refl _) _).trans (Wr.ext (Ext.refl _).drew), .inl ⟨8, t1.place, hfin, by decide, rfl⟩⟩
          · have hfin : Hid (headS ts i es = .error (6, t2.place)) := by
              show _ = _
              rw [hst.out, take_no h2 k2]
            replace h2 := hide h2; replace k2 := hide k2
            go_wp2_with fail
            refine (takeNot hp5.out h2.out hn k2.out).mono ?_; rintro e6 w6 ⟨rfl, he6⟩
            have F6 := ext_heap ((Ext.refl w6).alloc (.cells #[.int .i64 0, .int .i64 0, .string ⟨#[]⟩, .int .i64 0] 120)) (ext_heap he6.out F5.out)
            have f0 := two_c0 F6; have f1 := two_c1 F6; have ff := row_frozen F6; replace F6 := hide F6
            go_wp2_with fail
            refine (faultIs _ _ _).mono ?_; rintro e7 w7 ⟨rfl, hw7⟩
            have hle : w.heap.size ≠ w1.heap.size + 1 := by have := hlt1.out; omega
            have hle2 : w.heap.size ≤ w1.heap.size + 1 := by have := hlt1.out; omega
            have G7 := (hw7 ▸ ext_heap ((Ext.refl _).alloc _) (two_sets F6.out (.int .i64 6) (.int .i64 t2.place)) : w7.heap[w1.heap.size + 1]? = some (.cells #[.int .i64 6, .int .i64 t2.place] 88))
            have O7 := (hw7 ▸ ext_heap ((Ext.refl _).alloc _) (World.setCell_other_row (World.setCell_other_row (ext_heap ((Ext.refl w6).alloc (.cells #[.int .i64 0, .int .i64 0, .string ⟨#[]⟩, .int .i64 0] 120)) (ext_heap he6.out O5.out)) hle.symm 0 (.int .i64 6)) hle.symm 1 (.int .i64 t2.place)) : w7.heap[w.heap.size]? = some (.cells #[.int .i64 0, .int .i64 0] 88))
            have W : Hid (Wr (ChgP B) w w7) := by
              show Wr _ _ _
              rw [hw7]
              exact (((((W05.out.trans (Wr.ext he6.out)).trans (Wr.ext ((Ext.refl _).alloc _))).setNew (p := ⟨w1.heap.size + 1, 0, none⟩) hle2 _).setNew (p := ⟨w1.heap.size + 1, 1, none⟩) hle2 _)).trans (Wr.ext ((Ext.refl _).alloc _))
            clear f0 f1 ff hw7 hle hle2
            have o0 := two_c0 O7; have o1 := two_c1 O7; have fO := row_frozen O7; have g0 := two_c0 G7; have g1 := two_c1 G7
            replace G7 := hide G7; replace O7 := hide O7
            go_wp2_with fail
            go_region_with (fail)
            all_goals go_wp2_with fail
            all_goals
              refine bodyPost_ret (v := .tuple #[.pointer none, .agg #[.int .i64 6, .int .i64 t2.place]]) (by simp [results, Tryz.results104, go_sem, o0, o1]) rfl ?_
              exact ⟨((W.out.setNew (p := ⟨w.heap.size, 0, none⟩) (Nat.le_refl _) _).setNew (p := ⟨w.heap.size, 1, none⟩) (Nat.le_refl _) _).trans (Wr.ext (Ext.refl _).drew), .inl ⟨6, t2.place, hfin, by decide, rfl⟩⟩
        · have hfin : Hid (headS ts i es = .error (6, t1.place)) := by
            show _ = _
            rw [hst.out, take_no h1 k1]
          replace h1 := hide h1; replace k1 := hide k1
          go_wp2_with fail
          refine (takeNot hp2.out h1.out hn k1.out).mono ?_; rintro e4 w4 ⟨rfl, he4⟩
          clear o0 o1 fO n0 n1 n2 n3 p2
          have F4 := ext_heap ((Ext.refl w4).alloc (.cells #[.int .i64 0, .int .i64 0, .string ⟨#[]⟩, .int .i64 0] 120)) (ext_heap he4.out F2.out)
          have f0 := two_c0 F4; have f1 := two_c1 F4; have ff := row_frozen F4; replace F4 := hide F4
          go_wp2_with fail
          refine (faultIs _ _ _).mono ?_; rintro e5 w5 ⟨rfl, hw5⟩
          have hle : w.heap.size ≠ w1.heap.size + 1 := by have := hlt1.out; omega
          have hle2 : w.heap.size ≤ w1.heap.size + 1 := by have := hlt1.out; omega
          have G5 := (hw5 ▸ ext_heap ((Ext.refl _).alloc _) (two_sets F4.out (.int .i64 6) (.int .i64 t1.place)) : w5.heap[w1.heap.size + 1]? = some (.cells #[.int .i64 6, .int .i64 t1.place] 88))
          have O5 := (hw5 ▸ ext_heap ((Ext.refl _).alloc _) (World.setCell_other_row (World.setCell_other_row (ext_heap ((Ext.refl w4).alloc (.cells #[.int .i64 0, .int .i64 0, .string ⟨#[]⟩, .int .i64 0] 120)) (ext_heap he4.out O2.out)) hle.symm 0 (.int .i64 6)) hle.symm 1 (.int .i64 t1.place)) : w5.heap[w.heap.size]? = some (.cells #[.int .i64 0, .int .i64 0] 88))
          have W : Hid (Wr (ChgP B) w w5) := by
            show Wr _ _ _
            rw [hw5]
            exact (((((W2.out.trans (Wr.ext he4.out)).trans (Wr.ext ((Ext.refl _).alloc _))).setNew (p := ⟨w1.heap.size + 1, 0, none⟩) hle2 _).setNew (p := ⟨w1.heap.size + 1, 1, none⟩) hle2 _)).trans (Wr.ext ((Ext.refl _).alloc _))
          clear f0 f1 ff hw5 hle hle2
          have o0 := two_c0 O5; have o1 := two_c1 O5; have fO := row_frozen O5; have g0 := two_c0 G5; have g1 := two_c1 G5
          replace G5 := hide G5; replace O5 := hide O5
          go_wp2_with fail
          go_region_with (fail)
          all_goals go_wp2_with fail
          all_goals
            refine bodyPost_ret (v := .tuple #[.pointer none, .agg #[.int .i64 6, .int .i64 t1.place]]) (by simp [results, Tryz.results104, go_sem, o0, o1]) rfl ?_
            exact ⟨((W.out.setNew (p := ⟨w.heap.size, 0, none⟩) (Nat.le_refl _) _).setNew (p := ⟨w.heap.size, 1, none⟩) (Nat.le_refl _) _).trans (Wr.ext (Ext.refl _).drew), .inl ⟨6, t1.place, hfin, by decide, rfl⟩⟩
    · have hw1 : ¬ t0.text.toList = [114, 101, 115, 111, 117, 114, 99, 101] := by rw [wRes_eq]; exact hw
      have hw2 : (t0.text.toList == [114, 101, 115, 111, 117, 114, 99, 101]) = false := by simpa using hw1
      have hw3 : (t0.text.toList != [114, 101, 115, 111, 117, 114, 99, 101]) = true := by simpa using hw1
      have hfin : Hid (headS ts i es = .error (6, t0.place)) := by
        show _ = _
        rw [hst.out, if_pos hw]
      replace hw := hide hw
      go_wp2_with fail
      go_region_with (fail)
      all_goals go_wp2_with fail
      all_goals
        refine bodyPost_ret (v := .tuple #[.pointer none, .agg #[.int .i64 6, .int .i64 t0.place]]) (by simp [results, Tryz.results104, go_sem, o0, o1]) rfl ?_
        exact ⟨((W2.out.setNew (p := ⟨w.heap.size, 0, none⟩) (Nat.le_refl _) _).setNew (p := ⟨w.heap.size, 1, none⟩) (Nat.le_refl _) _).trans (Wr.ext (Ext.refl _).drew), .inl ⟨6, t0.place, hfin, by decide, rfl⟩⟩
  · have hfin : Hid (headS ts i es = .error (6, t0.place)) := by
      show _ = _
      unfold headS; rw [take_no h0 k0]
    replace h0 := hide h0; replace k0 := hide k0; replace he := hide he
    go_enter Tryz.func104, Tryz.ntmps104
    go_wp2_with fail
    refine (takeNot hp0.out h0.out hn k0.out).mono ?_; rintro e1 w1 ⟨rfl, he1⟩
    go_wp2_with fail
    refine (faultIs _ _ _).mono ?_; rintro e2 w2 ⟨rfl, hw2⟩
    have X2 : Hid (Ext w1 w2) := (by show Ext _ _; rw [hw2]; exact (((Ext.refl w1).alloc _).alloc _).alloc _)
    have F2 := (hw2 ▸ ext_heap ((Ext.refl _).alloc (.cells #[.int .i64 6, .int .i64 t0.place] 88)) (two_hi w1 (.cells #[.int .i64 0, .int .i64 0, .string ⟨#[]⟩, .int .i64 0] 120) (.cells #[.int .i64 6, .int .i64 t0.place] 88)) : w2.heap[w1.heap.size + 1]? = some (.cells #[.int .i64 6, .int .i64 t0.place] 88))
    have O2 := ext_heap X2.out (ext_heap he1.out O0.out)
    clear hw2
    have f0 := two_c0 F2; have f1 := two_c1 F2; have o0 := two_c0 O2; have o1 := two_c1 O2; have fO := row_frozen O2
    replace F2 := hide F2; replace O2 := hide O2
    have W : Wr (ChgP B) w w2 := (W0.out.trans (Wr.ext he1.out)).trans (Wr.ext X2.out)
    replace W := hide W
    go_wp2_with fail
    go_region_with (fail)
    all_goals go_wp2_with fail
    all_goals
      refine bodyPost_ret (v := .tuple #[.pointer none, .agg #[.int .i64 6, .int .i64 t0.place]]) (by simp [results, Tryz.results104, go_sem, o0, o1]) rfl ?_
      exact ⟨((W.out.setNew (p := ⟨w.heap.size, 0, none⟩) (Nat.le_refl _) _).setNew (p := ⟨w.heap.size, 1, none⟩) (Nat.le_refl _) _).trans (Wr.ext (Ext.refl _).drew), .inl ⟨6, t0.place, hfin, by decide, rfl⟩⟩
end Go.Proofs.YtfmcgdglalljgaaGreatDoor

namespace Go.Proofs.YtfmcgdglalljgaaGreatDoor
open Go.RowKit

theorem refS_id {ts : List Tok} {i : Nat} {e : EntD} {rf : List (IDd × Nat)} {i' : Nat} {e' : EntD} {rf' : List (IDd × Nat)} (h : refS ts i e rf = .ok (i', e', rf')) : e'.id = e.id := by
  unfold refS at h
  split at h
  · cases h
  · split at h
    · cases h
    · split at h
      · cases h
      · split at h
        · cases h
        · split at h
          · cases h
          · cases h; rfl
theorem refsS_id {ts : List Tok} : ∀ (f : Nat) {i : Nat} {e : EntD} {rf : List (IDd × Nat)} {i' : Nat} {e' : EntD} {rf' : List (IDd × Nat)}, refsS ts f i e rf = .ok (i', e', rf') → e'.id = e.id
  | 0, i, e, rf, i', e', rf', h => by cases h
  | f + 1, i, e, rf, i', e', rf', h => by
    unfold refsS at h
    split at h
    · cases h
    · rename_i i1 e1 rf1 h1
      have h2 := refS_id h1
      split at h
      · exact (refsS_id f h).trans h2
      · cases h; exact h2
theorem listS_in {ts : List Tok} (he : TsEnd ts) {i : Nat} {e : EntD} {rf : List (IDd × Nat)} {i' : Nat} {e' : EntD} {rf' : List (IDd × Nat)} (h : listS ts i e rf = .ok (i', e', rf')) : i < i' ∧ i' < ts.length ∧ e'.id = e.id := by
  unfold listS at h
  split at h
  · cases h
  · rename_i _ i1 h1
    have g1 := take_in he h1 (by decide)
    split at h
    · cases h
    · rename_i i2 e2 rf2 h2
      have g2 : i1 ≤ i2 ∧ e2.id = e.id := by
        split at h2
        · cases h2; exact ⟨Nat.le_refl _, rfl⟩
        · exact ⟨Nat.le_of_lt (refsS_in he _ h2).1, refsS_id _ h2⟩
      split at h
      · cases h
      · rename_i _ i3 h3
        have g3 := take_in he h3 (by decide)
        cases h
        exact ⟨by omega, g3.2, g2.2⟩
theorem valS_in {ts : List Tok} (he : TsEnd ts) {i : Nat} {e : EntD} {name : ByteArray} {rf : List (IDd × Nat)} {i' : Nat} {e' : EntD} {rf' : List (IDd × Nat)} (h : valS ts i e name rf = .ok (i', e', rf')) : i < i' ∧ i' < ts.length ∧ e'.id = e.id := by
  unfold valS valueS at h
  split at h
  · cases h
  · rename_i i1 e1 h1
    cases h
    split at h1
    · cases h1
    · rename_i _ i2 h2
      have g2 := take_in he h2 (by split <;> decide)
      cases h1
      exact ⟨by omega, g2.2, rfl⟩
theorem lineS_in {ts : List Tok} (he : TsEnd ts) {i : Nat} {e : EntD} {rf : List (IDd × Nat)} {i' : Nat} {e' : EntD} {rf' : List (IDd × Nat)} (h : lineS ts i e rf = .ok (i', e', rf')) : i < i' ∧ i' < ts.length ∧ e'.id = e.id := by
  unfold lineS at h
  split at h
  · cases h
  · rename_i n i1 h1
    have g1 := take_in he h1 (by decide)
    split at h
    · cases h
    · split at h
      · cases h
      · rename_i _ i2 h2
        have g2 := take_in he h2 (by decide)
        split at h
        · have := listS_in he h
          exact ⟨by omega, this.2.1, this.2.2⟩
        · have := valS_in he (rf := rf) (name := n.text) (i := i2) (e := e) (i' := i') (e' := e') (rf' := rf') h
          exact ⟨by omega, this.2.1, this.2.2⟩
theorem linesS_in {ts : List Tok} (he : TsEnd ts) : ∀ (f : Nat) {i : Nat} {e : EntD} {rf : List (IDd × Nat)} {i' : Nat} {e' : EntD} {rf' : List (IDd × Nat)}, i < ts.length → linesS ts f i e rf = .ok (i', e', rf') → i ≤ i' ∧ i' < ts.length ∧ e'.id = e.id ∧ kindAt ts i' = 5
  | 0, i, e, rf, i', e', rf', hi, h => by cases h
  | f + 1, i, e, rf, i', e', rf', hi, h => by
    unfold linesS at h
    split at h
    · rename_i h5
      cases h; exact ⟨Nat.le_refl _, hi, rfl, h5⟩
    · split at h
      · cases h
      · rename_i i1 e1 rf1 h1
        have g1 := lineS_in he h1
        have g2 := linesS_in he f g1.2.1 h
        exact ⟨by omega, g2.2.1, g2.2.2.1.trans g1.2.2, g2.2.2.2⟩
theorem headS_up {ts : List Tok} (he : TsEnd ts) {i : Nat} {es : List EntD} {i' : Nat} {e' : EntD} (h : headS ts i es = .ok (i', e')) : i < i' := by
  unfold headS at h
  split at h
  · cases h
  · rename_i _ i1 h1
    have g1 := take_in he h1 (by decide)
    split at h
    · cases h
    · split at h
      · cases h
      · split at h
        · cases h
        · rename_i _ i2 h2
          have g2 := take_in he h2 (by decide)
          split at h
          · cases h
          · rename_i _ i3 h3
            have g3 := take_in he h3 (by decide)
            split at h
            · cases h
            · cases h; omega
theorem headS_in {ts : List Tok} (he : TsEnd ts) {i : Nat} {es : List EntD} {i' : Nat} {e' : EntD} (h : headS ts i es = .ok (i', e')) : i' < ts.length := by
  unfold headS at h
  split at h
  · cases h
  · split at h
    · cases h
    · split at h
      · cases h
      · split at h
        · cases h
        · split at h
          · cases h
          · rename_i _ i3 h3
            have g3 := take_in he h3 (by decide)
            split at h
            · cases h
            · cases h; exact g3.2
/-- The rows of the parser's table. -/
def rsOf (es : List EntD) (bs : List Nat) : List RowE := (es.zip bs).foldl (fun r p => insE r ⟨p.1.id, p.2⟩) []
theorem rsOf_snoc {es : List EntD} {bs : List Nat} (h : bs.length = es.length) (e : EntD) (b : Nat) : rsOf (es ++ [e]) (bs ++ [b]) = insE (rsOf es bs) ⟨e.id, b⟩ := by
  unfold rsOf
  rw [List.zip_append (by omega)]
  simp
theorem insE_mem {rs : List RowE} {x y : RowE} : y ∈ insE rs x ↔ y = x ∨ y ∈ rs := by
  unfold insE
  conv => rhs; rw [← List.takeWhile_append_dropWhile (p := fun r : RowE => decide (cmpI r.key x.key < 0)) (l := rs)]
  simp only [List.mem_append, List.mem_cons]
  constructor
  · rintro (h | h | h)
    · exact .inr (.inl h)
    · exact .inl h
    · exact .inr (.inr h)
  · rintro (h | h | h)
    · exact .inr (.inl h)
    · exact .inl h
    · exact .inr (.inr h)
theorem insE_len {rs : List RowE} {x : RowE} : (insE rs x).length = rs.length + 1 := by
  unfold insE
  have := congrArg List.length (List.takeWhile_append_dropWhile (p := fun r : RowE => decide (cmpI r.key x.key < 0)) (l := rs))
  simp only [List.length_append, List.length_cons] at this ⊢
  omega
theorem rsOf_has : ∀ {es : List EntD} {bs : List Nat}, bs.length = es.length → ∀ id, HasK RowE.key (rsOf es bs) id ↔ id ∈ es.map EntD.id := by
  have key : ∀ (l : List (EntD × Nat)) (r : List RowE) (id : IDd), HasK RowE.key (l.foldl (fun r p => insE r ⟨p.1.id, p.2⟩) r) id ↔ HasK RowE.key r id ∨ id ∈ l.map (fun p => p.1.id) := by
    intro l
    induction l with
    | nil => intro r id; simp
    | cons p l ih =>
      intro r id
      rw [List.foldl_cons, ih]
      simp only [List.map_cons, List.mem_cons]
      have : HasK RowE.key (insE r ⟨p.1.id, p.2⟩) id ↔ id = p.1.id ∨ HasK RowE.key r id := by
        unfold HasK
        constructor
        · rintro ⟨x, hx, rfl⟩
          rcases insE_mem.1 hx with rfl | hx
          · exact .inl rfl
          · exact .inr ⟨x, hx, rfl⟩
        · rintro (rfl | ⟨x, hx, rfl⟩)
          · exact ⟨_, insE_mem.2 (.inl rfl), rfl⟩
          · exact ⟨x, insE_mem.2 (.inr hx), rfl⟩
      rw [this]
      constructor
      · rintro ((h | h) | h)
        · exact .inr (.inl h)
        · exact .inl h
        · exact .inr (.inr h)
      · rintro (h | h | h)
        · exact .inl (.inr h)
        · exact .inl (.inl h)
        · exact .inr h
  intro es bs hl id
  unfold rsOf
  rw [key]
  have h1 : ¬ HasK RowE.key ([] : List RowE) id := by rintro ⟨x, hx, _⟩; cases hx
  have h2 : (es.zip bs).map (fun p => p.1.id) = es.map EntD.id := by
    rw [show (fun p : EntD × Nat => p.1.id) = EntD.id ∘ Prod.fst from rfl, ← List.map_map, List.map_fst_zip (by omega)]
  rw [h2]
  exact ⟨fun h => h.elim (fun h => absurd h h1) (fun h => h), .inr⟩
theorem rsOf_len {es : List EntD} {bs : List Nat} (h : bs.length = es.length) : (rsOf es bs).length = es.length := by
  have key : ∀ (l : List (EntD × Nat)) (r : List RowE), (l.foldl (fun r p => insE r ⟨p.1.id, p.2⟩) r).length = r.length + l.length := by
    intro l
    induction l with
    | nil => intro r; simp
    | cons p l ih => intro r; rw [List.foldl_cons, ih, insE_len]; simp; omega
  unfold rsOf
  rw [key]; simp; omega
/-- The parser and the entries that were read. -/
structure Std (B : Nat) (w : World) (P : Nat) (ts : List Tok) (i : Nat) (bs : List Nat) (es : List EntD) (rf : List (IDd × Nat)) : Prop where
  par : ∃ tE vT vE vO vR, ParIn B w P tE vT vE vO vR ts i (rsOf es bs) bs rf
  olds : ∃ M, M ≤ w.heap.size ∧ Olds M w bs es
  base : B ≤ w.heap.size
  few : es.length ≤ 12
  refsFew : rf.length ≤ i
theorem Olds.ext {M : Nat} {w w' : World} {bs : List Nat} {es : List EntD} (h : Olds M w bs es) (x : Ext w w') : Olds M w' bs es := h.wr (Wr.ext x)
theorem Std.ext {B : Nat} {w w' : World} {P : Nat} {ts : List Tok} {i : Nat} {bs : List Nat} {es : List EntD} {rf : List (IDd × Nat)} (h : Std B w P ts i bs es rf) (x : Ext w w') : Std B w' P ts i bs es rf := by
  obtain ⟨⟨tE, vT, vE, vO, vR, hp⟩, ⟨M, hM, ho⟩, h3, h4, h5⟩ := h
  exact ⟨⟨tE, vT, vE, vO, vR, hp.ext x⟩, ⟨M, Nat.le_trans hM (Ext.size x), ho.ext x⟩, Nat.le_trans h3 (Ext.size x), h4, h5⟩
theorem Std.onF {B : Nat} {w w' : World} {P : Nat} {ts : List Tok} {i : Nat} {bs : List Nat} {es : List EntD} {rf : List (IDd × Nat)} (h : Std B w P ts i bs es rf) {F : Nat} (x : Wr (OnF F) w w') : Std B w' P ts i bs es rf := by
  obtain ⟨⟨tE, vT, vE, vO, vR, hp⟩, ⟨M, hM, ho⟩, h3, h4, h5⟩ := h
  exact ⟨⟨tE, vT, vE, vO, vR, hp.onF x⟩, ⟨M, Nat.le_trans hM x.size, ho.wr (x.mono fun _ _ _ hd => .inr fun ht => by obtain ⟨_, rfl⟩ := hd; rcases ht with h | h | h | h | h <;> exact absurd h (by decide))⟩, Nat.le_trans h3 x.size, h4, h5⟩
/-- What the reading of resources may change. -/
def ChgX (B k : Nat) (t : TypeId) : Prop := B ≤ k ∧ (TyP t ∨ TyE t)
theorem chgX_fault {B k : Nat} : ¬ ChgX B k 88 := by
  rintro ⟨_, (h | h | h | h | h | h) | (h | h | h | h | h)⟩ <;> exact absurd h (by decide)
theorem chgP_X {B k : Nat} {t : TypeId} (h : ChgP B k t) : ChgX B k t := ⟨h.1, .inl h.2⟩
theorem chgE_X {B Be k : Nat} {t : TypeId} (hb : B ≤ Be) (h : ChgE B Be k t) : ChgX B k t := by
  rcases h with ⟨h1, rfl | rfl⟩ | ⟨h1, h2⟩
  · exact ⟨h1, .inl (.inl rfl)⟩
  · exact ⟨h1, .inl (.inr (.inr (.inr (.inr (.inr rfl)))))⟩
  · exact ⟨Nat.le_trans hb h1, .inr h2⟩
theorem chgP_past {B M k : Nat} {t : TypeId} (h : ChgP B k t) : Past M k t := .inr fun ht => by
  rcases h with ⟨_, h | h | h | h | h | h⟩ <;> subst h <;> rcases ht with h | h | h | h | h <;> exact absurd h (by decide)
theorem chgE_past {B Be M k : Nat} {t : TypeId} (hm : M ≤ Be) (h : ChgE B Be k t) : Past M k t := by
  rcases h with ⟨_, h | h⟩ | ⟨h1, _⟩
  · exact .inr fun ht => by subst h; rcases ht with h | h | h | h | h <;> exact absurd h (by decide)
  · exact .inr fun ht => by subst h; rcases ht with h | h | h | h | h <;> exact absurd h (by decide)
  · exact .inl (Nat.le_trans hm h1)
/-- What the reading of a resource answers. -/
def ResoIs (B : Nat) (w : World) (P : Nat) (ts : List Tok) (r : Except Flt (Nat × List EntD × List (IDd × Nat))) (e : Ending) (w' : World) : Prop :=
  Hid (Wr (ChgX B) w w') ∧ ((∃ en pl, Hid (r = .error (en, pl)) ∧ en ≠ 0 ∧ e = .returned (.agg #[.int .i64 en, .int .i64 pl])) ∨
    ∃ i' es' rf' bs', Hid (r = .ok (i', es', rf')) ∧ e = .returned (.agg #[.int .i64 0, .int .i64 0]) ∧ Hid (Std B w' P ts i' bs' es' rf'))
end Go.Proofs.YtfmcgdglalljgaaGreatDoor

namespace Go.Proofs.YtfmcgdglalljgaaGreatDoor
open Go.RowKit

theorem headS_few {ts : List Tok} {i : Nat} {es : List EntD} {i' : Nat} {e' : EntD} (h : headS ts i es = .ok (i', e')) : es.length ≠ 12 := by
  unfold headS at h
  split at h
  · cases h
  · split at h
    · cases h
    · split at h
      · cases h
      · assumption
/-- What is left of a resource behind its lines. -/
def resT (ts : List Tok) (es : List EntD) (r : Except Flt (Nat × EntD × List (IDd × Nat))) : Except Flt (Nat × List EntD × List (IDd × Nat)) := match r with
  | .error x => .error x
  | .ok (i, e, rf) => match takeS ts i 5 with
    | .error x => .error x
    | .ok (_, i) => .ok (i, es ++ [e], rf)
set_option maxRecDepth 100000 in
set_option maxHeartbeats 3200000 in
theorem readResourceP {B : Nat} {w : World} {P : Nat} {ts : List Tok} {i : Nat} {bs : List Nat} {es : List EntD} {rf : List (IDd × Nat)} (h : Std B w P ts i bs es rf) (hn : ts.length ≤ 1000000) (he : TsEnd ts) (hi : i < ts.length) :
    Calls Tryz.prog 70 #[.pointer (some ⟨P, 0, none⟩)] w (ResoIs B w P ts (resS ts i es rf)) := by
  obtain ⟨⟨tE, vT, vE, vO, vR, hp⟩, ⟨M, hM, ho⟩, hB, h12, hf⟩ := h
  have O0 := hide (heap_alloc_new w (.cells #[.int .i64 0, .int .i64 0] 88))
  have W0 : Hid (Wr (ChgX B) w (w.alloc (.cells #[.int .i64 0, .int .i64 0] 88))) := Wr.ext ((Ext.refl w).alloc _)
  have hhd := hide (readHeadP (hp.ext ((Ext.refl w).alloc (.cells #[.int .i64 0, .int .i64 0] 88))) hn he hi (Nat.le_trans hB (Ext.size ((Ext.refl w).alloc _))) es (rsOf_has ho.1) (rsOf_len ho.1) ho.1 h12 hf)
  have ho0 := hide (ho.ext ((Ext.refl w).alloc (.cells #[.int .i64 0, .int .i64 0] 88)))
  have hsz0 : Hid (w.heap.size ≤ (w.alloc (.cells #[.int .i64 0, .int .i64 0] 88)).heap.size) := Ext.size ((Ext.refl w).alloc _)
  replace hp := hide hp; replace ho := hide ho; replace he := hide he; replace hi := hide hi; replace hM := hide hM
  go_enter Tryz.func70, Tryz.ntmps70
  go_wp2_with fail
  refine hhd.out.mono ?_
  rintro e1 w1 ⟨hW1, ⟨en, pl, hr, hne, rfl⟩ | ⟨i1, x1, b, Be, hr, rfl, hBe, hF1⟩⟩
  · have hne1 : (en != 0) = true := by simpa using hne
    have hfin : Hid (resS ts i es rf = .error (en, pl)) := by
      show _ = _
      unfold resS; rw [hr.out]
    have O1 := hide (Wr.keeps hW1.out O0.out chgP_fault)
    have W1 : Hid (Wr (ChgX B) w w1) := W0.out.trans (hW1.out.mono fun _ _ _ hd => chgP_X hd)
    go_wp2_with fail
    refine (faultIs _ _ _).mono ?_; rintro e2 w2 ⟨rfl, hw2⟩
    have X2 : Hid (Ext w1 w2) := (by show Ext _ _; rw [hw2]; exact (((Ext.refl w1).alloc _).alloc _))
    have F2 := (hw2 ▸ ext_heap ((Ext.refl _).alloc (.cells #[.int .i64 en, .int .i64 pl] 88)) (heap_alloc_new w1 (.cells #[.int .i64 en, .int .i64 pl] 88)) : w2.heap[w1.heap.size]? = some (.cells #[.int .i64 en, .int .i64 pl] 88))
    have O2 := ext_heap X2.out O1.out
    clear hw2
    have f0 := two_c0 F2; have f1 := two_c1 F2; have o0 := two_c0 O2; have o1 := two_c1 O2; have fO := row_frozen O2
    replace F2 := hide F2; replace O2 := hide O2
    go_wp2_with fail
    refine bodyPost_ret (v := .agg #[.int .i64 en, .int .i64 pl]) (by simp [results, Tryz.results70, go_sem, o0, o1]) rfl ?_
    have W : Wr (ChgX B) w w2 := W1.out.trans (Wr.ext X2.out)
    exact ⟨(W.setNew (p := ⟨w.heap.size, 0, none⟩) (Nat.le_refl _) _).setNew (p := ⟨w.heap.size, 1, none⟩) (Nat.le_refl _) _, .inl ⟨en, pl, hfin, hne, rfl⟩⟩
  · have O1 := hide (Wr.keeps hW1.out O0.out chgP_fault)
    have W1 : Hid (Wr (ChgX B) w w1) := W0.out.trans (hW1.out.mono fun _ _ _ hd => chgP_X hd)
    have ho1 := hide (ho0.out.wr (hW1.out.mono fun _ _ _ hd => chgP_past hd))
    have hst : Hid (resS ts i es rf = match takeS ts i1 4 with
      | .error x => .error x
      | .ok (_, i) => resT ts es (linesS ts ts.length i x1 rf)) := by
      show _ = _
      unfold resS; rw [hr.out]; rfl
    have hMB : Hid (M ≤ Be) := Nat.le_trans hM.out (Nat.le_trans hsz0.out hBe.out)
    have hj1 := hide (headS_in he.out hr.out)
    go_wp2_with fail
    refine (faultIs _ _ _).mono ?_; rintro e2 w2 ⟨rfl, hw2⟩
    have X2 : Hid (Ext w1 w2) := (by show Ext _ _; rw [hw2]; exact ((Ext.refl w1).alloc _).alloc _)
    have G2 := hide (hw2 ▸ ext_heap ((Ext.refl _).alloc (.cells #[.int .i64 0, .int .i64 0] 88)) (heap_alloc_new w1 (.cells #[.int .i64 0, .int .i64 0] 88)) : w2.heap[w1.heap.size]? = some (.cells #[.int .i64 0, .int .i64 0] 88))
    have hlt1 := hide (Array.getElem?_eq_some_iff.1 O1.out).1
    clear hw2
    have hF2 := hide (hF1.out.ext X2.out); have O2 := hide (ext_heap X2.out O1.out)
    have W2 : Hid (Wr (ChgX B) w w2) := W1.out.trans (Wr.ext X2.out)
    have ho2 := hide (ho1.out.ext X2.out)
    clear hF1 O1 W1 X2 hW1 ho1 ho0
    obtain ⟨t2, h2⟩ := TsEnd.there hj1.out
    by_cases k2 : t2.kind = 4
    · rw [take_ok h2 k2] at hst
      have hj2 := he.out.next h2 (by omega)
      replace h2 := hide h2; replace k2 := hide k2
      go_wp2_with fail
      refine (takeF hF2.out h2.out hn k2.out).mono ?_; rintro e3 w3 ⟨rfl, hF3, hW3⟩
      have O3 := hide (Wr.keeps hW3.out O2.out chgE_fault)
      have G3 := hide (Wr.keeps hW3.out G2.out chgE_fault)
      go_wp2_with fail
      refine (faultIs _ _ _).mono ?_; rintro e4 w4 ⟨rfl, hw4⟩
      have X4 : Hid (Ext w3 w4) := (by show Ext _ _; rw [hw4]; exact ((((Ext.refl w3).alloc _).alloc _).alloc _))
      clear hw4
      have hF4 := hide (hF3.out.ext X4.out); have O4 := hide (ext_heap X4.out O3.out); have G4 := hide (ext_heap X4.out G3.out)
      have W4 : Hid (Wr (ChgX B) w w4) := W2.out.trans ((hW3.out.mono fun _ _ _ hd => chgE_X hF2.out.base hd).trans (Wr.ext X4.out))
      have ho4 := hide ((ho2.out.wr (hW3.out.mono fun _ _ _ hd => chgE_past hMB.out hd)).ext X4.out)
      clear hF3 O3 G3 hW3 X4 hF2 O2 G2 W2 ho2
      go_wp2_with fail
      go_loopw [] (fun wr => ∃ (f j : Nat) (x : EntD) (rfj : List (IDd × Nat)), Hid (Fits B Be wr P b ts j (insE (rsOf es bs) ⟨x1.id, b⟩) (bs ++ [b]) rfj x) ∧ Hid (Wr (ChgX B) w wr) ∧ Hid (Olds M wr bs es) ∧ Hid (wr.heap[w.heap.size]? = some (.cells #[.int .i64 0, .int .i64 0] 88)) ∧ Hid (wr.heap[w1.heap.size]? = some (.cells #[.int .i64 0, .int .i64 0] 88)) ∧ Hid (resS ts i es rf = resT ts es (linesS ts f j x rfj)) ∧ Hid (x.id = x1.id) ∧ j < ts.length ∧ ts.length ≤ f + j) (fun wr => ts.length - atOf wr P)
      case atStart => exact ⟨ts.length, i1 + 1, x1, rf, hF4, W4, ho4, O4, G4, hst, rfl, hj2, by omega⟩
      case round =>
        clear hF4 W4 ho4 O4 G4 hst hj2
        obtain ⟨f, j, x, rfj, hF, hW, ho, hO, hG, hst, hid, hlt, hfu⟩ := hrel
        obtain ⟨t, ht⟩ := TsEnd.there hlt
        have hpk := hide (peekF hF.out ht)
        obtain ⟨f', rfl⟩ : ∃ f', f = f' + 1 := ⟨f - 1, by omega⟩
        by_cases hk : t.kind = 5
        · have hk1 : ((t.kind : Int) != 5) = false := by simp [hk]
          have hfin : Hid (resS ts i es rf = .ok (j + 1, es ++ [x], rfj)) := by
            show _ = _
            rw [hst.out]; unfold linesS; rw [if_pos ((kind_at ht).trans hk)]; unfold resT; dsimp only; rw [take_ok ht hk]
          replace ht := hide ht; replace hk := hide hk
          go_wp2_with fail
          refine hpk.out.mono ?_; rintro e5 w5 ⟨rfl, he5⟩
          have hF5 := hide (hF.out.ext he5.out)
          go_wp2_with fail
          refine (takeF hF5.out ht.out hn hk.out).mono ?_; rintro e6 w6 ⟨rfl, hF6, hW6⟩

          have O6 := hide (Wr.keeps hW6.out (ext_heap he5.out hO.out) chgE_fault); have G6 := hide (Wr.keeps hW6.out (ext_heap he5.out hG.out) chgE_fault)
          have W6 : Hid (Wr (ChgX B) w w6) := hW.out.trans ((Wr.ext he5.out).trans (hW6.out.mono fun _ _ _ hd => chgE_X hF.out.base hd))
          have ho6 := hide ((ho.out.ext he5.out).wr (hW6.out.mono fun _ _ _ hd => chgE_past hMB.out hd))
          have g0 := two_c0 G6.out; have g1 := two_c1 G6.out; have fG := row_frozen G6.out
          have o0 := two_c0 O6.out; have o1 := two_c1 O6.out; have fO := row_frozen O6.out
          have d1 : ¬ w.heap.size = w1.heap.size := by have := hlt1.out; omega
          have d2 : ¬ w1.heap.size = w.heap.size := by have := hlt1.out; omega
          have WG := Wr.ofF G6.out (.int .i64 0) (.int .i64 0)
          have OZ := Wr.keeps WG O6.out (fun hd => d1 hd.1)
          replace OZ := hide OZ; replace WG := hide WG
          go_wp2_with fail
          refine bodyPost_ret (v := .agg #[.int .i64 0, .int .i64 0]) (by simp [results, Tryz.results70, go_sem, o0, o1]) rfl ?_
          have WF := Wr.ofF OZ.out (.int .i64 0) (.int .i64 0)
          have hS : Std B w6 P ts (j + 1) (bs ++ [b]) (es ++ [x]) rfj := by
            refine ⟨?_, ⟨w6.heap.size, Nat.le_refl _, ho6.out.snoc (Nat.le_trans hMB.out hF6.out.size) hF6.out.ent⟩, Nat.le_trans hF6.out.base hF6.out.size, ?_, hF6.out.refsFew⟩
            · rw [rsOf_snoc ho6.out.1, hid.out]; exact hF6.out.par
            · have := headS_few hr.out; simp; omega
          exact ⟨(W6.out.thenNew WG.out fun j t hd => by have := hd.1; have := hlt1.out; omega).thenNew WF fun j t hd => by have := hd.1; omega, .inr ⟨j + 1, es ++ [x], rfj, bs ++ [b], hfin, rfl, (hS.onF WG.out).onF WF⟩⟩
        · have hk1 : ((t.kind : Int) != 5) = true := by simp; omega
          have hka : kindAt ts j ≠ 5 := by rw [kind_at ht]; exact hk
          replace ht := hide ht; replace hk := hide hk
          go_wp2_with fail
          refine hpk.out.mono ?_; rintro e5 w5 ⟨rfl, he5⟩
          have hF5 := hide (hF.out.ext he5.out)
          go_wp2_with fail
          refine (readLineP hF5.out hn he.out hlt).mono ?_
          rintro e6 w6 ⟨hW6, ⟨en, pl, hr6, hne, rfl⟩ | ⟨i6, x6, rf6, hr6, rfl, hF6⟩⟩
          · have hne1 : (en != 0) = true := by simpa using hne
            have hfin : Hid (resS ts i es rf = .error (en, pl)) := by
              show _ = _
              rw [hst.out]; unfold linesS; rw [if_neg hka, hr6.out]; rfl
            have O6 := hide (Wr.keeps hW6.out (ext_heap he5.out hO.out) chgE_fault)
            have W6 : Hid (Wr (ChgX B) w w6) := hW.out.trans ((Wr.ext he5.out).trans (hW6.out.mono fun _ _ _ hd => chgE_X hF.out.base hd))
            go_wp2_with fail
            refine (faultIs _ _ _).mono ?_; rintro e7 w7 ⟨rfl, hw7⟩
            have X7 : Hid (Ext w6 w7) := (by show Ext _ _; rw [hw7]; exact (((Ext.refl w6).alloc _).alloc _))
            have F7 := (hw7 ▸ ext_heap ((Ext.refl _).alloc (.cells #[.int .i64 en, .int .i64 pl] 88)) (heap_alloc_new w6 (.cells #[.int .i64 en, .int .i64 pl] 88)) : w7.heap[w6.heap.size]? = some (.cells #[.int .i64 en, .int .i64 pl] 88))
            have O7 := ext_heap X7.out O6.out
            clear hw7
            have f0 := two_c0 F7; have f1 := two_c1 F7; have o0 := two_c0 O7; have o1 := two_c1 O7; have fO := row_frozen O7
            replace F7 := hide F7; replace O7 := hide O7
            go_wp2_with fail
            refine bodyPost_ret (v := .agg #[.int .i64 en, .int .i64 pl]) (by simp [results, Tryz.results70, go_sem, o0, o1]) rfl ?_
            have W : Wr (ChgX B) w w7 := W6.out.trans (Wr.ext X7.out)
            exact ⟨(W.setNew (p := ⟨w.heap.size, 0, none⟩) (Nat.le_refl _) _).setNew (p := ⟨w.heap.size, 1, none⟩) (Nat.le_refl _) _, .inl ⟨en, pl, hfin, hne, rfl⟩⟩
          · have O6 := hide (Wr.keeps hW6.out (ext_heap he5.out hO.out) chgE_fault); have G6 := hide (Wr.keeps hW6.out (ext_heap he5.out hG.out) chgE_fault)
            have W6 : Hid (Wr (ChgX B) w w6) := hW.out.trans ((Wr.ext he5.out).trans (hW6.out.mono fun _ _ _ hd => chgE_X hF.out.base hd))
            have ho6 := hide ((ho.out.ext he5.out).wr (hW6.out.mono fun _ _ _ hd => chgE_past hMB.out hd))
            have hi6 := lineS_in he.out hr6.out
            have hst6 : Hid (resS ts i es rf = resT ts es (linesS ts f' i6 x6 rf6)) := by
              show _ = _
              rw [hst.out]; conv => lhs; unfold linesS
              rw [if_neg hka, hr6.out]
            go_wp2_with fail
            refine (faultIs _ _ _).mono ?_; rintro e7 w7 ⟨rfl, hw7⟩
            have X7 : Hid (Ext w6 w7) := (by show Ext _ _; rw [hw7]; exact (((Ext.refl w6).alloc _).alloc _))
            clear hw7
            have O7 := hide (ext_heap X7.out O6.out); have G7 := hide (ext_heap X7.out G6.out)
            have hF7 := hide (hF6.out.ext X7.out)
            have W7 : Hid (Wr (ChgX B) w w7) := W6.out.trans (Wr.ext X7.out)
            have ho7 := hide (ho6.out.ext X7.out)
            go_wp2_with fail
            go_roundw
            case rel => exact ⟨f', i6, x6, rf6, hF7, W7, ho7, O7, G7, hst6, hi6.2.2.trans hid.out, hi6.2.1, by omega⟩
            case measure =>
              rw [hF7.out.at_, hF.out.at_]; omega
    · have hfin : Hid (resS ts i es rf = .error (6, t2.place)) := by
        show _ = _
        rw [hst.out, take_no h2 k2]
      replace h2 := hide h2; replace k2 := hide k2
      go_wp2_with fail
      refine (takeFN hF2.out h2.out hn k2.out).mono ?_; rintro e3 w3 ⟨rfl, he3⟩
      have O3 := hide (ext_heap he3.out O2.out)
      have W3 : Hid (Wr (ChgX B) w w3) := W2.out.trans (Wr.ext he3.out)
      go_wp2_with fail
      refine (faultIs _ _ _).mono ?_; rintro e4 w4 ⟨rfl, hw4⟩
      have X4 : Hid (Ext w3 w4) := (by show Ext _ _; rw [hw4]; exact ((((Ext.refl w3).alloc _).alloc _).alloc _))
      have F4 := (hw4 ▸ ext_heap ((Ext.refl _).alloc (.cells #[.int .i64 6, .int .i64 t2.place] 88)) (two_hi w3 (.cells #[.int .i64 0, .int .i64 0, .string ⟨#[]⟩, .int .i64 0] 120) (.cells #[.int .i64 6, .int .i64 t2.place] 88)) : w4.heap[w3.heap.size + 1]? = some (.cells #[.int .i64 6, .int .i64 t2.place] 88))
      have O4 := ext_heap X4.out O3.out
      clear hw4
      have f0 := two_c0 F4; have f1 := two_c1 F4; have o0 := two_c0 O4; have o1 := two_c1 O4; have fO := row_frozen O4
      replace F4 := hide F4; replace O4 := hide O4
      go_wp2_with fail
      refine bodyPost_ret (v := .agg #[.int .i64 6, .int .i64 t2.place]) (by simp [results, Tryz.results70, go_sem, o0, o1]) rfl ?_
      have W : Wr (ChgX B) w w4 := W3.out.trans (Wr.ext X4.out)
      exact ⟨(W.setNew (p := ⟨w.heap.size, 0, none⟩) (Nat.le_refl _) _).setNew (p := ⟨w.heap.size, 1, none⟩) (Nat.le_refl _) _, .inl ⟨6, t2.place, hfin, by decide, rfl⟩⟩
end Go.Proofs.YtfmcgdglalljgaaGreatDoor

namespace Go.Proofs.YtfmcgdglalljgaaGreatDoor
open Go.RowKit

theorem resS_in {ts : List Tok} (he : TsEnd ts) {i : Nat} {es : List EntD} {rf : List (IDd × Nat)} {i' : Nat} {es' : List EntD} {rf' : List (IDd × Nat)} (h : resS ts i es rf = .ok (i', es', rf')) : i < i' ∧ i' < ts.length := by
  unfold resS at h
  split at h
  · cases h
  · rename_i i1 e1 h1
    have g0 := headS_up he h1
    split at h
    · cases h
    · rename_i _ i2 h2
      have g2 := take_in he h2 (by decide)
      split at h
      · cases h
      · rename_i i3 e3 rf3 h3
        have g3 := linesS_in he _ g2.2 h3
        split at h
        · cases h
        · rename_i _ i4 h4
          have g4 := take_in he h4 (by decide)
          cases h
          exact ⟨by omega, g4.2⟩
/-- Where the parser stands. -/
theorem Std.at_ {B : Nat} {w : World} {P : Nat} {ts : List Tok} {i : Nat} {bs : List Nat} {es : List EntD} {rf : List (IDd × Nat)} (h : Std B w P ts i bs es rf) : atOf w P = i := by
  obtain ⟨tE, vT, vE, vO, vR, hp⟩ := h.par
  unfold atOf
  rw [(five_cells hp.box).2.1]
  simp [intOf]
theorem peekS {B : Nat} {w : World} {P : Nat} {ts : List Tok} {i : Nat} {bs : List Nat} {es : List EntD} {rf : List (IDd × Nat)} (h : Std B w P ts i bs es rf) {t : Tok} (ht : ts[i]? = some t) :
    Calls Tryz.prog 69 #[.pointer (some ⟨P, 0, none⟩)] w fun e w' => e = .returned (.int .i64 t.kind) ∧ Hid (Ext w w') := by
  obtain ⟨tE, vT, vE, vO, vR, hp⟩ := h.par
  exact peekP hp ht
/-- What the reading of a text answers. -/
def TextIs (B : Nat) (w : World) (P : Nat) (ts : List Tok) (r : Except Flt (List EntD × List (IDd × Nat))) (e : Ending) (w' : World) : Prop :=
  Hid (Wr (ChgX B) w w') ∧ ((∃ en pl, Hid (r = .error (en, pl)) ∧ en ≠ 0 ∧ e = .returned (.agg #[.int .i64 en, .int .i64 pl])) ∨
    ∃ i' es' rf' bs', Hid (r = .ok (es', rf')) ∧ e = .returned (.agg #[.int .i64 0, .int .i64 0]) ∧ Hid (Std B w' P ts i' bs' es' rf') ∧ Hid (i' < ts.length))

set_option maxRecDepth 100000 in
set_option maxHeartbeats 3200000 in
theorem readTextP {B : Nat} {w : World} {P : Nat} {ts : List Tok} {i : Nat} {bs : List Nat} {es : List EntD} {rf : List (IDd × Nat)} (h : Std B w P ts i bs es rf) (hn : ts.length ≤ 1000000) (he : TsEnd ts) (hi : i < ts.length) :
    Calls Tryz.prog 41 #[.pointer (some ⟨P, 0, none⟩)] w (TextIs B w P ts (textS ts ts.length i es rf)) := by
  have hS0 := hide (h.ext ((Ext.refl w).alloc (.cells #[.int .i64 0, .int .i64 0] 88)))
  have O0 := hide (heap_alloc_new w (.cells #[.int .i64 0, .int .i64 0] 88))
  have W0 : Hid (Wr (ChgX B) w (w.alloc (.cells #[.int .i64 0, .int .i64 0] 88))) := Wr.ext ((Ext.refl w).alloc _)
  replace h := hide h; replace he := hide he
  go_enter Tryz.func41, Tryz.ntmps41
  go_wp2_with fail
  generalize w.alloc (.cells #[.int .i64 0, .int .i64 0] 88) = wx at *
  go_loopw [] (fun wr => ∃ (f j : Nat) (bsj : List Nat) (esj : List EntD) (rfj : List (IDd × Nat)), Hid (Std B wr P ts j bsj esj rfj) ∧ Hid (Wr (ChgX B) w wr) ∧ Hid (wr.heap[w.heap.size]? = some (.cells #[.int .i64 0, .int .i64 0] 88)) ∧ Hid (textS ts ts.length i es rf = textS ts f j esj rfj) ∧ j < ts.length ∧ ts.length ≤ f + j) (fun wr => ts.length - atOf wr P)
  case atStart => exact ⟨ts.length, i, bs, es, rf, hS0, W0, O0, rfl, hi, by omega⟩
  case round =>
    clear hS0 W0 O0 hi
    obtain ⟨f, j, bsj, esj, rfj, hS, hW, hO, hst, hlt, hfu⟩ := hrel
    obtain ⟨t, ht⟩ := TsEnd.there hlt
    have hpk := hide (peekS hS.out ht)
    obtain ⟨f', rfl⟩ : ∃ f', f = f' + 1 := ⟨f - 1, by omega⟩
    by_cases hk : t.kind = 11
    · have hk1 : ((t.kind : Int) != 11) = false := by simp [hk]
      have hfin : Hid (textS ts ts.length i es rf = .ok (esj, rfj)) := by
        show _ = _
        rw [hst.out]; unfold textS; rw [if_pos ((kind_at ht).trans hk)]
      replace ht := hide ht; replace hk := hide hk
      go_wp2_with fail
      refine hpk.out.mono ?_; rintro e5 w5 ⟨rfl, he5⟩
      have hS5 := hide (hS.out.ext he5.out)
      have O5 := ext_heap he5.out hO.out
      have W5 : Hid (Wr (ChgX B) w w5) := hW.out.trans (Wr.ext he5.out)
      have o0 := two_c0 O5; have o1 := two_c1 O5; have fO := row_frozen O5
      replace O5 := hide O5
      go_wp2_with fail
      refine bodyPost_ret (v := .agg #[.int .i64 0, .int .i64 0]) (by simp [results, Tryz.results41, go_sem, o0, o1]) rfl ?_
      have WF := Wr.ofF O5.out (.int .i64 0) (.int .i64 0)
      exact ⟨W5.out.thenNew WF fun j t hd => by have := hd.1; omega, .inr ⟨j, esj, rfj, bsj, hfin, rfl, hS5.out.onF WF, hlt⟩⟩
    · have hk1 : ((t.kind : Int) != 11) = true := by simp; omega
      have hka : kindAt ts j ≠ 11 := by rw [kind_at ht]; exact hk
      replace ht := hide ht; replace hk := hide hk
      go_wp2_with fail
      refine hpk.out.mono ?_; rintro e5 w5 ⟨rfl, he5⟩
      have hS5 := hide (hS.out.ext he5.out)
      go_wp2_with fail
      refine (readResourceP hS5.out hn he.out hlt).mono ?_
      rintro e6 w6 ⟨hW6, ⟨en, pl, hr6, hne, rfl⟩ | ⟨i6, es6, rf6, bs6, hr6, rfl, hS6⟩⟩
      · have hne1 : (en != 0) = true := by simpa using hne
        have hfin : Hid (textS ts ts.length i es rf = .error (en, pl)) := by
          show _ = _
          rw [hst.out]; unfold textS; rw [if_neg hka, hr6.out]
        have O6 := hide (Wr.keeps hW6.out (ext_heap he5.out hO.out) chgX_fault)
        have W6 : Hid (Wr (ChgX B) w w6) := hW.out.trans ((Wr.ext he5.out).trans hW6.out)
        go_wp2_with fail
        refine (faultIs _ _ _).mono ?_; rintro e7 w7 ⟨rfl, hw7⟩
        have X7 : Hid (Ext w6 w7) := (by show Ext _ _; rw [hw7]; exact (((Ext.refl w6).alloc _).alloc _))
        have F7 := (hw7 ▸ ext_heap ((Ext.refl _).alloc (.cells #[.int .i64 en, .int .i64 pl] 88)) (heap_alloc_new w6 (.cells #[.int .i64 en, .int .i64 pl] 88)) : w7.heap[w6.heap.size]? = some (.cells #[.int .i64 en, .int .i64 pl] 88))
        have O7 := ext_heap X7.out O6.out
        clear hw7
        have f0 := two_c0 F7; have f1 := two_c1 F7; have o0 := two_c0 O7; have o1 := two_c1 O7; have fO := row_frozen O7
        replace F7 := hide F7; replace O7 := hide O7
        go_wp2_with fail
        refine bodyPost_ret (v := .agg #[.int .i64 en, .int .i64 pl]) (by simp [results, Tryz.results41, go_sem, o0, o1]) rfl ?_
        have W : Wr (ChgX B) w w7 := W6.out.trans (Wr.ext X7.out)
        exact ⟨(W.setNew (p := ⟨w.heap.size, 0, none⟩) (Nat.le_refl _) _).setNew (p := ⟨w.heap.size, 1, none⟩) (Nat.le_refl _) _, .inl ⟨en, pl, hfin, hne, rfl⟩⟩
      · have O6 := hide (Wr.keeps hW6.out (ext_heap he5.out hO.out) chgX_fault)
        have W6 : Hid (Wr (ChgX B) w w6) := hW.out.trans ((Wr.ext he5.out).trans hW6.out)
        have hi6 := resS_in he.out hr6.out
        have hst6 : Hid (textS ts ts.length i es rf = textS ts f' i6 es6 rf6) := by
          show _ = _
          rw [hst.out]; conv => lhs; unfold textS
          rw [if_neg hka, hr6.out]
        go_wp2_with fail
        refine (faultIs _ _ _).mono ?_; rintro e7 w7 ⟨rfl, hw7⟩
        have X7 : Hid (Ext w6 w7) := (by show Ext _ _; rw [hw7]; exact (((Ext.refl w6).alloc _).alloc _))
        clear hw7
        have O7 := hide (ext_heap X7.out O6.out)
        have hS7 := hide (hS6.out.ext X7.out)
        have W7 : Hid (Wr (ChgX B) w w7) := W6.out.trans (Wr.ext X7.out)
        go_wp2_with fail
        go_roundw
        case rel => exact ⟨f', i6, bs6, es6, rf6, hS7, W7, O7, hst6, hi6.2, by omega⟩
        case measure =>
          rw [hS7.out.at_, hS.out.at_]; omega
end Go.Proofs.YtfmcgdglalljgaaGreatDoor
