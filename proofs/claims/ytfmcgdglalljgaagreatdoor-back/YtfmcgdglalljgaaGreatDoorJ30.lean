/-
  Parse: what the program answers.
-/
/-
  What was printed is read as it was, on plain lists: from the tokens back to resources.
-/
import Derived.Test.YtfmcgdglalljgaaGreatDoorJ29
import Derived.Test.YtfmcgdglalljgaaGreatDoorJ28
namespace Go.Proofs.YtfmcgdglalljgaaGreatDoor
open Go.RowKit

/-- Entries by rising IDs. -/
def insN (l : List EntD) (x : EntD) : List EntD := l.takeWhile (fun q => decide (cmpI q.id x.id < 0)) ++ x :: l.dropWhile (fun q => decide (cmpI q.id x.id < 0))
def srtN (es : List EntD) : List EntD := es.foldl insN []
theorem qsOf_fst {es : List EntD} {bs : List Nat} (h : bs.length = es.length) : (qsOf es bs).map Prod.fst = srtN es := by
  have key : ∀ (es : List EntD) (bs : List Nat) (qs : List (EntD × Nat)), bs.length = es.length → ((es.zip bs).foldl insP qs).map Prod.fst = es.foldl insN (qs.map Prod.fst) := by
    intro es
    induction es with
    | nil => intro bs qs _; simp
    | cons e es ih =>
      intro bs qs hl
      cases bs with
      | nil => simp at hl
      | cons b bs =>
        rw [List.zip_cons_cons, List.foldl_cons, List.foldl_cons, ih bs _ (by simpa using hl)]
        congr 1
        unfold insP insN
        rw [List.map_append, List.map_cons, List.takeWhile_map, List.dropWhile_map]
        rfl
  exact key es bs [] h
theorem insN_mem {l : List EntD} {x y : EntD} : y ∈ insN l x ↔ y = x ∨ y ∈ l := by
  unfold insN
  conv => rhs; rw [← List.takeWhile_append_dropWhile (p := fun q : EntD => decide (cmpI q.id x.id < 0)) (l := l)]
  simp only [List.mem_append, List.mem_cons]
  constructor
  · rintro (h | h | h)
    · exact .inr (.inl h)
    · exact .inl h
    · exact .inr (.inr h)
  · rintro (h | h | h)
    · exact .inr (.inl h)
    · exact .inl h
    · exact .inr (.inr h)
theorem insN_len {l : List EntD} {x : EntD} : (insN l x).length = l.length + 1 := by
  unfold insN
  have := congrArg List.length (List.takeWhile_append_dropWhile (p := fun q : EntD => decide (cmpI q.id x.id < 0)) (l := l))
  simp only [List.length_append, List.length_cons] at this ⊢
  omega
theorem srtN_mem {es : List EntD} {y : EntD} : y ∈ srtN es ↔ y ∈ es := by
  have key : ∀ (es l : List EntD), y ∈ es.foldl insN l ↔ y ∈ es ∨ y ∈ l := by
    intro es
    induction es with
    | nil => intro l; simp
    | cons e es ih =>
      intro l
      rw [List.foldl_cons, ih, insN_mem, List.mem_cons]
      constructor
      · rintro (h | h | h)
        · exact .inl (.inr h)
        · exact .inl (.inl h)
        · exact .inr h
      · rintro ((h | h) | h)
        · exact .inr (.inl h)
        · exact .inl h
        · exact .inr (.inr h)
  unfold srtN
  rw [key]; simp
theorem srtN_len (es : List EntD) : (srtN es).length = es.length := by
  have key : ∀ (es l : List EntD), (es.foldl insN l).length = l.length + es.length := by
    intro es
    induction es with
    | nil => intro l; simp
    | cons e es ih => intro l; rw [List.foldl_cons, ih, insN_len, List.length_cons]; omega
  unfold srtN
  rw [key]; simp
theorem allAfter_few : ∀ (l : List Resd), (∀ x ∈ l, x.after.length ≤ 6) → (allAfter l).length ≤ l.length * 6
  | [], _ => by simp [allAfter]
  | x :: l, h => by
    have h1 := allAfter_few l fun y hy => h y (List.mem_cons_of_mem _ hy)
    have h2 := h x List.mem_cons_self
    simp only [allAfter, List.flatMap_cons, List.length_append, List.length_cons] at h1 ⊢
    omega
open Classical in
/-- What Parse answers: resources, an error, its place. -/
noncomputable def parseS (l : List UInt8) : List Resd × Flt :=
  if 2000 < l.length then ([], (1, 0))
  else if (cutL l).2.1 ≠ 0 then ([], (cutL l).2)
  else match textS (cutL l).1 (cutL l).1.length 0 [] [] with
    | .error f => ([], f)
    | .ok (es, rf) => if (refsF es rf).1 ≠ 0 then ([], refsF es rf)
      else if (circF ((srtN es).map resOf) es).1 ≠ 0 then ([], circF ((srtN es).map resOf) es)
      else ((srtN es).map resOf, (0, 0))
/-- What an answer of Parse is. -/
def ParseIs (w : World) (r : List Resd × Flt) (e : Ending) (w' : World) : Prop :=
  ∃ v ps, e = .returned (.tuple #[v, .int .i64 r.2.1, .int .i64 r.2.2]) ∧ Hid (ps.map ResP.x = r.1) ∧ Hid (RessAt w.heap.size w' v ps) ∧ Hid (r.2.1 ≠ 0 → v = .slice none 0 0) ∧ Hid (Ext w w')

set_option maxRecDepth 100000 in
set_option maxHeartbeats 1600000 in
theorem parseP (s : ByteArray) (w : World) :
    Calls Tryz.prog 15 #[.string s] w (ParseIs w (parseS s.data.toList)) := by
  have hlen : s.data.toList.length = s.size := Array.length_toList
  classical
  by_cases h0 : 2000 < s.size
  · have hi : (2000 : Int) < (s.size : Int) := by omega
    have hfin : Hid (parseS s.data.toList = ([], (1, 0))) := by
      show _ = _
      unfold parseS; rw [if_pos (by omega)]
    replace h0 := hide h0; replace hlen := hide hlen
    go_enter Tryz.func15, Tryz.ntmps15
    go_wp2_with fail
    refine bodyPost_ret (v := .tuple #[.slice none 0 0, .int .i64 1, .int .i64 0]) (by simp [results, Tryz.results15, go_sem]) rfl ?_
    rw [hfin.out]
    exact ⟨.slice none 0 0, [], rfl, rfl, RessAt.nil _ _, fun _ => rfl, Ext.refl _⟩
  · have hi : ¬ (2000 : Int) < (s.size : Int) := by omega
    have hst : Hid (parseS s.data.toList = if (cutL s.data.toList).2.1 ≠ 0 then ([], (cutL s.data.toList).2) else match textS (cutL s.data.toList).1 (cutL s.data.toList).1.length 0 [] [] with
      | .error f => ([], f)
      | .ok (es, rf) => if (refsF es rf).1 ≠ 0 then ([], refsF es rf)
        else if (circF ((srtN es).map resOf) es).1 ≠ 0 then ([], circF ((srtN es).map resOf) es)
        else ((srtN es).map resOf, (0, 0))) := by
      show _ = _
      unfold parseS; rw [if_neg (by omega)]
    have hcut := cutP s w (by omega)
    have hcl : (cutL s.data.toList).2.1 = 0 → TsEnd (cutL s.data.toList).1 ∧ (∀ t ∈ (cutL s.data.toList).1, TokOk t) ∧ (cutL s.data.toList).1.length ≤ s.data.toList.length + 1 - 0 := cutF_is s.data.toList (s.data.toList.length + 1) 0 (Nat.zero_le _) (by omega)
    generalize parseS s.data.toList = res at *
    generalize cutL s.data.toList = cu at *
    obtain ⟨ts, en, pl⟩ := cu
    dsimp only at *
    replace h0 := hide h0; replace hlen := hide hlen; replace hcut := hide hcut; replace hcl := hide hcl; replace hst := hide hst.out
    by_cases hz : en = 0
    · subst hz
      obtain ⟨hte, hok, htl⟩ := hcl.out rfl
      rw [if_neg (by simp)] at hst
      have hn : ts.length ≤ 1000000 := by have := hlen.out; have := h0.out; omega
      replace hte := hide hte; replace hok := hide hok; replace htl := hide htl
      go_enter Tryz.func15, Tryz.ntmps15
      go_wp2_with fail
      refine hcut.out.mono ?_
      rintro e1 w1 ⟨he1, pa, cap, rfl, hr1⟩
      go_wp2_with fail
      refine (faultIs _ _ _).mono ?_; rintro e2 w2 ⟨rfl, hw2⟩
      have X2 : Hid (Ext w1 w2) := (by show Ext _ _; rw [hw2]; exact ((Ext.refl w1).alloc _).alloc _)
      clear hw2
      have Y2 := hide (he1.out.trans X2.out)
      have hb0 : ((0 : Int) != 0) = false := rfl
      go_wp2_with fail
      refine (newParserP (B := w.heap.size) (ts := ts) (ownsRow_wr (D := fun _ _ => False) hr1.out (Wr.ext X2.out) fun _ _ _ => id) (Ext.size Y2.out)).mono ?_
      rintro e3 w3 ⟨P, rfl, hS3, he3⟩
      have Y3 := hide (Y2.out.trans he3.out)
      go_wp2_with fail
      refine (readTextP hS3.out hn hte.out hte.out.some_).mono ?_
      rintro e4 w4 ⟨hW4, ⟨en, pl', hr4, hne, rfl⟩ | ⟨i4, es, rf, bs, hr4, rfl, hS4, hi4⟩⟩
      · have hne1 : (en != 0) = true := by simpa using hne
        have hfin : Hid (res = ([], (en, pl'))) := by
          show _ = _
          rw [hst.out, hr4.out]
        have Y4 : Hid (Ext w w4) := hW4.out.toExt Y3.out fun j t hd => hd.1
        go_wp2_with fail
        refine (faultIs _ _ _).mono ?_; rintro e5 w5 ⟨rfl, hw5⟩
        have X5 : Hid (Ext w4 w5) := (by show Ext _ _; rw [hw5]; exact ((Ext.refl w4).alloc _).alloc _)
        have F5 := (hw5 ▸ ext_heap ((Ext.refl _).alloc (.cells #[.int .i64 en, .int .i64 pl'] 88)) (heap_alloc_new w4 (.cells #[.int .i64 en, .int .i64 pl'] 88)) : w5.heap[w4.heap.size]? = some (.cells #[.int .i64 en, .int .i64 pl'] 88))
        clear hw5
        have f0 := two_c0 F5; have f1 := two_c1 F5
        replace F5 := hide F5
        go_wp2_with fail
        go_quiet (fail)
        go_wp2_with fail
        refine bodyPost_ret (v := .tuple #[.slice none 0 0, .int .i64 en, .int .i64 pl']) (by simp [results, Tryz.results15, go_sem]) rfl ?_
        rw [hfin.out]
        exact ⟨.slice none 0 0, [], rfl, rfl, RessAt.nil _ _, fun _ => rfl, (Y4.out.trans X5.out).drewN _⟩
      · rw [hr4.out] at hst
        dsimp only at hst
        have Y4 : Hid (Ext w w4) := hW4.out.toExt Y3.out fun j t hd => hd.1
        go_wp2_with fail
        refine (faultIs _ _ _).mono ?_; rintro e5 w5 ⟨rfl, hw5⟩
        have X5 : Hid (Ext w4 w5) := (by show Ext _ _; rw [hw5]; exact ((Ext.refl w4).alloc _).alloc _)
        clear hw5
        have hS5 := hide (hS4.out.ext X5.out); have Y5 := hide (Y4.out.trans X5.out)
        have hrf : Hid (rf.length ≤ 1000000) := by show _ ≤ _; have := hS4.out.refsFew; have := hi4.out; omega
        go_wp2_with fail
        refine (checkRefsP hS5.out hrf.out).mono ?_
        rintro e6 w6 ⟨rfl, he6⟩
        have hS6 := hide (hS5.out.ext he6.out); have Y6 := hide (Y5.out.trans he6.out)
        generalize hrF : refsF es rf = fr at *
        obtain ⟨fe, fp⟩ := fr
        dsimp only at *
        replace hrF := hide hrF
        by_cases hz6 : fe = 0
        · subst hz6
          rw [if_neg (by simp)] at hst
          go_wp2_with fail
          refine (faultIs _ _ _).mono ?_; rintro e7 w7 ⟨rfl, hw7⟩
          have X7 : Hid (Ext w6 w7) := (by show Ext _ _; rw [hw7]; exact ((Ext.refl w6).alloc _).alloc _)
          clear hw7
          have hS7 := hide (hS6.out.ext X7.out); have Y7 := hide (Y6.out.trans X7.out)
          have hes := textS_ok hok.out ts.length (es := []) (fun e he => by cases he) hr4.out
          go_wp2_with fail
          refine (resourcesP hS7.out fun e he => (hes e he).okS).mono ?_
          rintro e8 w8 ⟨v8, ps, rfl, hps, hR8, he8⟩
          have hbl := hide (by obtain ⟨M, _, ho⟩ := hS7.out.olds; exact ho.1 : bs.length = es.length)
          have hpx : Hid (ps.map ResP.x = (srtN es).map resOf) := by
            show _ = _
            rw [hps.out, ← qsOf_fst hbl.out, List.map_map]; rfl
          have hsl := srtN_len es
          have h12 := hide hS7.out.few
          have hpl : Hid (ps.length ≤ 1000) := by
            show _ ≤ _
            have := congrArg List.length hpx.out
            simp only [List.length_map] at this
            have := h12.out; omega
          have hV := hide (hR8.out.ressV hpl.out)
          rw [hpx.out] at hV
          have hU : Hid ((allAfter ((srtN es).map resOf)).length ≤ 1000) := by
            show _ ≤ _
            have := allAfter_few ((srtN es).map resOf) (fun x hx => by
              obtain ⟨e, he, rfl⟩ := List.mem_map.1 hx
              exact (hes e (srtN_mem.1 he)).2.2.2.2)
            rw [List.length_map] at this
            have := h12.out; omega
          replace hsl := hide hsl; replace hes := hide hes
          obtain ⟨pa8, cap8, rfl⟩ := ownsRow_form hR8.out.row
          have hS8 := hide (hS7.out.ext he8.out); have Y8 := hide (Y7.out.trans he8.out)
          go_wp2_with fail
          refine (checkCirclesP hS8.out hV.out hU.out).mono ?_
          rintro e9 w9 ⟨rfl, he9⟩
          have Y9 := hide (Y8.out.trans he9.out)
          generalize hcF : circF ((srtN es).map resOf) es = fc at *
          obtain ⟨ce, cp⟩ := fc
          dsimp only at *
          replace hcF := hide hcF
          by_cases hz9 : ce = 0
          · subst hz9
            rw [if_neg (by simp)] at hst
            go_wp2_with fail
            refine (faultIs _ _ _).mono ?_; rintro e10 w10 ⟨rfl, hw10⟩
            have X10 : Hid (Ext w9 w10) := (by show Ext _ _; rw [hw10]; exact ((Ext.refl w9).alloc _).alloc _)
            clear hw10
            go_wp2_with fail
            refine bodyPost_ret (v := .tuple #[.slice pa8 ps.length cap8, .int .i64 0, .int .i64 0]) (by simp [results, Tryz.results15, go_sem]) rfl ?_
            rw [hst.out]
            exact ⟨_, ps, rfl, hpx.out, ((hR8.out.low (Ext.size Y7.out)).ext he9.out).ext X10.out, fun h => absurd rfl h, Y9.out.trans X10.out⟩
          · have hz1 : (ce != 0) = true := by simpa using hz9
            have hfin : Hid (res = ([], (ce, cp))) := by
              show _ = _
              rw [hst.out, if_pos hz9]
            go_wp2_with fail
            refine (faultIs _ _ _).mono ?_; rintro e10 w10 ⟨rfl, hw10⟩
            have X10 : Hid (Ext w9 w10) := (by show Ext _ _; rw [hw10]; exact ((Ext.refl w9).alloc _).alloc _)
            have F10 := (hw10 ▸ ext_heap ((Ext.refl _).alloc (.cells #[.int .i64 ce, .int .i64 cp] 88)) (heap_alloc_new w9 (.cells #[.int .i64 ce, .int .i64 cp] 88)) : w10.heap[w9.heap.size]? = some (.cells #[.int .i64 ce, .int .i64 cp] 88))
            clear hw10
            have f0 := two_c0 F10; have f1 := two_c1 F10
            replace F10 := hide F10
            go_wp2_with fail
            go_quiet (fail)
            go_wp2_with fail
            refine bodyPost_ret (v := .tuple #[.slice none 0 0, .int .i64 ce, .int .i64 cp]) (by simp [results, Tryz.results15, go_sem]) rfl ?_
            rw [hfin.out]
            exact ⟨.slice none 0 0, [], rfl, rfl, RessAt.nil _ _, fun _ => rfl, (Y9.out.trans X10.out).drewN _⟩
        · have hz1 : (fe != 0) = true := by simpa using hz6
          have hfin : Hid (res = ([], (fe, fp))) := by
            show _ = _
            rw [hst.out, if_pos hz6]
          go_wp2_with fail
          refine (faultIs _ _ _).mono ?_; rintro e7 w7 ⟨rfl, hw7⟩
          have X7 : Hid (Ext w6 w7) := (by show Ext _ _; rw [hw7]; exact ((Ext.refl w6).alloc _).alloc _)
          have F7 := (hw7 ▸ ext_heap ((Ext.refl _).alloc (.cells #[.int .i64 fe, .int .i64 fp] 88)) (heap_alloc_new w6 (.cells #[.int .i64 fe, .int .i64 fp] 88)) : w7.heap[w6.heap.size]? = some (.cells #[.int .i64 fe, .int .i64 fp] 88))
          clear hw7
          have f0 := two_c0 F7; have f1 := two_c1 F7
          replace F7 := hide F7
          go_wp2_with fail
          go_quiet (fail)
          go_wp2_with fail
          refine bodyPost_ret (v := .tuple #[.slice none 0 0, .int .i64 fe, .int .i64 fp]) (by simp [results, Tryz.results15, go_sem]) rfl ?_
          rw [hfin.out]
          exact ⟨.slice none 0 0, [], rfl, rfl, RessAt.nil _ _, fun _ => rfl, (Y6.out.trans X7.out).drewN _⟩
    · have hz1 : (en != 0) = true := by simpa using hz
      have hfin : Hid (res = ([], (en, pl))) := by
        show _ = _
        rw [hst.out, if_pos hz]
      go_enter Tryz.func15, Tryz.ntmps15
      go_wp2_with fail
      refine hcut.out.mono ?_
      rintro e1 w1 ⟨he1, pa, cap, rfl, hr1⟩
      go_wp2_with fail
      refine (faultIs _ _ _).mono ?_; rintro e5 w5 ⟨rfl, hw5⟩
      have X5 : Hid (Ext w1 w5) := (by show Ext _ _; rw [hw5]; exact ((Ext.refl w1).alloc _).alloc _)
      have F5 := (hw5 ▸ ext_heap ((Ext.refl _).alloc (.cells #[.int .i64 en, .int .i64 pl] 88)) (heap_alloc_new w1 (.cells #[.int .i64 en, .int .i64 pl] 88)) : w5.heap[w1.heap.size]? = some (.cells #[.int .i64 en, .int .i64 pl] 88))
      clear hw5
      have f0 := two_c0 F5; have f1 := two_c1 F5
      replace F5 := hide F5
      go_wp2_with fail
      go_quiet (fail)
      go_wp2_with fail
      refine bodyPost_ret (v := .tuple #[.slice none 0 0, .int .i64 en, .int .i64 pl]) (by simp [results, Tryz.results15, go_sem]) rfl ?_
      rw [hfin.out]
      exact ⟨.slice none 0 0, [], rfl, rfl, RessAt.nil _ _, fun _ => rfl, (he1.out.trans X5.out).drewN _⟩
end Go.Proofs.YtfmcgdglalljgaaGreatDoor

namespace Go.Proofs.YtfmcgdglalljgaaGreatDoor
open Go.RowKit

end Go.Proofs.YtfmcgdglalljgaaGreatDoor
