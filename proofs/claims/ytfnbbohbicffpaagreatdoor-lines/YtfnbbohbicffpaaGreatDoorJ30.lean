/-
  Parse: what the program answers.
-/
/-
  What was printed is read as it was, on plain lists: from the tokens back to resources.
-/
import Derived.Test.YtfnbbohbicffpaaGreatDoorJ29
import Derived.Test.YtfnbbohbicffpaaGreatDoorJ28
namespace Go.Proofs.YtfnbbohbicffpaaGreatDoor
open Go.RowKit

/-- Entries by rising IDs. -/
def insN (l : List EntD) (x : EntD) : List EntD := l.takeWhile (fun q => decide (cmpI q.id x.id < 0)) ++ x :: l.dropWhile (fun q => decide (cmpI q.id x.id < 0))
def srtN (es : List EntD) : List EntD := es.foldl insN []
theorem qsOf_fst {es : List EntD} {bs : List Nat} (h : bs.length = es.length) : (qsOf es bs).map Prod.fst = srtN es := by
  have key : ∀ (es : List EntD) (bs : List Nat) (qs : List (EntD × Nat)), bs.length = es.length → ((es.zip bs).foldl insP qs).map Prod.fst = es.foldl insN (qs.map Prod.fst) := by
    intro es
    induction es with
    | nil => intro bs qs _; simp
    | cons e es ih =>
      intro bs qs hl
      cases bs with
      | nil => simp at hl
      | cons b bs =>
        rw [List.zip_cons_cons, List.foldl_cons, List.foldl_cons, ih bs _ (by simpa using hl)]
        congr 1
        unfold insP insN
        rw [List.map_append, List.map_cons, List.takeWhile_map, List.dropWhile_map]
        rfl
  exact key es bs [] h
theorem insN_mem {l : List EntD} {x y : EntD} : y ∈ insN l x ↔ y = x ∨ y ∈ l := by
  unfold insN
  conv => rhs; rw [← List.takeWhile_append_dropWhile (p := fun q : EntD => decide (cmpI q.id x.id < 0)) (l := l)]
  simp only [List.mem_append, List.mem_cons]
  constructor
  · rintro (h | h | h)
    · exact .inr (.inl h)
    · exact .inl h
    · exact .inr (.inr h)
  · rintro (h | h | h)
    · exact .inr (.inl h)
    · exact .inl h
    · exact .inr (.inr h)
theorem insN_len {l : List EntD} {x : EntD} : (insN l x).length = l.length + 1 := by
  unfold insN
  have := congrArg List.length (List.takeWhile_append_dropWhile (p := fun q : EntD => decide (cmpI q.id x.id < 0)) (l := l))
  simp only [List.length_append, List.length_cons] at this ⊢
  omega
theorem srtN_mem {es : List EntD} {y : EntD} : y ∈ srtN es ↔ y ∈ es := by
  have key : ∀ (es l : List EntD), y ∈ es.foldl insN l ↔ y ∈ es ∨ y ∈ l := by
    intro es
    induction es with
    | nil => intro l; simp
    | cons e es ih =>
      intro l
      rw [List.foldl_cons, ih, insN_mem, List.mem_cons]
      constructor
      · rintro (h | h | h)
        · exact .inl (.inr h)
        · exact .inl (.inl h)
        · exact .inr h
      · rintro ((h | h) | h)
        · exact .inr (.inl h)
        · exact .inl h
        · exact .inr (.inr h)
  unfold srtN
  rw [key]; simp
theorem srtN_len (es : List EntD) : (srtN es).length = es.length := by
  have key : ∀ (es l : List EntD), (es.foldl insN l).length = l.length + es.length := by
    intro es
    induction es with
    | nil => intro l; simp
    | cons e es ih => intro l; rw [List.foldl_cons, ih, insN_len, List.length_cons]; omega
  unfold srtN
  rw [key]; simp
theorem allAfter_few : ∀ (l : List Resd), (∀ x ∈ l, x.after.length ≤ 6) → (allAfter l).length ≤ l.length * 6
  | [], _ => by simp [allAfter]
  | x :: l, h => by
    have h1 := allAfter_few l fun y hy => h y (List.mem_cons_of_mem _ hy)
    have h2 := h x List.mem_cons_self
    simp only [allAfter, List.flatMap_cons, List.length_append, List.length_cons] at h1 ⊢
    omega
open Classical in
/-- What Parse answers: resources, an error, its place. -/
noncomputable def parseS (l : List UInt8) : List Resd × Flt :=
  if 2000 < l.length then ([], (1, 0))
  else if (cutL l).2.1 ≠ 0 then ([], (cutL l).2)
  else match textS (cutL l).1 (cutL l).1.length 0 [] [] with
    | .error f => ([], f)
    | .ok (es, rf) => if (refsF es rf).1 ≠ 0 then ([], refsF es rf)
      else if (circF ((srtN es).map resOf) es).1 ≠ 0 then ([], circF ((srtN es).map resOf) es)
      else ((srtN es).map resOf, (0, 0))
/-- What an answer of Parse is. -/
def ParseIs (w : World) (r : List Resd × Flt) (e : Ending) (w' : World) : Prop :=
  ∃ v ps, e = .returned (.tuple #[v, .int .i64 r.2.1, .int .i64 r.2.2]) ∧ Hid (ps.map ResP.x = r.1) ∧ Hid (RessAt w.heap.size w' v ps) ∧ Hid (r.2.1 ≠ 0 → v = .slice none 0 0) ∧ Hid (Ext w w')

set_option maxRecDepth 100000 in
set_option maxHeartbeats 1600000 in
theorem parseP (s : ByteArray) (w : World) :
    Calls Tryz.prog 6 #[.string s] w (ParseIs w (parseS s.data.toList)) := by
  have hlen : s.data.toList.length = s.size := Array.length_toList
  classical
  by_cases h0 : 2000 < s.size
  · have hi : (2000 : Int) < (s.size : Int) := by omega
    have hfin : Hid (parseS s.data.toList = ([], (1, 0))) := by
      show _ = _
      unfold parseS; rw [if_pos (by omega)]
    replace h0 := hide h0; replace hlen := hide hlen
    go_enter Tryz.func6, Tryz.ntmps6
    go_wp2_with fail
    refine bodyPost_ret (v := .tuple #[.slice none 0 0, .int .i64 1, .int .i64 0]) (by simp [results, Tryz.results6, go_sem]) rfl ?_
    rw [hfin.out]
    exact ⟨.slice none 0 0, [], rfl, rfl, RessAt.nil _ _, fun _ => rfl, Ext.refl _⟩
  · have hi : ¬ (2000 : Int) < (s.size : Int) := by omega
    have hst : Hid (parseS s.data.toList = if (cutL s.data.toList).2.1 ≠ 0 then ([], (cutL s.data.toList).2) else match textS (cutL s.data.toList).1 (cutL s.data.toList).1.length 0 [] [] with
      | .error f => ([], f)
      | .ok (es, rf) => if (refsF es rf).1 ≠ 0 then ([], refsF es rf)
        else if (circF ((srtN es).map resOf) es).1 ≠ 0 then ([], circF ((srtN es).map resOf) es)
        else ((srtN es).map resOf, (0, 0))) := by
      show _ = _
      unfold parseS; rw [if_neg (by omega)]
    have hcut := cutP s w (by omega)
    have hcl : (cutL s.data.toList).2.1 = 0 → TsEnd (cutL s.data.toList).1 ∧ (∀ t ∈ (cutL s.data.toList).1, TokOk t) ∧ (cutL s.data.toList).1.length ≤ s.data.toList.length + 1 - 0 := cutF_is s.data.toList (s.data.toList.length + 1) 0 (Nat.zero_le _) (by omega)
    generalize parseS s.data.toList = res at *
    generalize cutL s.data.toList = cu at *
    obtain ⟨ts, en, pl⟩ := cu
    dsimp only at *
    replace h0 := hide h0; replace hlen := hide hlen; replace hcut := hide hcut; replace hcl := hide hcl; replace hst := hide hst.out
    by_cases hz : en = 0
    · subst hz
      obtain ⟨hte, hok, htl⟩ := hcl.out rfl
      rw [if_neg (by simp)] at hst
      have hn : ts.length ≤ 1000000 := by have := hlen.out; have := h0.out; omega
      replace hte := hide hte; replace hok := hide hok; replace htl := hide htl
      go_enter Tryz.func6, Tryz.ntmps6
      go_wp2_with fail
      refine hcut.out.mono ?_
      rintro e1 w1 ⟨he1, pa, cap, rfl, hr1⟩
      go_wp2_with fail
      refine (faultIs _ _ _).mono ?_; rintro e2 w2 ⟨rfl, hw2⟩
      have X2 : Hid (Ext w1 w2) := (by show Ext _ _; rw [hw2]; exact ((Ext.refl w1).alloc _).alloc _)
      clear hw2
      have Y2 := hide (he1.out.trans X2.out)
      have hb0 : ((0 : Int) != 0) = false := rfl
      go_wp2_with fail
      refine (newParserP (B := w.heap.size) (ts := ts) (ownsRow_wr (D := fun _ _ => False) hr1.out (Wr.ext X2.out) fun _ _ _ => id) (Ext.size Y2.out)).mono ?_
      rintro e3 w3 ⟨P, rfl, hS3, he3⟩
      have Y3 := hide (Y2.out.trans he3.out)
      go_wp2_with fail
      refine (readTextP hS3.out hn hte.out hte.out.some_).mono ?_
      rintro e4 w4 ⟨hW4, ⟨en, pl', hr4, hne, rfl⟩ | ⟨i4, es, rf, bs, hr4, rfl, hS4, hi4⟩⟩
      · have hne1 : (en != 0) = true := by simpa using hne
        have hfin : Hid (res = ([], (en, pl'))) := by
          show _ = _
          rw [hst.out, hr4.out]
        have Y4 : Hid (Ext w w4) := hW4.out.toExt Y3.out fun j t hd => hd.1
        go_wp2_with fail
        refine (faultIs _ _ _).mono ?_; rintro e5 w5 ⟨rfl, hw5⟩
        have X5 : Hid (Ext w4 w5) := (by show Ext _ _; rw [hw5]; exact ((Ext.refl w4).alloc _).alloc _)
        have F5 := (hw5 ▸ ext_heap ((Ext.refl _).alloc (.cells #[.int .i64 en, .int .i64 pl'] 47)) (heap_alloc_new w4 (.cells #[.int .i64 en, .int .i64 pl'] 47)) : w5.heap[w4.heap.size]? = some (.cells #[.int .i64 en, .int .i64 pl'] 47))
        clear hw5
        have f0 := two_c0 F5; have f1 := two_c1 F5
        replace F5 := hide F5
        go_wp2_with fail
        go_quiet (fail)
        go_wp2_with fail
        refine bodyPost_ret (v := .tuple #[.slice none 0 0, .int .i64 en, .int .i64 pl']) (by simp [results, Tryz.results6, go_sem]) rfl ?_
        rw [hfin.out]
        exact ⟨.slice none 0 0, [], rfl, rfl, RessAt.nil _ _, fun _ => rfl, (Y4.out.trans X5.out).drewN _⟩
      · rw [hr4.out] at hst
        dsimp only at hst
        have Y4 : Hid (Ext w w4) := hW4.out.toExt Y3.out fun j t hd => hd.1
        go_wp2_with fail
        refine (faultIs _ _ _).mono ?_; rintro e5 w5 ⟨rfl, hw5⟩
        have X5 : Hid (Ext w4 w5) := (by show Ext _ _; rw [hw5]; exact ((Ext.refl w4).alloc _).alloc _)
        clear hw5
        have hS5 := hide (hS4.out.ext X5.out); have Y5 := hide (Y4.out.trans X5.out)
        have hrf : Hid (rf.length ≤ 1000000) := by show _ ≤ _; have := hS4.out.refsFew; have := hi4.out; omega
        go_wp2_with fail
        refine (checkRefsP hS5.out hrf.out).mono ?_
        rintro e6 w6 ⟨rfl, he6⟩
        have hS6 := hide (hS5.out.ext he6.out); have Y6 := hide (Y5.out.trans he6.out)
        generalize hrF : refsF es rf = fr at *
        obtain ⟨fe, fp⟩ := fr
        dsimp only at *
        replace hrF := hide hrF
        by_cases hz6 : fe = 0
        · subst hz6
          rw [if_neg (by simp)] at hst
          go_wp2_with fail
          refine (faultIs _ _ _).mono ?_; rintro e7 w7 ⟨rfl, hw7⟩
          have X7 : Hid (Ext w6 w7) := (by show Ext _ _; rw [hw7]; exact ((Ext.refl w6).alloc _).alloc _)
          clear hw7
          have hS7 := hide (hS6.out.ext X7.out); have Y7 := hide (Y6.out.trans X7.out)
          have hes := textS_ok hok.out ts.length (es := []) (fun e he => by cases he) hr4.out
          go_wp2_with fail
          refine (resourcesP hS7.out fun e he => (hes e he).okS).mono ?_
          rintro e8 w8 ⟨v8, ps, rfl, hps, hR8, he8⟩
          have hbl := hide (by obtain ⟨M, _, ho⟩ := hS7.out.olds; exact ho.1 : bs.length = es.length)
          have hpx : Hid (ps.map ResP.x = (srtN es).map resOf) := by
            show _ = _
            rw [hps.out, ← qsOf_fst hbl.out, List.map_map]; rfl
          have hsl := srtN_len es
          have h12 := hide hS7.out.few
          have hpl : Hid (ps.length ≤ 1000) := by
            show _ ≤ _
            have := congrArg List.length hpx.out
            simp only [List.length_map] at this
            have := h12.out; omega
          have hV := hide (hR8.out.ressV hpl.out)
          rw [hpx.out] at hV
          have hU : Hid ((allAfter ((srtN es).map resOf)).length ≤ 1000) := by
            show _ ≤ _
            have := allAfter_few ((srtN es).map resOf) (fun x hx => by
              obtain ⟨e, he, rfl⟩ := List.mem_map.1 hx
              exact (hes e (srtN_mem.1 he)).2.2.2.2)
            rw [List.length_map] at this
            have := h12.out; omega
          replace hsl := hide hsl; replace hes := hide hes
          obtain ⟨pa8, cap8, rfl⟩ := ownsRow_form hR8.out.row
          have hS8 := hide (hS7.out.ext he8.out); have Y8 := hide (Y7.out.trans he8.out)
          go_wp2_with fail
          refine (checkCirclesP hS8.out hV.out hU.out).mono ?_
          rintro e9 w9 ⟨rfl, he9⟩
          have Y9 := hide (Y8.out.trans he9.out)
          generalize hcF : circF ((srtN es).map resOf) es = fc at *
          obtain ⟨ce, cp⟩ := fc
          dsimp only at *
          replace hcF := hide hcF
          by_cases hz9 : ce = 0
          · subst hz9
            rw [if_neg (by simp)] at hst
            go_wp2_with fail
            refine (faultIs _ _ _).mono ?_; rintro e10 w10 ⟨rfl, hw10⟩
            have X10 : Hid (Ext w9 w10) := (by show Ext _ _; rw [hw10]; exact ((Ext.refl w9).alloc _).alloc _)
            clear hw10
            go_wp2_with fail
            refine bodyPost_ret (v := .tuple #[.slice pa8 ps.length cap8, .int .i64 0, .int .i64 0]) (by simp [results, Tryz.results6, go_sem]) rfl ?_
            rw [hst.out]
            exact ⟨_, ps, rfl, hpx.out, ((hR8.out.low (Ext.size Y7.out)).ext he9.out).ext X10.out, fun h => absurd rfl h, Y9.out.trans X10.out⟩
          · have hz1 : (ce != 0) = true := by simpa using hz9
            have hfin : Hid (res = ([], (ce, cp))) := by
              show _ = _
              rw [hst.out, if_pos hz9]
            go_wp2_with fail
            refine (faultIs _ _ _).mono ?_; rintro e10 w10 ⟨rfl, hw10⟩
            have X10 : Hid (Ext w9 w10) := (by show Ext _ _; rw [hw10]; exact ((Ext.refl w9).alloc _).alloc _)
            have F10 := (hw10 ▸ ext_heap ((Ext.refl _).alloc (.cells #[.int .i64 ce, .int .i64 cp] 47)) (heap_alloc_new w9 (.cells #[.int .i64 ce, .int .i64 cp] 47)) : w10.heap[w9.heap.size]? = some (.cells #[.int .i64 ce, .int .i64 cp] 47))
            clear hw10
            have f0 := two_c0 F10; have f1 := two_c1 F10
            replace F10 := hide F10
            go_wp2_with fail
            go_quiet (fail)
            go_wp2_with fail
            refine bodyPost_ret (v := .tuple #[.slice none 0 0, .int .i64 ce, .int .i64 cp]) (by simp [results, Tryz.results6, go_sem]) rfl ?_
            rw [hfin.out]
            exact ⟨.slice none 0 0, [], rfl, rfl, RessAt.nil _ _, fun _ => rfl, (Y9.out.trans X10.out).drewN _⟩
        · have hz1 : (fe != 0) = true := by simpa using hz6
          have hfin : Hid (res = ([], (fe, fp))) := by
            show _ = _
            rw [hst.out, if_pos hz6]
          go_wp2_with fail
          refine (faultIs _ _ _).mono ?_; rintro e7 w7 ⟨rfl, hw7⟩
          have X7 : Hid (Ext w6 w7) := (by show Ext _ _; rw [hw7]; exact ((Ext.refl w6).alloc _).alloc _)
          have F7 := (hw7 ▸ ext_heap ((Ext.refl _).alloc (.cells #[.int .i64 fe, .int .i64 fp] 47)) (heap_alloc_new w6 (.cells #[.int .i64 fe, .int .i64 fp] 47)) : w7.heap[w6.heap.size]? = some (.cells #[.int .i64 fe, .int .i64 fp] 47))
          clear hw7
          have f0 := two_c0 F7; have f1 := two_c1 F7
          replace F7 := hide F7
          go_wp2_with fail
          go_quiet (fail)
          go_wp2_with fail
          refine bodyPost_ret (v := .tuple #[.slice none 0 0, .int .i64 fe, .int .i64 fp]) (by simp [results, Tryz.results6, go_sem]) rfl ?_
          rw [hfin.out]
          exact ⟨.slice none 0 0, [], rfl, rfl, RessAt.nil _ _, fun _ => rfl, (Y6.out.trans X7.out).drewN _⟩
    · have hz1 : (en != 0) = true := by simpa using hz
      have hfin : Hid (res = ([], (en, pl))) := by
        show _ = _
        rw [hst.out, if_pos hz]
      go_enter Tryz.func6, Tryz.ntmps6
      go_wp2_with fail
      refine hcut.out.mono ?_
      rintro e1 w1 ⟨he1, pa, cap, rfl, hr1⟩
      go_wp2_with fail
      refine (faultIs _ _ _).mono ?_; rintro e5 w5 ⟨rfl, hw5⟩
      have X5 : Hid (Ext w1 w5) := (by show Ext _ _; rw [hw5]; exact ((Ext.refl w1).alloc _).alloc _)
      have F5 := (hw5 ▸ ext_heap ((Ext.refl _).alloc (.cells #[.int .i64 en, .int .i64 pl] 47)) (heap_alloc_new w1 (.cells #[.int .i64 en, .int .i64 pl] 47)) : w5.heap[w1.heap.size]? = some (.cells #[.int .i64 en, .int .i64 pl] 47))
      clear hw5
      have f0 := two_c0 F5; have f1 := two_c1 F5
      replace F5 := hide F5
      go_wp2_with fail
      go_quiet (fail)
      go_wp2_with fail
      refine bodyPost_ret (v := .tuple #[.slice none 0 0, .int .i64 en, .int .i64 pl]) (by simp [results, Tryz.results6, go_sem]) rfl ?_
      rw [hfin.out]
      exact ⟨.slice none 0 0, [], rfl, rfl, RessAt.nil _ _, fun _ => rfl, (he1.out.trans X5.out).drewN _⟩
end Go.Proofs.YtfnbbohbicffpaaGreatDoor

namespace Go.Proofs.YtfnbbohbicffpaaGreatDoor
open Go.RowKit

theorem rises_up {α κ : Type} {cmp : κ → κ → Int} {key : α → κ} (ho : OrdK cmp) {lt : α → α → Bool} (hlt : ∀ a b, lt a b = true → cmp (key a) (key b) < 0) : ∀ {l : List α}, risesB lt l = true → UpG cmp key l
  | [], _ => List.Pairwise.nil
  | [a], _ => List.pairwise_singleton _ _
  | a :: b :: l, h => by
    obtain ⟨h1, h2⟩ := Bool.and_eq_true_iff.1 h
    have ih := rises_up ho hlt (l := b :: l) h2
    have hab := hlt a b h1
    refine List.pairwise_cons.2 ⟨fun y hy => ?_, ih⟩
    rcases List.mem_cons.1 hy with rfl | hy
    · exact hab
    · exact ho.trans hab ((List.pairwise_cons.1 ih).1 y hy)
/-- What is put behind all that is less stands in the end. -/
theorem tw_all {α : Type} {p : α → Bool} {l : List α} (h : ∀ x ∈ l, p x = true) : l.takeWhile p = l ∧ l.dropWhile p = [] := by
  induction l with
  | nil => exact ⟨rfl, rfl⟩
  | cons x l ih =>
    have := ih fun y hy => h y (List.mem_cons_of_mem _ hy)
    simp [List.takeWhile, List.dropWhile, h x List.mem_cons_self, this.1, this.2]
/-- The tokens from a place on. -/
def AtT (ts : List Tok) (i : Nat) (ss : List Bare) : Prop := (ts.drop i).map strip = ss
theorem at_cons {ts : List Tok} {i : Nat} {k : Nat} {x : ByteArray} {v : Int} {ss : List Bare} (h : AtT ts i ((k, x, v) :: ss)) : ∃ t, ts[i]? = some t ∧ t.kind = k ∧ t.text = x ∧ t.value = v ∧ AtT ts (i + 1) ss := by
  unfold AtT at h
  cases hd : ts.drop i with
  | nil => rw [hd] at h; simp at h
  | cons t r =>
    rw [hd] at h
    simp only [List.map_cons, List.cons.injEq, strip, Prod.mk.injEq] at h
    have h1 : ts[i]? = some t := by have := List.getElem?_drop (xs := ts) (i := i) (j := 0); rw [hd] at this; simpa using this.symm
    refine ⟨t, h1, h.1.1, h.1.2.1, h.1.2.2, ?_⟩
    unfold AtT
    rw [← List.drop_drop, hd]
    exact h.2
theorem at_len {ts : List Tok} {i : Nat} {ss : List Bare} (h : AtT ts i ss) : ss.length + i ≤ ts.length ∨ ss = [] := by
  have := congrArg List.length h
  rw [List.length_map, List.length_drop] at this
  cases ss with
  | nil => exact .inr rfl
  | cons s ss => simp only [List.length_cons] at this ⊢; exact .inl (by omega)
/-- A ref is read. -/
theorem ref_read {ts : List Tok} {i : Nat} {x : IDd} {ss : List Bare} (h : AtT ts i (tRef x ++ ss)) {e : EntD} {rf : List (IDd × Nat)} (hn : e.after.length ≠ 6) (hu : ∀ y ∈ e.after, cmpI y x < 0) : ∃ p, refS ts i e rf = .ok (i + 3, { e with after := e.after ++ [x] }, rf ++ [(x, p)]) ∧ AtT ts (i + 3) ss := by
  obtain ⟨t0, a1, a2, a3, a4, h1⟩ := at_cons (show AtT ts i ((1, x.kind, 0) :: (tSign 10 :: tWord x.name :: ss)) from h)
  obtain ⟨t1, b1, b2, b3, b4, h2⟩ := at_cons (show AtT ts (i + 1) ((10, ⟨#[]⟩, 0) :: (tWord x.name :: ss)) from h1)
  obtain ⟨t2, c1, c2, c3, c4, h3⟩ := at_cons (show AtT ts (i + 2) ((1, x.name, 0) :: ss) from h2)
  have hid : (⟨t0.text, t2.text⟩ : IDd) = x := by rw [a3, c3]
  have hno : x ∉ e.after := fun hm => by have := hu x hm; rw [cmpI_zero.2 rfl] at this; omega
  refine ⟨t0.place, ?_, h3⟩
  unfold refS
  rw [take_ok a1 a2]
  dsimp only
  rw [take_ok b1 b2]
  dsimp only
  rw [take_ok c1 c2]
  dsimp only
  rw [if_neg hn, hid, if_neg hno]
  have : insI e.after x = e.after ++ [x] := by
    unfold insI
    obtain ⟨u1, u2⟩ := tw_all (l := e.after) (p := fun k => decide (cmpI k x < 0)) (fun y hy => by simpa using hu y hy)
    rw [u1, u2]
  rw [this]
theorem kind_ss {ts : List Tok} {i : Nat} {k : Nat} {x : ByteArray} {v : Int} {ss : List Bare} (h : AtT ts i ((k, x, v) :: ss)) : kindAt ts i = k := by
  obtain ⟨t, h1, h2, _⟩ := at_cons h
  rw [kind_at h1]; exact h2
/-- Refs are read. -/
theorem refs_read {ts : List Tok} {ss : List Bare} {k : Nat} {y : ByteArray} {v : Int} (hk : k ≠ 9) : ∀ (l : List IDd) (x : IDd) (f : Nat) {i : Nat} {e : EntD} {rf : List (IDd × Nat)}, AtT ts i (tRef x ++ (tTail l ++ ((k, y, v) :: ss))) → l.length < f → UpG cmpI id (e.after ++ x :: l) → e.after.length + (l.length + 1) ≤ 6 → ∃ i' rf', refsS ts f i e rf = .ok (i', { e with after := e.after ++ x :: l }, rf') ∧ AtT ts i' ((k, y, v) :: ss) ∧ rf'.map Prod.fst = rf.map Prod.fst ++ x :: l
  | [], x, f, i, e, rf, h, hf, hu, hn => by
    obtain ⟨g, rfl⟩ : ∃ g, f = g + 1 := ⟨f - 1, by simp at hf; omega⟩
    have hlt : ∀ z ∈ e.after, cmpI z x < 0 := fun z hz => (List.pairwise_append.1 hu).2.2 z hz x (by simp)
    obtain ⟨p, h1, h2⟩ := ref_read (ss := (k, y, v) :: ss) (by simpa [tTail] using h) (e := e) (rf := rf) (by simp at hn; omega) hlt
    refine ⟨i + 3, rf ++ [(x, p)], ?_, h2, by simp⟩
    unfold refsS
    rw [h1]
    dsimp only
    rw [if_neg (by rw [kind_ss h2]; exact hk)]
  | z :: l, x, f, i, e, rf, h, hf, hu, hn => by
    obtain ⟨g, rfl⟩ : ∃ g, f = g + 1 := ⟨f - 1, by simp at hf; omega⟩
    have hlt : ∀ w ∈ e.after, cmpI w x < 0 := fun w hw => (List.pairwise_append.1 hu).2.2 w hw x (by simp)
    have he : tRef x ++ (tTail (z :: l) ++ ((k, y, v) :: ss)) = tRef x ++ (tSign 9 :: (tRef z ++ (tTail l ++ ((k, y, v) :: ss)))) := by simp [tTail]
    rw [he] at h
    obtain ⟨p, h1, h2⟩ := ref_read h (e := e) (rf := rf) (by simp at hn; omega) hlt
    obtain ⟨t, d1, d2, d3, d4, h3⟩ := at_cons (show AtT ts (i + 3) ((9, ⟨#[]⟩, 0) :: (tRef z ++ (tTail l ++ ((k, y, v) :: ss)))) from h2)
    obtain ⟨i', rf', g1, g2, g3⟩ := refs_read hk l z g (e := { e with after := e.after ++ [x] }) (rf := rf ++ [(x, p)]) h3 (by simp at hf; omega) (by simpa using hu) (by simp at hn ⊢; omega)
    refine ⟨i', rf', ?_, g2, by rw [g3]; simp⟩
    unfold refsS
    rw [h1]
    dsimp only
    rw [if_pos (by rw [kind_at d1]; exact d2), show i + 3 + 1 = i + 3 + 1 from rfl, g1]
    simp
def rowOf (a : Attrd) : RowA := ⟨a.name, a⟩
/-- An attribute's line is read. -/
theorem attr_read {ts : List Tok} {i : Nat} {a : Attrd} {ss : List Bare} (h : AtT ts i (tAttr a ++ ss)) (ha : attrB a = true) {e : EntD} {rf : List (IDd × Nat)} (hn : e.attrs.length ≠ 6) (hu : ∀ r ∈ e.attrs, cmpS r.key a.name < 0) : lineS ts i e rf = .ok (i + 3, { e with attrs := e.attrs ++ [rowOf a] }, rf) ∧ AtT ts (i + 3) ss := by
  simp only [attrB, Bool.and_eq_true] at ha
  obtain ⟨⟨hw, hna⟩, hval⟩ := ha
  have hne : a.name ≠ wAfter := by
    rintro he
    rw [he] at hna
    revert hna; decide
  obtain ⟨t0, a1, a2, a3, a4, h1⟩ := at_cons (show AtT ts i ((1, a.name, 0) :: (tSign 8 :: tVal a :: ss)) from h)
  obtain ⟨t1, b1, b2, b3, b4, h2⟩ := at_cons (show AtT ts (i + 1) ((8, ⟨#[]⟩, 0) :: (tVal a :: ss)) from h1)
  have hno : ¬ HasK RowA.key e.attrs a.name := fun ⟨r, hr, hk⟩ => by have := hu r hr; rw [hk, cmpS_zero.2 rfl] at this; omega
  have hz : nameS e t0.text = 0 := by
    unfold nameS
    rw [a3, if_neg (fun hh => hn hh.2), if_neg (fun hh => hh.elim (fun h => hne h.1) hno)]
  have hins : ∀ b : Attrd, b = a → insA e.attrs ⟨a.name, b⟩ = e.attrs ++ [rowOf a] := by
    rintro b rfl
    unfold insA
    obtain ⟨u1, u2⟩ := tw_all (l := e.attrs) (p := fun r => decide (cmpS r.key b.name < 0)) (fun y hy => by simpa using hu y hy)
    rw [u1, u2]; rfl
  unfold lineS
  rw [take_ok a1 a2]
  dsimp only
  rw [hz, if_neg (fun h => h rfl), take_ok b1 b2]
  dsimp only
  rw [if_neg (by rw [a3]; exact hne)]
  unfold valueS
  by_cases ht : a.isText = true
  · rw [if_pos ht] at hval
    obtain ⟨hs, hnum⟩ := Bool.and_eq_true_iff.1 hval
    have hv : tVal a = (3, a.text, 0) := if_pos ht
    rw [hv] at h2
    obtain ⟨t2, c1, c2, c3, c4, h3⟩ := at_cons (show AtT ts (i + 2) ((3, a.text, 0) :: ss) from h2)
    have hk3 : kindAt ts (i + 1 + 1) = 3 := by rw [kind_at (show ts[i + 1 + 1]? = some t2 from c1)]; exact c2
    rw [if_pos hk3, take_ok (show ts[i + 1 + 1]? = some t2 from c1) c2]
    dsimp only
    rw [a3, hins _ (by
      obtain ⟨n, b, tx, nu⟩ := a
      dsimp only at ht c3 hnum ⊢
      have : nu = 0 := by simpa using hnum
      rw [c3, c4, this, ht]; simp [hk3])]
    exact ⟨rfl, h3⟩
  · rw [if_neg ht] at hval
    obtain ⟨hs, hnum⟩ := Bool.and_eq_true_iff.1 hval
    have hv : tVal a = (2, ⟨#[]⟩, a.number) := if_neg ht
    rw [hv] at h2
    obtain ⟨t2, c1, c2, c3, c4, h3⟩ := at_cons (show AtT ts (i + 2) ((2, ⟨#[]⟩, a.number) :: ss) from h2)
    have hk3 : ¬ kindAt ts (i + 1 + 1) = 3 := by rw [kind_at (show ts[i + 1 + 1]? = some t2 from c1), c2]; decide
    rw [if_neg hk3, take_ok (show ts[i + 1 + 1]? = some t2 from c1) c2]
    dsimp only
    rw [a3, hins _ (by
      obtain ⟨n, b, tx, nu⟩ := a
      dsimp only at ht c4 hs ⊢
      have htx : tx = ⟨#[]⟩ := by
        cases tx with | mk d => simp at hs; rw [hs]
      have hb : b = false := by simpa using ht
      rw [c3, c4, htx, hb]; simp [hk3])]
    exact ⟨rfl, h3⟩
/-- Lines of attributes are read. -/
theorem attrs_read {ts : List Tok} {ss : List Bare} : ∀ (l : List Attrd) (f : Nat) {i : Nat} {e : EntD} {rf : List (IDd × Nat)}, AtT ts i (l.flatMap tAttr ++ ss) → (∀ a ∈ l, attrB a = true) → UpG cmpS RowA.key (e.attrs ++ l.map rowOf) → e.attrs.length + l.length ≤ 6 → linesS ts (l.length + f) i e rf = linesS ts f (i + 3 * l.length) { e with attrs := e.attrs ++ l.map rowOf } rf ∧ AtT ts (i + 3 * l.length) ss
  | [], f, i, e, rf, h, _, _, _ => by simp at h ⊢; exact h
  | a :: l, f, i, e, rf, h, ha, hu, hn => by
    have he : (a :: l).flatMap tAttr ++ ss = tAttr a ++ (l.flatMap tAttr ++ ss) := by simp
    rw [he] at h
    have hlt : ∀ r ∈ e.attrs, cmpS r.key a.name < 0 := fun r hr => (List.pairwise_append.1 hu).2.2 r hr (rowOf a) (by simp)
    obtain ⟨h1, h2⟩ := attr_read h (ha a List.mem_cons_self) (e := e) (rf := rf) (by simp at hn; omega) hlt
    have hk : kindAt ts i = 1 := kind_ss (show AtT ts i ((1, a.name, 0) :: _) from h)
    obtain ⟨g1, g2⟩ := attrs_read l f (e := { e with attrs := e.attrs ++ [rowOf a] }) (rf := rf) h2 (fun x hx => ha x (List.mem_cons_of_mem _ hx)) (by simpa using hu) (by simp at hn ⊢; omega)
    have hi : i + 3 * (a :: l).length = i + 3 + 3 * l.length := by simp; omega
    rw [hi]
    refine ⟨?_, g2⟩
    rw [show (a :: l).length + f = (l.length + f) + 1 by simp; omega]
    conv => lhs; unfold linesS
    rw [if_neg (by rw [hk]; decide), h1]
    dsimp only
    rw [g1]
    simp
theorem tTail_len (l : List IDd) : (tTail l).length = 4 * l.length := by
  unfold tTail
  induction l with
  | nil => rfl
  | cons x l ih =>
    rw [List.flatMap_cons, List.length_append, ih, show (tSign 9 :: tRef x).length = 4 from rfl, List.length_cons]
    omega
/-- The line of what it waits for, if there is one, and the brace behind it. -/
theorem after_read {ts : List Tok} {ss : List Bare} (l : List IDd) (f : Nat) {i : Nat} {e : EntD} {rf : List (IDd × Nat)} (h : AtT ts i (tAfter l ++ (tSign 5 :: ss))) (hf : 2 ≤ f) (hu : UpG cmpI id l) (hn : l.length ≤ 6) (h0 : e.after = []) (hh : e.hasAfter = false) (hk : ¬ HasK RowA.key e.attrs wAfter) : ∃ i' rf' b, linesS ts f i e rf = .ok (i', { e with after := l, hasAfter := b }, rf') ∧ AtT ts i' (tSign 5 :: ss) ∧ rf'.map Prod.fst = rf.map Prod.fst ++ l := by
  obtain ⟨g, rfl⟩ : ∃ g, f = g + 2 := ⟨f - 2, by omega⟩
  cases l with
  | nil =>
    have h' : AtT ts i ((5, ⟨#[]⟩, 0) :: ss) := h
    refine ⟨i, rf, false, ?_, h, by simp⟩
    unfold linesS
    rw [if_pos (kind_ss h')]
    cases e; simp_all
  | cons x l =>
    have he : tAfter (x :: l) ++ (tSign 5 :: ss) = tWord wAfter :: tSign 8 :: tSign 6 :: (tRef x ++ (tTail l ++ (tSign 7 :: (tSign 5 :: ss)))) := by simp [tAfter]
    rw [he] at h
    have hk0 : kindAt ts i = 1 := kind_ss (show AtT ts i ((1, wAfter, 0) :: _) from h)
    obtain ⟨t0, a1, a2, a3, a4, h1⟩ := at_cons (show AtT ts i ((1, wAfter, 0) :: _) from h)
    obtain ⟨t1, b1, b2, b3, b4, h2⟩ := at_cons (show AtT ts (i + 1) ((8, ⟨#[]⟩, 0) :: _) from h1)
    obtain ⟨t2, c1, c2, c3, c4, h3⟩ := at_cons (show AtT ts (i + 2) ((6, ⟨#[]⟩, 0) :: _) from h2)
    have hk3 : kindAt ts (i + 3) = 1 := kind_ss (show AtT ts (i + 3) ((1, x.kind, 0) :: _) from h3)
    have hfu : l.length < ts.length := by
      rcases at_len h3 with h4 | h4
      · rw [List.length_append, List.length_append, tTail_len] at h4
        simp [tRef] at h4; omega
      · simp [tRef] at h4
    obtain ⟨i5, rf5, g1, g2, g3⟩ := refs_read (k := 7) (y := ⟨#[]⟩) (v := 0) (by decide) l x ts.length (e := { e with hasAfter := true }) (rf := rf) h3 hfu (by rw [show ({ e with hasAfter := true } : EntD).after = e.after from rfl, h0]; exact hu) (by rw [show ({ e with hasAfter := true } : EntD).after = e.after from rfl, h0]; simp at hn ⊢; omega)
    obtain ⟨t7, d1, d2, d3, d4, h7⟩ := at_cons g2
    have hz : nameS e t0.text = 0 := by
      unfold nameS
      rw [a3, if_neg (fun hh => hh.1 rfl), if_neg (fun hb => hb.elim (fun h => by rw [hh] at h; cases h.2) hk)]
    have hl : lineS ts i e rf = .ok (i5 + 1, { e with after := x :: l, hasAfter := true }, rf5) := by
      unfold lineS
      rw [take_ok a1 a2]
      dsimp only
      rw [hz, if_neg (fun h => h rfl), take_ok b1 b2]
      dsimp only
      rw [if_pos a3]
      unfold listS
      rw [take_ok (show ts[i + 1 + 1]? = some t2 from c1) c2]
      dsimp only
      rw [if_neg (by rw [show i + 1 + 1 + 1 = i + 3 from rfl, hk3]; decide), show i + 1 + 1 + 1 = i + 3 from rfl, g1]
      dsimp only
      rw [take_ok d1 d2]
      simp [h0]
    refine ⟨i5 + 1, rf5, true, ?_, h7, g3⟩
    unfold linesS
    rw [if_neg (by rw [hk0]; decide), hl]
    dsimp only
    unfold linesS
    rw [if_pos (kind_ss (show AtT ts (i5 + 1) ((5, ⟨#[]⟩, 0) :: ss) from h7))]
end Go.Proofs.YtfnbbohbicffpaaGreatDoor
