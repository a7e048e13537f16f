/-
  What the text of resources is cut into.
-/
/-
  The parser: a text is read.
-/
import Derived.Test.YtfnbbohbicffpaaGreatDoorJ9
import Derived.Test.YtfnbbohbicffpaaGreatDoorJ23
import Derived.Test.YtfnbbohbicffpaaGreatDoorJ27
namespace Go.Proofs.YtfnbbohbicffpaaGreatDoor
open Go.RowKit

def tSign (k : Nat) : Bare := (k, ⟨#[]⟩, 0)
def tWord (w : ByteArray) : Bare := (1, w, 0)
def tVal (a : Attrd) : Bare := if a.isText then (3, a.text, 0) else (2, ⟨#[]⟩, a.number)
def tAttr (a : Attrd) : List Bare := [tWord a.name, tSign 8, tVal a]
def tRef (x : IDd) : List Bare := [tWord x.kind, tSign 10, tWord x.name]
def tTail (l : List IDd) : List Bare := l.flatMap fun x => tSign 9 :: tRef x
def tAfter : List IDd → List Bare
  | [] => []
  | x :: l => [tWord wAfter, tSign 8, tSign 6] ++ tRef x ++ tTail l ++ [tSign 7]
def tRes (x : Resd) : List Bare := [tWord wRes, tWord x.id.kind, tWord x.id.name, tSign 4] ++ x.attrs.flatMap tAttr ++ tAfter x.after ++ [tSign 5]
theorem lexS_attr {a : Attrd} (h : attrB a = true) {r : List UInt8} {ss : List Bare} (hr : LexS r ss) : LexS (attrP a ++ r) (tAttr a ++ ss) := by
  have hn : wordB a.name.data.toList = true := by
    simp only [attrB, Bool.and_eq_true] at h; exact h.1.1
  have he : attrP a ++ r = 32 :: 32 :: (a.name.data.toList ++ (32 :: 61 :: 32 :: (valueL a ++ (10 :: r)))) := by simp [attrP]
  rw [he]
  refine lexS_blank (by decide) (lexS_blank (by decide) (lexS_word hn (fun c hc => by cases hc; decide) (lexS_blank (by decide) (lexS_sign (k := 8) (by decide) (by decide) (lexS_blank (by decide) ?_)))))
  have h10 : LexS (10 :: r) ss := lexS_blank (by decide) hr
  unfold valueL tVal
  by_cases ht : a.isText = true
  · rw [if_pos ht, if_pos ht]
    have hs : stringB a.text.data.toList = true := by
      simp only [attrB, Bool.and_eq_true] at h
      have := h.2
      rw [if_pos ht] at this
      exact (Bool.and_eq_true_iff.1 this).1
    exact lexS_str hs h10
  · rw [if_neg ht, if_neg ht]
    have hs : -1000000000 ≤ a.number ∧ a.number ≤ 1000000000 := by
      simp only [attrB, Bool.and_eq_true] at h
      have := h.2
      rw [if_neg ht] at this
      exact of_decide_eq_true (Bool.and_eq_true_iff.1 this).2
    exact lexS_num hs.1 hs.2 (fun c hc => by cases hc; decide) h10
theorem lexS_attrs : ∀ {l : List Attrd}, (∀ a ∈ l, attrB a = true) → ∀ {r : List UInt8} {ss : List Bare}, LexS r ss → LexS (l.flatMap attrP ++ r) (l.flatMap tAttr ++ ss)
  | [], _, r, ss, hr => hr
  | a :: l, h, r, ss, hr => by
    simp only [List.flatMap_cons, List.append_assoc]
    exact lexS_attr (h a List.mem_cons_self) (lexS_attrs (fun x hx => h x (List.mem_cons_of_mem _ hx)) hr)
theorem lexS_ref {x : IDd} (h : idB x = true) {r : List UInt8} {ss : List Bare} (hc : ∀ c, r.head? = some c → isInnerB c.toNat = false) (hr : LexS r ss) : LexS ((refL x).data.toList ++ r) (tRef x ++ ss) := by
  obtain ⟨h1, h2⟩ := Bool.and_eq_true_iff.1 h
  have he : (refL x).data.toList ++ r = x.kind.data.toList ++ (46 :: (x.name.data.toList ++ r)) := by simp [refL]
  rw [he]
  exact lexS_word h1 (fun c hc => by cases hc; decide) (lexS_sign (k := 10) (by decide) (by decide) (lexS_word h2 hc hr))
theorem tail_head (l : List IDd) (r : List UInt8) : ∀ c, (Lib.joinTail [44, 32] (l.map fun x => (refL x).data.toList) ++ 93 :: r).head? = some c → isInnerB c.toNat = false := by
  intro c hc
  cases l with
  | nil => simp [Lib.joinTail] at hc; subst hc; decide
  | cons x l => simp [Lib.joinTail] at hc; subst hc; decide
theorem lexS_tail : ∀ {l : List IDd}, (∀ x ∈ l, idB x = true) → ∀ {r : List UInt8} {ss : List Bare}, LexS (93 :: r) ss → LexS (Lib.joinTail [44, 32] (l.map fun x => (refL x).data.toList) ++ 93 :: r) (tTail l ++ ss)
  | [], _, r, ss, hr => by simpa [Lib.joinTail, tTail] using hr
  | x :: l, h, r, ss, hr => by
    have ih := lexS_tail (l := l) (fun y hy => h y (List.mem_cons_of_mem _ hy)) hr
    have he : Lib.joinTail [44, 32] ((x :: l).map fun x => (refL x).data.toList) ++ 93 :: r = 44 :: 32 :: ((refL x).data.toList ++ (Lib.joinTail [44, 32] (l.map fun x => (refL x).data.toList) ++ 93 :: r)) := by simp [Lib.joinTail]
    have ht : tTail (x :: l) ++ ss = tSign 9 :: (tRef x ++ (tTail l ++ ss)) := by simp [tTail]
    rw [he, ht]
    exact lexS_sign (k := 9) (by decide) (by decide) (lexS_blank (by decide) (lexS_ref (h x List.mem_cons_self) (tail_head l r) ih))
theorem lexS_after {l : List IDd} (h : ∀ x ∈ l, idB x = true) {r : List UInt8} {ss : List Bare} (hr : LexS r ss) : LexS (afterP l ++ r) (tAfter l ++ ss) := by
  cases l with
  | nil => exact hr
  | cons x l =>
    have he : afterP (x :: l) ++ r = 32 :: 32 :: (wAfter.data.toList ++ (32 :: 61 :: 32 :: 91 :: ((refL x).data.toList ++ (Lib.joinTail [44, 32] (l.map fun x => (refL x).data.toList) ++ 93 :: (10 :: r))))) := by
      simp [afterP, refsL, Lib.join_cons, wAfter]
    have ht : tAfter (x :: l) ++ ss = tWord wAfter :: tSign 8 :: tSign 6 :: (tRef x ++ (tTail l ++ (tSign 7 :: ss))) := by simp [tAfter]
    rw [he, ht]
    have h7 : LexS (93 :: (10 :: r)) (tSign 7 :: ss) := lexS_sign (k := 7) (by decide) (by decide) (lexS_blank (by decide) hr)
    exact lexS_blank (by decide) (lexS_blank (by decide) (lexS_word (by decide) (fun c hc => by cases hc; decide) (lexS_blank (by decide) (lexS_sign (k := 8) (by decide) (by decide) (lexS_blank (by decide) (lexS_sign (k := 6) (by decide) (by decide) (lexS_ref (h x List.mem_cons_self) (tail_head l _) (lexS_tail (fun y hy => h y (List.mem_cons_of_mem _ hy)) h7))))))))
theorem lexS_res {x : Resd} (h : mayB x = true) {r : List UInt8} {ss : List Bare} (hr : LexS r ss) : LexS (resL x ++ r) (tRes x ++ ss) := by
  simp only [mayB, Bool.and_eq_true, decide_eq_true_eq] at h
  obtain ⟨⟨⟨⟨⟨⟨h1, h2⟩, h3⟩, h4⟩, h5⟩, h6⟩, h7⟩ := h
  obtain ⟨i1, i2⟩ := Bool.and_eq_true_iff.1 h3
  have he : resL x ++ r = wRes.data.toList ++ (32 :: (x.id.kind.data.toList ++ (32 :: (x.id.name.data.toList ++ (32 :: 123 :: 10 :: (x.attrs.flatMap attrP ++ (afterP x.after ++ (125 :: 10 :: r)))))))) := by
    simp [resL, headL, resW, wRes]
  have ht : tRes x ++ ss = tWord wRes :: tWord x.id.kind :: tWord x.id.name :: tSign 4 :: (x.attrs.flatMap tAttr ++ (tAfter x.after ++ (tSign 5 :: ss))) := by simp [tRes]
  rw [he, ht]
  exact lexS_word (by decide) (fun c hc => by cases hc; decide) (lexS_blank (by decide) (lexS_word i1 (fun c hc => by cases hc; decide) (lexS_blank (by decide) (lexS_word i2 (fun c hc => by cases hc; decide) (lexS_blank (by decide) (lexS_sign (k := 4) (by decide) (by decide) (lexS_blank (by decide) (lexS_attrs (fun a ha => List.all_eq_true.1 h4 a ha) (lexS_after (fun a ha => List.all_eq_true.1 h6 a ha) (lexS_sign (k := 5) (by decide) (by decide) (lexS_blank (by decide) hr)))))))))))
theorem lexS_print : ∀ {l : List Resd}, (∀ x ∈ l, mayB x = true) → LexS (printL l) (l.flatMap tRes ++ [(11, ⟨#[]⟩, 0)])
  | [], _ => lexS_nil
  | x :: l, h => by
    have : printL (x :: l) = resL x ++ printL l := by simp [printL]
    rw [this, List.flatMap_cons, List.append_assoc]
    exact lexS_res (h x List.mem_cons_self) (lexS_print fun y hy => h y (List.mem_cons_of_mem _ hy))
/-- A printed text is cut without an error. -/
theorem cut_print {l : List Resd} (h : ∀ x ∈ l, mayB x = true) : (cutL (printL l)).2.1 = 0 ∧ (cutL (printL l)).1.map strip = l.flatMap tRes ++ [(11, ⟨#[]⟩, 0)] :=
  lexS_print h (printL l) 0 rfl (Nat.zero_le _) _ (by omega)
end Go.Proofs.YtfnbbohbicffpaaGreatDoor

namespace Go.Proofs.YtfnbbohbicffpaaGreatDoor
open Go.RowKit

theorem resS_in {ts : List Tok} (he : TsEnd ts) {i : Nat} {es : List EntD} {rf : List (IDd × Nat)} {i' : Nat} {es' : List EntD} {rf' : List (IDd × Nat)} (h : resS ts i es rf = .ok (i', es', rf')) : i < i' ∧ i' < ts.length := by
  unfold resS at h
  split at h
  · cases h
  · rename_i i1 e1 h1
    have g0 := headS_up he h1
    split at h
    · cases h
    · rename_i _ i2 h2
      have g2 := take_in he h2 (by decide)
      split at h
      · cases h
      · rename_i i3 e3 rf3 h3
        have g3 := linesS_in he _ g2.2 h3
        split at h
        · cases h
        · rename_i _ i4 h4
          have g4 := take_in he h4 (by decide)
          cases h
          exact ⟨by omega, g4.2⟩
/-- Where the parser stands. -/
theorem Std.at_ {B : Nat} {w : World} {P : Nat} {ts : List Tok} {i : Nat} {bs : List Nat} {es : List EntD} {rf : List (IDd × Nat)} (h : Std B w P ts i bs es rf) : atOf w P = i := by
  obtain ⟨tE, vT, vE, vO, vR, hp⟩ := h.par
  unfold atOf
  rw [(five_cells hp.box).2.1]
  simp [intOf]
theorem peekS {B : Nat} {w : World} {P : Nat} {ts : List Tok} {i : Nat} {bs : List Nat} {es : List EntD} {rf : List (IDd × Nat)} (h : Std B w P ts i bs es rf) {t : Tok} (ht : ts[i]? = some t) :
    Calls Tryz.prog 33 #[.pointer (some ⟨P, 0, none⟩)] w fun e w' => e = .returned (.int .i64 t.kind) ∧ Hid (Ext w w') := by
  obtain ⟨tE, vT, vE, vO, vR, hp⟩ := h.par
  exact peekP hp ht
/-- What the reading of a text answers. -/
def TextIs (B : Nat) (w : World) (P : Nat) (ts : List Tok) (r : Except Flt (List EntD × List (IDd × Nat))) (e : Ending) (w' : World) : Prop :=
  Hid (Wr (ChgX B) w w') ∧ ((∃ en pl, Hid (r = .error (en, pl)) ∧ en ≠ 0 ∧ e = .returned (.agg #[.int .i64 en, .int .i64 pl])) ∨
    ∃ i' es' rf' bs', Hid (r = .ok (es', rf')) ∧ e = .returned (.agg #[.int .i64 0, .int .i64 0]) ∧ Hid (Std B w' P ts i' bs' es' rf') ∧ Hid (i' < ts.length))

set_option maxRecDepth 100000 in
set_option maxHeartbeats 3200000 in
theorem readTextP {B : Nat} {w : World} {P : Nat} {ts : List Tok} {i : Nat} {bs : List Nat} {es : List EntD} {rf : List (IDd × Nat)} (h : Std B w P ts i bs es rf) (hn : ts.length ≤ 1000000) (he : TsEnd ts) (hi : i < ts.length) :
    Calls Tryz.prog 17 #[.pointer (some ⟨P, 0, none⟩)] w (TextIs B w P ts (textS ts ts.length i es rf)) := by
  have hS0 := hide (h.ext ((Ext.refl w).alloc (.cells #[.int .i64 0, .int .i64 0] 47)))
  have O0 := hide (heap_alloc_new w (.cells #[.int .i64 0, .int .i64 0] 47))
  have W0 : Hid (Wr (ChgX B) w (w.alloc (.cells #[.int .i64 0, .int .i64 0] 47))) := Wr.ext ((Ext.refl w).alloc _)
  replace h := hide h; replace he := hide he
  go_enter Tryz.func17, Tryz.ntmps17
  go_wp2_with fail
  generalize w.alloc (.cells #[.int .i64 0, .int .i64 0] 47) = wx at *
  go_loopw [] (fun wr => ∃ (f j : Nat) (bsj : List Nat) (esj : List EntD) (rfj : List (IDd × Nat)), Hid (Std B wr P ts j bsj esj rfj) ∧ Hid (Wr (ChgX B) w wr) ∧ Hid (wr.heap[w.heap.size]? = some (.cells #[.int .i64 0, .int .i64 0] 47)) ∧ Hid (textS ts ts.length i es rf = textS ts f j esj rfj) ∧ j < ts.length ∧ ts.length ≤ f + j) (fun wr => ts.length - atOf wr P)
  case atStart => exact ⟨ts.length, i, bs, es, rf, hS0, W0, O0, rfl, hi, by omega⟩
  case round =>
    clear hS0 W0 O0 hi
    obtain ⟨f, j, bsj, esj, rfj, hS, hW, hO, hst, hlt, hfu⟩ := hrel
    obtain ⟨t, ht⟩ := TsEnd.there hlt
    have hpk := hide (peekS hS.out ht)
    obtain ⟨f', rfl⟩ : ∃ f', f = f' + 1 := ⟨f - 1, by omega⟩
    by_cases hk : t.kind = 11
    · have hk1 : ((t.kind : Int) != 11) = false := by simp [hk]
      have hfin : Hid (textS ts ts.length i es rf = .ok (esj, rfj)) := by
        show _ = _
        rw [hst.out]; unfold textS; rw [if_pos ((kind_at ht).trans hk)]
      replace ht := hide ht; replace hk := hide hk
      go_wp2_with fail
      refine hpk.out.mono ?_; rintro e5 w5 ⟨rfl, he5⟩
      have hS5 := hide (hS.out.ext he5.out)
      have O5 := ext_heap he5.out hO.out
      have W5 : Hid (Wr (ChgX B) w w5) := hW.out.trans (Wr.ext he5.out)
      have o0 := two_c0 O5; have o1 := two_c1 O5; have fO := row_frozen O5
      replace O5 := hide O5
      go_wp2_with fail
      refine bodyPost_ret (v := .agg #[.int .i64 0, .int .i64 0]) (by simp [results, Tryz.results17, go_sem, o0, o1]) rfl ?_
      have WF := Wr.ofF O5.out (.int .i64 0) (.int .i64 0)
      exact ⟨W5.out.thenNew WF fun j t hd => by have := hd.1; omega, .inr ⟨j, esj, rfj, bsj, hfin, rfl, hS5.out.onF WF, hlt⟩⟩
    · have hk1 : ((t.kind : Int) != 11) = true := by simp; omega
      have hka : kindAt ts j ≠ 11 := by rw [kind_at ht]; exact hk
      replace ht := hide ht; replace hk := hide hk
      go_wp2_with fail
      refine hpk.out.mono ?_; rintro e5 w5 ⟨rfl, he5⟩
      have hS5 := hide (hS.out.ext he5.out)
      go_wp2_with fail
      refine (readResourceP hS5.out hn he.out hlt).mono ?_
      rintro e6 w6 ⟨hW6, ⟨en, pl, hr6, hne, rfl⟩ | ⟨i6, es6, rf6, bs6, hr6, rfl, hS6⟩⟩
      · have hne1 : (en != 0) = true := by simpa using hne
        have hfin : Hid (textS ts ts.length i es rf = .error (en, pl)) := by
          show _ = _
          rw [hst.out]; unfold textS; rw [if_neg hka, hr6.out]
        have O6 := hide (Wr.keeps hW6.out (ext_heap he5.out hO.out) chgX_fault)
        have W6 : Hid (Wr (ChgX B) w w6) := hW.out.trans ((Wr.ext he5.out).trans hW6.out)
        go_wp2_with fail
        refine (faultIs _ _ _).mono ?_; rintro e7 w7 ⟨rfl, hw7⟩
        have X7 : Hid (Ext w6 w7) := (by show Ext _ _; rw [hw7]; exact (((Ext.refl w6).alloc _).alloc _))
        have F7 := (hw7 ▸ ext_heap ((Ext.refl _).alloc (.cells #[.int .i64 en, .int .i64 pl] 47)) (heap_alloc_new w6 (.cells #[.int .i64 en, .int .i64 pl] 47)) : w7.heap[w6.heap.size]? = some (.cells #[.int .i64 en, .int .i64 pl] 47))
        have O7 := ext_heap X7.out O6.out
        clear hw7
        have f0 := two_c0 F7; have f1 := two_c1 F7; have o0 := two_c0 O7; have o1 := two_c1 O7; have fO := row_frozen O7
        replace F7 := hide F7; replace O7 := hide O7
        go_wp2_with fail
        refine bodyPost_ret (v := .agg #[.int .i64 en, .int .i64 pl]) (by simp [results, Tryz.results17, go_sem, o0, o1]) rfl ?_
        have W : Wr (ChgX B) w w7 := W6.out.trans (Wr.ext X7.out)
        exact ⟨(W.setNew (p := ⟨w.heap.size, 0, none⟩) (Nat.le_refl _) _).setNew (p := ⟨w.heap.size, 1, none⟩) (Nat.le_refl _) _, .inl ⟨en, pl, hfin, hne, rfl⟩⟩
      · have O6 := hide (Wr.keeps hW6.out (ext_heap he5.out hO.out) chgX_fault)
        have W6 : Hid (Wr (ChgX B) w w6) := hW.out.trans ((Wr.ext he5.out).trans hW6.out)
        have hi6 := resS_in he.out hr6.out
        have hst6 : Hid (textS ts ts.length i es rf = textS ts f' i6 es6 rf6) := by
          show _ = _
          rw [hst.out]; conv => lhs; unfold textS
          rw [if_neg hka, hr6.out]
        go_wp2_with fail
        refine (faultIs _ _ _).mono ?_; rintro e7 w7 ⟨rfl, hw7⟩
        have X7 : Hid (Ext w6 w7) := (by show Ext _ _; rw [hw7]; exact (((Ext.refl w6).alloc _).alloc _))
        clear hw7
        have O7 := hide (ext_heap X7.out O6.out)
        have hS7 := hide (hS6.out.ext X7.out)
        have W7 : Hid (Wr (ChgX B) w w7) := W6.out.trans (Wr.ext X7.out)
        go_wp2_with fail
        go_roundw
        case rel => exact ⟨f', i6, bs6, es6, rf6, hS7, W7, O7, hst6, hi6.2, by omega⟩
        case measure =>
          rw [hS7.out.at_, hS.out.at_]; omega
end Go.Proofs.YtfnbbohbicffpaaGreatDoor
