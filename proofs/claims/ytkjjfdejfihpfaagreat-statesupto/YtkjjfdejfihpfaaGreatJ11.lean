/-
  Resources out of bytes: what the program's function that reads them answers.
-/
/-
  A resource as bytes: what the program's function that writes it answers.
-/
/-
  What may be is short.
-/
/-
  Resources whose lists are our own: plain facts.
-/
import Derived.Test.YtkjjfdejfihpfaaGreatRead2
import Derived.Test.YtkjjfdejfihpfaaGreatJ8
namespace Go.Proofs.YtkjjfdejfihpfaaGreat
open Go.RowKit

def rdRes (l : List UInt8) : Resd × List UInt8 :=
  (⟨(rdID l).1, (rdList rdAttr (rdID l).2).1, (rdList rdID (rdList rdAttr (rdID l).2).2).1⟩, (rdList rdID (rdList rdAttr (rdID l).2).2).2)
/-- A resource that was read: it is short. -/
def okS (x : Resd) : Prop := shI x.id ∧ (∀ a ∈ x.attrs, okN a) ∧ (∀ a ∈ x.after, shI a) ∧ x.attrs.length ≤ 255 ∧ x.after.length ≤ 255
/-- Its lists are our own. -/
structure OwnR (B : Nat) (w : World) (c2 c3 : Value) (x : Resd) : Prop where
  f2 : ∃ pa cap, c2 = .slice pa x.attrs.length cap
  f3 : ∃ pa cap, c3 = .slice pa x.after.length cap
  attrs : w.ownsRow B 42 4 c2 x.attrs.length (cellsA x.attrs)
  after : w.ownsRow B 37 2 c3 x.after.length (cellsI x.after)
/-- What the reading of a resource answers. -/
def ResIs (w : World) (R : Nat) (s : ByteArray) (e : Ending) (w' : World) : Prop :=
  ∃ (x : Resd) (pa2 pa3 : Option Addr) (cap2 cap3 : Nat) (s' : ByteArray), e = .returned (.agg #[.string x.id.kind, .string x.id.name, .slice pa2 x.attrs.length cap2, .slice pa3 x.after.length cap3]) ∧ Hid (rdRes s.data.toList = (x, s'.data.toList)) ∧ Hid (okS x) ∧ Hid (OwnR w.heap.size w' (.slice pa2 x.attrs.length cap2) (.slice pa3 x.after.length cap3) x) ∧ Hid (Left w w' R s' s'.data.toList)
theorem ownsRow_low {w : World} {base base' : Nat} {e : TypeId} {size : Nat} {v : Value} {n : Nat} {xs : List Value} (h : w.ownsRow base e size v n xs) (hb : base' ≤ base) : w.ownsRow base' e size v n xs := by
  obtain ⟨h1, h2⟩ := h
  refine ⟨h1, h2.imp id ?_⟩
  rintro ⟨g, cap, cur, hv, hg, r⟩
  exact ⟨g, cap, cur, hv, Nat.le_trans hb hg, r⟩
theorem ownsRow_set {w : World} {I j : Nat} {c : Array Value} {t : TypeId} {fz : Nat × Nat} {base : Nat} {e : TypeId} {size : Nat} {v : Value} {n : Nat} {xs : List Value} (h : w.ownsRow base e size v n xs) (hI : w.heap[I]? = some (.cells c t fz)) (hne : t ≠ e) (u : Value) : (w.setCell ⟨I, j, none⟩ u).ownsRow base e size v n xs :=
  ownsRow_wrote h ((Wrote.refl 0 (· = t) w).setCell (p := ⟨I, j, none⟩) (Nat.zero_le _) hI rfl u) (fun h => hne h.symm) rfl

set_option maxRecDepth 100000 in
set_option maxHeartbeats 3200000 in
theorem readResource (R : Nat) (s : ByteArray) (w : World) (hR : RdAt w R s) (hs : s.size ≤ 1048576) :
    Calls Tryz.prog 49 #[.pointer (some ⟨R, 0, none⟩)] w (ResIs w R s) := by
  replace hR := hide hR
  have hno : ¬ w.heap.size + 1 = w.heap.size := by omega
  have hno' : ¬ w.heap.size = w.heap.size + 1 := by omega
  go_enter Tryz.func49, Tryz.ntmps49
  go_wp2_with fail
  refine (readID R s _ (hR.out.ext (((Ext.refl w).alloc _).alloc _)) hs).mono ?_
  rintro e w1 ⟨i, s1, rfl, hx1, hsh1, hL1⟩
  have hO := r_keeps (t := 40) hL1.out.wrote (two_lo w _ _) (by decide)
  have hI := r_keeps (t := 40) hL1.out.wrote (two_hi w _ _) (by decide)
  obtain ⟨b0, b1, b2, b3⟩ := four_cells hI
  have fI := row_frozen hI
  have hne := hL1.out.at_.ne hI (by decide)
  have hR1 := hide ((hL1.out.at_.other (j := 0) hne (.string i.kind)).other (j := 1) hne (.string i.name))
  have hO1 := hide (World.setCell_other_row (World.setCell_other_row hO hno 0 (.string i.kind)) hno 1 (.string i.name))
  have hI1 := hide (four_set1 (four_set0 hI (.string i.kind)) (.string i.name))
  have W1 := hide ((((((Wrote.refl R (· = 118) w).alloc _).alloc _).trans hL1.out.wrote).setNew (p := ⟨w.heap.size + 1, 0, none⟩) (by simp) (.string i.kind)).setNew (p := ⟨w.heap.size + 1, 1, none⟩) (by simp) (.string i.name))
  clear hO hI
  replace hne := hide hne
  go_wp2_with fail
  refine (readAttrs R s1 _ hR1.out hL1.out.few).mono ?_
  rintro e w2 ⟨al, pa2, cap2, s2, rfl, hx2, hn2, hok2, hown2, hL2⟩
  have hO2 := r_keeps (t := 40) hL2.out.wrote hO1.out (by decide)
  have hI2 := r_keeps (t := 40) hL2.out.wrote hI1.out (by decide)
  clear b0 b1 b2 b3 fI
  obtain ⟨b0, b1, b2, b3⟩ := four_cells hI2
  have fI := row_frozen hI2
  have hR2 := hide (hL2.out.at_.other (j := 2) hne.out (.slice pa2 al.length cap2))
  have hO3 := hide (World.setCell_other_row hO2 hno 2 (.slice pa2 al.length cap2))
  have hI3 := hide (four_set2 hI2 (.slice pa2 al.length cap2))
  have W3 := hide ((W1.out.trans hL2.out.wrote).setNew (p := ⟨w.heap.size + 1, 2, none⟩) (by simp) (.slice pa2 al.length cap2))
  have own2 := hide (ownsRow_low (ownsRow_set (j := 2) hown2.out hI2 (by decide) (.slice pa2 al.length cap2)) W1.out.size)
  clear hO2 hI2
  go_wp2_with fail
  refine (readIDs R s2 _ hR2.out hL2.out.few).mono ?_
  rintro e w4 ⟨fs, pa4, cap4, s4, rfl, hx4, hn4, hok4, hown4, hL4⟩
  have hO4 := r_keeps (t := 40) hL4.out.wrote hO3.out (by decide)
  have hI4 := r_keeps (t := 40) hL4.out.wrote hI3.out (by decide)
  clear b0 b1 b2 b3 fI
  obtain ⟨b0, b1, b2, b3⟩ := four_cells hI4
  obtain ⟨a0, a1, a2, a3⟩ := four_cells hO4
  have fI := row_frozen hI4
  have fO := row_frozen hO4
  have hI5 := hide (World.setCell_other_row hO4 hno 3 (.slice pa4 fs.length cap4))
  have hR4 := hide ((hL4.out.at_.other (j := 3) hne.out (.slice pa4 fs.length cap4)).set4 (hL4.out.at_.ne hO4 (by decide)) (.string i.kind) (.string i.name) (.slice pa2 al.length cap2) (.slice pa4 fs.length cap4))
  have W4 := hide (((W3.out.trans hL4.out.wrote).setNew (p := ⟨w.heap.size + 1, 3, none⟩) (by simp) (.slice pa4 fs.length cap4)).set4 (Nat.le_refl _) (.string i.kind) (.string i.name) (.slice pa2 al.length cap2) (.slice pa4 fs.length cap4))
  have own4 := hide (ownsRow_low (ownsRow_set (j := 3) hown4.out hI4 (by decide) (.slice pa4 fs.length cap4)) W3.out.size)
  have own24 := hide (ownsRow_set (j := 3) (ownsRow_wrote own2.out hL4.out.wrote (by decide) rfl) hI4 (by decide) (.slice pa4 fs.length cap4))
  have K4 : Hid (Wrote 0 (· = 40) (w4.setCell ⟨w.heap.size + 1, 3, none⟩ (.slice pa4 fs.length cap4)) (((((w4.setCell ⟨w.heap.size + 1, 3, none⟩ (.slice pa4 fs.length cap4)).setCell ⟨w.heap.size, 0, none⟩ (.string i.kind)).setCell ⟨w.heap.size, 1, none⟩ (.string i.name)).setCell ⟨w.heap.size, 2, none⟩ (.slice pa2 al.length cap2)).setCell ⟨w.heap.size, 3, none⟩ (.slice pa4 fs.length cap4))) := by
    have h0 := hI5.out
    have h1 := four_set0 h0 (.string i.kind)
    have h2 := four_set1 h1 (.string i.name)
    have h3 := four_set2 h2 (.slice pa2 al.length cap2)
    exact ((((Wrote.refl 0 (· = 40) _).setCell (p := ⟨w.heap.size, 0, none⟩) (Nat.zero_le _) h0 rfl _).setCell (p := ⟨w.heap.size, 1, none⟩) (Nat.zero_le _) h1 rfl _).setCell (p := ⟨w.heap.size, 2, none⟩) (Nat.zero_le _) h2 rfl _).setCell (p := ⟨w.heap.size, 3, none⟩) (Nat.zero_le _) h3 rfl _
  replace hO4 := hide hO4; replace hI4 := hide hI4
  go_wp2
  refine bodyPost_ret (v := .agg #[.string i.kind, .string i.name, .slice pa2 al.length cap2, .slice pa4 fs.length cap4]) (by simp [results, Tryz.results49, go_sem, a0, a1, a2, a3]) rfl ⟨⟨i, al, fs⟩, pa2, pa4, cap2, cap4, s4, rfl, ?_, ⟨hsh1, hok2.out, hok4.out, hn2, hn4⟩, ⟨⟨_, _, rfl⟩, ⟨_, _, rfl⟩, ownsRow_wrote own24.out K4.out (by decide) rfl, ownsRow_wrote own4.out K4.out (by decide) rfl⟩, ⟨hR4.out, rfl, W4.out, hL4.out.few⟩⟩
  show _ = _
  unfold rdRes
  rw [hx1.out]
  dsimp only
  rw [hx2.out]
  dsimp only
  rw [hx4.out]
end Go.Proofs.YtkjjfdejfihpfaaGreat

namespace Go.Proofs.YtkjjfdejfihpfaaGreat
open Go.RowKit

theorem re_keeps {B : Nat} {w w' : World} (h : Wrote8 B w w') {k : Nat} {c : Array Value} {fz : Nat × Nat} (hk : w.heap[k]? = some (.cells c 40 fz)) : w'.heap[k]? = some (.cells c 40 fz) := h.keeps hk (by decide)
theorem bound4 {acc l : List UInt8} {x : IDd} {N : Nat} (h : acc = l ++ idL x) (hx : shI x) (hl : l.length + 600 ≤ N) : acc.length ≤ N := by
  have := idL_len hx
  rw [h, List.length_append]; omega
theorem listL_len {α : Type} {f : α → List UInt8} {l : List α} {n : Nat} (h : ∀ x ∈ l, (f x).length ≤ n) (hl : l.length ≤ 255) : (listL f l).length ≤ 1 + 255 * n := by
  have h1 := flat_le h
  have h2 : l.length * n ≤ 255 * n := Nat.mul_le_mul_right n hl
  rw [listL, List.length_append, bigL_len]; omega
theorem bound5 {acc l : List UInt8} {xs : List Attrd} {N : Nat} (h : acc = l ++ listL attrL xs) (hx : ∀ x ∈ xs, shA x) (hn : xs.length ≤ 255) (hl : l.length + 153001 ≤ N) : acc.length ≤ N := by
  have := listL_len (f := attrL) (n := 600) (fun x hh => attrL_len (hx x hh)) hn
  rw [h, List.length_append]; omega
theorem bound6 {acc l : List UInt8} {xs : List IDd} {N : Nat} (h : acc = l ++ listL idL xs) (hx : ∀ x ∈ xs, shI x) (hn : xs.length ≤ 255) (hl : l.length + 153001 ≤ N) : acc.length ≤ N := by
  have := listL_len (f := idL) (n := 600) (fun x hh => idL_len (hx x hh)) hn
  rw [h, List.length_append]; omega

set_option maxRecDepth 100000 in
set_option maxHeartbeats 1600000 in
theorem appendResource (B : Nat) (v c2 c3 : Value) (l : List UInt8) (x : Resd) (w0 w : World) (hv : Buf B w v l) (hl : l.length ≤ 300000) (hr : ResV w0 c2 c3 x) (hE : Ext w0 w) (hB : w0.heap.size ≤ B) (hx : shR x) :
    Calls Tryz.prog 13 #[v, .agg #[.string x.id.kind, .string x.id.name, c2, c3]] w (Wrt B w (l ++ encR x)) := by
  obtain ⟨hI, hA, hF⟩ := hr
  obtain ⟨x1, x2, x3, x4, x5⟩ := hx
  obtain ⟨a2, p2, rfl⟩ := hA.form
  obtain ⟨a3, p3, rfl⟩ := hF.form
  obtain ⟨pa, cap, rfl⟩ := hv.form
  replace hv := hide hv; replace hE := hide hE; replace hI := hide hI; replace hA := hide hA; replace hF := hide hF; replace x2 := hide x2; replace x3 := hide x3; replace x1 := hide x1
  go_enter Tryz.func13, Tryz.ntmps13
  go_wp2_with fail
  refine (appendID B _ l x.id _ (hv.out.alloc _) (by omega) x1.out).mono ?_
  rintro e w1 ⟨acc, pa1, cap1, rfl, hacc, hv1, hb1⟩
  have hlen := bound4 (N := 300600) hacc.out x1.out (by omega)
  have hR := re_keeps hb1.out (heap_alloc_new w _)
  have q2 := at_c2 hR
  have q3 := at_c3 hR
  replace hR := hide hR
  have X1 := hide (hE.out.wrote (((Wrote.refl B _ _).alloc _).trans hb1.out) hB)
  go_wp2_with fail
  refine (appendAttrs B _ _ acc x.attrs w0 _ hv1.out (by omega) hA.out X1.out hB x2.out x4).mono ?_
  rintro e w2 ⟨acc2, pa2, cap2, rfl, hacc2, hv2, hb2⟩
  have hlen2 := bound5 (N := 500000) hacc2.out x2.out x4 (by omega)
  have hR2 := re_keeps hb2.out hR.out
  clear q2 q3
  have q3 := at_c3 hR2
  replace hR2 := hide hR2
  go_wp2_with fail
  refine (appendIDs B _ _ acc2 x.after w0 _ hv2.out (by omega) hF.out (X1.out.wrote hb2.out hB) hB x3.out x5).mono ?_
  rintro e w3 ⟨acc3, pa3, cap3, rfl, hacc3, hv3, hb3⟩
  go_wp2_with fail
  go_ret
  refine Wrt.mk ?_ (((Wrote.refl _ _ _).alloc _).trans (hb1.out.trans (hb2.out.trans hb3.out)))
  have e : acc3 = l ++ encR x := by rw [hacc3.out, hacc2.out, hacc.out]; simp [encR]
  rw [← e]; exact hv3.out
end Go.Proofs.YtkjjfdejfihpfaaGreat

namespace Go.Proofs.YtkjjfdejfihpfaaGreat
open Go.RowKit

theorem word_sh {l : List UInt8} (h : wordB l = true) : l.length ≤ 12 := by
  rcases Nat.lt_or_ge 12 l.length with h1 | h1
  · rw [wordB_long h1] at h; cases h
  · exact h1
theorem size_dl (s : ByteArray) : s.data.toList.length = s.size := Array.length_toList
theorem id_sh {x : IDd} (h : idB x = true) : shI x := by
  simp only [idB, Bool.and_eq_true] at h
  have h1 := word_sh h.1; have h2 := word_sh h.2
  rw [size_dl] at h1 h2
  exact ⟨by omega, by omega⟩
theorem attr_sh {x : Attrd} (h : attrB x = true) : shA x := by
  simp only [attrB, Bool.and_eq_true] at h
  obtain ⟨⟨h1, _⟩, h2⟩ := h
  have h1 := word_sh h1
  rw [size_dl] at h1
  refine ⟨by omega, ?_⟩
  split at h2
  · simp only [stringB, Bool.and_eq_true, decide_eq_true_eq] at h2
    have := h2.1.1; rw [size_dl] at this; omega
  · simp only [Bool.and_eq_true, List.isEmpty_iff] at h2
    have := size_dl x.text; rw [h2.1] at this; simp at this; omega
theorem may_sh {x : Resd} (h : mayB x = true) : shR x := by
  simp only [mayB, Bool.and_eq_true, decide_eq_true_eq, List.all_eq_true] at h
  obtain ⟨⟨⟨⟨⟨⟨h1, h2⟩, h3⟩, h4⟩, _⟩, h5⟩, _⟩ := h
  exact ⟨id_sh h3, fun a ha => attr_sh (h4 a ha), fun a ha => id_sh (h5 a ha), by omega, by omega⟩
theorem ext_heap0 {w w' : World} (h : Ext w w') {k : Nat} {o : Obj} (hk : w.heap[k]? = some o) : w'.heap[k]? = some o := by
  obtain ⟨_, _, _, _, h5⟩ := h
  rw [h5 k (Array.getElem?_eq_some_iff.1 hk).1]; exact hk
end Go.Proofs.YtkjjfdejfihpfaaGreat

namespace Go.Proofs.YtkjjfdejfihpfaaGreat
open Go.RowKit

theorem take_split {cur : Array Value} {k : Nat} {xs : List Value} (h : cur.toList.take k = xs) : cur = (xs ++ cur.toList.drop k).toArray := by
  apply Array.toList_inj.1; rw [← h]; simp
theorem OwnR.resV {B : Nat} {w : World} {c2 c3 : Value} {x : Resd} (h : OwnR B w c2 c3 x) (hs : okS x) : ResV w c2 c3 x := by
  obtain ⟨_, _, h2, h3⟩ := h
  obtain ⟨s1, s2, s3, s4, s5⟩ := hs
  refine ⟨⟨by have := s1.1; omega, by have := s1.2; omega⟩, ⟨?_, by omega, fun a ha => ?_⟩, ⟨?_, by omega, fun a ha => ?_⟩⟩
  · rcases h2.2 with ⟨rfl, h0⟩ | ⟨g, cap, cur, rfl, _, hh, hc, hm, _, ht⟩
    · rw [List.eq_nil_of_length_eq_zero h0]; exact ⟨none, 0, rfl, Nat.le_refl _, by omega, .inl rfl⟩
    · rw [take_split ht] at hh
      exact ⟨some ⟨g, 0, none⟩, cap, rfl, hc, by unfold maxLen at hm; omega, .inr ⟨g, 0, rfl, attrsIn_of hh⟩⟩
  · obtain ⟨⟨k1, k2⟩, k3, k4⟩ := s2 a ha
    exact ⟨by omega, by omega, by omega, by omega⟩
  · rcases h3.2 with ⟨rfl, h0⟩ | ⟨g, cap, cur, rfl, _, hh, hc, hm, _, ht⟩
    · rw [List.eq_nil_of_length_eq_zero h0]; exact ⟨none, 0, rfl, Nat.le_refl _, by omega, .inl rfl⟩
    · rw [take_split ht] at hh
      exact ⟨some ⟨g, 0, none⟩, cap, rfl, hc, by unfold maxLen at hm; omega, .inr ⟨g, 0, rfl, idsIn_of hh⟩⟩
  · obtain ⟨k1, k2⟩ := s3 a ha
    exact ⟨by omega, by omega⟩
theorem OwnR.ext {B : Nat} {w w' : World} {c2 c3 : Value} {x : Resd} (h : OwnR B w c2 c3 x) (e : Ext w w') : OwnR B w' c2 c3 x :=
  ⟨h.f2, h.f3, ownsRow_wrote h.attrs (Wrote.ext (B := 0) (T := fun _ => False) e) id rfl, ownsRow_wrote h.after (Wrote.ext (B := 0) (T := fun _ => False) e) id rfl⟩
theorem OwnR.low {B B' : Nat} {w : World} {c2 c3 : Value} {x : Resd} (h : OwnR B w c2 c3 x) (hb : B' ≤ B) : OwnR B' w c2 c3 x := ⟨h.f2, h.f3, ownsRow_low h.attrs hb, ownsRow_low h.after hb⟩
def noRes : Resd := ⟨⟨⟨#[]⟩, ⟨#[]⟩⟩, [], []⟩
theorem OwnR.nil (B : Nat) (w : World) : OwnR B w (.slice none 0 0) (.slice none 0 0) noRes := ⟨⟨_, _, rfl⟩, ⟨_, _, rfl⟩, World.ownsRow_nil _ _ _ _, World.ownsRow_nil _ _ _ _⟩
theorem okS_nil : okS noRes := ⟨⟨Nat.zero_le _, Nat.zero_le _⟩, fun a h => (by cases h), fun a h => (by cases h), Nat.zero_le _, Nat.zero_le _⟩

set_option maxRecDepth 100000 in
set_option maxHeartbeats 1600000 in
theorem newReader (s : ByteArray) (w : World) :
    Calls Tryz.prog 45 #[.string s] w fun e w' => e = .returned (.pointer (some ⟨w.heap.size, 0, none⟩)) ∧ w' = w.alloc (.cells #[.string s] 118) := by
  go_enter Tryz.func45, Tryz.ntmps45
  go_wp2
  go_ret
  exact ⟨rfl, rfl⟩

end Go.Proofs.YtkjjfdejfihpfaaGreat
