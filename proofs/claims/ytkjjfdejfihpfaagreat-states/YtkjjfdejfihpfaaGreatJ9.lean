/-
  A resource as bytes: what the program's function that writes it answers.
-/
/-
  What may be is short.
-/
/-
  Resources whose lists are our own: plain facts.
-/
/-
  A list of resources of our own, and theirs.
-/
import Derived.Test.YtkjjfdejfihpfaaGreatJ8
namespace Go.Proofs.YtkjjfdejfihpfaaGreat
open Go.RowKit

theorem re_keeps {B : Nat} {w w' : World} (h : Wrote8 B w w') {k : Nat} {c : Array Value} {fz : Nat × Nat} (hk : w.heap[k]? = some (.cells c 40 fz)) : w'.heap[k]? = some (.cells c 40 fz) := h.keeps hk (by decide)
theorem bound4 {acc l : List UInt8} {x : IDd} {N : Nat} (h : acc = l ++ idL x) (hx : shI x) (hl : l.length + 600 ≤ N) : acc.length ≤ N := by
  have := idL_len hx
  rw [h, List.length_append]; omega
theorem listL_len {α : Type} {f : α → List UInt8} {l : List α} {n : Nat} (h : ∀ x ∈ l, (f x).length ≤ n) (hl : l.length ≤ 255) : (listL f l).length ≤ 1 + 255 * n := by
  have h1 := flat_le h
  have h2 : l.length * n ≤ 255 * n := Nat.mul_le_mul_right n hl
  rw [listL, List.length_append, bigL_len]; omega
theorem bound5 {acc l : List UInt8} {xs : List Attrd} {N : Nat} (h : acc = l ++ listL attrL xs) (hx : ∀ x ∈ xs, shA x) (hn : xs.length ≤ 255) (hl : l.length + 153001 ≤ N) : acc.length ≤ N := by
  have := listL_len (f := attrL) (n := 600) (fun x hh => attrL_len (hx x hh)) hn
  rw [h, List.length_append]; omega
theorem bound6 {acc l : List UInt8} {xs : List IDd} {N : Nat} (h : acc = l ++ listL idL xs) (hx : ∀ x ∈ xs, shI x) (hn : xs.length ≤ 255) (hl : l.length + 153001 ≤ N) : acc.length ≤ N := by
  have := listL_len (f := idL) (n := 600) (fun x hh => idL_len (hx x hh)) hn
  rw [h, List.length_append]; omega

set_option maxRecDepth 100000 in
set_option maxHeartbeats 1600000 in
theorem appendResource (B : Nat) (v c2 c3 : Value) (l : List UInt8) (x : Resd) (w0 w : World) (hv : Buf B w v l) (hl : l.length ≤ 300000) (hr : ResV w0 c2 c3 x) (hE : Ext w0 w) (hB : w0.heap.size ≤ B) (hx : shR x) :
    Calls Tryz.prog 13 #[v, .agg #[.string x.id.kind, .string x.id.name, c2, c3]] w (Wrt B w (l ++ encR x)) := by
  obtain ⟨hI, hA, hF⟩ := hr
  obtain ⟨x1, x2, x3, x4, x5⟩ := hx
  obtain ⟨a2, p2, rfl⟩ := hA.form
  obtain ⟨a3, p3, rfl⟩ := hF.form
  obtain ⟨pa, cap, rfl⟩ := hv.form
  replace hv := hide hv; replace hE := hide hE; replace hI := hide hI; replace hA := hide hA; replace hF := hide hF; replace x2 := hide x2; replace x3 := hide x3; replace x1 := hide x1
  go_enter Tryz.func13, Tryz.ntmps13
  go_wp2_with fail
  refine (appendID B _ l x.id _ (hv.out.alloc _) (by omega) x1.out).mono ?_
  rintro e w1 ⟨acc, pa1, cap1, rfl, hacc, hv1, hb1⟩
  have hlen := bound4 (N := 300600) hacc.out x1.out (by omega)
  have hR := re_keeps hb1.out (heap_alloc_new w _)
  have q2 := at_c2 hR
  have q3 := at_c3 hR
  replace hR := hide hR
  have X1 := hide (hE.out.wrote (((Wrote.refl B _ _).alloc _).trans hb1.out) hB)
  go_wp2_with fail
  refine (appendAttrs B _ _ acc x.attrs w0 _ hv1.out (by omega) hA.out X1.out hB x2.out x4).mono ?_
  rintro e w2 ⟨acc2, pa2, cap2, rfl, hacc2, hv2, hb2⟩
  have hlen2 := bound5 (N := 500000) hacc2.out x2.out x4 (by omega)
  have hR2 := re_keeps hb2.out hR.out
  clear q2 q3
  have q3 := at_c3 hR2
  replace hR2 := hide hR2
  go_wp2_with fail
  refine (appendIDs B _ _ acc2 x.after w0 _ hv2.out (by omega) hF.out (X1.out.wrote hb2.out hB) hB x3.out x5).mono ?_
  rintro e w3 ⟨acc3, pa3, cap3, rfl, hacc3, hv3, hb3⟩
  go_wp2_with fail
  go_ret
  refine Wrt.mk ?_ (((Wrote.refl _ _ _).alloc _).trans (hb1.out.trans (hb2.out.trans hb3.out)))
  have e : acc3 = l ++ encR x := by rw [hacc3.out, hacc2.out, hacc.out]; simp [encR]
  rw [← e]; exact hv3.out
end Go.Proofs.YtkjjfdejfihpfaaGreat

namespace Go.Proofs.YtkjjfdejfihpfaaGreat
open Go.RowKit

theorem word_sh {l : List UInt8} (h : wordB l = true) : l.length ≤ 12 := by
  rcases Nat.lt_or_ge 12 l.length with h1 | h1
  · rw [wordB_long h1] at h; cases h
  · exact h1
theorem size_dl (s : ByteArray) : s.data.toList.length = s.size := Array.length_toList
theorem id_sh {x : IDd} (h : idB x = true) : shI x := by
  simp only [idB, Bool.and_eq_true] at h
  have h1 := word_sh h.1; have h2 := word_sh h.2
  rw [size_dl] at h1 h2
  exact ⟨by omega, by omega⟩
theorem attr_sh {x : Attrd} (h : attrB x = true) : shA x := by
  simp only [attrB, Bool.and_eq_true] at h
  obtain ⟨⟨h1, _⟩, h2⟩ := h
  have h1 := word_sh h1
  rw [size_dl] at h1
  refine ⟨by omega, ?_⟩
  split at h2
  · simp only [stringB, Bool.and_eq_true, decide_eq_true_eq] at h2
    have := h2.1.1; rw [size_dl] at this; omega
  · simp only [Bool.and_eq_true, List.isEmpty_iff] at h2
    have := size_dl x.text; rw [h2.1] at this; simp at this; omega
theorem may_sh {x : Resd} (h : mayB x = true) : shR x := by
  simp only [mayB, Bool.and_eq_true, decide_eq_true_eq, List.all_eq_true] at h
  obtain ⟨⟨⟨⟨⟨⟨h1, h2⟩, h3⟩, h4⟩, _⟩, h5⟩, _⟩ := h
  exact ⟨id_sh h3, fun a ha => attr_sh (h4 a ha), fun a ha => id_sh (h5 a ha), by omega, by omega⟩
theorem ext_heap0 {w w' : World} (h : Ext w w') {k : Nat} {o : Obj} (hk : w.heap[k]? = some o) : w'.heap[k]? = some o := by
  obtain ⟨_, _, _, _, h5⟩ := h
  rw [h5 k (Array.getElem?_eq_some_iff.1 hk).1]; exact hk
end Go.Proofs.YtkjjfdejfihpfaaGreat

namespace Go.Proofs.YtkjjfdejfihpfaaGreat
open Go.RowKit

theorem take_split {cur : Array Value} {k : Nat} {xs : List Value} (h : cur.toList.take k = xs) : cur = (xs ++ cur.toList.drop k).toArray := by
  apply Array.toList_inj.1; rw [← h]; simp
theorem OwnR.resV {B : Nat} {w : World} {c2 c3 : Value} {x : Resd} (h : OwnR B w c2 c3 x) (hs : okS x) : ResV w c2 c3 x := by
  obtain ⟨_, _, h2, h3⟩ := h
  obtain ⟨s1, s2, s3, s4, s5⟩ := hs
  refine ⟨⟨by have := s1.1; omega, by have := s1.2; omega⟩, ⟨?_, by omega, fun a ha => ?_⟩, ⟨?_, by omega, fun a ha => ?_⟩⟩
  · rcases h2.2 with ⟨rfl, h0⟩ | ⟨g, cap, cur, rfl, _, hh, hc, hm, _, ht⟩
    · rw [List.eq_nil_of_length_eq_zero h0]; exact ⟨none, 0, rfl, Nat.le_refl _, by omega, .inl rfl⟩
    · rw [take_split ht] at hh
      exact ⟨some ⟨g, 0, none⟩, cap, rfl, hc, by unfold maxLen at hm; omega, .inr ⟨g, 0, rfl, attrsIn_of hh⟩⟩
  · obtain ⟨⟨k1, k2⟩, k3, k4⟩ := s2 a ha
    exact ⟨by omega, by omega, by omega, by omega⟩
  · rcases h3.2 with ⟨rfl, h0⟩ | ⟨g, cap, cur, rfl, _, hh, hc, hm, _, ht⟩
    · rw [List.eq_nil_of_length_eq_zero h0]; exact ⟨none, 0, rfl, Nat.le_refl _, by omega, .inl rfl⟩
    · rw [take_split ht] at hh
      exact ⟨some ⟨g, 0, none⟩, cap, rfl, hc, by unfold maxLen at hm; omega, .inr ⟨g, 0, rfl, idsIn_of hh⟩⟩
  · obtain ⟨k1, k2⟩ := s3 a ha
    exact ⟨by omega, by omega⟩
theorem OwnR.ext {B : Nat} {w w' : World} {c2 c3 : Value} {x : Resd} (h : OwnR B w c2 c3 x) (e : Ext w w') : OwnR B w' c2 c3 x :=
  ⟨h.f2, h.f3, ownsRow_wrote h.attrs (Wrote.ext (B := 0) (T := fun _ => False) e) id rfl, ownsRow_wrote h.after (Wrote.ext (B := 0) (T := fun _ => False) e) id rfl⟩
theorem OwnR.low {B B' : Nat} {w : World} {c2 c3 : Value} {x : Resd} (h : OwnR B w c2 c3 x) (hb : B' ≤ B) : OwnR B' w c2 c3 x := ⟨h.f2, h.f3, ownsRow_low h.attrs hb, ownsRow_low h.after hb⟩
def noRes : Resd := ⟨⟨⟨#[]⟩, ⟨#[]⟩⟩, [], []⟩
theorem OwnR.nil (B : Nat) (w : World) : OwnR B w (.slice none 0 0) (.slice none 0 0) noRes := ⟨⟨_, _, rfl⟩, ⟨_, _, rfl⟩, World.ownsRow_nil _ _ _ _, World.ownsRow_nil _ _ _ _⟩
theorem okS_nil : okS noRes := ⟨⟨Nat.zero_le _, Nat.zero_le _⟩, fun a h => (by cases h), fun a h => (by cases h), Nat.zero_le _, Nat.zero_le _⟩

set_option maxRecDepth 100000 in
set_option maxHeartbeats 1600000 in
theorem newReader (s : ByteArray) (w : World) :
    Calls Tryz.prog 45 #[.string s] w fun e w' => e = .returned (.pointer (some ⟨w.heap.size, 0, none⟩)) ∧ w' = w.alloc (.cells #[.string s] 118) := by
  go_enter Tryz.func45, Tryz.ntmps45
  go_wp2
  go_ret
  exact ⟨rfl, rfl⟩

end Go.Proofs.YtkjjfdejfihpfaaGreat

namespace Go.Proofs.YtkjjfdejfihpfaaGreat
open Go.RowKit

/-- A resource in memory. -/
structure ResP where
  x : Resd
  c2 : Value
  c3 : Value
def cRs (p : ResP) : List Value := [.string p.x.id.kind, .string p.x.id.name, p.c2, p.c3]
theorem cRs_len (p : ResP) : (cRs p).length = 4 := rfl
def cellsP (l : List ResP) : List Value := l.flatMap cRs
theorem cellsP_app (l : List ResP) (x : ResP) : cellsP (l ++ [x]) = cellsP l ++ cRs x := by simp [cellsP]
theorem cRs_one {x : Resd} {pa2 pa3 : Option Addr} {n2 n3 cap2 cap3 : Nat} : ∀ u ∈ cRs ⟨x, .slice pa2 n2 cap2, .slice pa3 n3 cap3⟩, u.oneCell' = true := by
  intro u hu
  simp [cRs] at hu
  rcases hu with rfl | rfl | rfl | rfl <;> rfl
/-- No list lies in two resources. -/
def ApartQ (p q : ResP) : Prop := (∀ g, p.c2.ownBlock = some g → q.c2.ownBlock ≠ some g) ∧ (∀ g, p.c3.ownBlock = some g → q.c3.ownBlock ≠ some g)
/-- A list of resources of our own, and theirs. -/
structure RessAt (B : Nat) (w : World) (v : Value) (ps : List ResP) : Prop where
  row : w.ownsRow B 40 4 v ps.length (cellsP ps)
  each : ∀ p ∈ ps, OwnR B w p.c2 p.c3 p.x ∧ okS p.x
  apart : ps.Pairwise ApartQ
theorem RessAt.ext {B : Nat} {w w' : World} {v : Value} {ps : List ResP} (h : RessAt B w v ps) (e : Ext w w') : RessAt B w' v ps :=
  ⟨ownsRow_wrote h.row (Wrote.ext (B := 0) (T := fun _ => False) e) id rfl, fun p hp => ⟨(h.each p hp).1.ext e, (h.each p hp).2⟩, h.apart⟩
theorem RessAt.low {B B' : Nat} {w : World} {v : Value} {ps : List ResP} (h : RessAt B w v ps) (hb : B' ≤ B) : RessAt B' w v ps :=
  ⟨ownsRow_low h.row hb, fun p hp => ⟨(h.each p hp).1.low hb, (h.each p hp).2⟩, h.apart⟩
theorem RessAt.nil (B : Nat) (w : World) : RessAt B w (.slice none 0 0) [] := ⟨World.ownsRow_nil _ _ _ _, fun p hp => (by cases hp), List.Pairwise.nil⟩
theorem RessAt.ressV {B : Nat} {w : World} {v : Value} {ps : List ResP} (h : RessAt B w v ps) (hn : ps.length ≤ 1000) : RessV w v (ps.map ResP.x) := by
  have hl : (ps.map ResP.x).length = ps.length := List.length_map ..
  refine ⟨?_, by rw [hl]; omega⟩
  rcases h.row.2 with ⟨rfl, h0⟩ | ⟨g, cap, cur, rfl, _, hg, hc, hm, hs, ht⟩
  · have : ps = [] := List.eq_nil_of_length_eq_zero h0
    subst this
    exact ⟨none, 0, rfl, Nat.le_refl _, by decide, .inl rfl⟩
  · refine ⟨some ⟨g, 0, none⟩, cap, by rw [hl], by rw [hl]; exact hc, by unfold maxLen at hm; omega, .inr ⟨g, 0, rfl, ?_⟩⟩
    intro i x hx
    rw [List.getElem?_map] at hx
    obtain ⟨p, hp, rfl⟩ := Option.map_eq_some_iff.1 hx
    have hlt : i < ps.length := (List.getElem?_eq_some_iff.1 hp).1
    have key : ∀ r, r < 4 → w.cell? ⟨g, 0 + i * 4 + r, none⟩ = (cRs p)[r]? := by
      intro r hr
      have h1 : (cellsP ps)[i * 4 + r]? = (cRs p)[r]? := flat_get cRs_len hp hr
      rw [← h1, ← ht, List.getElem?_take, if_pos (by omega), Nat.zero_add]
      simp [World.cell?, hg]
    obtain ⟨ho, hok⟩ := h.each p (List.mem_of_getElem? hp)
    exact ⟨key 0 (by omega), key 1 (by omega), p.c2, p.c3, key 2 (by omega), key 3 (by omega), ho.resV hok⟩
/-- One more. -/
theorem RessAt.snoc {B g3 c3 : Nat} {w1 w3 : World} {v : Value} {ps : List ResP} {x : Resd} {d2 d3 : Value} (h : RessAt B w1 v ps) (ho : OwnR B w1 d2 d3 x) (hok : okS x) (hnew : ∀ p ∈ ps, ApartQ p ⟨x, d2, d3⟩)
    {o : Obj} (hgrow : (w1.alloc o).grownBy w3 v.ownBlock) (hown : w3.ownsRow B 40 4 (.slice (some ⟨g3, 0, none⟩) (ps.length + 1) c3) (ps.length + 1) (cellsP ps ++ cRs ⟨x, d2, d3⟩)) :
    RessAt B w3 (.slice (some ⟨g3, 0, none⟩) (ps.length + 1) c3) (ps ++ [⟨x, d2, d3⟩]) := by
  have hl : (ps ++ [(⟨x, d2, d3⟩ : ResP)]).length = ps.length + 1 := by simp
  have keep : ∀ {e : TypeId} {size n : Nat} {u : Value} {xs : List Value}, e ≠ 40 → w1.ownsRow B e size u n xs → w3.ownsRow B e size u n xs := fun hne hh =>
    ownsRow_keep hh (grown_kept hgrow) fun g c hg => ownsRow_ne h.row hg hne
  refine ⟨by rw [hl, cellsP_app]; exact hown, ?_, ?_⟩
  · intro p hp
    rcases List.mem_append.1 hp with hp | hp
    · obtain ⟨h1, h2⟩ := h.each p hp
      exact ⟨⟨h1.f2, h1.f3, keep (by decide) h1.attrs, keep (by decide) h1.after⟩, h2⟩
    · obtain rfl : p = _ := by simpa using hp
      exact ⟨⟨ho.f2, ho.f3, keep (by decide) ho.attrs, keep (by decide) ho.after⟩, hok⟩
  · refine List.pairwise_append.2 ⟨h.apart, List.pairwise_singleton _ _, fun p hp p' hp' => ?_⟩
    obtain rfl : p' = _ := by simpa using hp'
    exact hnew p hp
/-- What is new lies apart. -/
theorem RessAt.fresh {B : Nat} {w w1 : World} {v : Value} {ps : List ResP} {x : Resd} {d2 d3 : Value} (h : RessAt B w v ps) (ho : OwnR w.heap.size w1 d2 d3 x) : ∀ p ∈ ps, ApartQ p ⟨x, d2, d3⟩ := fun p hp => by
  obtain ⟨h1, _⟩ := h.each p hp
  constructor
  · intro g hg hg'
    have k1 := (h1.attrs.lt g hg).2
    have k2 := (ho.attrs.lt g hg').1
    omega
  · intro g hg hg'
    have k1 := (h1.after.lt g hg).2
    have k2 := (ho.after.lt g hg').1
    omega
theorem OwnR.wrote {B B' : Nat} {T : TypeId → Prop} {w w' : World} {c2 c3 : Value} {x : Resd} (h : OwnR B w c2 c3 x) (k : Wrote B' T w w') (h2 : ¬ T 42) (h3 : ¬ T 37) : OwnR B w' c2 c3 x :=
  ⟨h.f2, h.f3, ownsRow_wrote h.attrs k h2 rfl, ownsRow_wrote h.after k h3 rfl⟩
theorem RessAt.wrote {B B' : Nat} {T : TypeId → Prop} {w w' : World} {v : Value} {ps : List ResP} (h : RessAt B w v ps) (k : Wrote B' T w w') (h1 : ¬ T 40) (h2 : ¬ T 42) (h3 : ¬ T 37) : RessAt B w' v ps :=
  ⟨ownsRow_wrote h.row k h1 rfl, fun p hp => ⟨(h.each p hp).1.wrote k h2 h3, (h.each p hp).2⟩, h.apart⟩
end Go.Proofs.YtkjjfdejfihpfaaGreat
