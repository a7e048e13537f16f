/-
  A list of resources of our own, and theirs.
-/
/-
  A resource at a place: what the reference's function answers.
-/
/-
  A record as bytes: what the reference's function answers.
-/
/-
  A record out of bytes: what the program's function answers.
-/
/-
  A record out of bytes: what the reference's function answers.
-/
/-
  A resource and a step whose lists lie in memory.
-/
/-
  Tokens: the token that begins at a place; a text is cut.
-/
/-
  Tokens: a text is cut.
-/
import Derived.Test.YtfmcgdglalljgaaGreatDoorJ14
import Derived.Test.YtfmcgdglalljgaaGreatDoorJ9
import Derived.Test.YtfmcgdglalljgaaGreatDoorJ10
import Derived.Test.YtfmcgdglalljgaaGreatDoorJ1
namespace Go.Proofs.YtfmcgdglalljgaaGreatDoor
open Go.RowKit

/-- A resource in memory. -/
structure ResP where
  x : Resd
  c2 : Value
  c3 : Value
def cRs (p : ResP) : List Value := [.string p.x.id.kind, .string p.x.id.name, p.c2, p.c3]
theorem cRs_len (p : ResP) : (cRs p).length = 4 := rfl
def cellsP (l : List ResP) : List Value := l.flatMap cRs
theorem cellsP_app (l : List ResP) (x : ResP) : cellsP (l ++ [x]) = cellsP l ++ cRs x := by simp [cellsP]
theorem cRs_one {x : Resd} {pa2 pa3 : Option Addr} {n2 n3 cap2 cap3 : Nat} : ∀ u ∈ cRs ⟨x, .slice pa2 n2 cap2, .slice pa3 n3 cap3⟩, u.oneCell' = true := by
  intro u hu
  simp [cRs] at hu
  rcases hu with rfl | rfl | rfl | rfl <;> rfl
/-- No list lies in two resources. -/
def ApartQ (p q : ResP) : Prop := (∀ g, p.c2.ownBlock = some g → q.c2.ownBlock ≠ some g) ∧ (∀ g, p.c3.ownBlock = some g → q.c3.ownBlock ≠ some g)
/-- A list of resources of our own, and theirs. -/
structure RessAt (B : Nat) (w : World) (v : Value) (ps : List ResP) : Prop where
  row : w.ownsRow B 29 4 v ps.length (cellsP ps)
  each : ∀ p ∈ ps, OwnR B w p.c2 p.c3 p.x ∧ okS p.x
  apart : ps.Pairwise ApartQ
theorem RessAt.ext {B : Nat} {w w' : World} {v : Value} {ps : List ResP} (h : RessAt B w v ps) (e : Ext w w') : RessAt B w' v ps :=
  ⟨ownsRow_wrote h.row (Wrote.ext (B := 0) (T := fun _ => False) e) id rfl, fun p hp => ⟨(h.each p hp).1.ext e, (h.each p hp).2⟩, h.apart⟩
theorem RessAt.low {B B' : Nat} {w : World} {v : Value} {ps : List ResP} (h : RessAt B w v ps) (hb : B' ≤ B) : RessAt B' w v ps :=
  ⟨ownsRow_low h.row hb, fun p hp => ⟨(h.each p hp).1.low hb, (h.each p hp).2⟩, h.apart⟩
theorem RessAt.nil (B : Nat) (w : World) : RessAt B w (.slice none 0 0) [] := ⟨World.ownsRow_nil _ _ _ _, fun p hp => (by cases hp), List.Pairwise.nil⟩
theorem RessAt.ressV {B : Nat} {w : World} {v : Value} {ps : List ResP} (h : RessAt B w v ps) (hn : ps.length ≤ 1000) : RessV w v (ps.map ResP.x) := by
  have hl : (ps.map ResP.x).length = ps.length := List.length_map ..
  refine ⟨?_, by rw [hl]; omega⟩
  rcases h.row.2 with ⟨rfl, h0⟩ | ⟨g, cap, cur, rfl, _, hg, hc, hm, hs, ht⟩
  · have : ps = [] := List.eq_nil_of_length_eq_zero h0
    subst this
    exact ⟨none, 0, rfl, Nat.le_refl _, by decide, .inl rfl⟩
  · refine ⟨some ⟨g, 0, none⟩, cap, by rw [hl], by rw [hl]; exact hc, by unfold maxLen at hm; omega, .inr ⟨g, 0, rfl, ?_⟩⟩
    intro i x hx
    rw [List.getElem?_map] at hx
    obtain ⟨p, hp, rfl⟩ := Option.map_eq_some_iff.1 hx
    have hlt : i < ps.length := (List.getElem?_eq_some_iff.1 hp).1
    have key : ∀ r, r < 4 → w.cell? ⟨g, 0 + i * 4 + r, none⟩ = (cRs p)[r]? := by
      intro r hr
      have h1 : (cellsP ps)[i * 4 + r]? = (cRs p)[r]? := flat_get cRs_len hp hr
      rw [← h1, ← ht, List.getElem?_take, if_pos (by omega), Nat.zero_add]
      simp [World.cell?, hg]
    obtain ⟨ho, hok⟩ := h.each p (List.mem_of_getElem? hp)
    exact ⟨key 0 (by omega), key 1 (by omega), p.c2, p.c3, key 2 (by omega), key 3 (by omega), ho.resV hok⟩
/-- One more. -/
theorem RessAt.snoc {B g3 c3 : Nat} {w1 w3 : World} {v : Value} {ps : List ResP} {x : Resd} {d2 d3 : Value} (h : RessAt B w1 v ps) (ho : OwnR B w1 d2 d3 x) (hok : okS x) (hnew : ∀ p ∈ ps, ApartQ p ⟨x, d2, d3⟩)
    {o : Obj} (hgrow : (w1.alloc o).grownBy w3 v.ownBlock) (hown : w3.ownsRow B 29 4 (.slice (some ⟨g3, 0, none⟩) (ps.length + 1) c3) (ps.length + 1) (cellsP ps ++ cRs ⟨x, d2, d3⟩)) :
    RessAt B w3 (.slice (some ⟨g3, 0, none⟩) (ps.length + 1) c3) (ps ++ [⟨x, d2, d3⟩]) := by
  have hl : (ps ++ [(⟨x, d2, d3⟩ : ResP)]).length = ps.length + 1 := by simp
  have keep : ∀ {e : TypeId} {size n : Nat} {u : Value} {xs : List Value}, e ≠ 29 → w1.ownsRow B e size u n xs → w3.ownsRow B e size u n xs := fun hne hh =>
    ownsRow_keep hh (grown_kept hgrow) fun g c hg => ownsRow_ne h.row hg hne
  refine ⟨by rw [hl, cellsP_app]; exact hown, ?_, ?_⟩
  · intro p hp
    rcases List.mem_append.1 hp with hp | hp
    · obtain ⟨h1, h2⟩ := h.each p hp
      exact ⟨⟨h1.f2, h1.f3, keep (by decide) h1.attrs, keep (by decide) h1.after⟩, h2⟩
    · obtain rfl : p = _ := by simpa using hp
      exact ⟨⟨ho.f2, ho.f3, keep (by decide) ho.attrs, keep (by decide) ho.after⟩, hok⟩
  · refine List.pairwise_append.2 ⟨h.apart, List.pairwise_singleton _ _, fun p hp p' hp' => ?_⟩
    obtain rfl : p' = _ := by simpa using hp'
    exact hnew p hp
/-- What is new lies apart. -/
theorem RessAt.fresh {B : Nat} {w w1 : World} {v : Value} {ps : List ResP} {x : Resd} {d2 d3 : Value} (h : RessAt B w v ps) (ho : OwnR w.heap.size w1 d2 d3 x) : ∀ p ∈ ps, ApartQ p ⟨x, d2, d3⟩ := fun p hp => by
  obtain ⟨h1, _⟩ := h.each p hp
  constructor
  · intro g hg hg'
    have k1 := (h1.attrs.lt g hg).2
    have k2 := (ho.attrs.lt g hg').1
    omega
  · intro g hg hg'
    have k1 := (h1.after.lt g hg).2
    have k2 := (ho.after.lt g hg').1
    omega
theorem OwnR.wrote {B B' : Nat} {T : TypeId → Prop} {w w' : World} {c2 c3 : Value} {x : Resd} (h : OwnR B w c2 c3 x) (k : Wrote B' T w w') (h2 : ¬ T 66) (h3 : ¬ T 25) : OwnR B w' c2 c3 x :=
  ⟨h.f2, h.f3, ownsRow_wrote h.attrs k h2 rfl, ownsRow_wrote h.after k h3 rfl⟩
theorem RessAt.wrote {B B' : Nat} {T : TypeId → Prop} {w w' : World} {v : Value} {ps : List ResP} (h : RessAt B w v ps) (k : Wrote B' T w w') (h1 : ¬ T 29) (h2 : ¬ T 66) (h3 : ¬ T 25) : RessAt B w' v ps :=
  ⟨ownsRow_wrote h.row k h1 rfl, fun p hp => ⟨(h.each p hp).1.wrote k h2 h3, (h.each p hp).2⟩, h.apart⟩
end Go.Proofs.YtfmcgdglalljgaaGreatDoor

namespace Go.Proofs.YtfmcgdglalljgaaGreatDoor
open Go.RowKit

theorem grown_keeps2 {w w2 : World} {base : Nat} {e : TypeId} {size : Nat} {v : Value} {n : Nat} {xs : List Value} (hown : w.ownsRow base e size v n xs) {k : Nat} {c : Array Value} {t : TypeId} {fz : Nat × Nat} (hk : w.heap[k]? = some (.cells c t fz)) (ht : t ≠ e) {o o' : Obj} (hg : ((w.alloc o).alloc o').grownBy w2 v.ownBlock) : w2.heap[k]? = some (.cells c t fz) := by
  have hlt := (Array.getElem?_eq_some_iff.1 hk).1
  have h1 : ((w.alloc o).alloc o').heap[k]? = some (.cells c t fz) := by
    rw [Below.heap_alloc _ _ _ (by simp; omega), Below.heap_alloc _ _ _ hlt]; exact hk
  rw [hg.block k (by simp; omega) ?_]; exact h1
  intro hv
  rcases hown.2 with ⟨rfl, _⟩ | ⟨g, cap, cur, rfl, hb, hh, _⟩
  · simp [Value.ownBlock] at hv
  · simp [Value.ownBlock] at hv
    subst hv
    rw [hk] at hh; cases hh; exact ht rfl
theorem ownsRow_grown2 {w w2 : World} {base base' : Nat} {e e' : TypeId} {size size' : Nat} {v v' : Value} {n n' : Nat} {xs xs' : List Value} (h : w.ownsRow base e size v n xs) (hown : w.ownsRow base' e' size' v' n' xs') (hne : e ≠ e') {o o' : Obj} (hg : ((w.alloc o).alloc o').grownBy w2 v'.ownBlock) : w2.ownsRow base e size v n xs := by
  obtain ⟨h1, h2⟩ := h
  refine ⟨h1, h2.imp id ?_⟩
  rintro ⟨g, cap, cur, hv, hb, hh, r⟩
  exact ⟨g, cap, cur, hv, hb, grown_keeps2 hown hh hne hg, r⟩
end Go.Proofs.YtfmcgdglalljgaaGreatDoor

namespace Go.Proofs.YtfmcgdglalljgaaGreatDoor
open Go.RowKit

theorem rec_in {r : Recd} (h : recB r = true) : 1 ≤ r.epoch ∧ r.epoch ≤ 1000000 ∧ 0 ≤ r.number ∧ r.number ≤ 1000000 ∧ 1 ≤ r.kind ∧ r.kind ≤ 4 := by
  simp only [recB, Bool.and_eq_true, decide_eq_true_eq] at h
  obtain ⟨⟨h1, h2, h3, h4⟩, h5⟩ := h
  refine ⟨h1, h2, h3, h4, ?_⟩
  split at h5
  · omega
  · split at h5
    · omega
    · split at h5
      · omega
      · cases h5
end Go.Proofs.YtfmcgdglalljgaaGreatDoor

namespace Go.Proofs.YtfmcgdglalljgaaGreatDoor
open Go.RowKit

def noRec : Recd := ⟨0, 0, 0, 0, noRes⟩
/-- The record that bytes are, or none, and the error. -/
def decOf (r : Recd) (l : List UInt8) : Recd × Int := if recB r = true ∧ recL r = l then (r, 0) else (noRec, 16)
/-- What Decode answers, of the record that was read. -/
def DecIs (w : World) (r : Recd) (s : ByteArray) (e : Ending) (w' : World) : Prop :=
  ∃ (q : Recd) (pa2 pa3 : Option Addr) (cap2 cap3 : Nat) (en : Int), e = .returned (.tuple #[.agg #[.int .i64 q.kind, .int .i64 q.epoch, .int .i64 q.number, .int .i64 q.op, .string q.res.id.kind, .string q.res.id.name, .slice pa2 q.res.attrs.length cap2, .slice pa3 q.res.after.length cap3], .int .i64 en]) ∧ Hid (decOf r s.data.toList = (q, en)) ∧ Hid (okS q.res) ∧ Hid (OwnR w.heap.size w' (.slice pa2 q.res.attrs.length cap2) (.slice pa3 q.res.after.length cap3) q.res) ∧ Hid (Ext w w')

set_option maxRecDepth 100000 in
set_option maxHeartbeats 1600000 in
theorem decode (s : ByteArray) (w : World) (hs : s.size ≤ 9223372036854775807) :
    Calls Tryz.prog 11 #[.string s] w (DecIs w (rdRec s.data.toList) s) := by
  go_enter Tryz.func11, Tryz.ntmps11
  go_wp2_with fail
  refine (newReader s _).mono ?_
  rintro e w1 ⟨rfl, rfl⟩
  go_wp2_with fail
  refine (readRecord (w.heap.size + 1) s _ (two_hi w _ _) hs).mono ?_
  rintro e w2 ⟨r, pa2, pa3, cap2, cap3, rfl, hr, hok, hown, hW⟩
  have hO := r_keeps (t := 33) hW.out (two_lo w _ _) (by decide)
  have X2 := hide ((((Wrote.refl w.heap.size (· = 110) w).alloc _).alloc _).trans (hW.out.mono (Nat.le_succ _) (fun _ h => h))).toExt
  have hown' := hide (hown.out.low (show w.heap.size ≤ _ by simp; omega))
  obtain ⟨a0, a1, a2, a3, a4, a5, a6, a7⟩ := ecells hO
  have fO := row_frozen hO
  replace hO := hide hO
  go_wp2_with fail
  refine (encode r _ _ _ ((hown'.out.ext ((Ext.refl w2).alloc _)).resV hok.out)).mono ?_
  rintro e w3 ⟨rfl, he3⟩
  have X3 := hide (((Ext.refl w2).alloc _).trans he3)
  have hO3 := ext_heap0 X3.out hO.out
  have hV3 := ext_heap0 he3 (heap_alloc_new w2 _)
  obtain ⟨b0, b1, b2, b3, b4, b5, b6, b7⟩ := ecells hV3
  clear a0 a1 a2 a3 a4 a5 a6 a7 fO he3
  obtain ⟨a0, a1, a2, a3, a4, a5, a6, a7⟩ := ecells hO3
  have fO := row_frozen hO3
  have XX := hide (X2.out.trans X3.out)
  replace hO3 := hide hO3; replace hV3 := hide hV3
  cases hm : recB r
  · have H2 : Hid (encE r = 11) := by unfold encE; rw [hm]; rfl
    have Hd : Hid (decOf r s.data.toList = (noRec, 16)) := by show _ = _; unfold decOf; rw [if_neg (by simp [hm])]
    generalize encS r = es at *
    generalize encE r = ee at *
    obtain rfl := H2.out
    go_wp2_with fail
    refine bodyPost_ret (v := .tuple #[.agg #[.int .i64 0, .int .i64 0, .int .i64 0, .int .i64 0, .string ⟨#[]⟩, .string ⟨#[]⟩, .slice none 0 0, .slice none 0 0], .int .i64 16]) (by simp [results, Tryz.results11, go_sem, a0, a1, a2, a3, a4, a5, a6, a7]) rfl ?_
    refine ⟨noRec, none, none, 0, 0, 16, rfl, ?_, okS_nil, OwnR.nil _ _, ?_⟩
    · show _ = _; rw [hr.out]; exact Hd.out
    · exact ((Wrote.ext (B := w.heap.size) (T := fun _ => False) XX.out).set8 (Nat.le_refl _) _ _ _ _ _ _ _ _).toExt
  · have H2 : Hid (encE r = 0) := by unfold encE; rw [hm]; rfl
    have H1 : Hid (encS r = ⟨(recL r).toArray⟩) := by unfold encS; rw [hm]; rfl
    generalize encS r = es at *
    generalize encE r = ee at *
    obtain rfl := H2.out
    have hes : Hid (es.toList = recL r) := by show _ = _; rw [H1.out, ByteArray.toList_eq]
    have own' := hide (hown'.out.ext X3.out)
    cases hq : (es.toList == s.toList)
    · have Hd : Hid (decOf r s.data.toList = (noRec, 16)) := by
        show _ = _
        unfold decOf
        rw [if_neg]
        rintro ⟨_, h2⟩
        rw [hes.out, ByteArray.toList_eq, h2] at hq
        simp at hq
      go_wp2_with fail
      refine bodyPost_ret (v := .tuple #[.agg #[.int .i64 0, .int .i64 0, .int .i64 0, .int .i64 0, .string ⟨#[]⟩, .string ⟨#[]⟩, .slice none 0 0, .slice none 0 0], .int .i64 16]) (by simp [results, Tryz.results11, go_sem, a0, a1, a2, a3, a4, a5, a6, a7]) rfl ?_
      refine ⟨noRec, none, none, 0, 0, 16, rfl, ?_, okS_nil, OwnR.nil _ _, ?_⟩
      · show _ = _; rw [hr.out]; exact Hd.out
      · exact ((Wrote.ext (B := w.heap.size) (T := fun _ => False) XX.out).set8 (Nat.le_refl _) _ _ _ _ _ _ _ _).toExt
    · have Hd : Hid (decOf r s.data.toList = (r, 0)) := by
        show _ = _
        unfold decOf
        have h2 : es.toList = s.toList := by simpa using hq
        rw [hes.out, ByteArray.toList_eq] at h2
        rw [if_pos ⟨hm, h2⟩]
      have own2 := hide (ownsRow_set8 own'.out.attrs hO3.out (by decide) (.int .i64 r.kind) (.int .i64 r.epoch) (.int .i64 r.number) (.int .i64 r.op) (.string r.res.id.kind) (.string r.res.id.name) (.slice pa2 r.res.attrs.length cap2) (.slice pa3 r.res.after.length cap3))
      have own3 := hide (ownsRow_set8 own'.out.after hO3.out (by decide) (.int .i64 r.kind) (.int .i64 r.epoch) (.int .i64 r.number) (.int .i64 r.op) (.string r.res.id.kind) (.string r.res.id.name) (.slice pa2 r.res.attrs.length cap2) (.slice pa3 r.res.after.length cap3))
      go_wp2_with fail
      refine bodyPost_ret (v := .tuple #[.agg #[.int .i64 r.kind, .int .i64 r.epoch, .int .i64 r.number, .int .i64 r.op, .string r.res.id.kind, .string r.res.id.name, .slice pa2 r.res.attrs.length cap2, .slice pa3 r.res.after.length cap3], .int .i64 0]) (by simp [results, Tryz.results11, go_sem, a0, a1, a2, a3, a4, a5, a6, a7]) rfl ?_
      refine ⟨r, pa2, pa3, cap2, cap3, 0, rfl, ?_, hok, ⟨⟨_, _, rfl⟩, ⟨_, _, rfl⟩, own2.out, own3.out⟩, ?_⟩
      · show _ = _; rw [hr.out]; exact Hd.out
      · exact ((Wrote.ext (B := w.heap.size) (T := fun _ => False) XX.out).set8 (Nat.le_refl _) _ _ _ _ _ _ _ _).toExt
end Go.Proofs.YtfmcgdglalljgaaGreatDoor

namespace Go.Proofs.YtfmcgdglalljgaaGreatDoor
open Go.RowKit

end Go.Proofs.YtfmcgdglalljgaaGreatDoor

namespace Go.Proofs.YtfmcgdglalljgaaGreatDoor
open Go.RowKit

/-- A resource, and where its lists are. -/
structure ResC where
  x : Resd
  a2 : Option Addr
  n2 : Nat
  p2 : Nat
  a3 : Option Addr
  n3 : Nat
  p3 : Nat
structure StepC where
  op : Nat
  r : ResC
def ResC.c2 (r : ResC) : Value := .slice r.a2 r.n2 r.p2
def ResC.c3 (r : ResC) : Value := .slice r.a3 r.n3 r.p3
def ResC.In (w : World) (r : ResC) : Prop := ResV w r.c2 r.c3 r.x
theorem ResC.In.ext {w w' : World} {r : ResC} (h : r.In w) (e : Ext w w') : r.In w' := ResV.ext h e
def StepC.d (s : StepC) : StepD := ⟨s.op, s.r.x⟩
def StepC.p (s : StepC) : StepP := ⟨s.op, s.r.x, s.r.c2, s.r.c3⟩
end Go.Proofs.YtfmcgdglalljgaaGreatDoor

namespace Go.Proofs.YtfmcgdglalljgaaGreatDoor
open Go.RowKit

set_option maxRecDepth 100000 in
set_option maxHeartbeats 1600000 in
theorem readP (s : ByteArray) (a : Nat) (c : UInt8) (w : World) (hs : s.size ≤ 1000000) (ha : a < s.size) (hc : s.data.toList[a]? = some c) :
    Calls Tryz.prog 66 #[.string s, .int .i64 a] w (TkIs w (tokL s.data.toList a c)) := by
  obtain ⟨c', hc1, hc2⟩ := byteAt ha
  obtain rfl : c = c' := by rw [hc] at hc1; simpa using hc1
  have key : ∀ d : UInt8, ((c.toNat : Int) == (d.toNat : Int)) = decide (c = d) := fun d => by
    by_cases h : c = d
    · subst h; simp
    · rw [byte_ne h]; simp [h]
  have b45 := key 45; have b34 := key 34
  rw [show ((45 : UInt8).toNat : Int) = 45 from rfl] at b45
  rw [show ((34 : UInt8).toNat : Int) = 34 from rfl] at b34
  replace key := hide key; replace hc1 := hide hc1
  have ka : (a : Int) < (s.size : Int) := by omega
  cases hl : isLetterB c.toNat
  · cases hd : isDigitB c.toNat
    · by_cases h45 : c = 45
      · have hw := hide (readNumber s a c (w.alloc (.cells #[.int .i64 0, .int .i64 0, .string ⟨#[]⟩, .int .i64 0] 120)) hs ha hc hl (by simp [h45]))
        rw [decide_eq_true h45] at b45
        replace hc := hide hc; replace h45 := hide h45; replace b34 := hide b34
        go_enter Tryz.func66, Tryz.ntmps66
        go_wp2_with (first | (go_at_call 96; refine (isLetter _ _).mono ?_; rintro e w' ⟨rfl, rfl⟩) | (go_at_call 98; refine (isDigit _ _).mono ?_; rintro e w' ⟨rfl, rfl⟩))
        refine hw.out.mono ?_
        rintro e w1 ⟨he1, hcase⟩
        have hO := ext_heap he1.out (heap_alloc_new w _)
        obtain ⟨o0, o1, o2, o3⟩ := four_cells hO
        have fO := row_frozen hO
        replace hO := hide hO
        have X1 := hide (((Ext.refl w).alloc _).trans he1.out)
        rcases hcase with ⟨t, b, hr, rfl⟩ | ⟨en, hr, hne, rfl⟩
        · go_wp2_with fail
          refine bodyPost_ret (v := .tuple #[.agg #[.int .i64 t.kind, .int .i64 0, .string t.text, .int .i64 t.value], .int .i64 b, .int .i64 0]) (by simp [results, Tryz.results66, go_sem, o0, o1, o2, o3]) rfl ?_
          exact ⟨X1.out.set4 _ _ _ _, .inl ⟨t, b, hr, rfl⟩⟩
        · go_wp2_with fail
          refine bodyPost_ret (v := .tuple #[.agg #[.int .i64 0, .int .i64 0, .string ⟨#[]⟩, .int .i64 0], .int .i64 0, .int .i64 en]) (by simp [results, Tryz.results66, go_sem, o0, o1, o2, o3]) rfl ?_
          exact ⟨X1.out.set4 _ _ _ _, .inr ⟨en, hr, hne, rfl⟩⟩
      · rw [decide_eq_false h45] at b45
        by_cases h34 : c = 34
        · have hw := hide (readString s a c (w.alloc (.cells #[.int .i64 0, .int .i64 0, .string ⟨#[]⟩, .int .i64 0] 120)) hs ha h34)
          rw [decide_eq_true h34] at b34
          replace hc := hide hc; replace h45 := hide h45; replace h34 := hide h34
          go_enter Tryz.func66, Tryz.ntmps66
          go_wp2_with (first | (go_at_call 96; refine (isLetter _ _).mono ?_; rintro e w' ⟨rfl, rfl⟩) | (go_at_call 98; refine (isDigit _ _).mono ?_; rintro e w' ⟨rfl, rfl⟩))
          refine hw.out.mono ?_
          rintro e w1 ⟨he1, hcase⟩
          have hO := ext_heap he1.out (heap_alloc_new w _)
          obtain ⟨o0, o1, o2, o3⟩ := four_cells hO
          have fO := row_frozen hO
          replace hO := hide hO
          have X1 := hide (((Ext.refl w).alloc _).trans he1.out)
          rcases hcase with ⟨t, b, hr, rfl⟩ | ⟨en, hr, hne, rfl⟩
          · go_wp2_with fail
            refine bodyPost_ret (v := .tuple #[.agg #[.int .i64 t.kind, .int .i64 0, .string t.text, .int .i64 t.value], .int .i64 b, .int .i64 0]) (by simp [results, Tryz.results66, go_sem, o0, o1, o2, o3]) rfl ?_
            exact ⟨X1.out.set4 _ _ _ _, .inl ⟨t, b, hr, rfl⟩⟩
          · go_wp2_with fail
            refine bodyPost_ret (v := .tuple #[.agg #[.int .i64 0, .int .i64 0, .string ⟨#[]⟩, .int .i64 0], .int .i64 0, .int .i64 en]) (by simp [results, Tryz.results66, go_sem, o0, o1, o2, o3]) rfl ?_
            exact ⟨X1.out.set4 _ _ _ _, .inr ⟨en, hr, hne, rfl⟩⟩
        · rw [decide_eq_false h34] at b34
          have hT : Hid (tokL s.data.toList a c = if signKind c = 0 then .inr 2 else .inl (⟨signKind c, a, ⟨#[]⟩, 0⟩, a + 1)) := by
            show _ = _; unfold tokL; rw [hl, hd]; simp [h45, h34]
          replace hc := hide hc; replace h45 := hide h45; replace h34 := hide h34
          have hk := hide (signKindP c (w.alloc (.cells #[.int .i64 0, .int .i64 0, .string ⟨#[]⟩, .int .i64 0] 120)))
          generalize signKind c = sk at *
          go_enter Tryz.func66, Tryz.ntmps66
          go_wp2_with (first | (go_at_call 96; refine (isLetter _ _).mono ?_; rintro e w' ⟨rfl, rfl⟩) | (go_at_call 98; refine (isDigit _ _).mono ?_; rintro e w' ⟨rfl, rfl⟩))
          refine hk.out.mono ?_
          rintro e w' ⟨rfl, rfl⟩
          by_cases h0 : sk = 0
          · have hT2 : Hid (tokL s.data.toList a c = .inr 2) := by show _ = _; rw [hT.out, if_pos h0]
            subst h0
            go_wp2_with fail
            refine bodyPost_ret (v := .tuple #[.agg #[.int .i64 0, .int .i64 0, .string ⟨#[]⟩, .int .i64 0], .int .i64 0, .int .i64 2]) (by simp [results, Tryz.results66, go_sem]) rfl ?_
            exact ⟨by first | exact (Ext.refl w).alloc _ | exact ((Ext.refl w).alloc _).set4 _ _ _ _, .inr ⟨2, hT2, by decide, rfl⟩⟩
          · have hT2 : Hid (tokL s.data.toList a c = .inl (⟨sk, a, ⟨#[]⟩, 0⟩, a + 1)) := by show _ = _; rw [hT.out, if_neg h0]
            have h0' : ((sk : Int) == 0) = false := by simp; omega
            go_wp2_with fail
            refine bodyPost_ret (v := .tuple #[.agg #[.int .i64 sk, .int .i64 0, .string ⟨#[]⟩, .int .i64 0], .int .i64 ((a + 1 : Nat) : Int), .int .i64 0]) (by simp [results, Tryz.results66, go_sem]) rfl ?_
            refine ⟨?_, .inl ⟨_, _, hT2, rfl⟩⟩
            show Ext _ _
            first | exact ((Ext.refl w).alloc _).set4 _ _ _ _ | exact ((Ext.refl w).alloc _) | exact (((Ext.refl w).alloc _).alloc _) | exact (((Ext.refl w).alloc _).alloc _).set4 _ _ _ _
    · have hw := hide (readNumber s a c (w.alloc (.cells #[.int .i64 0, .int .i64 0, .string ⟨#[]⟩, .int .i64 0] 120)) hs ha hc hl (by simp [hd]))
      replace hc := hide hc; replace b34 := hide b34; replace b45 := hide b45
      go_enter Tryz.func66, Tryz.ntmps66
      go_wp2_with (first | (go_at_call 96; refine (isLetter _ _).mono ?_; rintro e w' ⟨rfl, rfl⟩) | (go_at_call 98; refine (isDigit _ _).mono ?_; rintro e w' ⟨rfl, rfl⟩))
      refine hw.out.mono ?_
      rintro e w1 ⟨he1, hcase⟩
      have hO := ext_heap he1.out (heap_alloc_new w _)
      obtain ⟨o0, o1, o2, o3⟩ := four_cells hO
      have fO := row_frozen hO
      replace hO := hide hO
      have X1 := hide (((Ext.refl w).alloc _).trans he1.out)
      rcases hcase with ⟨t, b, hr, rfl⟩ | ⟨en, hr, hne, rfl⟩
      · go_wp2_with fail
        refine bodyPost_ret (v := .tuple #[.agg #[.int .i64 t.kind, .int .i64 0, .string t.text, .int .i64 t.value], .int .i64 b, .int .i64 0]) (by simp [results, Tryz.results66, go_sem, o0, o1, o2, o3]) rfl ?_
        exact ⟨X1.out.set4 _ _ _ _, .inl ⟨t, b, hr, rfl⟩⟩
      · go_wp2_with fail
        refine bodyPost_ret (v := .tuple #[.agg #[.int .i64 0, .int .i64 0, .string ⟨#[]⟩, .int .i64 0], .int .i64 0, .int .i64 en]) (by simp [results, Tryz.results66, go_sem, o0, o1, o2, o3]) rfl ?_
        exact ⟨X1.out.set4 _ _ _ _, .inr ⟨en, hr, hne, rfl⟩⟩
  · have hw := hide (readWord s a c (w.alloc (.cells #[.int .i64 0, .int .i64 0, .string ⟨#[]⟩, .int .i64 0] 120)) hs ha hl)
    replace hc := hide hc; replace b34 := hide b34; replace b45 := hide b45
    go_enter Tryz.func66, Tryz.ntmps66
    go_wp2_with (first | (go_at_call 96; refine (isLetter _ _).mono ?_; rintro e w' ⟨rfl, rfl⟩) | (go_at_call 98; refine (isDigit _ _).mono ?_; rintro e w' ⟨rfl, rfl⟩))
    refine hw.out.mono ?_
    rintro e w1 ⟨he1, hcase⟩
    have hO := ext_heap he1.out (heap_alloc_new w _)
    obtain ⟨o0, o1, o2, o3⟩ := four_cells hO
    have fO := row_frozen hO
    replace hO := hide hO
    have X1 := hide (((Ext.refl w).alloc _).trans he1.out)
    rcases hcase with ⟨t, b, hr, rfl⟩ | ⟨en, hr, hne, rfl⟩
    · go_wp2_with fail
      refine bodyPost_ret (v := .tuple #[.agg #[.int .i64 t.kind, .int .i64 0, .string t.text, .int .i64 t.value], .int .i64 b, .int .i64 0]) (by simp [results, Tryz.results66, go_sem, o0, o1, o2, o3]) rfl ?_
      exact ⟨X1.out.set4 _ _ _ _, .inl ⟨t, b, hr, rfl⟩⟩
    · go_wp2_with fail
      refine bodyPost_ret (v := .tuple #[.agg #[.int .i64 0, .int .i64 0, .string ⟨#[]⟩, .int .i64 0], .int .i64 0, .int .i64 en]) (by simp [results, Tryz.results66, go_sem, o0, o1, o2, o3]) rfl ?_
      exact ⟨X1.out.set4 _ _ _ _, .inr ⟨en, hr, hne, rfl⟩⟩
end Go.Proofs.YtfmcgdglalljgaaGreatDoor

namespace Go.Proofs.YtfmcgdglalljgaaGreatDoor
open Go.RowKit

def cTk (t : Tok) : List Value := [.int .i64 t.kind, .int .i64 t.place, .string t.text, .int .i64 t.value]
theorem cTk_len (t : Tok) : (cTk t).length = 4 := rfl
def cellsT (l : List Tok) : List Value := l.flatMap cTk
theorem cellsT_app (l : List Tok) (x : Tok) : cellsT (l ++ [x]) = cellsT l ++ cTk x := by simp [cellsT]
theorem cTk_one {x : Tok} : ∀ u ∈ cTk x, u.oneCell' = true := by
  intro u hu
  simp [cTk] at hu
  rcases hu with rfl | rfl | rfl | rfl <;> rfl
theorem infoTok : (Tryz.prog.info? 120).map (fun i => (i.zero, i.size, i.bytes)) = some (some (.agg #[.int .i64 0, .int .i64 0, .string ⟨#[]⟩, .int .i64 0]), 4, 40) := by kernel_rfl

/-- What the cutting answers. -/
def CutIs (w : World) (r : List Tok × (Int × Nat)) (e : Ending) (w' : World) : Prop :=
  Hid (Ext w w') ∧ ∃ (pa : Option Addr) (cap : Nat), e = .returned (.tuple #[.slice pa r.1.length cap, .agg #[.int .i64 r.2.1, .int .i64 r.2.2]]) ∧ Hid (w'.ownsRow w.heap.size 120 4 (.slice pa r.1.length cap) r.1.length (cellsT r.1))

theorem cell_of {w : World} {k : Nat} {cs : Array Value} {t : TypeId} {fz : Nat × Nat} (h : w.heap[k]? = some (.cells cs t fz)) (j : Nat) : w.cell? ⟨k, j, none⟩ = cs[j]? := by simp [World.cell?, h]
theorem ownsRow_other {w : World} {base g n cap m size : Nat} {e : TypeId} {xs : List Value} {base' : Nat} (h : w.ownsRow base e size (.slice (some ⟨g, 0, none⟩) n cap) m xs) {p : Addr} (hne : g ≠ p.block) (hb : base' ≤ base) (u : Value) : (w.setCell p u).ownsRow base' e size (.slice (some ⟨g, 0, none⟩) n cap) m xs := by
  obtain ⟨h1, h2⟩ := h
  refine ⟨h1, ?_⟩
  rcases h2 with ⟨hv, _⟩ | ⟨g', cap', cur, hv, hg, hh, r⟩
  · cases hv
  · cases hv
    exact .inr ⟨_, _, cur, rfl, by omega, by rw [Below.heap_setCell _ _ _ _ hne]; exact hh, r⟩
theorem tk_ok {w w' : World} {r : (Tok × Nat) ⊕ Int} {e : Ending} {t : Tok} {b : Nat} (h : TkIs w r e w') (hr : r = .inl (t, b)) : Hid (Ext w w') ∧ e = .returned (.tuple #[.agg #[.int .i64 t.kind, .int .i64 0, .string t.text, .int .i64 t.value], .int .i64 b, .int .i64 0]) := by
  subst hr
  obtain ⟨hx, ⟨t', b', h1, h2⟩ | ⟨en, h1, _⟩⟩ := h
  · have := h1.out; cases this; exact ⟨hx, h2⟩
  · have := h1.out; cases this
theorem tk_bad {w w' : World} {r : (Tok × Nat) ⊕ Int} {e : Ending} {en : Int} (h : TkIs w r e w') (hr : r = .inr en) : Hid (Ext w w') ∧ e = .returned (.tuple #[.agg #[.int .i64 0, .int .i64 0, .string ⟨#[]⟩, .int .i64 0], .int .i64 0, .int .i64 en]) := by
  subst hr
  obtain ⟨hx, ⟨t', b', h1, h2⟩ | ⟨en, h1, _, h3⟩⟩ := h
  · have := h1.out; cases this
  · have := h1.out; cases this; exact ⟨hx, h3⟩

set_option maxRecDepth 100000 in
set_option maxHeartbeats 3200000 in
theorem cutP (s : ByteArray) (w : World) (hs : s.size ≤ 1000000) :
    Calls Tryz.prog 38 #[.string s] w (CutIs w (cutL s.data.toList)) := by
  have hlen : s.data.toList.length = s.size := Array.length_toList
  obtain ⟨i0, hi, hz0, hz1, hz2⟩ := info_of infoTok
  replace hi := hide hi
  have hsk := hide (skipP s 0 (w.alloc (.cells #[.int .i64 0, .int .i64 0] 88)) hs (by omega))
  rw [show ((0 : Nat) : Int) = 0 from rfl] at hsk
  go_enter Tryz.func38, Tryz.ntmps38
  go_wp2_with fail
  refine hsk.out.mono ?_
  rintro e w' ⟨rfl, rfl⟩
  go_wp2_with fail
  generalize hWx : w.alloc (.cells #[.int .i64 0, .int .i64 0] 88) = wx
  have hxx : Hid (Ext w wx) := by subst hWx; exact (Ext.refl w).alloc _
  have hx2 : Hid (wx.heap[w.heap.size]? = some (.cells #[.int .i64 0, .int .i64 0] 88)) := by subst hWx; exact heap_alloc_new w _
  replace hWx := hide hWx; replace hsk := hide hsk
  go_loopw [4, 5] (fun v at_ wr => ∃ (f b : Nat) (acc : List Tok) (pa : Option Addr) (cap : Nat), b ≤ s.size ∧ s.size + 1 ≤ f + b ∧ acc.length ≤ b ∧ at_ = .int .i64 (skipL s.data.toList b) ∧ v = .slice pa acc.length cap ∧ Hid (cutL s.data.toList = comb acc (cutF s.data.toList f b)) ∧ Hid (wr.ownsRow wx.heap.size 120 4 (.slice pa acc.length cap) acc.length (cellsT acc)) ∧ Hid (Ext wx wr)) (fun _ at_ _ => s.size - (intOf at_).toNat)
  case atStart =>
    exact ⟨s.size + 1, 0, [], none, 0, by omega, by omega, by simp, rfl, rfl, by show _ = _; rw [comb_nil]; unfold cutL; rw [hlen], World.ownsRow_nil _ _ _ _, Ext.refl _⟩
  case round =>
    obtain ⟨f, b, acc, pa, cap, hb, hf, hab, rfl, rfl, hcut, hown, hx⟩ := hrel
    have hsl := skip_le (l := s.data.toList) (a := b) (by omega)
    rw [hlen] at hsl
    generalize hk : skipL s.data.toList b = k at *
    obtain ⟨k1, k2⟩ := hsl
    by_cases hlt : k < s.size
    · obtain ⟨c, hc1, hc2⟩ := byteAt hlt
      have hrd := hide (readP s k c wr hs hlt hc1)
      have fx : wr.heap[w.heap.size]? = some (.cells #[.int .i64 0, .int .i64 0] 88) := by
        rw [← hx2.out]; exact Below.block hx.out _ (Array.getElem?_eq_some_iff.1 hx2.out).1
      replace fx := hide fx
      cases htk : tokL s.data.toList k c with
      | inr en =>
        have hne := tok_bad htk
        have hrd2 := hide (hrd.out.mono fun e w' hh => tk_bad hh htk)
        have hfin : Hid (cutL s.data.toList = ([], (en, k))) := by
          show _ = _
          obtain ⟨f', rfl⟩ : ∃ f', f = f' + 1 := ⟨f - 1, by omega⟩
          rw [hcut.out, comb_bad (c := c) (e := en) (by rw [hk]; exact hc1) (by rw [hk]; exact htk) hne, hk]
        have hne' : (en != 0) = true := by simpa using hne
        replace hc1 := hide hc1; replace hk := hide hk; replace hc2 := hide hc2; replace hlen := hide hlen; replace htk := hide htk; replace hne := hide hne
        go_wp2_with (go_at_call 66; refine hrd2.out.mono ?_; rintro e w1 ⟨he1, rfl⟩; go_must (have F2 := ext_heap ((Ext.refl w1).alloc (.cells #[.int .i64 0, .int .i64 0, .string ⟨#[]⟩, .int .i64 0] 120)) (ext_heap he1.out fx.out); have o0 := cell_of F2 0; have o1 := cell_of F2 1; simp at o0 o1; have fO := row_frozen F2; replace F2 := hide F2))
        refine bodyPost_ret (v := .tuple #[.slice none 0 0, .agg #[.int .i64 en, .int .i64 k]]) (by simp [results, Tryz.results38, go_sem, o0, o1]) rfl ?_
        rw [hfin.out]
        have hX : Ext w w1 := hxx.out.trans (hx.out.trans he1.out)
        refine ⟨((hX.alloc _).setCell (p := ⟨w.heap.size, 0, none⟩) (Nat.le_refl _) _).setCell (p := ⟨w.heap.size, 1, none⟩) (Nat.le_refl _) _, none, 0, rfl, World.ownsRow_nil _ _ _ _⟩
      | inl r =>
        obtain ⟨t, b'⟩ := r
        obtain ⟨hpl, hb1, hb2, hk1, hk2⟩ := tok_at hc1 htk
        obtain ⟨kd, pl, tx, vl⟩ := t
        simp only at hpl hk1 hk2
        subst hpl
        rw [hlen] at hb2
        have hrd2 := hide (hrd.out.mono fun e w' hh => tk_ok hh htk)
        have hstep : Hid (cutL s.data.toList = comb (acc ++ [⟨kd, pl, tx, vl⟩]) (cutF s.data.toList (f - 1) b')) := by
          show _ = _
          obtain ⟨f', rfl⟩ : ∃ f', f = f' + 1 := ⟨f - 1, by omega⟩
          rw [hcut.out, comb_step (c := c) (b := b') (t := ⟨kd, pl, tx, vl⟩) (by rw [hk]; exact hc1) (by rw [hk]; exact htk)]
          rfl
        have hsz := hide (Ext.size hx.out)
        replace hc1 := hide hc1; replace hk := hide hk; replace hc2 := hide hc2; replace hlen := hide hlen; replace htk := hide htk
        go_wp2_with (first
          | (go_at_call 66; refine hrd2.out.mono ?_; rintro e w1 ⟨he1, rfl⟩; go_must (have hown1 := hide (ownsRow_wrote hown.out (Wrote.ext (B := 0) (T := fun _ => False) he1.out) id rfl); have hsz1 := hide (Nat.le_trans hsz.out (Ext.size he1.out))))
          | (at_builtin; go_must (refine wpList_append_lies _ rfl _ _ 86 rfl wx.heap.size 120 i0 (.agg #[.int .i64 0, .int .i64 0, .string ⟨#[]⟩, .int .i64 0]) 4 40 Tryz.underlying86 hi.out hz0 hz1 hz2 rfl (by omega) _ acc.length (cellsT acc) rfl ((hown1.out.alloc _).alloc _) ⟨w1.heap.size + 1, 0, none⟩ 1 1 (cTk ⟨kd, pl, tx, vl⟩) rfl rfl ?_ cTk_one (by omega) (by unfold maxLen; omega) (by omega) (by have := hsz1.out; simp; omega) (w1.heap.size + 2) (by simp) ?_; (intro j u hu; rw [add_eq]; (match j, hu with | 0, hu => (simp [cTk] at hu; subst hu; simp [go_sem]) | 1, hu => (simp [cTk] at hu; subst hu; simp [go_sem]) | 2, hu => (simp [cTk] at hu; subst hu; simp [go_sem]) | 3, hu => (simp [cTk] at hu; subst hu; simp [go_sem]) | _ + 4, hu => (simp [cTk] at hu))); intro g1 cap1 w3 hown3 hgrow3 hat3 hlt3))
          | (go_at_call 65; refine (skipP s b' _ hs hb2).mono ?_; rintro e w' ⟨rfl, rfl⟩))
        replace hgrow3 : ((w1.alloc (.cells (cTk ⟨kd, pl, tx, vl⟩).toArray 120)).alloc (.cells (cTk ⟨kd, pl, tx, vl⟩).toArray 120)).grownBy w' (Value.slice pa acc.length cap).ownBlock := hgrow3
        have hl : (acc ++ [(⟨kd, pl, tx, vl⟩ : Tok)]).length = acc.length + 1 := by simp
        have hx3 : Ext wx w' := ((Wrote.ext (B := wx.heap.size) (T := (· = 120)) ((hx.out.trans he1.out).alloc _)).grownAt (hown1.out.alloc _) rfl hgrow3).toExt
        go_roundw
        case rel =>
          refine ⟨f - 1, b', acc ++ [⟨kd, pl, tx, vl⟩], some ⟨g1, 0, none⟩, cap1, hb2, by omega, by rw [hl]; omega, rfl, by rw [hl], hstep, ?_, hx3⟩
          show World.ownsRow _ _ _ _ _ _ _
          rw [hl, cellsT_app]; exact hown3
        case measure =>
          have := skip_le (l := s.data.toList) (a := b') (by rw [hlen.out]; omega)
          simp [intOf]; omega
    · have heq : k = s.size := by omega
      have hfin : Hid (cutL s.data.toList = (acc ++ [endTok s.size], (0, 0))) := by
        show _ = _
        obtain ⟨f', rfl⟩ : ∃ f', f = f' + 1 := ⟨f - 1, by omega⟩
        rw [hcut.out, comb_end (by rw [hk, hlen]; omega), hlen]
      subst heq
      have hO := ext_heap hx.out hx2.out
      have o0 := cell_of hO 0; have o1 := cell_of hO 1; have fO := row_frozen hO
      simp at o0 o1
      have hsz := hide (Ext.size hx.out)
      replace hO := hide hO; replace hk := hide hk; replace hlen := hide hlen
      go_wp2_with (at_builtin; go_must (refine wpList_append_lies _ rfl _ _ 86 rfl wx.heap.size 120 i0 (.agg #[.int .i64 0, .int .i64 0, .string ⟨#[]⟩, .int .i64 0]) 4 40 Tryz.underlying86 hi.out hz0 hz1 hz2 rfl (by omega) _ acc.length (cellsT acc) rfl (hown.out.alloc _) ⟨wr.heap.size, 0, none⟩ 1 1 (cTk (endTok s.size)) rfl rfl ?_ cTk_one (by omega) (by unfold maxLen; omega) (by omega) (by have := hsz.out; simp; omega) (wr.heap.size + 1) (by simp) ?_; (intro j u hu; rw [add_eq]; (match j, hu with | 0, hu => (simp [cTk, endTok] at hu; subst hu; simp [go_sem]) | 1, hu => (simp [cTk, endTok] at hu; subst hu; simp [go_sem]) | 2, hu => (simp [cTk, endTok] at hu; subst hu; simp [go_sem]) | 3, hu => (simp [cTk, endTok] at hu; subst hu; simp [go_sem]) | _ + 4, hu => (simp [cTk] at hu))); intro g1 cap1 w3 hown3 hgrow3 hat3 hlt3; have hgr : (wr.alloc (.cells (cTk (endTok s.size)).toArray 120)).grownBy w3 (Value.slice pa acc.length cap).ownBlock := hgrow3; have hX3 : Ext wx w3 := ((Wrote.ext (B := wx.heap.size) (T := (· = 120)) hx.out).grownAt hown.out rfl hgr).toExt; clear hgrow3 hat3; have hO3 := ext_heap hX3 hx2.out; have p0 := cell_of hO3 0; have p1 := cell_of hO3 1; have pO := row_frozen hO3; simp at p0 p1; replace hO3 := hide hO3; replace hX3 := hide hX3; replace hgr := hide hgr))
      refine bodyPost_ret (v := .tuple #[.slice (some ⟨g1, 0, none⟩) (acc.length + 1) cap1, .agg #[.int .i64 0, .int .i64 0]]) (by simp [results, Tryz.results38, go_sem, p0, p1]) rfl ?_
      rw [hfin.out]
      have hl : (acc ++ [endTok s.size]).length = acc.length + 1 := by simp
      have hsx := Ext.size hxx.out
      refine ⟨((hxx.out.trans hX3.out).setCell (p := ⟨w.heap.size, 0, none⟩) (Nat.le_refl _) _).setCell (p := ⟨w.heap.size, 1, none⟩) (Nat.le_refl _) _, some ⟨g1, 0, none⟩, cap1, by rw [hl]; rfl, ?_⟩
      show World.ownsRow _ _ _ _ _ _ _
      rw [hl, cellsT_app]
      have hne : g1 ≠ w.heap.size := by
        have k1 := (hown3.lt g1 (by simp [Value.ownBlock])).1
        have k2 := (Array.getElem?_eq_some_iff.1 hx2.out).1
        omega
      exact ownsRow_other (ownsRow_other hown3 hne hsx _) hne (Nat.le_refl _) _
end Go.Proofs.YtfmcgdglalljgaaGreatDoor
