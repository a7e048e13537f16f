/-
  The parser: the resources that were read, in the order of an answer.
-/
import Derived.Test.YtfmcgdglalljgaaGreatDoorRngE
import Derived.Test.YtfmcgdglalljgaaGreatDoorJ15
import Derived.Test.YtfmcgdglalljgaaGreatDoorRndAny
import Derived.Deep.RegionHeld3
import Derived.Deep.RegionLaw
import Derived.Deep.AppendLies
namespace Go.Proofs.YtfmcgdglalljgaaGreatDoor
open Go.RowKit Go.Shelf

attribute [local go_sem] Oper.semAt_some

theorem qsOf_len (es : List EntD) (bs : List Nat) : (qsOf es bs).length ≤ es.length := by
  have key : ∀ (l qs : List (EntD × Nat)), (l.foldl insP qs).length = qs.length + l.length := by
    intro l
    induction l with
    | nil => intro qs; simp
    | cons p l ih =>
      intro qs
      rw [List.foldl_cons, ih]
      have h1 : (insP qs p).length = qs.length + 1 := by
        unfold insP
        have := congrArg List.length (List.takeWhile_append_dropWhile (p := fun q : EntD × Nat => decide (cmpI q.1.id p.1.id < 0)) (l := qs))
        simp only [List.length_append, List.length_cons] at this ⊢
        omega
      rw [h1, List.length_cons]; omega
  unfold qsOf
  rw [key]
  simp [List.length_zip]
  omega
theorem ownsRow_others {W W' : World} {row : Option Nat} {base : Nat} {e : TypeId} {size : Nat} {v : Value} {k : Nat} {xs : List Value} (h : W.ownsRow base e size v k xs) (hg : W.grownBy W' row) (hr : ∀ r, row = some r → ∃ o : Obj, W.heap[r]? = some o ∧ o.isCells = false) : W'.ownsRow base e size v k xs := by
  refine h.kept hg ?_
  rcases h.2 with ⟨rfl, _⟩ | ⟨g, cap, cur, rfl, _, hgb, _⟩
  · exact .inl rfl
  · refine .inr fun e' => ?_
    obtain ⟨o, ho, hc⟩ := hr g (by simpa [Value.ownBlock] using e'.symm)
    rw [hgb] at ho; cases ho; cases hc
theorem RessAt.others {B : Nat} {W W' : World} {row : Option Nat} {v : Value} {ps : List ResP} (h : RessAt B W v ps) (hg : W.grownBy W' row) (hr : ∀ r, row = some r → ∃ o : Obj, W.heap[r]? = some o ∧ o.isCells = false) : RessAt B W' v ps :=
  ⟨ownsRow_others h.row hg hr, fun p hp => ⟨⟨(h.each p hp).1.f2, (h.each p hp).1.f3, ownsRow_others (h.each p hp).1.attrs hg hr, ownsRow_others (h.each p hp).1.after hg hr⟩, (h.each p hp).2⟩, h.apart⟩
/-- An entry as a resource. -/
def resOf (e : EntD) : Resd := ⟨e.id, e.attrs.map RowA.val, e.after⟩

set_option maxRecDepth 100000 in
set_option maxHeartbeats 4000000 in
theorem resources_in {B : Nat} {w : World} {P : Nat} {ts : List Tok} {i : Nat} {bs : List Nat} {es : List EntD} {rf : List (IDd × Nat)} (h : Std B w P ts i bs es rf) (hok : ∀ e ∈ es, okS (resOf e)) :
    CallsIn Fence.wide 9 Tryz.prog 43 #[.pointer (some ⟨P, 0, none⟩)] w fun e w' => ∃ v ps, e = .returned v ∧ Hid (ps.map ResP.x = (qsOf es bs).map (fun q => resOf q.1)) ∧ Hid (RessAt w.heap.size w' v ps) ∧ Hid (Ext w w') := by
  obtain ⟨⟨tE, vT, vE, vO, vR, hp⟩, ⟨M, hM, ho⟩, hB, h12, hf⟩ := h
  have p2 := (five_cells hp.box).2.2.1
  have p2' := (five_cells (ext_heap ((Ext.refl w).alloc (.cells #[.slice none 0 0] 36)) hp.box)).2.2.1
  have hT := hp.ents
  rw [rsOf_qs] at hT
  obtain ⟨i0, hi, hz0, hz1, hz2⟩ := info_of infoRes
  refine callsIn_of_wp_marks Tryz.func43 rfl trivial ?_ rfl
  simp only [Tryz.ntmps43, List.size_toArray, List.length_cons, List.length_nil, Nat.reduceAdd, Nat.reduceSub, Array.replicate_succ, Array.replicate_zero, List.push_toArray, List.append_toArray, List.nil_append, List.cons_append]
  gi_wp2
  refine ⟨trivial, ?_⟩
  refine (allE_in Fence.wide 8 trivial rfl _ _).mono ?_
  rintro e w' ⟨rfl, rfl⟩
  gi_wp2
  have bO := Boxed.new w 36 (.slice none 0 0)
  have bN := Boxed.new (w.alloc (.cells #[.slice none 0 0] 36)) 123 (.pointer (some ⟨tE, 0, none⟩))
  rw [World.size_alloc] at bN
  have hB0 : Below w.heap.size w ((w.alloc (.cells #[.slice none 0 0] 36)).alloc (.cells #[.pointer (some ⟨tE, 0, none⟩)] 123)) := ((Below.refl _ w).alloc (Nat.le_refl _) _).alloc (by simp) _
  refine wpIn_rangeFunc_ownH (F := Fence.wide) (n := 9) rfl (by omega) (gf := 108) (lb := #[.pointer (some ⟨w.heap.size + 1, 0, none⟩)]) rfl trivial (enters_of Tryz.func108 (by kernel_rfl) rfl)
    (allE_stops Fence.wide (9 - 1) trivial rfl (by omega) (w.heap.size + 1) B tE vE (qsOf es bs) w _ hT hB0 (by simp) bN.cell) belowK_t (belowK_b (by simp; omega)) (Below.refl _ _) (fun _ => rfl)
    (fun pre W => (∃ v ps, Boxed W w.heap.size 36 v ∧ RessAt w.heap.size W v ps ∧ ps.map ResP.x = pre.map (fun x => resOf x.1.1)) ∧ Below w.heap.size w W)
    (fun _ _ _ => False)
    (OwnFrom.and (fun s X Y row hs hg hr => by
      obtain ⟨v, ps, hb, hra, he⟩ := hs
      exact ⟨v, ps, hb.kept hg (fun e' => by obtain ⟨_, o, ho, hc⟩ := hr _ e'.symm; rw [show X.heap[w.heap.size]? = _ from hb] at ho; cases ho; cases hc), hra.others hg (fun r e' => (hr r e').2), he⟩) (ownFrom_below (Nat.le_refl _) (by simp; omega)))
    (fun _ _ _ _ _ hs _ _ => hs)
    ⟨⟨_, [], bO.alloc _, RessAt.nil _ _, rfl⟩, hB0⟩
    (fun x a' W => ∃ Bx, w.heap.size < Bx ∧ W.heap[Bx]? = some (.cells #[.string x.1.1.id.kind, .string x.1.1.id.name] 25 (0, 0)) ∧ a' = { tmps := #[.pointer (some ⟨P, 0, none⟩), undef, .slice none 0 0, .pointer (some ⟨w.heap.size, 0, none⟩), .pointer (some ⟨Bx, 0, none⟩), .pointer (some ⟨x.1.2, 0, none⟩), .pointer (some ⟨P, 0, none⟩), .pointer (some ⟨P, 0, none⟩), .pointer (some ⟨P, 2, none⟩), .pointer (some ⟨tE, 0, none⟩), .func (.func 108) #[] #[.pointer (some ⟨w.heap.size + 1, 0, none⟩)], .agg #[.string x.1.1.id.kind, .string x.1.1.id.name], .pointer (some ⟨x.1.2, 0, none⟩), undef, undef, undef, undef, undef, undef, undef, undef, undef, undef, undef, undef, undef, undef, undef, undef], defers := [] })
    (fun x a' _ X Y row hs hg hr => by
      obtain ⟨Bx, g1, g2, g3⟩ := hs
      refine ⟨Bx, g1, (hg.block Bx (Array.getElem?_eq_some_iff.1 g2).1 (fun e => ?_)).trans g2, g3⟩
      obtain ⟨_, o, ho, hc⟩ := hr Bx e.symm
      rw [g2] at ho; cases ho; cases hc)
    ?assign ?body ?done ?stop
  case assign =>
    rintro l pre x W K ⟨⟨v1, ps, bS1, hr1, hps⟩, hB1⟩ hK
    simp only [encEn]
    gi_wp2
    exact hK _ _ ((KeepsOthers.alloc _ _).from _) ((Below.refl _ W).alloc hB1.size _) ⟨⟨v1, ps, bS1.alloc _, hr1.ext ((Ext.refl W).alloc _), hps⟩, hB1.alloc hB1.size _⟩ ⟨W.heap.size, bS1.lt, World.alloc_heap_new W _, rfl⟩
  case body =>
    rintro l pre x a' W hl ⟨r, hr⟩ ⟨⟨v1, ps, hv, hrow, hps⟩, hB1⟩ ⟨Bx, hBx, hx, rfl⟩ hlt
    obtain ⟨pav, capv, rfl⟩ := ownsRow_form hrow.row
    have hc := hv.cell
    have x0 := two_c0 hx; have x1 := two_c1 hx
    obtain ⟨tA, tI, vA, vI, hE⟩ : EntAt 0 W x.1.2 x.1.1 := by
      have hz := qsOf_mem x.2
      obtain ⟨k, hk⟩ := List.mem_iff_getElem?.1 hz
      rw [List.getElem?_zip_eq_some] at hk
      exact (ho.2 k _ _ hk.2 hk.1).now.ext hB1
    obtain ⟨e0, e1, e2, e3, e4, e5⟩ := six_cells hE.box
    have hes : x.1.1 ∈ es := (List.of_mem_zip (qsOf_mem x.2)).1
    have hat : x.1.1.attrs.length ≤ 1000 := by have := (hok _ hes).2.2.2.1; simp [resOf] at this; omega
    have haf : x.1.1.after.length ≤ 1000 := by have := (hok _ hes).2.2.2.2; simp [resOf] at this; omega
    gi_wp2
    refine wpIn_region_any (by kernel_rfl) ?_
    refine wpAnyIn_of_any (by kernel_rfl) (fun _ _ h => h) _ _ _ _ ?_
    change wpAny _ _ _ _ _ _ _ (World.drew _)
    refine wpAny_of_Z (z := 15) (S := fun w' => w'.cell? ⟨w.heap.size, 0, none⟩ = some (.slice pav ps.length capv) ∧ w'.cell? ⟨Bx, 0, none⟩ = some (.string x.1.1.id.kind) ∧ w'.cell? ⟨Bx, 1, none⟩ = some (.string x.1.1.id.name) ∧ w'.cell? ⟨x.1.2, 3, none⟩ = some (.pointer (some ⟨tA, 0, none⟩)) ∧ w'.cell? ⟨x.1.2, 5, none⟩ = some (.pointer (some ⟨tI, 0, none⟩))) _ _ _ _ ?_
    have hS : W.drew.cell? ⟨w.heap.size, 0, none⟩ = some (.slice pav ps.length capv) ∧ W.drew.cell? ⟨Bx, 0, none⟩ = some (.string x.1.1.id.kind) ∧ W.drew.cell? ⟨Bx, 1, none⟩ = some (.string x.1.1.id.name) ∧ W.drew.cell? ⟨x.1.2, 3, none⟩ = some (.pointer (some ⟨tA, 0, none⟩)) ∧ W.drew.cell? ⟨x.1.2, 5, none⟩ = some (.pointer (some ⟨tI, 0, none⟩)) := ⟨hc, x0, x1, e3, e5⟩
    refine wpAnyZ_take (i := 0) (v := .slice pav ps.length capv) rfl (by kernel_rfl) (by kernel_rfl) (by kernel_rfl) (by kernel_rfl) (fun _ _ _ h => h) (Or.inl ⟨by rfl, ?_⟩) hS ?_
    · intro w' hSw
      obtain ⟨s1, s2, s3, s4, s5⟩ := hSw
      go_simp
    simp only [Act.put]
    refine wpAnyZ_take (i := 1) (v := .agg #[.string x.1.1.id.kind, .string x.1.1.id.name]) rfl (by kernel_rfl) (by kernel_rfl) (by kernel_rfl) (by kernel_rfl) (fun _ _ _ h => h) (Or.inl ⟨by rfl, ?_⟩) hS ?_
    · intro w' hSw
      obtain ⟨s1, s2, s3, s4, s5⟩ := hSw
      go_simp
    simp only [Act.put]
    refine wpAnyZ_take (i := 2) (v := .pointer (some ⟨x.1.2, 0, none⟩)) rfl (by kernel_rfl) (by kernel_rfl) (by kernel_rfl) (by kernel_rfl) (fun _ _ _ h => h) (Or.inl ⟨by rfl, ?_⟩) hS ?_
    · intro w' hSw
      obtain ⟨s1, s2, s3, s4, s5⟩ := hSw
      go_simp
    simp only [Act.put]
    refine wpAnyZ_take (i := 3) (v := .pointer (some ⟨x.1.2, 0, none⟩)) rfl (by kernel_rfl) (by kernel_rfl) (by kernel_rfl) (by kernel_rfl) (fun _ _ _ h => h) (Or.inl ⟨by rfl, ?_⟩) hS ?_
    · intro w' hSw
      obtain ⟨s1, s2, s3, s4, s5⟩ := hSw
      go_simp
    simp only [Act.put]
    refine wpAnyZ_take (i := 4) (v := .pointer (some ⟨x.1.2, 3, none⟩)) rfl (by kernel_rfl) (by kernel_rfl) (by kernel_rfl) (by kernel_rfl) (fun _ _ _ h => h) (Or.inl ⟨by rfl, ?_⟩) hS ?_
    · intro w' hSw
      obtain ⟨s1, s2, s3, s4, s5⟩ := hSw
      go_simp
    simp only [Act.put]
    refine wpAnyZ_take (i := 5) (v := .pointer (some ⟨tA, 0, none⟩)) rfl (by kernel_rfl) (by kernel_rfl) (by kernel_rfl) (by kernel_rfl) (fun _ _ _ h => h) (Or.inl ⟨by rfl, ?_⟩) hS ?_
    · intro w' hSw
      obtain ⟨s1, s2, s3, s4, s5⟩ := hSw
      go_simp
    simp only [Act.put]
    refine wpAnyZ_take (i := 7) (v := .pointer (some ⟨x.1.2, 0, none⟩)) rfl (by kernel_rfl) (by kernel_rfl) (by kernel_rfl) (by kernel_rfl) (fun _ _ _ h => h) (Or.inl ⟨by rfl, ?_⟩) hS ?_
    · intro w' hSw
      obtain ⟨s1, s2, s3, s4, s5⟩ := hSw
      go_simp
    simp only [Act.put]
    refine wpAnyZ_take (i := 8) (v := .pointer (some ⟨x.1.2, 0, none⟩)) rfl (by kernel_rfl) (by kernel_rfl) (by kernel_rfl) (by kernel_rfl) (fun _ _ _ h => h) (Or.inl ⟨by rfl, ?_⟩) hS ?_
    · intro w' hSw
      obtain ⟨s1, s2, s3, s4, s5⟩ := hSw
      go_simp
    simp only [Act.put]
    refine wpAnyZ_take (i := 9) (v := .pointer (some ⟨x.1.2, 5, none⟩)) rfl (by kernel_rfl) (by kernel_rfl) (by kernel_rfl) (by kernel_rfl) (fun _ _ _ h => h) (Or.inl ⟨by rfl, ?_⟩) hS ?_
    · intro w' hSw
      obtain ⟨s1, s2, s3, s4, s5⟩ := hSw
      go_simp
    simp only [Act.put]
    refine wpAnyZ_take (i := 10) (v := .pointer (some ⟨tI, 0, none⟩)) rfl (by kernel_rfl) (by kernel_rfl) (by kernel_rfl) (by kernel_rfl) (fun _ _ _ h => h) (Or.inl ⟨by rfl, ?_⟩) hS ?_
    · intro w' hSw
      obtain ⟨s1, s2, s3, s4, s5⟩ := hSw
      go_simp
    simp only [Act.put]
    refine wpAnyZ_one (i := 6) (by kernel_rfl) rfl fun K hK => ?_
    go_simp
    refine (valuesA 0 tA vA x.1.1.attrs W.drew (hE.attrs.ext (Ext.refl W).drew) hat).mono ?_
    rintro e6 W1 ⟨pa1, cap1, rfl, hr1, hx1⟩
    dsimp only
    refine hK.out _ _ (fun _ => ⟨hx1.out.cells hS.1, hx1.out.cells hS.2.1, hx1.out.cells hS.2.2.1, hx1.out.cells hS.2.2.2.1, hx1.out.cells hS.2.2.2.2⟩) (fun hS1 => ?_)
    replace hS1 := hS1 (by decide)
    clear hK K hS
    refine wpAnyZ_one (i := 11) (by kernel_rfl) rfl fun K hK => ?_
    go_simp
    have hX1 : Ext W W1 := (Ext.refl W).drew.trans hx1.out
    refine (keysI 0 tI vI x.1.1.after W1 (hE.after.ext hX1) haf).mono ?_
    rintro e7 W2 ⟨pa2, cap2, rfl, hr2, hx2⟩
    dsimp only
    refine hK.out _ _ (fun _ => ⟨hx2.out.cells hS1.1, hx2.out.cells hS1.2.1, hx2.out.cells hS1.2.2.1, hx2.out.cells hS1.2.2.2.1, hx2.out.cells hS1.2.2.2.2⟩) (fun hS2 => ?_)
    replace hS2 := hS2 (by decide)
    clear hK K hS1
    refine wpAnyZ_take (i := 12) (v := .agg #[.string x.1.1.id.kind, .string x.1.1.id.name, .slice pa1 x.1.1.attrs.length cap1, .slice pa2 x.1.1.after.length cap2]) rfl (by kernel_rfl) (by kernel_rfl) (by kernel_rfl) (by kernel_rfl) (fun _ _ _ h => h) (Or.inl ⟨by rfl, ?_⟩) hS2 ?_
    · intro w' hSw
      go_simp
    simp only [Act.put]
    refine wpAnyZ_one (i := 13) (by kernel_rfl) rfl fun K hK => ?_
    go_simp
    have X2 : Ext W W2 := hX1.trans hx2.out
    have hcr : (cRs ⟨resOf x.1.1, .slice pa1 x.1.1.attrs.length cap1, .slice pa2 x.1.1.after.length cap2⟩) = [.string x.1.1.id.kind, .string x.1.1.id.name, .slice pa1 x.1.1.attrs.length cap1, .slice pa2 x.1.1.after.length cap2] := rfl
    have X3 := (Ext.refl W2).alloc (.cells (cRs ⟨resOf x.1.1, .slice pa1 x.1.1.attrs.length cap1, .slice pa2 x.1.1.after.length cap2⟩).toArray 29)
    refine hK.out _ _ (fun _ => ⟨X3.cells hS2.1, X3.cells hS2.2.1, X3.cells hS2.2.2.1, X3.cells hS2.2.2.2.1, X3.cells hS2.2.2.2.2⟩) (fun hS3 => ?_)
    replace hS3 := hS3 (by decide)
    clear hK K hS2
    refine wpAnyZ_one (i := 14) (by kernel_rfl) rfl fun K hK => ?_
    have hrow2 := hrow.ext X2
    have hv2 : Boxed W2 w.heap.size 36 (.slice pav ps.length capv) := ext_heap X2 hv
    have hnew : ∀ j u, (cRs ⟨resOf x.1.1, .slice pa1 x.1.1.attrs.length cap1, .slice pa2 x.1.1.after.length cap2⟩)[j]? = some u → (W2.alloc (.cells (cRs ⟨resOf x.1.1, .slice pa1 x.1.1.attrs.length cap1, .slice pa2 x.1.1.after.length cap2⟩).toArray 29)).cell? ((⟨W2.heap.size, 0, none⟩ : Addr).add j) = some u := by
      intro j u hu
      rw [add_eq]
      refine Eq.trans (cell_of (heap_alloc_new W2 (.cells (cRs ⟨resOf x.1.1, .slice pa1 x.1.1.attrs.length cap1, .slice pa2 x.1.1.after.length cap2⟩).toArray 29)) (0 + j)) ?_
      simpa using hu
    have hpl : ps.length ≤ 12 := by
      have h1 := congrArg List.length hps
      simp only [List.length_map] at h1
      have h2 := hT.few
      have h3 := qsOf_len es bs
      omega
    refine step_append_lies _ rfl (.tmp 13) (.tmp 26) 36 rfl w.heap.size 29 i0 (.agg #[.string ⟨#[]⟩, .string ⟨#[]⟩, .slice none 0 0, .slice none 0 0]) 4 80 Tryz.underlying36 hi hz0 hz1 hz2 rfl (by omega) (.slice pav ps.length capv) ps.length (cellsP ps) (by simp [Act.eval]) (hrow2.row.alloc _) ⟨W2.heap.size, 0, none⟩ 1 1 (cRs ⟨resOf x.1.1, .slice pa1 x.1.1.attrs.length cap1, .slice pa2 x.1.1.after.length cap2⟩) (by simp [Act.eval]) rfl hnew cRs_one (by omega) (by unfold maxLen; omega) (by omega) (by have := Ext.size X2; have := hB1.size; simp; omega) (W2.heap.size + 1) (by simp) ?_
    intro g4 cap4 W4 hown4 hgrow4 _ _
    obtain ⟨hv4, hv5, hr5, hk5, hb5⟩ := hv2.appended (by decide) hrow2.row (Nat.le_trans hB1.size (Ext.size X2)) (Nat.le_refl _) hown4 hgrow4
    have WW : Wrote w.heap.size (· = 29) W2 W4 := (Wrote.refl _ _ W2).grownAt hrow2.row rfl hgrow4
    have kx := Wrote.keeps WW (ext_heap X2 hx) (by decide)
    have ke := six_cells (Wrote.keeps WW (ext_heap X2 hE.box) (by decide))
    refine hK.out _ _ (fun _ => ⟨hv4.cell, two_c0 kx, two_c1 kx, ke.2.2.2.1, ke.2.2.2.2.2⟩) (fun hS4 => ?_)
    replace hS4 := hS4 (by decide)
    clear hK K hS3
    simp only [Act.put]
    have c4 := hv4.cell
    have f4 := hv4.frozen
    refine wpAnyZ_one (i := 15) (by kernel_rfl) rfl fun K hK => ?_
    go_simp
    refine hK.out _ _ (fun h => absurd rfl h) (fun _ => ?_)
    clear hK K
    refine wpAnyZ_done (by kernel_rfl) ?_ _
    have hOR : OwnR W.heap.size W2 (.slice pa1 x.1.1.attrs.length cap1) (.slice pa2 x.1.1.after.length cap2) (resOf x.1.1) :=
      ⟨⟨pa1, cap1, by simp [resOf]⟩, ⟨pa2, cap2, rfl⟩, by
        have h1 := ownsRow_wr (D := fun _ _ => False) hr1.out (Wr.ext hx2.out) fun _ _ _ => id
        simpa [resOf, valsA] using h1, ownsRow_low' hr2.out (Ext.size hX1)⟩
    have hsn := hrow2.snoc (hOR.low hB1.size) (hok _ hes) (RessAt.fresh hrow hOR) hgrow4 hown4
    have hsn5 : RessAt w.heap.size (W4.setCell ⟨w.heap.size, 0, none⟩ (.slice (some ⟨g4, 0, none⟩) (ps.length + 1) cap4)) (.slice (some ⟨g4, 0, none⟩) (ps.length + 1) cap4) _ :=
      hsn.wrote ((Wrote.refl 0 (· = 36) W4).setCell (p := ⟨w.heap.size, 0, none⟩) (Nat.zero_le _) hv4 rfl _) (by decide) (by decide) (by decide)
    have hKO : KeepsOthers W W2 := ⟨Ext.size X2, fun k o hk _ => (Below.block X2 k (Array.getElem?_eq_some_iff.1 hk).1).trans hk⟩
    have hBW : Below w.heap.size W W2 := Below.mono X2 hB1.size
    exact ⟨(hKO.trans hk5).from _, hBW.trans hb5, ⟨_, _, hv5, hsn5, by simp [hps]⟩, hB1.trans (hBW.trans hb5)⟩
  case done =>
    rintro D ys W hD rfl ⟨⟨v1, ps, hv, hrow, hps⟩, hB1⟩ hK
    have hc := hv.cell
    gi_wp2
    refine ⟨by simp, .inl ⟨_, _, rfl, run_takeDeferred hK, ?_⟩⟩
    refine ⟨_, results_tmp rfl _ _ _, v1, ps, rfl, ?_, ?_, hB1.trans (belowK_b (w := w) (Nat.le_refl _) W D _ _ (by simp at hD; omega) hK rfl rfl)⟩
    · show _ = _
      rw [hps]
      conv => rhs; rw [← List.attach_map_subtype_val (qsOf es bs), List.map_map]
      rfl
    · exact hrow.others (grownBy_putObj' W D _) (fun r e => by cases e; exact ⟨_, hK, rfl⟩)
  case stop =>
    rintro D c pre W _ _ h _
    exact h.elim
theorem resourcesP {B : Nat} {w : World} {P : Nat} {ts : List Tok} {i : Nat} {bs : List Nat} {es : List EntD} {rf : List (IDd × Nat)} (h : Std B w P ts i bs es rf) (hok : ∀ e ∈ es, okS (resOf e)) :
    Calls Tryz.prog 43 #[.pointer (some ⟨P, 0, none⟩)] w fun e w' => ∃ v ps, e = .returned v ∧ Hid (ps.map ResP.x = (qsOf es bs).map (fun q => resOf q.1)) ∧ Hid (RessAt w.heap.size w' v ps) ∧ Hid (Ext w w') :=
  (callsIn_wide (n := 9)).1 (resources_in h hok)
end Go.Proofs.YtfmcgdglalljgaaGreatDoor
