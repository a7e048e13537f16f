/-
  plan.Steps.
-/
import Derived.Test.YtodhhjlemmmjcaaGreatDelP
import Derived.Deep.RegionHeld3
import Derived.Deep.DeepCutAuto
import Derived.Deep.CutBlock
namespace Go.Proofs.YtodhhjlemmmjcaaGreat
open Go.RowKit

attribute [local go_sem] Go.World.cell?_alloc_some
theorem cell_0 {w : World} {k : Nat} {a : Value} {t : TypeId} {fz : Nat × Nat} (hk : w.heap[k]? = some (.cells #[a] t fz)) : w.cell? ⟨k, 0, none⟩ = some a := by simp [World.cell?, hk]
theorem ext_frozen {w w' : World} (h : Ext w w') {b o : Nat} (hb : b < w.heap.size) : w'.frozen? ⟨b, o, none⟩ = w.frozen? ⟨b, o, none⟩ := by
  simp only [World.frozen?, Below.block h b hb]
theorem nsucc {a b : Nat} (h : a < b) : b + 1 ≠ a := by omega
theorem two_old (w : World) (o o' : Obj) : ((w.alloc o).alloc o').heap[w.heap.size]? = some o := ext_at ((Ext.refl (w.alloc o)).alloc o') (heap_alloc_new w o)
theorem old_one {w : World} {k : Nat} {o : Obj} (h : w.heap[k]? = some o) (o' : Obj) : (w.alloc o').heap[k]? = some o := ext_at ((Ext.refl w).alloc o') h
theorem box_set {w : World} {k : Nat} {x : Value} {t : TypeId} {fz : Nat × Nat} (hk : w.heap[k]? = some (.cells #[x] t fz)) (v : Value) : (w.setCell ⟨k, 0, none⟩ v).heap[k]? = some (.cells #[v] t fz) := by
  simp [World.setCell, Array.getElem?_modify, hk]
/-- Two boxes were made and filled; all else is as it was. -/
def FinB (w2 w4 : World) (p6 p7 : Nat) (a b : Value) (wx : World) : Prop := wx.heap[p6]? = some (.cells #[a] 64 (0, 0)) ∧ wx.heap[p7]? = some (.cells #[b] 64 (0, 0)) ∧ Wrote w2.heap.size (· = 64) w4 wx
theorem fin1 (w2 w4 : World) (a b : Value) : FinB w2 w4 w4.heap.size (w4.heap.size + 1) a b ((w4.alloc (.cells #[a] 64)).alloc (.cells #[b] 64)) :=
  ⟨two_old w4 _ _, two_new w4 _ _, Wrote.ext (((Ext.refl w4).alloc _).alloc _)⟩
theorem fin1' (w2 w4 : World) (a b : Value) : FinB w2 w4 (w4.heap.size + 1) w4.heap.size a b ((w4.alloc (.cells #[b] 64)).alloc (.cells #[a] 64)) :=
  ⟨two_new w4 _ _, two_old w4 _ _, Wrote.ext (((Ext.refl w4).alloc _).alloc _)⟩
theorem fin2 {w2 w4 : World} {p6 : Nat} {a b : Value} (K6 : w4.heap[p6]? = some (.cells #[.pointer none] 64 (0, 0))) (hb : w2.heap.size ≤ p6) (hw : w2.heap.size ≤ w4.heap.size) : FinB w2 w4 p6 w4.heap.size a b (((w4.alloc (.cells #[.pointer none] 64)).setCell ⟨p6, 0, none⟩ a).setCell ⟨w4.heap.size, 0, none⟩ b) := by
  have hl := (Array.getElem?_eq_some_iff.1 K6).1
  have h6 := old_one K6 (.cells #[.pointer none] 64)
  have h7 := heap_alloc_new w4 (.cells #[.pointer none] 64)
  have h7' := (heap_set_far (w := w4.alloc (.cells #[.pointer none] 64)) (i := 0) (u := a) (show ¬ w4.heap.size = p6 by omega)).trans h7
  refine ⟨(heap_set_far (by omega)).trans (box_set h6 a), box_set h7' b, ?_⟩
  exact (((Wrote.refl w2.heap.size (· = 64) w4).alloc _).setCell (p := ⟨p6, 0, none⟩) hb h6 rfl a).setCell (p := ⟨w4.heap.size, 0, none⟩) hw h7' rfl b
theorem fin3 {w2 w4 : World} {p6 p7 : Nat} {a b : Value} (K6 : w4.heap[p6]? = some (.cells #[.pointer none] 64 (0, 0))) (K7 : w4.heap[p7]? = some (.cells #[.pointer none] 64 (0, 0))) (hne : ¬ p6 = p7) (hb : w2.heap.size ≤ p6) (hb' : w2.heap.size ≤ p7) : FinB w2 w4 p6 p7 a b ((w4.setCell ⟨p6, 0, none⟩ a).setCell ⟨p7, 0, none⟩ b) := by
  have h7' := (heap_set_far (w := w4) (i := 0) (u := a) (show ¬ p7 = p6 from fun e => hne e.symm)).trans K7
  refine ⟨(heap_set_far hne).trans (box_set K6 a), box_set h7' b, ?_⟩
  exact ((Wrote.refl w2.heap.size (· = 64) w4).setCell (p := ⟨p6, 0, none⟩) hb K6 rfl a).setCell (p := ⟨p7, 0, none⟩) hb' h7' rfl b
theorem fin4 {w2 w4 : World} {p7 : Nat} {a b : Value} (K7 : w4.heap[p7]? = some (.cells #[.pointer none] 64 (0, 0))) (hb : w2.heap.size ≤ p7) : FinB w2 w4 w4.heap.size p7 a b ((w4.alloc (.cells #[a] 64)).setCell ⟨p7, 0, none⟩ b) := by
  have hl := (Array.getElem?_eq_some_iff.1 K7).1
  have h6 := heap_alloc_new w4 (.cells #[a] 64)
  have h7 := old_one K7 (.cells #[a] 64)
  refine ⟨(heap_set_far (by omega)).trans h6, box_set h7 b, ?_⟩
  exact ((Wrote.refl w2.heap.size (· = 64) w4).alloc _).setCell (p := ⟨p7, 0, none⟩) hb h7 rfl b
theorem fin_close {B C p6 p7 t3 t4 : Nat} {l m : List Resd} {w2 w4 wx : World} {s3 s4 : List StepC} (hF : FinB w2 w4 p6 p7 (.pointer (some ⟨t3, 0, none⟩)) (.pointer (some ⟨t4, 0, none⟩)) wx) (h3 : s3.map StepC.d = makesL l m) (h4 : s4.map StepC.d = delsL l m) (T3 : TodoAt B w4 t3 s3) (T4 : TodoAt C w4 t4 s4) (X : Ext w2 w4) (hL : TabLow C w4 t3) (hBC : B ≤ C) (hap : ∀ a ∈ s3, ∀ b ∈ s4, ApartC a.r b.r) :
    Hid (wx.heap[p6]? = some (.cells #[.pointer (some ⟨t3, 0, none⟩)] 64 (0, 0))) ∧ Hid (wx.heap[p7]? = some (.cells #[.pointer (some ⟨t4, 0, none⟩)] 64 (0, 0))) ∧ Hid (s3.map StepC.d = makesL l m) ∧ Hid (s4.map StepC.d = delsL l m) ∧ Hid (TodoAt B wx t3 s3) ∧ Hid (TodoAt C wx t4 s4) ∧ Hid (Ext w2 wx) ∧ Hid (TabLow C wx t3) ∧ Hid (B ≤ C) ∧ Hid (∀ a ∈ s3, ∀ b ∈ s4, ApartC a.r b.r) :=
  ⟨hF.1, hF.2.1, h3, h4, T3.wrote hF.2.2 (by decide), T4.wrote hF.2.2 (by decide), X.wrote hF.2.2 (Nat.le_refl _), hL.wrote hF.2.2 (by decide), hBC, hap⟩
theorem cellsV_one (ss : List StepC) : ∀ u ∈ cellsV ss, u.oneCell' = true := fun u hu => by
  obtain ⟨x, _, hx⟩ := List.mem_flatMap.1 hu
  exact cV_one x u hx
theorem own_shows {B : Nat} {w : World} {pa : Option Addr} {n cap : Nat} {ss : List StepC} (h : w.ownsRow B 60 5 (.slice pa n cap) ss.length (cellsV ss)) : n = ss.length ∧ Shows w pa ss.length 5 (cellsV ss) := by
  obtain ⟨rfl, -, -, hin⟩ := own_cells cV_len h
  refine ⟨rfl, flat_lenC cV_len ss, ?_, ?_⟩
  · rintro rfl
    rcases hin with h | ⟨g, h, _⟩
    · rw [h]; rfl
    · cases h
  · rintro ad rfl j u hu
    obtain ⟨x, hx, hr⟩ := flat_split (n := 5) (by decide) cV_len hu
    rcases hin with h | ⟨g, h, hI⟩
    · rw [h] at hx; simp at hx
    · cases h
      have := hI _ x hx _ u hr
      rw [add_eq, Nat.zero_add, show j = j / 5 * 5 + j % 5 by omega]
      exact this
theorem ordF_len (may : List StepD → StepD → Prop) : ∀ (n : Nat) (t : List StepD), (ordF may n t).length ≤ n
  | 0, t => by simp [ordF]
  | n + 1, t => by
    simp only [ordF]
    split
    · simp
    · rename_i s r _
      have := ordF_len may n r
      simp; exact this
theorem fine_iff {l : List Resd} : fineB l = true ↔ FineP l := by
  unfold fineB FineP
  rw [Bool.and_eq_true]
  constructor
  · rintro ⟨h1, h2⟩; exact ⟨h1, (whole_iff h1).1 h2⟩
  · rintro ⟨h1, h2⟩; exact ⟨h1, (whole_iff h1).2 h2⟩

set_option maxRecDepth 100000 in
set_option maxHeartbeats 1600000 in
theorem stepsNo (u v : Value) (l m : List Resd) (w : World) (hu : RessV w u l) (hv : RessV w v m) (hno : ¬ (FineP l ∧ FineP m)) :
    Calls Tryz.prog 6 #[u, v] w fun e w' => e = .returned (.tuple #[.slice none 0 0, .int .i64 11]) ∧ Ext w w' := by
  obtain ⟨pv, cv, rfl, -, -, -⟩ := hv.shape
  have E0 := hide ((Ext.refl w).alloc (.cells #[.slice pv m.length cv] 22))
  have Bx := hide (heap_alloc_new w (.cells #[.slice pv m.length cv] 22))
  have h1 := hide (areWhole u l _ (hu.ext E0.out))
  replace hu := hide hu; replace hv := hide hv; replace hno := hide hno
  go_enter Tryz.func6, Tryz.ntmps6
  go_wp2_with fail
  refine h1.out.mono ?_
  rintro e1 w1 ⟨rfl, he1⟩
  have b1 : w1.cell? ⟨w.heap.size, 0, none⟩ = some (.slice pv m.length cv) := he1.cells (cell_0 Bx.out)
  replace he1 := hide he1
  cases hf : fineB l with
  | false =>
    go_wp2_with fail
    refine bodyPost_ret (v := .tuple #[.slice none 0 0, .int .i64 11]) (by simp [results, Tryz.results6, go_sem]) rfl ?_
    exact ⟨rfl, E0.out.trans he1.out⟩
  | true =>
    go_wp2_with fail
    refine (areWhole _ m _ (hv.out.ext (E0.out.trans he1.out))).mono ?_
    rintro e2 w2 ⟨rfl, he2⟩
    replace he2 := hide he2
    have hg : fineB m = false := by
      cases hg : fineB m with
      | false => rfl
      | true => exact absurd ⟨fine_iff.1 hf, fine_iff.1 hg⟩ hno.out
    rw [hg]
    replace hf := hide hf; replace hg := hide hg
    go_wp2_with fail
    refine bodyPost_ret (v := .tuple #[.slice none 0 0, .int .i64 11]) (by simp [results, Tryz.results6, go_sem]) rfl ?_
    exact ⟨rfl, E0.out.trans (he1.out.trans he2.out)⟩

set_option maxRecDepth 100000 in
set_option maxHeartbeats 3200000 in
theorem stepsYes (u v : Value) (l m : List Resd) (w : World) (hu : RessV w u l) (hv : RessV w v m) (hl : FineP l) (hm : FineP m) :
    Calls Tryz.prog 6 #[u, v] w fun e w' => ∃ (pa : Option Addr) (cap : Nat) (ss : List StepC), e = .returned (.tuple #[.slice pa ss.length cap, .int .i64 0]) ∧ Hid (ss.map StepC.d = stepsS l m) ∧ Hid (StpsAt w.heap.size w' (.slice pa ss.length cap) ss) ∧ Hid (Ext w w') := by
  obtain ⟨pv, cv, rfl, -, -, -⟩ := hv.shape
  have E0 := hide ((Ext.refl w).alloc (.cells #[.slice pv m.length cv] 22))
  have Bx := hide (heap_alloc_new w (.cells #[.slice pv m.length cv] 22))
  have h1 := hide (areWhole u l _ (hu.ext E0.out))
  replace hu := hide hu; replace hv := hide hv
  have f1 := hide (fine_iff.2 hl)
  have f2 := hide (fine_iff.2 hm)
  have hla := hide hl.1
  have hma := hide hm.1
  replace hl := hide hl; replace hm := hide hm
  go_enter Tryz.func6, Tryz.ntmps6
  go_wp2_with fail
  refine h1.out.mono ?_
  rintro e1 w1 ⟨rfl, he1⟩
  have b1 : w1.cell? ⟨w.heap.size, 0, none⟩ = some (.slice pv m.length cv) := he1.cells (cell_0 Bx.out)
  replace he1 := hide he1
  rw [f1.out]
  go_wp2_with fail
  refine (areWhole _ m _ (hv.out.ext (E0.out.trans he1.out))).mono ?_
  rintro e2 w2 ⟨rfl, he2⟩
  replace he2 := hide he2
  rw [f2.out]
  have E2 := hide (E0.out.trans (he1.out.trans he2.out))
  have B2 := hide (ext_at (he1.out.trans he2.out) Bx.out)
  have b2 : w2.cell? ⟨w.heap.size, 0, none⟩ = some (.slice pv m.length cv) := cell_0 B2.out
  clear b1
  go_upto_region 3 with fail
  have b2a := ((Ext.refl w2).alloc (.cells #[.pointer none] 64)).cells b2
  have b2b := (((Ext.refl w2).alloc (.cells #[.pointer none] 64)).alloc (.cells #[.pointer none] 64)).cells b2
  go_cut [6, 7] (fun x6 x7 wx => ∃ (p6 p7 t6 t7 C : Nat) (s6 s7 : List StepC), x6 = .pointer (some ⟨p6, 0, none⟩) ∧ x7 = .pointer (some ⟨p7, 0, none⟩) ∧ Hid (wx.heap[p6]? = some (.cells #[.pointer (some ⟨t6, 0, none⟩)] 64 (0, 0))) ∧ Hid (wx.heap[p7]? = some (.cells #[.pointer (some ⟨t7, 0, none⟩)] 64 (0, 0))) ∧ Hid (s6.map StepC.d = makesL l m) ∧ Hid (s7.map StepC.d = delsL l m) ∧ Hid (TodoAt w.heap.size wx t6 s6) ∧ Hid (TodoAt C wx t7 s7) ∧ Hid (Ext w2 wx) ∧ Hid (TabLow C wx t6) ∧ Hid (w.heap.size ≤ C) ∧ Hid (∀ a ∈ s6, ∀ b ∈ s7, ApartC a.r b.r))
  case first =>
    have nw := World.new_ne w2 ⟨w.heap.size, 0, none⟩ b2
    have nwa := nsucc (World.block_lt_of_cell? w2 _ b2)
    go_region_held3 (fun w' => w'.cell? ⟨w.heap.size, 0, none⟩ = some (.slice pv m.length cv)) (go_keep) ((first
      | (go_at_call 19; have X3 := hT3; refine (toDelete u _ l m _ (hu.out.ext (by repeat first | exact E3.out | apply Ext.drewN | apply Ext.drew | apply Ext.alloc)) (hv.out.ext (by repeat first | exact E3.out | apply Ext.drewN | apply Ext.drew | apply Ext.alloc)) hla.out hma.out).mono ?_; rintro e4 w4 ⟨t4, s4, rfl, hs4, hT4, hE4⟩; go_must (have X34 : Hid (Ext w3 w4) := Ext.trans (by repeat first | exact Ext.refl w3 | apply Ext.drew | apply Ext.alloc) hE4.out; have T34 := hide (T3.out.ext X34.out); have X24 := hide (X23.out.trans X34.out); have T4 : Hid (TodoAt w3.heap.size w4 t4 s4) := hT4.out.low (Ext.size (by repeat first | exact Ext.refl w3 | apply Ext.drew | apply Ext.alloc)); have L34 := hide (T3.out.tabLow.ext X34.out); (first | (have b4 := hE4.out.cells b3) | (have b4 := hE4.out.cells b3a) | (have b4 := hE4.out.cells b3b)); have nw4 := World.new_ne w4 _ b4; have nw4a := nsucc (World.block_lt_of_cell? w4 _ b4); (first | (have Kc := ext_at hE4.out (Ka); have cc := cell_0 Kc; have fc := row_frozen Kc; have nc := Nat.ne_of_lt (Array.getElem?_eq_some_iff.1 Kc).1; have nc' := Nat.ne_of_gt (Array.getElem?_eq_some_iff.1 Kc).1; have gc := fun (o : Obj) => row_frozen (ext_at ((Ext.refl w4).alloc o) Kc); have hc := fun (o : Obj) => cell_0 (ext_at ((Ext.refl w4).alloc o) Kc); replace Kc := hide Kc) | (have Kc := ext_at hE4.out (old_one Ka (.cells #[.pointer none] 64)); have cc := cell_0 Kc; have fc := row_frozen Kc; have nc := Nat.ne_of_lt (Array.getElem?_eq_some_iff.1 Kc).1; have nc' := Nat.ne_of_gt (Array.getElem?_eq_some_iff.1 Kc).1; have gc := fun (o : Obj) => row_frozen (ext_at ((Ext.refl w4).alloc o) Kc); have hc := fun (o : Obj) => cell_0 (ext_at ((Ext.refl w4).alloc o) Kc); replace Kc := hide Kc) | skip); (first | (have Kd := ext_at hE4.out (Kb); have cd := cell_0 Kd; have fd := row_frozen Kd; have nd := Nat.ne_of_lt (Array.getElem?_eq_some_iff.1 Kd).1; have nd' := Nat.ne_of_gt (Array.getElem?_eq_some_iff.1 Kd).1; have gd := fun (o : Obj) => row_frozen (ext_at ((Ext.refl w4).alloc o) Kd); have hd := fun (o : Obj) => cell_0 (ext_at ((Ext.refl w4).alloc o) Kd); replace Kd := hide Kd) | skip); (first | (have Ke := ext_at hE4.out (heap_alloc_new w3 (.cells #[.pointer none] 64)); have ce := cell_0 Ke; have fe := row_frozen Ke; have ne := Nat.ne_of_lt (Array.getElem?_eq_some_iff.1 Ke).1; have ne' := Nat.ne_of_gt (Array.getElem?_eq_some_iff.1 Ke).1; have ge := fun (o : Obj) => row_frozen (ext_at ((Ext.refl w4).alloc o) Ke); have he := fun (o : Obj) => cell_0 (ext_at ((Ext.refl w4).alloc o) Ke); replace Ke := hide Ke) | (have Ke := ext_at hE4.out (two_old w3 (.cells #[.pointer none] 64) (.cells #[.pointer none] 64)); have ce := cell_0 Ke; have fe := row_frozen Ke; have ne := Nat.ne_of_lt (Array.getElem?_eq_some_iff.1 Ke).1; have ne' := Nat.ne_of_gt (Array.getElem?_eq_some_iff.1 Ke).1; have ge := fun (o : Obj) => row_frozen (ext_at ((Ext.refl w4).alloc o) Ke); have he := fun (o : Obj) => cell_0 (ext_at ((Ext.refl w4).alloc o) Ke); replace Ke := hide Ke) | skip); (first | (have Kg := ext_at hE4.out (two_new w3 (.cells #[.pointer none] 64) (.cells #[.pointer none] 64)); have cg := cell_0 Kg; have fg := row_frozen Kg; have ng := Nat.ne_of_lt (Array.getElem?_eq_some_iff.1 Kg).1; have ng' := Nat.ne_of_gt (Array.getElem?_eq_some_iff.1 Kg).1; have gg := fun (o : Obj) => row_frozen (ext_at ((Ext.refl w4).alloc o) Kg); have hg := fun (o : Obj) => cell_0 (ext_at ((Ext.refl w4).alloc o) Kg); replace Kg := hide Kg) | skip)))
      | (go_at_call 18; refine (toMake u _ l m _ (hu.out.ext (by repeat first | exact E2.out | apply Ext.drewN | apply Ext.drew | apply Ext.alloc)) (hv.out.ext (by repeat first | exact E2.out | apply Ext.drewN | apply Ext.drew | apply Ext.alloc)) hla.out hma.out).mono ?_; rintro e3 w3 ⟨t3, s3, rfl, hs3, hT3, hE3⟩; go_must (have E3 : Hid (Ext w w3) := Ext.trans (by repeat first | exact E2.out | apply Ext.drewN | apply Ext.drew | apply Ext.alloc) hE3.out; have X23 : Hid (Ext w2 w3) := Ext.trans (by repeat first | exact Ext.refl w2 | apply Ext.drew | apply Ext.alloc) hE3.out; have T3 : Hid (TodoAt w.heap.size w3 t3 s3) := hT3.out.low (Ext.size (by repeat first | exact E2.out | apply Ext.drewN | apply Ext.drew | apply Ext.alloc)); (first | (have Ka := ext_at hE3.out (heap_alloc_new w2 (.cells #[.pointer none] 64)); have ca := cell_0 Ka; have fa := row_frozen Ka; have na := Nat.ne_of_lt (Array.getElem?_eq_some_iff.1 Ka).1; have na' := Nat.ne_of_gt (Array.getElem?_eq_some_iff.1 Ka).1) | (have Ka := ext_at hE3.out (two_old w2 (.cells #[.pointer none] 64) (.cells #[.pointer none] 64)); have ca := cell_0 Ka; have fa := row_frozen Ka; have na := Nat.ne_of_lt (Array.getElem?_eq_some_iff.1 Ka).1; have na' := Nat.ne_of_gt (Array.getElem?_eq_some_iff.1 Ka).1) | skip); (first | (have Kb := ext_at hE3.out (two_new w2 (.cells #[.pointer none] 64) (.cells #[.pointer none] 64)); have cb := cell_0 Kb; have fb := row_frozen Kb; have nb := Nat.ne_of_lt (Array.getElem?_eq_some_iff.1 Kb).1; have nb' := Nat.ne_of_gt (Array.getElem?_eq_some_iff.1 Kb).1) | skip); have b3 := hE3.out.cells (p := ⟨w.heap.size, 0, none⟩) (v := .slice pv m.length cv) (by first | exact b2 | exact b2a | exact b2b); have nw3 := World.new_ne w3 _ b3; have nw3a := nsucc (World.block_lt_of_cell? w3 _ b3); have b3a := ((Ext.refl w3).alloc (.cells #[.pointer none] 64)).cells b3; have b3b := (((Ext.refl w3).alloc (.cells #[.pointer none] 64)).alloc (.cells #[.pointer none] 64)).cells b3))))
    all_goals
      go_wp2_with fail
      go_meet
      have z1 : w2.heap.size ≤ w2.heap.size + 1 := by omega
      have z2 : w2.heap.size ≤ w3.heap.size := Ext.size X23.out
      have z3 : w2.heap.size ≤ w3.heap.size + 1 := by omega
      have z4 : w2.heap.size ≤ w4.heap.size := Ext.size X24.out
      refine ⟨_, _, t3, t4, w3.heap.size, s3, s4, rfl, rfl, fin_close ?_ hs3.out hs4.out T34.out T4.out X24.out L34.out (Ext.size E3.out) (fun a ha b hb => ApartC.far (T3.out.each a ha).1 (T4.out.each b hb).1 (Nat.le_refl _))⟩
      first
        | with_reducible exact fin1 _ _ _ _
        | with_reducible exact fin1' _ _ _ _
        | with_reducible exact fin2 Ke.out z2 z4
        | with_reducible exact fin2 Kc.out (Nat.le_refl _) z4
        | with_reducible exact fin4 Ke.out z2
        | with_reducible exact fin4 Kc.out (Nat.le_refl _)
        | with_reducible exact fin3 Ke.out Kg.out (by omega) z2 z3
        | with_reducible exact fin3 Kg.out Ke.out (by omega) z3 z2
        | with_reducible exact fin3 Kc.out Ke.out na (Nat.le_refl _) z2
        | with_reducible exact fin3 Ke.out Kc.out na' z2 (Nat.le_refl _)
        | with_reducible exact fin3 Kc.out Kd.out (by omega) (Nat.le_refl _) z1
        | with_reducible exact fin3 Kd.out Kc.out (by omega) z1 (Nat.le_refl _)
  case rest =>
    obtain ⟨p6, p7, t6, t7, C, s6, s7, rfl, rfl, hb6, hb7, hs6, hs7, hT6, hT7, hX, hL6, hwC, hcross⟩ := hcut
    obtain ⟨w3, rfl⟩ : ∃ w3 : World, w3 = wc := ⟨_, rfl⟩
    obtain ⟨i0, hi0, hz0, hz1, hz2⟩ := info_of infoStep
    have l6 : s6.length ≤ 12 := by
      have h1 := congrArg List.length hs6.out
      rw [List.length_map] at h1
      have h2 : (makesL l m).length ≤ m.length := List.length_filterMap_le _ _
      have := may_few hma.out
      omega
    have l7 : s7.length ≤ 12 := by
      have h1 := congrArg List.length hs7.out
      rw [List.length_map] at h1
      have h2 : (delsL l m).length ≤ l.length := by rw [dels_flag]; exact flagT_len _ _
      have := may_few hla.out
      omega
    have E3 := hide (E2.out.trans hX.out)
    have hord := hide (inOrderM w.heap.size p6 _ m w.heap.size C t6 s6 w w3 (Nat.le_refl _) hv.out E3.out hT6.out hL6.out (ext_at hX.out B2.out) hb6.out (okB_after hma.out) (by omega))
    have x6 := cell_0 hb6.out
    replace hi0 := hide hi0
    clear b2
    go_wp2_with fail
    refine hord.out.mono ?_
    rintro e4 w4 ⟨pa4, cap4, d4, rfl, hd4, hR4, hO4, hA4, hW4, hU4, hS4⟩
    clear hord x6
    have hb74 := hide (hW4.out.keeps hb7.out (by decide))
    have x7 := cell_0 hb74.out
    have hT74 := hide (hT7.out.upper hU4.out)
    have hordD := hide (inOrderD p7 C w4.heap.size t7 s7 w4 hT74.out hT74.out.tabLow hb74.out (by omega))
    have ld4 : d4.length ≤ 12 := by
      have h1 := congrArg List.length hd4.out
      rw [List.length_map] at h1
      have h2 := ordF_len (mayMake m) s6.length (s6.map StepC.d)
      omega
    go_wp2_with fail
    refine hordD.out.mono ?_
    rintro e5 w5 ⟨pa5, cap5, d5, rfl, hd5, hR5, hO5, hA5, hW5, hU5, hS5⟩
    clear hordD x7
    have ld5 : d5.length ≤ 12 := by
      have h1 := congrArg List.length hd5.out
      rw [List.length_map] at h1
      have h2 := ordF_len mayDel s7.length (s7.map StepC.d)
      omega
    have hR45 : Hid (w5.ownsRow w3.heap.size 60 5 (.slice pa4 d4.length cap4) d4.length (cellsV d4)) := ownsRow_wrote hR4.out hW5.out (by decide) rfl
    have hsh := hide (own_shows hR5.out).2
    have hsz : Hid (w3.heap.size ≤ w5.heap.size) := Nat.le_trans hW4.out.size hW5.out.size
    go_wp2_with (at_builtin; go_must (refine wpList_append_any _ rfl _ _ 23 rfl w3.heap.size 60 i0 (.agg #[.int .i64 0, .string ⟨#[]⟩, .string ⟨#[]⟩, .slice none 0 0, .slice none 0 0]) 5 88 Tryz.underlying23 hi0.out hz0 hz1 hz2 rfl (by omega) _ d4.length (cellsV d4) rfl hR45.out pa5 d5.length cap5 (cellsV d5) rfl hsh.out (cellsV_one d5) (by unfold maxLen; omega) (by omega) hsz.out ?_; intro v6 w6 hown6 hW6; obtain ⟨pa6, cap6, rfl⟩ := ownsRow_form hown6))
    have hl : (d4 ++ d5).length = d4.length + d5.length := List.length_append
    have hcv : cellsV (d4 ++ d5) = cellsV d4 ++ cellsV d5 := by simp [cellsV]
    have W56 : Wrote w.heap.size (· = 60) w5 w6 := hW6.mono (Ext.size E3.out) (fun _ h => h)
    have hfin : Hid ((d4 ++ d5).map StepC.d = stepsS l m) := by
      show _ = _
      rw [List.map_append, hd4.out, hd5.out, hs6.out, hs7.out]
      have h1 := congrArg List.length hs6.out
      have h2 := congrArg List.length hs7.out
      rw [List.length_map] at h1 h2
      rw [h1, h2]; rfl
    have X6 : Hid (Ext w w6) := ((E3.out.wrote hW4.out (Nat.le_refl _)).wrote hW5.out hwC.out).wrote W56 (Nat.le_refl _)
    have hS : Hid (StpsAt w.heap.size w6 (.slice pa6 (d4.length + d5.length) cap6) (d4 ++ d5)) := by
      refine ⟨?_, ?_, ?_⟩
      · rw [hl, hcv]; exact ownsRow_low hown6 (Ext.size E3.out)
      · intro s hs
        rcases List.mem_append.1 hs with hs | hs
        · exact ⟨((hO4.out s hs).1.put hW5.out (by decide) (by decide)).put W56 (by decide) (by decide), (hO4.out s hs).2⟩
        · exact ⟨((hO5.out s hs).1.low hwC.out).put W56 (by decide) (by decide), (hO5.out s hs).2⟩
      · exact List.pairwise_append.2 ⟨hA4.out, hA5.out, fun a ha b hb => hcross.out a (hS4.out a ha) b (hS5.out b hb)⟩
    rw [← hl] at hS
    go_wp2_with fail
    refine bodyPost_ret (v := .tuple #[.slice pa6 (d4.length + d5.length) cap6, .int .i64 0]) (by simp [results, Tryz.results6, go_sem]) rfl ⟨pa6, cap6, d4 ++ d5, by rw [hl], hfin, hS, X6⟩
end Go.Proofs.YtodhhjlemmmjcaaGreat
