/-
  Resources that are whole: what the program's functions answer.
-/
import Derived.Test.YtodhhjlemmmjcaaGreatWaits
import Derived.Test.YtodhhjlemmmjcaaGreatJ11
import Derived.Test.YtodhhjlemmmjcaaGreatJ19
namespace Go.Proofs.YtodhhjlemmmjcaaGreat
open Go.RowKit

/-- Is an ID that of a resource of the list? -/
def hasB (l : List Resd) (a : IDd) : Bool := (placeL l a).isSome
theorem placeI_nonneg (l : List Resd) (a : IDd) : decide (0 ≤ placeI l a) = hasB l a := by
  unfold placeI hasB
  cases placeL l a with
  | none => rfl
  | some j => simp
theorem hit_same (x : Resd) (a : IDd) : hitI x a = hitK x.id a := rfl

set_option maxRecDepth 100000 in
set_option maxHeartbeats 1600000 in
theorem indexFunc (v : Value) (l : List Resd) (a : IDd) (p : Nat) (w : World) (hv : RessV w v l) (h0 : w.cell? ⟨p, 0, none⟩ = some (.string a.kind)) (h1 : w.cell? ⟨p, 1, none⟩ = some (.string a.name)) :
    Calls Tryz.prog 102 #[v, .func (.func 71) #[] #[.pointer (some ⟨p, 0, none⟩)]] w fun e w' => e = .returned (.int .i64 (placeI l a)) ∧ Ext w w' := by
  obtain ⟨⟨pa, cap, rfl, hc1, hc2, hin⟩, hfew⟩ := hv
  replace hin := hide hin; replace h0 := hide h0; replace h1 := hide h1
  go_enter Tryz.func102, Tryz.ntmps102
  go_wp2_with fail
  go_loopw [8] (fun i wr => ∃ j : Nat, j ≤ l.length ∧ i = .int .i64 j ∧ Hid (∀ i y, i < j → l[i]? = some y → hitI y a = false) ∧ Hid (Ext w wr)) (fun i _ => l.length - (intOf i).toNat)
  case atStart => exact ⟨0, Nat.zero_le _, rfl, fun _ _ h => absurd h (by omega), Ext.refl _⟩
  case round =>
    obtain ⟨j, hj, rfl, hno, hx⟩ := hrel
    by_cases hlt : j < l.length
    · obtain ⟨x, hxj⟩ := some_of_lt hlt
      rcases hin.out with h | ⟨b, off, rfl, h⟩
      · rw [h] at hlt; simp at hlt
      obtain ⟨k0, k1, c2, c3, k2, k3, hR⟩ := h j x hxj
      replace k0 := hx.out.cells k0
      replace k1 := hx.out.cells k1
      replace k2 := hx.out.cells k2
      replace k3 := hx.out.cells k3
      obtain ⟨a2, p2, rfl⟩ := hR.attrs.form
      obtain ⟨a3, p3, rfl⟩ := hR.after.form
      have j2 : (j : Int) < (l.length : Int) := by omega
      have j4 : (0 : Int) ≤ (j : Int) := by omega
      have hh := hide (hitB a x.id a2 a3 x.attrs.length x.after.length p2 p3 p wr (hx.out.cells h0.out) (hx.out.cells h1.out))
      replace h := hide h; replace hxj := hide hxj; replace hR := hide hR
      go_wp2_with fail
      refine hh.out.mono ?_
      rintro e w1 ⟨rfl, he1⟩
      replace he1 := hide he1
      cases hb : hitK x.id a
      · go_wp2_with fail
        go_roundw
        case rel =>
          refine ⟨j + 1, by omega, by go_num, fun i y hi hy => ?_, hx.out.trans he1.out⟩
          by_cases hij : i = j
          · subst hij
            obtain rfl : x = y := by simpa [hxj.out] using hy
            exact hb
          · exact hno.out i y (by omega) hy
        case measure => simp [intOf]; omega
      · have hp := hide (place_at hno.out hxj.out hb)
        go_wp2_with fail
        go_ret
        exact ⟨by rw [hp.out]; rfl, hx.out.trans he1.out⟩
    · have hp := hide (place_no (l := l) (a := a) fun i y hy => hno.out i y (by have := (List.getElem?_eq_some_iff.1 hy).1; omega) hy)
      go_wp2_with fail
      go_ret
      exact ⟨by rw [hp.out]; rfl, hx.out⟩

set_option maxRecDepth 100000 in
set_option maxHeartbeats 800000 in
theorem containsFunc (v : Value) (l : List Resd) (a : IDd) (p : Nat) (w : World) (hv : RessV w v l) (h0 : w.cell? ⟨p, 0, none⟩ = some (.string a.kind)) (h1 : w.cell? ⟨p, 1, none⟩ = some (.string a.name)) :
    Calls Tryz.prog 70 #[v, .func (.func 71) #[] #[.pointer (some ⟨p, 0, none⟩)]] w fun e w' => e = .returned (.bool (hasB l a)) ∧ Ext w w' := by
  have hh := hide (indexFunc v l a p w hv h0 h1)
  obtain ⟨va, vc, rfl, -, -, -⟩ := hv.shape
  have hp := hide (placeI_nonneg l a)
  generalize placeI l a = z at *
  clear hv h0 h1
  go_enter Tryz.func70, Tryz.ntmps70
  go_wp2_with fail
  refine hh.out.mono ?_
  rintro e w1 ⟨rfl, he1⟩
  replace he1 := hide he1
  go_wp2_with fail
  go_ret
  exact ⟨retB hp.out, he1.out⟩

set_option maxRecDepth 100000 in
set_option maxHeartbeats 800000 in
theorem hasOne (v : Value) (l : List Resd) (a : IDd) (p : Nat) (w : World) (hv : RessV w v l) (h0 : w.cell? ⟨p, 0, none⟩ = some v) :
    Calls Tryz.prog 69 #[.agg #[.string a.kind, .string a.name], .pointer (some ⟨p, 0, none⟩)] w fun e w' => e = .returned (.bool (hasB l a)) ∧ Ext w w' := by
  have X1 := hide ((Ext.refl w).alloc (.cells #[.string a.kind, .string a.name] 52))
  have g0 := X1.out.cells h0
  have hh := hide (containsFunc v l a w.heap.size (w.alloc (.cells #[.string a.kind, .string a.name] 52)) (hv.ext X1.out) (by simp [go_sem]) (by simp [go_sem]))
  obtain ⟨va, vc, rfl, -, -, -⟩ := hv.shape
  clear hv h0
  go_enter Tryz.func69, Tryz.ntmps69
  go_wp2_with fail
  refine hh.out.mono ?_
  rintro e w1 ⟨rfl, he1⟩
  replace he1 := hide he1
  go_wp2_with fail
  go_ret
  exact ⟨rfl, X1.out.trans he1.out⟩

set_option maxRecDepth 100000 in
set_option maxHeartbeats 800000 in
theorem everyHas (v va : Value) (l : List Resd) (ids : List IDd) (p : Nat) (w : World) (hl : RessV w va l) (h0 : w.cell? ⟨p, 0, none⟩ = some va) (hv : IDsV w v ids) :
    Calls Tryz.prog 68 #[v, .func (.func 69) #[] #[.pointer (some ⟨p, 0, none⟩)]] w fun e w' => e = .returned (.bool (ids.all (hasB l))) ∧ Ext w w' := by
  obtain ⟨⟨a, cap, rfl, hcap, hmax, hs⟩, hfew, hok⟩ := hv
  replace hs := hide hs; replace hl := hide hl; replace h0 := hide h0
  go_enter Tryz.func68, Tryz.ntmps68
  go_wp2
  go_loopw [9] (fun i wr => ∃ k : Nat, k ≤ ids.length ∧ i = .int .i64 k ∧ Hid ((ids.take k).all (hasB l) = true) ∧ Ext w wr) (fun i _ => ids.length - (intOf i).toNat)
  case atStart => exact ⟨0, Nat.zero_le _, rfl, by simp [Hid], Ext.refl _⟩
  case round =>
    obtain ⟨k, hk, rfl, hall, he⟩ := hrel
    by_cases hlt : k < ids.length
    · rcases hs.out with h | ⟨b, off, rfl, hin⟩
      · rw [h] at hlt; simp at hlt
      obtain ⟨x, hx⟩ := some_of_lt hlt
      obtain ⟨g0, g1⟩ := (hin.ext he) k x hx
      have Hs := hide (all_succ (p := hasB l) hx hall.out)
      have Hf := hide (all_no (p := hasB l) hx)
      have hh := hide (hasOne va l x p (wr.alloc (.cells #[.string x.kind, .string x.name] 52)) (hl.out.ext (he.alloc _)) ((he.alloc _).cells h0.out))
      replace hin := hide hin
      replace he := hide he
      replace hx := hide hx
      go_wp2_with fail
      refine hh.out.mono ?_
      rintro e w1 ⟨rfl, he1⟩
      replace he1 := hide he1
      cases hb : hasB l x
      · go_wp2_with fail
        go_ret
        exact ⟨retB (unhide Hf hb).symm, (he.out.alloc _).trans he1.out⟩
      · go_wp2_with fail
        go_roundw
        case rel => exact ⟨k + 1, by omega, by go_num, by rw [unhide Hs]; exact hb, (he.out.alloc _).trans he1.out⟩
        case measure => simp [intOf]; omega
    · have Hl := hide (show ids.take k = ids from List.take_of_length_le (by omega))
      replace he := hide he
      go_wp2
      go_ret
      exact ⟨retB (by rw [unhide Hl] at hall; exact hall.out.symm), he.out⟩

set_option maxRecDepth 100000 in
set_option maxHeartbeats 800000 in
theorem hasAll (v va : Value) (l : List Resd) (ids : List IDd) (w : World) (hl : RessV w va l) (hv : IDsV w v ids) :
    Calls Tryz.prog 40 #[va, v] w fun e w' => e = .returned (.bool (ids.all (hasB l))) ∧ Ext w w' := by
  have X1 := hide ((Ext.refl w).alloc (.cells #[va] 22))
  have hh := hide (everyHas v va l ids w.heap.size (w.alloc (.cells #[va] 22)) (hl.ext X1.out) (by simp [go_sem]) (hv.ext X1.out))
  obtain ⟨a1, c1, rfl, -, -, -⟩ := hl.shape
  obtain ⟨a2, c2, rfl, -, -, -⟩ := hv.shape
  clear hl hv
  go_enter Tryz.func40, Tryz.ntmps40
  go_wp2_with fail
  refine hh.out.mono ?_
  rintro e w1 ⟨rfl, he1⟩
  replace he1 := hide he1
  go_wp2_with fail
  go_ret
  exact ⟨rfl, X1.out.trans he1.out⟩

set_option maxRecDepth 100000 in
set_option maxHeartbeats 800000 in
theorem waitsForItself (v : Value) (l : List Resd) (a : IDd) (w : World) (hv : RessV w v l) (hU : (allAfter l).length ≤ 1000) :
    Calls Tryz.prog 41 #[v, .agg #[.string a.kind, .string a.name]] w (CircIs w l a) := by
  have X1 := hide ((Ext.refl w).alloc (.cells #[.string a.kind, .string a.name] 52))
  have hh := hide (waits v l a w.heap.size (w.alloc (.cells #[.string a.kind, .string a.name] 52)) (hv.ext X1.out) (by simp [go_sem]) (by simp [go_sem]) hU)
  obtain ⟨a1, c1, rfl, -, -, -⟩ := hv.shape
  clear hv
  go_enter Tryz.func41, Tryz.ntmps41
  go_wp2_with fail
  refine hh.out.mono ?_
  rintro e w1 ⟨b, rfl, hb, he1⟩
  go_wp2_with fail
  go_ret
  exact ⟨b, rfl, hb, X1.out.trans he1.out⟩

/-- Does it wait for itself? -/
noncomputable def circB (l : List Resd) (a : IDd) : Bool := @decide (IdCirc l a) (Classical.propDecidable _)
theorem circB_of {l : List Resd} {a : IDd} {b : Bool} (h : b = true ↔ IdCirc l a) : b = circB l a := by
  rw [Bool.eq_iff_iff, h]; simp [circB]
noncomputable def wholeB (l : List Resd) (x : Resd) : Bool := x.after.all (hasB l) && !circB l x.id
theorem okB_after {l : List Resd} (h : mayAllB l = true) : (allAfter l).length ≤ 1000 := by
  simp only [mayAllB, Bool.and_eq_true, decide_eq_true_eq, List.all_eq_true] at h
  have h1 : ∀ x ∈ l, x.after.length ≤ 6 := fun x hx => by
    have := h.1.2 x hx
    simp only [mayB, Bool.and_eq_true, decide_eq_true_eq] at this
    exact this.1.1.1.1.1.2
  have : ∀ (l : List Resd), (∀ x ∈ l, x.after.length ≤ 6) → (allAfter l).length ≤ l.length * 6 := fun l => by
    induction l with
    | nil => intro _; simp [allAfter]
    | cons x l ih =>
      intro h
      have := ih (fun y hy => h y (List.mem_cons_of_mem _ hy))
      have := h x (List.mem_cons_self ..)
      simp [allAfter] at *
      omega
  have := this l h1
  omega
theorem rises_pair : ∀ {l : List Resd}, risesB lessR l = true → l.Pairwise fun a b => cmpI a.id b.id < 0
  | [], _ => List.Pairwise.nil
  | [_], _ => List.pairwise_singleton _ _
  | a :: b :: l, h => by
    simp only [risesB, Bool.and_eq_true] at h
    have ih := rises_pair h.2
    have hab : cmpI a.id b.id < 0 := by simpa [lessR, lessI] using h.1
    refine List.pairwise_cons.2 ⟨fun y hy => ?_, ih⟩
    rcases List.mem_cons.1 hy with rfl | hy
    · exact hab
    · exact cmpI_trans hab ((List.pairwise_cons.1 ih).1 y hy)
theorem may_apart {l : List Resd} (h : mayAllB l = true) : Apart l := by
  simp only [mayAllB, Bool.and_eq_true] at h
  have hp := List.pairwise_iff_getElem.1 (rises_pair h.2)
  intro i j x y hi hj e
  obtain ⟨h1, rfl⟩ := List.getElem?_eq_some_iff.1 hi
  obtain ⟨h2, rfl⟩ := List.getElem?_eq_some_iff.1 hj
  rcases Nat.lt_trichotomy i j with hij | hij | hij
  · have := hp i j h1 h2 hij
    rw [e, cmpI_zero.2 rfl] at this; omega
  · exact hij
  · have := hp j i h2 h1 hij
    rw [e, cmpI_zero.2 rfl] at this; omega
theorem whole_iff {l : List Resd} (h : mayAllB l = true) : l.all (wholeB l) = true ↔ WholeP l := by
  have ha := may_apart h
  rw [List.all_eq_true]
  constructor
  · intro hw
    refine ⟨fun i x hx k a hk => ?_, fun i hi hc => ?_⟩
    · have := hw x (List.mem_of_getElem? hx)
      simp only [wholeB, Bool.and_eq_true, List.all_eq_true] at this
      have := this.1 a (List.mem_of_getElem? hk)
      exact Option.isSome_iff_exists.1 this
    · have hx := List.getElem?_eq_getElem hi
      have := hw l[i] (List.getElem_mem hi)
      simp only [wholeB, Bool.and_eq_true] at this
      have h2 := this.2
      have := (circ_iff ha hx).2 hc
      simp [circB, this] at h2
  · rintro ⟨h1, h2⟩ x hx
    obtain ⟨i, hi, rfl⟩ := List.getElem_of_mem hx
    have hx := List.getElem?_eq_getElem hi
    simp only [wholeB, Bool.and_eq_true, List.all_eq_true]
    refine ⟨fun a hm => ?_, ?_⟩
    · obtain ⟨k, hk⟩ := List.mem_iff_getElem?.1 hm
      exact Option.isSome_iff_exists.2 (h1 i _ hx k a hk)
    · have h3 : ¬ IdCirc l l[i].id := fun e => h2 i hi ((circ_iff ha hx).1 e)
      simpa [circB] using h3

set_option maxRecDepth 100000 in
set_option maxHeartbeats 1600000 in
theorem wholeOne (va c2 c3 : Value) (l : List Resd) (x : Resd) (p : Nat) (w : World) (hl : RessV w va l) (h0 : w.cell? ⟨p, 0, none⟩ = some va) (hx : ResV w c2 c3 x) (hU : (allAfter l).length ≤ 1000) :
    Calls Tryz.prog 39 #[.agg #[.string x.id.kind, .string x.id.name, c2, c3], .pointer (some ⟨p, 0, none⟩)] w fun e w' => e = .returned (.bool (wholeB l x)) ∧ Ext w w' := by
  have X1 := hide ((Ext.refl w).alloc (.cells #[.string x.id.kind, .string x.id.name, c2, c3] 56))
  have g0 := X1.out.cells h0
  have hh := hide (hasAll c3 va l x.after (w.alloc (.cells #[.string x.id.kind, .string x.id.name, c2, c3] 56)) (hl.ext X1.out) (hx.after.ext X1.out))
  have hw := fun w1 (h : Ext (w.alloc (.cells #[.string x.id.kind, .string x.id.name, c2, c3] 56)) w1) => waitsForItself va l x.id w1 (hl.ext (X1.out.trans h)) hU
  replace hw := hide hw
  obtain ⟨a1, c1, rfl, -, -, -⟩ := hl.shape
  obtain ⟨a2, p2, rfl⟩ := hx.attrs.form
  obtain ⟨a3, p3, rfl⟩ := hx.after.form
  clear hl h0 hx
  go_enter Tryz.func39, Tryz.ntmps39
  go_wp2_with fail
  refine hh.out.mono ?_
  rintro e w1 ⟨rfl, he1⟩
  have hE := ext_heap he1 (heap_alloc_new w _)
  obtain ⟨q0, q1, q2, q3⟩ := four_cells hE
  have g1 := he1.cells g0
  have hcall := hide (hw.out w1 he1)
  replace hE := hide hE; replace he1 := hide he1
  cases hb : x.after.all (hasB l)
  · have H : Hid (wholeB l x = false) := by show _ = _; simp only [wholeB, hb]; rfl
    go_wp2_with fail
    go_ret
    exact ⟨retB (by rw [H.out]), X1.out.trans he1.out⟩
  · go_wp2_with fail
    refine hcall.out.mono ?_
    rintro e w2 ⟨b, rfl, hb2, he2⟩
    have H : Hid (wholeB l x = !b) := by show _ = _; simp only [wholeB, hb]; rw [circB_of hb2.out]; rfl
    go_wp2_with fail
    go_ret
    exact ⟨retB (by rw [H.out]), (X1.out.trans he1.out).trans he2.out⟩

set_option maxRecDepth 100000 in
set_option maxHeartbeats 800000 in
theorem everyWhole (v : Value) (l : List Resd) (p : Nat) (w : World) (hv : RessV w v l) (h0 : w.cell? ⟨p, 0, none⟩ = some v) (hU : (allAfter l).length ≤ 1000) :
    Calls Tryz.prog 38 #[v, .func (.func 39) #[] #[.pointer (some ⟨p, 0, none⟩)]] w fun e w' => e = .returned (.bool (l.all (wholeB l))) ∧ Ext w w' := by
  have hv0 := hide hv
  have hp0 := hide h0
  obtain ⟨⟨a, cap, rfl, hcap, hmax, hs⟩, hfew⟩ := hv
  replace hs := hide hs
  clear h0
  go_enter Tryz.func38, Tryz.ntmps38
  go_wp2
  go_loopw [9] (fun i wr => ∃ k : Nat, k ≤ l.length ∧ i = .int .i64 k ∧ Hid ((l.take k).all (wholeB l) = true) ∧ Ext w wr) (fun i _ => l.length - (intOf i).toNat)
  case atStart => exact ⟨0, Nat.zero_le _, rfl, by simp [Hid], Ext.refl _⟩
  case round =>
    obtain ⟨k, hk, rfl, hall, he⟩ := hrel
    by_cases hlt : k < l.length
    · rcases hs.out with h | ⟨b, off, rfl, hin⟩
      · rw [h] at hlt; simp at hlt
      obtain ⟨x, hx⟩ := some_of_lt hlt
      obtain ⟨g0, g1, c2, c3, g2, g3, hres⟩ := (hin.ext he) k x hx
      have hw := hide (wholeOne _ c2 c3 l x p (wr.alloc (.cells #[.string x.id.kind, .string x.id.name, c2, c3] 56)) (hv0.out.ext (he.alloc _)) ((he.alloc _).cells hp0.out) (hres.ext ((Ext.refl _).alloc _)) hU)
      obtain ⟨a2, p2, rfl⟩ := hres.attrs.form
      obtain ⟨a3, p3, rfl⟩ := hres.after.form
      clear hres
      have Hs := hide (all_succ (p := wholeB l) hx hall.out)
      have Hf := hide (all_no (p := wholeB l) hx)
      replace hin := hide hin
      replace he := hide he
      replace hx := hide hx
      go_wp2_with fail
      refine hw.out.mono ?_
      rintro e w1 ⟨rfl, he1⟩
      replace he1 := hide he1
      cases hb : wholeB l x
      · go_wp2_with fail
        go_ret
        exact ⟨retB (unhide Hf hb).symm, (he.out.alloc _).trans he1.out⟩
      · go_wp2_with fail
        go_roundw
        case rel => exact ⟨k + 1, by omega, by go_num, by rw [unhide Hs]; exact hb, (he.out.alloc _).trans he1.out⟩
        case measure => simp [intOf]; omega
    · have Hl := hide (show l.take k = l from List.take_of_length_le (by omega))
      replace he := hide he
      go_wp2
      go_ret
      exact ⟨retB (by rw [unhide Hl] at hall; exact hall.out.symm), he.out⟩

/-- Resources that may be, and are whole. -/
noncomputable def fineB (l : List Resd) : Bool := mayAllB l && l.all (wholeB l)

set_option maxRecDepth 100000 in
set_option maxHeartbeats 800000 in
theorem areWhole (v : Value) (l : List Resd) (w : World) (hv : RessV w v l) :
    Calls Tryz.prog 17 #[v] w fun e w' => e = .returned (.bool (fineB l)) ∧ Ext w w' := by
  have X1 := hide ((Ext.refl w).alloc (.cells #[v] 22))
  have hm := hide (allMayBe v l (w.alloc (.cells #[v] 22)) (hv.ext X1.out))
  have c0 : (w.alloc (.cells #[v] 22)).cell? ⟨w.heap.size, 0, none⟩ = some v := by simp [go_sem]
  have hw := fun (hU : (allAfter l).length ≤ 1000) w1 (h : Ext (w.alloc (.cells #[v] 22)) w1) => everyWhole v l w.heap.size w1 (hv.ext (X1.out.trans h)) (h.cells c0) hU
  replace hw := hide hw
  replace c0 := hide c0
  obtain ⟨a1, c1, rfl, -, -, -⟩ := hv.shape
  clear hv
  go_enter Tryz.func17, Tryz.ntmps17
  go_wp2_with fail
  refine hm.out.mono ?_
  rintro e w1 ⟨rfl, he1⟩
  have q0 := he1.cells c0.out
  cases hb : mayAllB l
  · have H : Hid (fineB l = false) := by show _ = _; simp only [fineB, hb]; rfl
    replace he1 := hide he1
    go_wp2_with fail
    go_ret
    exact ⟨retB (by rw [H.out]), X1.out.trans he1.out⟩
  · have H : Hid (fineB l = l.all (wholeB l)) := by show _ = _; simp only [fineB, hb]; rfl
    have hcall := hide (hw.out (okB_after hb) w1 he1)
    replace he1 := hide he1
    go_wp2_with fail
    refine hcall.out.mono ?_
    rintro e w2 ⟨rfl, he2⟩
    replace he2 := hide he2
    go_wp2_with fail
    go_ret
    exact ⟨retB (by rw [H.out]), (X1.out.trans he1.out).trans he2.out⟩
end Go.Proofs.YtodhhjlemmmjcaaGreat
