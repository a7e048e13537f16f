/-
  The table E: what a key that is put into it leaves.
-/
/-
  How many keys a table of keys has.
-/
/-
  Resources that are whole: what the program's functions answer.
-/
import Derived.Test.YtfnbbohbicffpaaGreatDoorJ17
import Derived.Test.YtfnbbohbicffpaaGreatDoorJ18
import Derived.Test.YtfnbbohbicffpaaGreatDoorJ21
import Derived.Test.YtfnbbohbicffpaaGreatDoorJ10
import Derived.Test.YtfnbbohbicffpaaGreatDoorJ4
namespace Go.Proofs.YtfnbbohbicffpaaGreatDoor
open Go.RowKit

attribute [local go_sem] Go.World.cell?_alloc_some
/-- Only rows and tables from B on have turned. -/
abbrev WroteTE (B : Nat) (w w' : World) : Prop := Wrote B (fun t => t = 132 ∨ t = 120) w w'
/-- What a key put into a table leaves. -/
def PutIsE (B : Nat) (w : World) (t : Nat) (rs : List RowE) (x : RowE) (e : Ending) (w' : World) : Prop :=
  ∃ (i : Nat) (pa : Option Addr) (cap n : Nat), e = .returned (.tuple #[]) ∧ Hid (StandsG cmpI RowE.key rs x.key i) ∧ Hid (TabAtE B w' t (.slice pa n cap) (insG rs i x)) ∧ Hid (WroteTE B w w')

set_option maxRecDepth 100000 in
set_option maxHeartbeats 3200000 in
theorem tabPutE (B : Nat) (u : Value) (rs : List RowE) (a : IDd) (v : Nat) (t : Nat) (w : World) (ht : TabAtE B w t u rs) (ha : ¬ HasK RowE.key rs a) (hB : B ≤ w.heap.size) (hfew : rs.length + 1 ≤ 1000000) :
    Calls Tryz.prog 107 #[.pointer (some ⟨t, 0, none⟩), .agg #[.string a.kind, .string a.name], .pointer (some ⟨v, 0, none⟩)] w (PutIsE B w t rs ⟨a, v⟩) := by
  obtain ⟨pa, cap, rfl⟩ := ownsRow_form ht.rows
  have XP := hide ((Ext.refl w).alloc (.cells #[.string a.kind, .string a.name] 33))
  have ht3 := hide (ht.ext XP.out)
  have hf := hide (tabFindE B _ rs a t _ ht3.out)
  replace ht := hide ht
  go_enter Tryz.func107, Tryz.ntmps107
  go_wp2_with fail
  refine hf.out.mono ?_
  rintro e w1 ⟨i, b, rfl, hi, hs1, hs2, hs3, he1⟩
  obtain rfl : b = false := by
    cases b
    · rfl
    · exact absurd (hs2.out.1 rfl) ha
  have hk1 := ht3.out.ext he1.out
  have c1 := tabE_c1 hk1.at_
  have f1 := row_frozen hk1.at_
  have k4 := ext_heap he1.out (heap_alloc_new w _)
  have b00 := block_cell' k4 0
  have b01 := block_cell' k4 1
  simp only [List.getElem?_toArray, List.getElem?_cons_zero, List.getElem?_cons_succ] at b00 b01
  replace k4 := hide k4
  have hin := hide (insRowE B _ rs ⟨a, v⟩ i w1.heap.size (w1.drew.alloc (.cells #[.string a.kind, .string a.name, .pointer (some ⟨v, 0, none⟩)] 132)) ((hk1.ext ((Ext.refl w1).drew.alloc _)).rows) (by have := Ext.size XP.out; have := Ext.size he1.out; simp at *; omega) hi (by omega) (heap_alloc_new w1.drew _) (by
    intro e
    rcases hk1.rows.2 with ⟨h, _⟩ | ⟨g, c, cur, h, _, hg, _⟩
    · rw [h] at e; simp [Value.ownBlock] at e
    · rw [h] at e; simp [Value.ownBlock] at e
      have := (Array.getElem?_eq_some_iff.1 hg).1
      omega))
  replace hk1 := hide hk1
  go_wp2_with fail
  go_region_with (go_at_call 121; refine hin.out.mono ?_; rintro e w2 ⟨pa2, cap2, n2, rfl, hn2, hK2, hW2⟩; go_must (have ht2 := Wrote.keeps (hW2.out) (ext_heap ((Ext.refl w1).drew.alloc _) hk1.out.at_) (by decide); have f2 := row_frozen ht2; have d1 := tabE_c1 ht2; replace ht2 := hide ht2))
  all_goals go_wp2
  all_goals
    refine ⟨rfl, .tuple #[], by simp [results, Tryz.results107], ?_⟩
    have hup := ht.out.up
    refine ⟨i, pa2, cap2, n2, rfl, hs1, ⟨tabE_set ht2.out _, ownsRow_set hK2.out ht2.out (by decide) _, hup.insert ordI hs1.out ha, by rw [insG_len hi]; exact hfew, ht.out.base⟩, ?_⟩
    refine Wrote.setCell (p := ⟨t, 1, none⟩) ?_ ht.out.base ht2.out (.inr rfl) _
    exact (((Wrote.ext XP.out).then he1.out).then ((Ext.refl w1).drew.alloc _)).trans (hW2.out.mono (Nat.le_refl _) fun _ h => .inl h)
end Go.Proofs.YtfnbbohbicffpaaGreatDoor

namespace Go.Proofs.YtfnbbohbicffpaaGreatDoor
open Go.RowKit

set_option maxRecDepth 100000 in
set_option maxHeartbeats 800000 in
theorem tabLen (B : Nat) (v : Value) (ks : List IDd) (t : Nat) (w : World) (ht : TabAt B w t v ks) :
    Calls Tryz.prog 138 #[.pointer (some ⟨t, 0, none⟩)] w fun e w' => e = .returned (.int .i64 ks.length) ∧ w' = w := by
  obtain ⟨pa, cap, rfl⟩ := ownsRow_form ht.keys
  have c1 := two_c1 ht.at_
  replace ht := hide ht
  go_enter Tryz.func138, Tryz.ntmps138
  go_wp2
  go_ret
  exact ⟨rfl, rfl⟩
end Go.Proofs.YtfnbbohbicffpaaGreatDoor

namespace Go.Proofs.YtfnbbohbicffpaaGreatDoor
open Go.RowKit

/-- Is an ID that of a resource of the list? -/
def hasB (l : List Resd) (a : IDd) : Bool := (placeL l a).isSome
theorem placeI_nonneg (l : List Resd) (a : IDd) : decide (0 ≤ placeI l a) = hasB l a := by
  unfold placeI hasB
  cases placeL l a with
  | none => rfl
  | some j => simp
theorem hit_same (x : Resd) (a : IDd) : hitI x a = hitK x.id a := rfl

set_option maxRecDepth 100000 in
set_option maxHeartbeats 800000 in
theorem waitsForItself (v : Value) (l : List Resd) (a : IDd) (w : World) (hv : RessV w v l) (hU : (allAfter l).length ≤ 1000) :
    Calls Tryz.prog 43 #[v, .agg #[.string a.kind, .string a.name]] w (CircIs w l a) := by
  have X1 := hide ((Ext.refl w).alloc (.cells #[.string a.kind, .string a.name] 33))
  have hh := hide (waits v l a w.heap.size (w.alloc (.cells #[.string a.kind, .string a.name] 33)) (hv.ext X1.out) (by simp [go_sem]) (by simp [go_sem]) hU)
  obtain ⟨a1, c1, rfl, -, -, -⟩ := hv.shape
  clear hv
  go_enter Tryz.func43, Tryz.ntmps43
  go_wp2_with fail
  refine hh.out.mono ?_
  rintro e w1 ⟨b, rfl, hb, he1⟩
  go_wp2_with fail
  go_ret
  exact ⟨b, rfl, hb, X1.out.trans he1.out⟩

/-- Does it wait for itself? -/
noncomputable def circB (l : List Resd) (a : IDd) : Bool := @decide (IdCirc l a) (Classical.propDecidable _)
theorem circB_of {l : List Resd} {a : IDd} {b : Bool} (h : b = true ↔ IdCirc l a) : b = circB l a := by
  rw [Bool.eq_iff_iff, h]; simp [circB]
noncomputable def wholeB (l : List Resd) (x : Resd) : Bool := x.after.all (hasB l) && !circB l x.id
theorem okB_after {l : List Resd} (h : mayAllB l = true) : (allAfter l).length ≤ 1000 := by
  simp only [mayAllB, Bool.and_eq_true, decide_eq_true_eq, List.all_eq_true] at h
  have h1 : ∀ x ∈ l, x.after.length ≤ 6 := fun x hx => by
    have := h.1.2 x hx
    simp only [mayB, Bool.and_eq_true, decide_eq_true_eq] at this
    exact this.1.1.1.1.1.2
  have : ∀ (l : List Resd), (∀ x ∈ l, x.after.length ≤ 6) → (allAfter l).length ≤ l.length * 6 := fun l => by
    induction l with
    | nil => intro _; simp [allAfter]
    | cons x l ih =>
      intro h
      have := ih (fun y hy => h y (List.mem_cons_of_mem _ hy))
      have := h x (List.mem_cons_self ..)
      simp [allAfter] at *
      omega
  have := this l h1
  omega
theorem rises_pair : ∀ {l : List Resd}, risesB lessR l = true → l.Pairwise fun a b => cmpI a.id b.id < 0
  | [], _ => List.Pairwise.nil
  | [_], _ => List.pairwise_singleton _ _
  | a :: b :: l, h => by
    simp only [risesB, Bool.and_eq_true] at h
    have ih := rises_pair h.2
    have hab : cmpI a.id b.id < 0 := by simpa [lessR, lessI] using h.1
    refine List.pairwise_cons.2 ⟨fun y hy => ?_, ih⟩
    rcases List.mem_cons.1 hy with rfl | hy
    · exact hab
    · exact cmpI_trans hab ((List.pairwise_cons.1 ih).1 y hy)
theorem may_apart {l : List Resd} (h : mayAllB l = true) : Apart l := by
  simp only [mayAllB, Bool.and_eq_true] at h
  have hp := List.pairwise_iff_getElem.1 (rises_pair h.2)
  intro i j x y hi hj e
  obtain ⟨h1, rfl⟩ := List.getElem?_eq_some_iff.1 hi
  obtain ⟨h2, rfl⟩ := List.getElem?_eq_some_iff.1 hj
  rcases Nat.lt_trichotomy i j with hij | hij | hij
  · have := hp i j h1 h2 hij
    rw [e, cmpI_zero.2 rfl] at this; omega
  · exact hij
  · have := hp j i h2 h1 hij
    rw [e, cmpI_zero.2 rfl] at this; omega
theorem whole_iff {l : List Resd} (h : mayAllB l = true) : l.all (wholeB l) = true ↔ WholeP l := by
  have ha := may_apart h
  rw [List.all_eq_true]
  constructor
  · intro hw
    refine ⟨fun i x hx k a hk => ?_, fun i hi hc => ?_⟩
    · have := hw x (List.mem_of_getElem? hx)
      simp only [wholeB, Bool.and_eq_true, List.all_eq_true] at this
      have := this.1 a (List.mem_of_getElem? hk)
      exact Option.isSome_iff_exists.1 this
    · have hx := List.getElem?_eq_getElem hi
      have := hw l[i] (List.getElem_mem hi)
      simp only [wholeB, Bool.and_eq_true] at this
      have h2 := this.2
      have := (circ_iff ha hx).2 hc
      simp [circB, this] at h2
  · rintro ⟨h1, h2⟩ x hx
    obtain ⟨i, hi, rfl⟩ := List.getElem_of_mem hx
    have hx := List.getElem?_eq_getElem hi
    simp only [wholeB, Bool.and_eq_true, List.all_eq_true]
    refine ⟨fun a hm => ?_, ?_⟩
    · obtain ⟨k, hk⟩ := List.mem_iff_getElem?.1 hm
      exact Option.isSome_iff_exists.2 (h1 i _ hx k a hk)
    · have h3 : ¬ IdCirc l l[i].id := fun e => h2 i hi ((circ_iff ha hx).1 e)
      simpa [circB] using h3

/-- Resources that may be, and are whole. -/
noncomputable def fineB (l : List Resd) : Bool := mayAllB l && l.all (wholeB l)

end Go.Proofs.YtfnbbohbicffpaaGreatDoor
