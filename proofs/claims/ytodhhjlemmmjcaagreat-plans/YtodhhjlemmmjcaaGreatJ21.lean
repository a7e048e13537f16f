/-
  The table Rs: what its methods answer.
-/
/-
  The table Rs: what a key that is put into it leaves.
-/
/-
  The table St: what its methods answer.
-/
import Derived.Test.YtodhhjlemmmjcaaGreatJ20
namespace Go.Proofs.YtodhhjlemmmjcaaGreat
open Go.RowKit

/-- A table lies in memory. -/
structure TabAtRs (B : Nat) (w : World) (t : Nat) (v : Value) (rs : List RowRs) : Prop where
  at_ : w.heap[t]? = some (.cells #[.func (.func 53) #[] #[], v] 138 (0, 0))
  rows : RowsRs B w v rs
  up : UpG cmpI RowRs.key rs
  few : rs.length ≤ 1000000
  base : B ≤ t
theorem tabRs_c0 {w : World} {k : Nat} {a b : Value} {t : TypeId} {fz : Nat × Nat} (hk : w.heap[k]? = some (.cells #[a, b] t fz)) : w.cell? ⟨k, 0, none⟩ = some a := by simp [World.cell?, hk]
theorem tabRs_c1 {w : World} {k : Nat} {a b : Value} {t : TypeId} {fz : Nat × Nat} (hk : w.heap[k]? = some (.cells #[a, b] t fz)) : w.cell? ⟨k, 1, none⟩ = some b := by simp [World.cell?, hk]
theorem tabRs_set {w : World} {k : Nat} {a b : Value} {t : TypeId} {fz : Nat × Nat} (hk : w.heap[k]? = some (.cells #[a, b] t fz)) (v : Value) : (w.setCell ⟨k, 1, none⟩ v).heap[k]? = some (.cells #[a, v] t fz) := by
  simp [World.setCell, Array.getElem?_modify, hk]
theorem TabAtRs.ext {B : Nat} {w w' : World} {t : Nat} {v : Value} {rs : List RowRs} (h : TabAtRs B w t v rs) (e : Ext w w') : TabAtRs B w' t v rs :=
  ⟨ext_heap e h.at_, ownsRow_wrote h.rows (Wrote.ext (B := 0) (T := fun _ => False) e) id rfl, h.up, h.few, h.base⟩
theorem TabAtRs.low {B B' : Nat} {w : World} {t : Nat} {v : Value} {rs : List RowRs} (h : TabAtRs B w t v rs) (hb : B' ≤ B) : TabAtRs B' w t v rs := ⟨h.at_, ownsRow_low h.rows hb, h.up, h.few, Nat.le_trans hb h.base⟩
theorem TabAtRs.wrote {B B' : Nat} {T : TypeId → Prop} {w w' : World} {t : Nat} {v : Value} {rs : List RowRs} (h : TabAtRs B w t v rs) (k : Wrote B' T w w') (hT : ¬ T 135 ∧ ¬ T 138) : TabAtRs B w' t v rs :=
  ⟨k.keeps h.at_ hT.2, ownsRow_wrote h.rows k hT.1 rfl, h.up, h.few, h.base⟩

set_option maxRecDepth 100000 in
set_option maxHeartbeats 800000 in
theorem tabFindRs (B : Nat) (v : Value) (rs : List RowRs) (a : IDd) (t : Nat) (w : World) (ht : TabAtRs B w t v rs) :
    Calls Tryz.prog 76 #[.pointer (some ⟨t, 0, none⟩), .agg #[.string a.kind, .string a.name]] w (SrcIsRs w rs a) := by
  obtain ⟨pa, cap, rfl⟩ := ownsRow_form ht.rows
  have hw : t < w.heap.size := (Array.getElem?_eq_some_iff.1 ht.at_).1
  have X2 := hide (((Ext.refl w).alloc (.cells #[.pointer (some ⟨t, 0, none⟩)] 92)).alloc (.cells #[.string a.kind, .string a.name] 52))
  have ht2 := hide (ht.ext X2.out.drew)
  have c1 := X2.out.cells (tabRs_c1 ht.at_)
  have c0 := hide (X2.out.drew.cells (tabRs_c0 ht.at_))
  replace ht := hide ht
  go_enter Tryz.func76, Tryz.ntmps76
  go_wp2_with fail
  go_region_held3 (fun w' => w'.cell? ⟨w.heap.size, 0, none⟩ = some (.pointer (some ⟨t, 0, none⟩)) ∧ w'.cell? ⟨t, 1, none⟩ = some (.slice pa rs.length cap) ∧ w'.cell? ⟨w.heap.size + 1, 0, none⟩ = some (.string a.kind) ∧ w'.cell? ⟨w.heap.size + 1, 1, none⟩ = some (.string a.name)) (go_keep)
    ((go_at_call 104; refine (searchRs B _ rs a w.heap.size t _ ht2.out.rows ht2.out.up ht2.out.few (by simp [go_sem]) c0.out).mono ?_; rintro e w1 ⟨i, b, rfl, hi, hs1, hs2, hs3, he1⟩; go_must (have q0 := he1.out.cells (p := ⟨w.heap.size, 0, none⟩) (v := .pointer (some ⟨t, 0, none⟩)) (by simp [go_sem]); have q1 := he1.out.cells (p := ⟨t, 1, none⟩) (v := .slice pa rs.length cap) (by simp [c1]); have qb0 := he1.out.cells (p := ⟨w.heap.size + 1, 0, none⟩) (v := .string a.kind) (by simp [go_sem]); have qb1 := he1.out.cells (p := ⟨w.heap.size + 1, 1, none⟩) (v := .string a.name) (by simp [go_sem]))))
  go_wp2
  go_ret2
  exact ⟨i, b, rfl, hi, hs1, hs2, hs3, X2.out.drew.trans he1.out⟩

set_option maxRecDepth 100000 in
set_option maxHeartbeats 800000 in
theorem tabHasRs (B : Nat) (v : Value) (rs : List RowRs) (a : IDd) (t : Nat) (w : World) (ht : TabAtRs B w t v rs) :
    Calls Tryz.prog 48 #[.pointer (some ⟨t, 0, none⟩), .agg #[.string a.kind, .string a.name]] w fun e w' => ∃ b : Bool, e = .returned (.bool b) ∧ Hid (b = true ↔ HasK RowRs.key rs a) ∧ Hid (Ext w w') := by
  have hf := hide (tabFindRs B v rs a t _ (ht.ext ((Ext.refl w).alloc (.cells #[.string a.kind, .string a.name] 52))))
  replace ht := hide ht
  go_enter Tryz.func48, Tryz.ntmps48
  go_wp2_with fail
  refine hf.out.mono ?_
  rintro e w1 ⟨i, b, rfl, hi, hs1, hs2, hs3, he1⟩
  go_wp2
  go_ret
  exact ⟨b, rfl, hs2, ((Ext.refl w).alloc (.cells #[.string a.kind, .string a.name] 52)).trans he1.out⟩

set_option maxRecDepth 100000 in
set_option maxHeartbeats 800000 in
theorem tabNewRs (w : World) :
    Calls Tryz.prog 73 #[.func (.func 53) #[] #[]] w fun e w' => e = .returned (.pointer (some ⟨w.heap.size, 0, none⟩)) ∧ Hid (TabAtRs w.heap.size w' w.heap.size (.slice none 0 0) []) ∧ Hid (w' = w.alloc (.cells #[.func (.func 53) #[] #[], .slice none 0 0] 138)) := by
  go_enter Tryz.func73, Tryz.ntmps73
  go_wp2
  go_ret
  exact ⟨rfl, ⟨heap_alloc_new _ _, World.ownsRow_nil _ _ _ _, List.Pairwise.nil, Nat.zero_le _, Nat.le_refl _⟩, rfl⟩
end Go.Proofs.YtodhhjlemmmjcaaGreat

namespace Go.Proofs.YtodhhjlemmmjcaaGreat
open Go.RowKit

attribute [local go_sem] Go.World.cell?_alloc_some
/-- Only rows and tables from B on have turned. -/
abbrev WroteTRs (B : Nat) (w w' : World) : Prop := Wrote B (fun t => t = 135 ∨ t = 138) w w'
/-- What a key put into a table leaves. -/
def PutIsRs (B : Nat) (w : World) (t : Nat) (rs : List RowRs) (x : RowRs) (e : Ending) (w' : World) : Prop :=
  ∃ (i : Nat) (pa : Option Addr) (cap n : Nat), e = .returned (.tuple #[]) ∧ Hid (StandsG cmpI RowRs.key rs x.key i) ∧ Hid (TabAtRs B w' t (.slice pa n cap) (insG rs i x)) ∧ Hid (WroteTRs B w w')

set_option maxRecDepth 100000 in
set_option maxHeartbeats 3200000 in
theorem tabPutRs (B : Nat) (u : Value) (rs : List RowRs) (a : IDd) (v : ResC) (t : Nat) (w : World) (ht : TabAtRs B w t u rs) (ha : ¬ HasK RowRs.key rs a) (hB : B ≤ w.heap.size) (hfew : rs.length + 1 ≤ 1000000) :
    Calls Tryz.prog 74 #[.pointer (some ⟨t, 0, none⟩), .agg #[.string a.kind, .string a.name], .agg #[.string v.x.id.kind, .string v.x.id.name, .slice v.a2 v.n2 v.p2, .slice v.a3 v.n3 v.p3]] w (PutIsRs B w t rs ⟨a, v⟩) := by
  obtain ⟨pa, cap, rfl⟩ := ownsRow_form ht.rows
  have XP := hide (((Ext.refl w).alloc (.cells #[.string a.kind, .string a.name] 52)).alloc (.cells #[.string v.x.id.kind, .string v.x.id.name, .slice v.a2 v.n2 v.p2, .slice v.a3 v.n3 v.p3] 56))
  have ht3 := hide (ht.ext XP.out)
  have hf := hide (tabFindRs B _ rs a t _ ht3.out)
  replace ht := hide ht
  go_enter Tryz.func74, Tryz.ntmps74
  go_wp2_with fail
  refine hf.out.mono ?_
  rintro e w1 ⟨i, b, rfl, hi, hs1, hs2, hs3, he1⟩
  obtain rfl : b = false := by
    cases b
    · rfl
    · exact absurd (hs2.out.1 rfl) ha
  have hk1 := ht3.out.ext he1.out
  have c1 := tabRs_c1 hk1.at_
  have f1 := row_frozen hk1.at_
  have k4 := ext_heap he1.out (ext_heap ((Ext.refl _).alloc _) (heap_alloc_new w _))
  have b00 := block_cell' k4 0
  have b01 := block_cell' k4 1
  simp only [List.getElem?_toArray, List.getElem?_cons_zero, List.getElem?_cons_succ] at b00 b01
  replace k4 := hide k4
  have k5 := ext_heap he1.out (heap_alloc_new (w.alloc (.cells #[.string a.kind, .string a.name] 52)) _)
  have ks : (w.alloc (.cells #[.string a.kind, .string a.name] 52)).heap.size = w.heap.size + 1 := by simp
  rw [ks] at k5
  clear ks
  have b10 := block_cell' k5 0
  have b11 := block_cell' k5 1
  have b12 := block_cell' k5 2
  have b13 := block_cell' k5 3
  simp only [List.getElem?_toArray, List.getElem?_cons_zero, List.getElem?_cons_succ] at b10 b11 b12 b13
  replace k5 := hide k5
  have hin := hide (insRowRs B _ rs ⟨a, v⟩ i w1.heap.size (w1.drew.alloc (.cells #[.string a.kind, .string a.name, .string v.x.id.kind, .string v.x.id.name, .slice v.a2 v.n2 v.p2, .slice v.a3 v.n3 v.p3] 135)) ((hk1.ext ((Ext.refl w1).drew.alloc _)).rows) (by have := Ext.size XP.out; have := Ext.size he1.out; simp at *; omega) hi (by omega) (heap_alloc_new w1.drew _) (by
    intro e
    rcases hk1.rows.2 with ⟨h, _⟩ | ⟨g, c, cur, h, _, hg, _⟩
    · rw [h] at e; simp [Value.ownBlock] at e
    · rw [h] at e; simp [Value.ownBlock] at e
      have := (Array.getElem?_eq_some_iff.1 hg).1
      omega))
  replace hk1 := hide hk1
  go_wp2_with fail
  go_region_with (go_at_call 103; refine hin.out.mono ?_; rintro e w2 ⟨pa2, cap2, n2, rfl, hn2, hK2, hW2⟩; go_must (have ht2 := Wrote.keeps (hW2.out) (ext_heap ((Ext.refl w1).drew.alloc _) hk1.out.at_) (by decide); have f2 := row_frozen ht2; have d1 := tabRs_c1 ht2; replace ht2 := hide ht2))
  all_goals go_wp2
  all_goals
    refine ⟨rfl, .tuple #[], by simp [results, Tryz.results74], ?_⟩
    have hup := ht.out.up
    refine ⟨i, pa2, cap2, n2, rfl, hs1, ⟨tabRs_set ht2.out _, ownsRow_set hK2.out ht2.out (by decide) _, hup.insert ordI hs1.out ha, by rw [insG_len hi]; exact hfew, ht.out.base⟩, ?_⟩
    refine Wrote.setCell (p := ⟨t, 1, none⟩) ?_ ht.out.base ht2.out (.inr rfl) _
    exact (((Wrote.ext XP.out).then he1.out).then ((Ext.refl w1).drew.alloc _)).trans (hW2.out.mono (Nat.le_refl _) fun _ h => .inl h)
end Go.Proofs.YtodhhjlemmmjcaaGreat

namespace Go.Proofs.YtodhhjlemmmjcaaGreat
open Go.RowKit

/-- A table lies in memory. -/
structure TabAtSt (B : Nat) (w : World) (t : Nat) (v : Value) (rs : List RowSt) : Prop where
  at_ : w.heap[t]? = some (.cells #[.func (.func 53) #[] #[], v] 143 (0, 0))
  rows : RowsSt B w v rs
  up : UpG cmpI RowSt.key rs
  few : rs.length ≤ 1000000
  base : B ≤ t
theorem tabSt_c0 {w : World} {k : Nat} {a b : Value} {t : TypeId} {fz : Nat × Nat} (hk : w.heap[k]? = some (.cells #[a, b] t fz)) : w.cell? ⟨k, 0, none⟩ = some a := by simp [World.cell?, hk]
theorem tabSt_c1 {w : World} {k : Nat} {a b : Value} {t : TypeId} {fz : Nat × Nat} (hk : w.heap[k]? = some (.cells #[a, b] t fz)) : w.cell? ⟨k, 1, none⟩ = some b := by simp [World.cell?, hk]
theorem tabSt_set {w : World} {k : Nat} {a b : Value} {t : TypeId} {fz : Nat × Nat} (hk : w.heap[k]? = some (.cells #[a, b] t fz)) (v : Value) : (w.setCell ⟨k, 1, none⟩ v).heap[k]? = some (.cells #[a, v] t fz) := by
  simp [World.setCell, Array.getElem?_modify, hk]
theorem TabAtSt.ext {B : Nat} {w w' : World} {t : Nat} {v : Value} {rs : List RowSt} (h : TabAtSt B w t v rs) (e : Ext w w') : TabAtSt B w' t v rs :=
  ⟨ext_heap e h.at_, ownsRow_wrote h.rows (Wrote.ext (B := 0) (T := fun _ => False) e) id rfl, h.up, h.few, h.base⟩
theorem TabAtSt.low {B B' : Nat} {w : World} {t : Nat} {v : Value} {rs : List RowSt} (h : TabAtSt B w t v rs) (hb : B' ≤ B) : TabAtSt B' w t v rs := ⟨h.at_, ownsRow_low h.rows hb, h.up, h.few, Nat.le_trans hb h.base⟩
theorem TabAtSt.wrote {B B' : Nat} {T : TypeId → Prop} {w w' : World} {t : Nat} {v : Value} {rs : List RowSt} (h : TabAtSt B w t v rs) (k : Wrote B' T w w') (hT : ¬ T 140 ∧ ¬ T 143) : TabAtSt B w' t v rs :=
  ⟨k.keeps h.at_ hT.2, ownsRow_wrote h.rows k hT.1 rfl, h.up, h.few, h.base⟩

set_option maxRecDepth 100000 in
set_option maxHeartbeats 800000 in
theorem tabFindSt (B : Nat) (v : Value) (rs : List RowSt) (a : IDd) (t : Nat) (w : World) (ht : TabAtSt B w t v rs) :
    Calls Tryz.prog 57 #[.pointer (some ⟨t, 0, none⟩), .agg #[.string a.kind, .string a.name]] w (SrcIsSt w rs a) := by
  obtain ⟨pa, cap, rfl⟩ := ownsRow_form ht.rows
  have hw : t < w.heap.size := (Array.getElem?_eq_some_iff.1 ht.at_).1
  have X2 := hide (((Ext.refl w).alloc (.cells #[.pointer (some ⟨t, 0, none⟩)] 64)).alloc (.cells #[.string a.kind, .string a.name] 52))
  have ht2 := hide (ht.ext X2.out.drew)
  have c1 := X2.out.cells (tabSt_c1 ht.at_)
  have c0 := hide (X2.out.drew.cells (tabSt_c0 ht.at_))
  replace ht := hide ht
  go_enter Tryz.func57, Tryz.ntmps57
  go_wp2_with fail
  go_region_held3 (fun w' => w'.cell? ⟨w.heap.size, 0, none⟩ = some (.pointer (some ⟨t, 0, none⟩)) ∧ w'.cell? ⟨t, 1, none⟩ = some (.slice pa rs.length cap) ∧ w'.cell? ⟨w.heap.size + 1, 0, none⟩ = some (.string a.kind) ∧ w'.cell? ⟨w.heap.size + 1, 1, none⟩ = some (.string a.name)) (go_keep)
    ((go_at_call 90; refine (searchSt B _ rs a w.heap.size t _ ht2.out.rows ht2.out.up ht2.out.few (by simp [go_sem]) c0.out).mono ?_; rintro e w1 ⟨i, b, rfl, hi, hs1, hs2, hs3, he1⟩; go_must (have q0 := he1.out.cells (p := ⟨w.heap.size, 0, none⟩) (v := .pointer (some ⟨t, 0, none⟩)) (by simp [go_sem]); have q1 := he1.out.cells (p := ⟨t, 1, none⟩) (v := .slice pa rs.length cap) (by simp [c1]); have qb0 := he1.out.cells (p := ⟨w.heap.size + 1, 0, none⟩) (v := .string a.kind) (by simp [go_sem]); have qb1 := he1.out.cells (p := ⟨w.heap.size + 1, 1, none⟩) (v := .string a.name) (by simp [go_sem]))))
  go_wp2
  go_ret2
  exact ⟨i, b, rfl, hi, hs1, hs2, hs3, X2.out.drew.trans he1.out⟩

set_option maxRecDepth 100000 in
set_option maxHeartbeats 800000 in
theorem tabHasSt (B : Nat) (v : Value) (rs : List RowSt) (a : IDd) (t : Nat) (w : World) (ht : TabAtSt B w t v rs) :
    Calls Tryz.prog 23 #[.pointer (some ⟨t, 0, none⟩), .agg #[.string a.kind, .string a.name]] w fun e w' => ∃ b : Bool, e = .returned (.bool b) ∧ Hid (b = true ↔ HasK RowSt.key rs a) ∧ Hid (Ext w w') := by
  have hf := hide (tabFindSt B v rs a t _ (ht.ext ((Ext.refl w).alloc (.cells #[.string a.kind, .string a.name] 52))))
  replace ht := hide ht
  go_enter Tryz.func23, Tryz.ntmps23
  go_wp2_with fail
  refine hf.out.mono ?_
  rintro e w1 ⟨i, b, rfl, hi, hs1, hs2, hs3, he1⟩
  go_wp2
  go_ret
  exact ⟨b, rfl, hs2, ((Ext.refl w).alloc (.cells #[.string a.kind, .string a.name] 52)).trans he1.out⟩

set_option maxRecDepth 100000 in
set_option maxHeartbeats 800000 in
theorem tabNewSt (w : World) :
    Calls Tryz.prog 75 #[.func (.func 53) #[] #[]] w fun e w' => e = .returned (.pointer (some ⟨w.heap.size, 0, none⟩)) ∧ Hid (TabAtSt w.heap.size w' w.heap.size (.slice none 0 0) []) ∧ Hid (w' = w.alloc (.cells #[.func (.func 53) #[] #[], .slice none 0 0] 143)) := by
  go_enter Tryz.func75, Tryz.ntmps75
  go_wp2
  go_ret
  exact ⟨rfl, ⟨heap_alloc_new _ _, World.ownsRow_nil _ _ _ _, List.Pairwise.nil, Nat.zero_le _, Nat.le_refl _⟩, rfl⟩
end Go.Proofs.YtodhhjlemmmjcaaGreat
