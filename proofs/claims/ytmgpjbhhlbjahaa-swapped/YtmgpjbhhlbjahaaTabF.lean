/-
  The table F: what its methods answer.
-/
import Derived.Test.YtmgpjbhhlbjahaaSrcF
namespace Go.Proofs.Ytmgpjbhhlbjahaa
open Go.RowKit

/-- A table lies in memory. -/
structure TabAtF (B : Nat) (w : World) (t : Nat) (v : Value) (rs : List RowF) : Prop where
  at_ : w.heap[t]? = some (.cells #[.func (.func 29) #[] #[], v] 72 (0, 0))
  rows : RowsF B w v rs
  up : UpG cmpS RowF.key rs
  few : rs.length ≤ 1000000
  base : B ≤ t
theorem tabF_c0 {w : World} {k : Nat} {a b : Value} {t : TypeId} {fz : Nat × Nat} (hk : w.heap[k]? = some (.cells #[a, b] t fz)) : w.cell? ⟨k, 0, none⟩ = some a := by simp [World.cell?, hk]
theorem tabF_c1 {w : World} {k : Nat} {a b : Value} {t : TypeId} {fz : Nat × Nat} (hk : w.heap[k]? = some (.cells #[a, b] t fz)) : w.cell? ⟨k, 1, none⟩ = some b := by simp [World.cell?, hk]
theorem tabF_set {w : World} {k : Nat} {a b : Value} {t : TypeId} {fz : Nat × Nat} (hk : w.heap[k]? = some (.cells #[a, b] t fz)) (v : Value) : (w.setCell ⟨k, 1, none⟩ v).heap[k]? = some (.cells #[a, v] t fz) := by
  simp [World.setCell, Array.getElem?_modify, hk]
theorem TabAtF.ext {B : Nat} {w w' : World} {t : Nat} {v : Value} {rs : List RowF} (h : TabAtF B w t v rs) (e : Ext w w') : TabAtF B w' t v rs :=
  ⟨ext_heap e h.at_, ownsRow_wrote h.rows (Wrote.ext (B := 0) (T := fun _ => False) e) id rfl, h.up, h.few, h.base⟩
theorem TabAtF.kept {B : Nat} {D : Nat → Prop} {w w' : World} {t : Nat} {v : Value} {rs : List RowF} (h : TabAtF B w t v rs) (k : Kept D w w') (h1 : ¬ D t) (h2 : ∀ g, v.ownBlock = some g → ¬ D g) : TabAtF B w' t v rs := by
  refine ⟨k.heap h.at_ h1, ⟨h.rows.1, ?_⟩, h.up, h.few, h.base⟩
  rcases h.rows.2 with h3 | ⟨g, cap, cur, rfl, h4, h5, h6⟩
  · exact .inl h3
  · exact .inr ⟨g, cap, cur, rfl, h4, k.heap h5 (h2 g rfl), h6⟩
theorem TabAtF.ne {B : Nat} {w : World} {t : Nat} {v : Value} {rs : List RowF} (h : TabAtF B w t v rs) {g : Nat} (hg : v.ownBlock = some g) : t ≠ g := by
  rintro rfl
  rcases h.rows.2 with ⟨rfl, _⟩ | ⟨g', cap, cur, rfl, _, h5, _⟩
  · simp [Value.ownBlock] at hg
  · obtain rfl : g' = t := by simpa [Value.ownBlock] using hg
    have h1 := h.at_
    rw [h5] at h1
    simp only [Option.some.injEq, Obj.cells.injEq] at h1
    exact absurd h1.2.1 (by decide)
theorem TabAtF.lt {B : Nat} {w : World} {t : Nat} {v : Value} {rs : List RowF} (h : TabAtF B w t v rs) : t < w.heap.size ∧ ∀ g, v.ownBlock = some g → g < w.heap.size := by
  refine ⟨(Array.getElem?_eq_some_iff.1 h.at_).1, fun g hg => ?_⟩
  rcases h.rows.2 with ⟨rfl, _⟩ | ⟨g', cap, cur, rfl, _, h5, _⟩
  · simp [Value.ownBlock] at hg
  · obtain rfl : g' = g := by simpa [Value.ownBlock] using hg
    exact (Array.getElem?_eq_some_iff.1 h5).1
theorem TabAtF.low {B B' : Nat} {w : World} {t : Nat} {v : Value} {rs : List RowF} (h : TabAtF B w t v rs) (hb : B' ≤ B) : TabAtF B' w t v rs := ⟨h.at_, ownsRow_low h.rows hb, h.up, h.few, Nat.le_trans hb h.base⟩
theorem TabAtF.wrote {B B' : Nat} {T : TypeId → Prop} {w w' : World} {t : Nat} {v : Value} {rs : List RowF} (h : TabAtF B w t v rs) (k : Wrote B' T w w') (hT : ¬ T 74 ∧ ¬ T 72) : TabAtF B w' t v rs :=
  ⟨k.keeps h.at_ hT.2, ownsRow_wrote h.rows k hT.1 rfl, h.up, h.few, h.base⟩

set_option maxRecDepth 100000 in
set_option maxHeartbeats 800000 in
theorem tabFindF (B : Nat) (v : Value) (rs : List RowF) (a : ByteArray) (t : Nat) (w : World) (ht : TabAtF B w t v rs) :
    Calls Try.prog 47 #[.pointer (some ⟨t, 0, none⟩), .string a] w (SrcIsF w rs a) := by
  obtain ⟨pa, cap, rfl⟩ := ownsRow_form ht.rows
  have hw : t < w.heap.size := (Array.getElem?_eq_some_iff.1 ht.at_).1
  have X2 := hide ((Ext.refl w).alloc (.cells #[.pointer (some ⟨t, 0, none⟩)] 43))
  have ht2 := hide (ht.ext X2.out)
  have c1 := X2.out.cells (tabF_c1 ht.at_)
  have c0 := hide (X2.out.cells (tabF_c0 ht.at_))
  replace ht := hide ht
  go_enter Try.func47, Try.ntmps47
  go_wp2_with fail
  refine (searchF B _ rs a w.heap.size t _ ht2.out.rows ht2.out.up ht2.out.few (by simp [go_sem]) c0.out).mono ?_
  rintro e w1 ⟨i, b, rfl, hi, hs1, hs2, hs3, he1⟩
  go_wp2
  go_ret2
  exact ⟨i, b, rfl, hi, hs1, hs2, hs3, X2.out.trans he1.out⟩

set_option maxRecDepth 100000 in
set_option maxHeartbeats 800000 in
theorem tabNewF (w : World) :
    Calls Try.prog 28 #[.func (.func 29) #[] #[]] w fun e w' => e = .returned (.pointer (some ⟨w.heap.size, 0, none⟩)) ∧ Hid (TabAtF w.heap.size w' w.heap.size (.slice none 0 0) []) ∧ Hid (w' = w.alloc (.cells #[.func (.func 29) #[] #[], .slice none 0 0] 72)) := by
  go_enter Try.func28, Try.ntmps28
  go_wp2
  go_ret
  exact ⟨rfl, ⟨heap_alloc_new _ _, World.ownsRow_nil _ _ _ _, List.Pairwise.nil, Nat.zero_le _, Nat.le_refl _⟩, rfl⟩
end Go.Proofs.Ytmgpjbhhlbjahaa
