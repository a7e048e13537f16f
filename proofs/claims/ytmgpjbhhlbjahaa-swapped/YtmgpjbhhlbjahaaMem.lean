/-
  How lists of IDs, Attrs and resources lie in memory; plain facts on lists that rise.
-/
import Derived.Test.YtmgpjbhhlbjahaaBase
namespace Go.Proofs.Ytmgpjbhhlbjahaa
open Go.RowKit

def okI (x : IDd) : Prop := x.kind.size ≤ 1048576 ∧ x.name.size ≤ 1048576
def okA (x : Attrd) : Prop := x.name.size ≤ 1048576 ∧ x.text.size ≤ 1048576 ∧ -9223372036854775808 ≤ x.number ∧ x.number ≤ 9223372036854775807

/-- IDs lie in a block, from a place on. -/
def IDsIn (w : World) (b off : Nat) (l : List IDd) : Prop :=
  ∀ i x, l[i]? = some x → w.cell? ⟨b, off + i * 2, none⟩ = some (.string x.kind) ∧ w.cell? ⟨b, off + i * 2 + 1, none⟩ = some (.string x.name)
def AttrsIn (w : World) (b off : Nat) (l : List Attrd) : Prop :=
  ∀ i x, l[i]? = some x → w.cell? ⟨b, off + i * 4, none⟩ = some (.string x.name) ∧ w.cell? ⟨b, off + i * 4 + 1, none⟩ = some (.bool x.isText) ∧ w.cell? ⟨b, off + i * 4 + 2, none⟩ = some (.string x.text) ∧ w.cell? ⟨b, off + i * 4 + 3, none⟩ = some (.int .i64 x.number)

/-- A slice leads to a list of IDs. -/
structure IDsV (w : World) (v : Value) (l : List IDd) : Prop where
  shape : ∃ a cap, v = .slice a l.length cap ∧ l.length ≤ cap ∧ cap ≤ 9223372036854775807 ∧ (l = [] ∨ ∃ b off, a = some ⟨b, off, none⟩ ∧ IDsIn w b off l)
  few : l.length ≤ 2000000
  ok : ∀ x ∈ l, okI x
structure AttrsV (w : World) (v : Value) (l : List Attrd) : Prop where
  shape : ∃ a cap, v = .slice a l.length cap ∧ l.length ≤ cap ∧ cap ≤ 9223372036854775807 ∧ (l = [] ∨ ∃ b off, a = some ⟨b, off, none⟩ ∧ AttrsIn w b off l)
  few : l.length ≤ 2000000
  ok : ∀ x ∈ l, okA x

theorem IDsIn.ext {w w' : World} {b off : Nat} {l : List IDd} (h : IDsIn w b off l) (e : Ext w w') : IDsIn w' b off l :=
  fun i x hx => ⟨e.cells (h i x hx).1, e.cells (h i x hx).2⟩
theorem AttrsIn.ext {w w' : World} {b off : Nat} {l : List Attrd} (h : AttrsIn w b off l) (e : Ext w w') : AttrsIn w' b off l :=
  fun i x hx => ⟨e.cells (h i x hx).1, e.cells (h i x hx).2.1, e.cells (h i x hx).2.2.1, e.cells (h i x hx).2.2.2⟩
theorem IDsV.ext {w w' : World} {v : Value} {l : List IDd} (h : IDsV w v l) (e : Ext w w') : IDsV w' v l := by
  obtain ⟨⟨a, cap, hv, hc, hm, hs⟩, h2, h3⟩ := h
  refine ⟨⟨a, cap, hv, hc, hm, ?_⟩, h2, h3⟩
  rcases hs with hs | ⟨b, off, ha, hi⟩
  · exact .inl hs
  · exact .inr ⟨b, off, ha, hi.ext e⟩
theorem AttrsV.ext {w w' : World} {v : Value} {l : List Attrd} (h : AttrsV w v l) (e : Ext w w') : AttrsV w' v l := by
  obtain ⟨⟨a, cap, hv, hc, hm, hs⟩, h2, h3⟩ := h
  refine ⟨⟨a, cap, hv, hc, hm, ?_⟩, h2, h3⟩
  rcases hs with hs | ⟨b, off, ha, hi⟩
  · exact .inl hs
  · exact .inr ⟨b, off, ha, hi.ext e⟩

/-- A resource's four cells. -/
structure ResV (w : World) (c2 c3 : Value) (x : Resd) : Prop where
  id : okI x.id
  attrs : AttrsV w c2 x.attrs
  after : IDsV w c3 x.after
theorem ResV.ext {w w' : World} {c2 c3 : Value} {x : Resd} (h : ResV w c2 c3 x) (e : Ext w w') : ResV w' c2 c3 x := ⟨h.id, h.attrs.ext e, h.after.ext e⟩
def RessIn (w : World) (b off : Nat) (l : List Resd) : Prop :=
  ∀ i x, l[i]? = some x → w.cell? ⟨b, off + i * 4, none⟩ = some (.string x.id.kind) ∧ w.cell? ⟨b, off + i * 4 + 1, none⟩ = some (.string x.id.name) ∧
    ∃ c2 c3, w.cell? ⟨b, off + i * 4 + 2, none⟩ = some c2 ∧ w.cell? ⟨b, off + i * 4 + 3, none⟩ = some c3 ∧ ResV w c2 c3 x
structure RessV (w : World) (v : Value) (l : List Resd) : Prop where
  shape : ∃ a cap, v = .slice a l.length cap ∧ l.length ≤ cap ∧ cap ≤ 9223372036854775807 ∧ (l = [] ∨ ∃ b off, a = some ⟨b, off, none⟩ ∧ RessIn w b off l)
  few : l.length ≤ 2000000
theorem RessIn.ext {w w' : World} {b off : Nat} {l : List Resd} (h : RessIn w b off l) (e : Ext w w') : RessIn w' b off l := by
  intro i x hx
  obtain ⟨h0, h1, c2, c3, h2, h3, h4⟩ := h i x hx
  exact ⟨e.cells h0, e.cells h1, c2, c3, e.cells h2, e.cells h3, h4.ext e⟩
theorem RessV.ext {w w' : World} {v : Value} {l : List Resd} (h : RessV w v l) (e : Ext w w') : RessV w' v l := by
  obtain ⟨⟨a, cap, hv, hc, hm, hs⟩, h2⟩ := h
  refine ⟨⟨a, cap, hv, hc, hm, ?_⟩, h2⟩
  rcases hs with hs | ⟨b, off, ha, hi⟩
  · exact .inl hs
  · exact .inr ⟨b, off, ha, hi.ext e⟩

/-! Plain facts -/
theorem some_of_lt {α : Type} {l : List α} {k : Nat} (h : k < l.length) : ∃ x, l[k]? = some x := ⟨l[k], List.getElem?_eq_getElem h⟩
end Go.Proofs.Ytmgpjbhhlbjahaa
