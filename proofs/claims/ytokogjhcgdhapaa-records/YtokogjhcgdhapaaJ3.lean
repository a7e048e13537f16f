/-
  Two lists of resources that are the same: what the functions that compare them answer.
-/
/-
  What is lent: rows of IDs, Attrs and resources with more behind each.
-/
import Derived.Test.YtokogjhcgdhapaaSame
import Derived.Test.YtokogjhcgdhapaaMays
import Derived.Test.YtokogjhcgdhapaaCells
namespace Go.Proofs.Ytokogjhcgdhapaa
open Go.RowKit

set_option maxRecDepth 100000 in
set_option maxHeartbeats 1600000 in
theorem sameRes (c2 c3 d2 d3 : Value) (x : Resd) (w : World) (hu : ResV w c2 c3 x) (hv : ResV w d2 d3 x) :
    Calls Try.prog 36 #[.agg #[.string x.id.kind, .string x.id.name, c2, c3], .agg #[.string x.id.kind, .string x.id.name, d2, d3]] w fun e w' => e = .returned (.bool true) ∧ Ext w w' := by
  obtain ⟨a2, p2, rfl⟩ := hu.attrs.form
  obtain ⟨a3, p3, rfl⟩ := hu.after.form
  obtain ⟨b2, q2, rfl⟩ := hv.attrs.form
  obtain ⟨b3, q3, rfl⟩ := hv.after.form
  replace hu := hide hu; replace hv := hide hv
  go_enter Try.func36, Try.ntmps36
  go_wp2_with fail
  have x0 : Ext w ((w.alloc (.cells #[.string x.id.kind, .string x.id.name, .slice a2 x.attrs.length p2, .slice a3 x.after.length p3] 29)).alloc (.cells #[.string x.id.kind, .string x.id.name, .slice b2 x.attrs.length q2, .slice b3 x.after.length q3] 29)) := ((Ext.refl _).alloc _).alloc _
  replace x0 := hide x0
  refine (sameAttrs _ _ x.attrs _ (hu.out.attrs.ext x0.out) (hv.out.attrs.ext x0.out)).mono ?_
  rintro e w1 ⟨rfl, he1⟩
  have x1 := hide (x0.out.trans he1)
  have c0 := he1.cells (p := ⟨w.heap.size, 0, none⟩) (v := .string x.id.kind) (by simp [go_sem, World.cell?_alloc_past])
  have c1 := he1.cells (p := ⟨w.heap.size, 1, none⟩) (v := .string x.id.name) (by simp [go_sem, World.cell?_alloc_past])
  have c3 := he1.cells (p := ⟨w.heap.size, 3, none⟩) (v := .slice a3 x.after.length p3) (by simp [go_sem, World.cell?_alloc_past])
  have d0 := he1.cells (p := ⟨w.heap.size + 1, 0, none⟩) (v := .string x.id.kind) (by simp [go_sem])
  have d1 := he1.cells (p := ⟨w.heap.size + 1, 1, none⟩) (v := .string x.id.name) (by simp [go_sem])
  have d3 := he1.cells (p := ⟨w.heap.size + 1, 3, none⟩) (v := .slice b3 x.after.length q3) (by simp [go_sem])
  clear he1
  have C0 := hide c0; have C1 := hide c1; have D0 := hide d0; have D1 := hide d1
  go_wp2_with fail
  refine (sameIds _ _ x.after _ (hu.out.after.ext x1.out) (hv.out.after.ext x1.out)).mono ?_
  rintro e w2 ⟨rfl, he2⟩
  have x2 := hide (x1.out.trans he2)
  clear c0 c1 c3 d0 d1 d3
  have c0 := he2.cells C0.out; have c1 := he2.cells C1.out; have d0 := he2.cells D0.out; have d1 := he2.cells D1.out
  clear he2
  go_wp2
  go_ret
  exact ⟨rfl, x2.out⟩
end Go.Proofs.Ytokogjhcgdhapaa

namespace Go.Proofs.Ytokogjhcgdhapaa
open Go.RowKit

/-- A resource that is lent: where its two lists lie. -/
structure Pt where
  x : Resd
  a : Nat
  f : Nat
def cP (p : Pt) : List Value := [.string p.x.id.kind, .string p.x.id.name, .slice (some ⟨p.a, 0, none⟩) p.x.attrs.length (p.x.attrs.length + 8), .slice (some ⟨p.f, 0, none⟩) p.x.after.length (p.x.after.length + 8)]
theorem cP_len (p : Pt) : (cP p).length = 4 := rfl
def slA (p : Pt) : Value := .slice (some ⟨p.a, 0, none⟩) (p.x.attrs.length + 8) (p.x.attrs.length + 8)
def slF (p : Pt) : Value := .slice (some ⟨p.f, 0, none⟩) (p.x.after.length + 8) (p.x.after.length + 8)
/-- What has been lent so far, from block B on: the struct, its list of resources, and theirs. -/
structure Lending (B : Nat) (n : Nat) (ps : List Pt) (w : World) (O L : Nat) (va vf : Value) (rest : List Value) : Prop where
  o : w.heap[O]? = some (.cells #[.slice (some ⟨L, 0, none⟩) (n + 8) (n + 8), va, vf] 41 (0, 0))
  l : w.heap[L]? = some (.cells (ps.flatMap cP ++ rest).toArray 29 (0, 0))
  va : w.ownsRow B 26 1 va ps.length (ps.map slA)
  vf : w.ownsRow B 27 1 vf ps.length (ps.map slF)
  a : ∀ p ∈ ps, w.heap[p.a]? = some (.cells (cellsA (p.x.attrs ++ List.replicate 8 markA)).toArray 52 (0, 0))
  f : ∀ p ∈ ps, w.heap[p.f]? = some (.cells (cellsI (p.x.after ++ List.replicate 8 markI)).toArray 25 (0, 0))
  apart : ps.Pairwise fun p q => p.a ≠ q.a ∧ p.f ≠ q.f
  low : B ≤ O ∧ B ≤ L ∧ ∀ p ∈ ps, B ≤ p.a ∧ B ≤ p.f
  ok : ∀ p ∈ ps, okR p.x
theorem Lending.ext {B n : Nat} {ps : List Pt} {w w' : World} {O L : Nat} {va vf : Value} {rest : List Value} (h : Lending B n ps w O L va vf rest) (e : Ext w w') : Lending B n ps w' O L va vf rest :=
  have k := e.kept fun _ => False
  ⟨k.heap h.o id, k.heap h.l id, ownsRow_keep h.va k fun _ _ _ => id, ownsRow_keep h.vf k fun _ _ _ => id, fun p hp => k.heap (h.a p hp) id, fun p hp => k.heap (h.f p hp) id, h.apart, h.low, h.ok⟩
end Go.Proofs.Ytokogjhcgdhapaa
