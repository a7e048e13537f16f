/-
  What is lent: rows of IDs, Attrs and resources with more behind each.
-/
import Derived.Test.YtjebmabffocobaaDoorCells
namespace Go.Proofs.YtjebmabffocobaaDoor
open Go.RowKit

/-- A resource that is lent: where its two lists lie. -/
structure Pt where
  x : Resd
  a : Nat
  f : Nat
def cP (p : Pt) : List Value := [.string p.x.id.kind, .string p.x.id.name, .slice (some ⟨p.a, 0, none⟩) p.x.attrs.length (p.x.attrs.length + 8), .slice (some ⟨p.f, 0, none⟩) p.x.after.length (p.x.after.length + 8)]
theorem cP_len (p : Pt) : (cP p).length = 4 := rfl
def slA (p : Pt) : Value := .slice (some ⟨p.a, 0, none⟩) (p.x.attrs.length + 8) (p.x.attrs.length + 8)
def slF (p : Pt) : Value := .slice (some ⟨p.f, 0, none⟩) (p.x.after.length + 8) (p.x.after.length + 8)
/-- What has been lent so far, from block B on: the struct, its list of resources, and theirs. -/
structure Lending (B : Nat) (n : Nat) (ps : List Pt) (w : World) (O L : Nat) (va vf : Value) (rest : List Value) : Prop where
  o : w.heap[O]? = some (.cells #[.slice (some ⟨L, 0, none⟩) (n + 8) (n + 8), va, vf] 31 (0, 0))
  l : w.heap[L]? = some (.cells (ps.flatMap cP ++ rest).toArray 38 (0, 0))
  va : w.ownsRow B 33 1 va ps.length (ps.map slA)
  vf : w.ownsRow B 36 1 vf ps.length (ps.map slF)
  a : ∀ p ∈ ps, w.heap[p.a]? = some (.cells (cellsA (p.x.attrs ++ List.replicate 8 markA)).toArray 40 (0, 0))
  f : ∀ p ∈ ps, w.heap[p.f]? = some (.cells (cellsI (p.x.after ++ List.replicate 8 markI)).toArray 35 (0, 0))
  apart : ps.Pairwise fun p q => p.a ≠ q.a ∧ p.f ≠ q.f
  low : B ≤ O ∧ B ≤ L ∧ ∀ p ∈ ps, B ≤ p.a ∧ B ≤ p.f
  ok : ∀ p ∈ ps, okR p.x
theorem Lending.ext {B n : Nat} {ps : List Pt} {w w' : World} {O L : Nat} {va vf : Value} {rest : List Value} (h : Lending B n ps w O L va vf rest) (e : Ext w w') : Lending B n ps w' O L va vf rest :=
  have k := e.kept fun _ => False
  ⟨k.heap h.o id, k.heap h.l id, ownsRow_keep h.va k fun _ _ _ => id, ownsRow_keep h.vf k fun _ _ _ => id, fun p hp => k.heap (h.a p hp) id, fun p hp => k.heap (h.f p hp) id, h.apart, h.low, h.ok⟩
end Go.Proofs.YtjebmabffocobaaDoor
