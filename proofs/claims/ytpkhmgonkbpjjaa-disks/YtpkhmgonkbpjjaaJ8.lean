/-
  The book: what putting a list of Attrs into it does.
-/
/-
  The book: what putting a list of IDs into it does.
-/
/-
  The book: what putting the lists of a resource into it does.
-/
/-
  The book is looked at: every list reads as it was marked.
-/
import Derived.Test.YtpkhmgonkbpjjaaJ7
import Derived.Deep.QuietTactic
import Derived.BigQuiet
namespace Go.Proofs.Ytpkhmgonkbpjjaa
open Go.RowKit

/-- What is turned: the list's row, the row of entries, and the book. -/
def TurnA (l va : Value) (O : Nat) (b : Nat) : Prop := some b = l.ownBlock ∨ some b = va.ownBlock ∨ b = O
theorem grown_keepsW {w w2 : World} {base : Nat} {e : TypeId} {size : Nat} {v : Value} {n : Nat} {xs : List Value} (hown : w.ownsRow base e size v n xs) {k : Nat} {c : Array Value} {t : TypeId} {fz : Nat × Nat} (hk : w.heap[k]? = some (.cells c t fz)) (ht : t ≠ e) (hg : w.grownBy w2 v.ownBlock) : w2.heap[k]? = some (.cells c t fz) := by
  rw [hg.block k (Array.getElem?_eq_some_iff.1 hk).1 (ownsRow_ne hown hk ht)]; exact hk
theorem bk_len {w : World} {B : Nat} {T : TypeId} {v : Value} {es : List (Value × Nat)} {n : Nat} (h : w.ownsRow B T 2 v es.length (cellsE es)) (hn : es.length = n) : w.ownsRow B T 2 v n (cellsE es) := by subst hn; exact h
end Go.Proofs.Ytpkhmgonkbpjjaa

namespace Go.Proofs.Ytpkhmgonkbpjjaa
open Go.RowKit

theorem BkAt.ext {B O : Nat} {w w' : World} {va vi vn vr vs vc : Value} {ea ei : List (Value × Nat)} (h : BkAt B w O va vi vn vr vs vc ea ei) (x : Ext w w') : BkAt B w' O va vi vn vr vs vc ea ei :=
  have k := x.kept (fun _ => False)
  ⟨ext_heap x h.o, ownsRow_keep h.a k (fun _ _ _ => id), ownsRow_keep h.i k (fun _ _ _ => id), h.low⟩
theorem Kept.trans' {D : Nat → Prop} {a b c : World} (h : Kept (fun _ => False) a b) (g : Kept D b c) : Kept D a c :=
  (h.mono (fun _ _ h => h.elim)).trans g (fun _ _ h => h)

end Go.Proofs.Ytpkhmgonkbpjjaa

namespace Go.Proofs.Ytpkhmgonkbpjjaa
open Go.RowKit

end Go.Proofs.Ytpkhmgonkbpjjaa

namespace Go.Proofs.Ytpkhmgonkbpjjaa
open Go.RowKit

theorem ent_cells {w : World} {B : Nat} {T : TypeId} {v : Value} {es : List (Value × Nat)} {i : Nat} {x : Value × Nat} (h : w.ownsRow B T 2 v es.length (cellsE es)) (hx : es[i]? = some x) :
    ∃ g cap, v = .slice (some ⟨g, 0, none⟩) es.length cap ∧ w.cell? ⟨g, i * 2, none⟩ = some x.1 ∧ w.cell? ⟨g, i * 2 + 1, none⟩ = some (.int .i64 x.2) := by
  have hi : i < es.length := (List.getElem?_eq_some_iff.1 hx).1
  obtain ⟨g, cap, rfl, _, _⟩ := h.form (by omega)
  refine ⟨g, cap, rfl, ?_, ?_⟩
  · have := h.cellAt (i * 2 + 0) (by omega)
    rw [Nat.add_zero] at this
    rw [this]
    exact flat_get cE_len hx (r := 0) (by omega)
  · rw [h.cellAt (i * 2 + 1) (by omega)]
    exact flat_get cE_len hx (r := 1) (by omega)
theorem mark_cell {w : World} {g : Nat} {c : Array Value} {T : TypeId} {n sz i r : Nat} {m : List Value} {u : Value} (hm : m.length = sz) (hg : w.heap[g]? = some (.cells c T (0, 0))) (ht : c.toList.take (n * sz) = rep n m) (hi : i < n) (hr : m[r]? = some u) : w.cell? ⟨g, i * sz + r, none⟩ = some u := by
  have hrs : r < sz := by rw [← hm]; exact (List.getElem?_eq_some_iff.1 hr).1
  have hlt : i * sz + r < n * sz := by
    have : (i + 1) * sz ≤ n * sz := Nat.mul_le_mul_right _ (by omega)
    rw [Nat.succ_mul] at this; omega
  have h1 : c[i * sz + r]? = some u := by
    rw [← Array.getElem?_toList, ← List.getElem?_take_of_lt hlt, ht, rep_get hm hi hrs]; exact hr
  simp [World.cell?, hg, h1]

end Go.Proofs.Ytpkhmgonkbpjjaa
