/-
  A builder that the call has made: what is written into it; the text of a resource.
-/
import Derived.Test.YtjebmabffocobaaDoorValues
import Derived.Deep.QuietTactic
import Derived.BigQuiet
import Derived.Deep.RegionHeld3
namespace Go.Proofs.YtjebmabffocobaaDoor
open Go.RowKit Go.Shelf

theorem ba_list (a b : ByteArray) : (a ++ b).data.toList = a.data.toList ++ b.data.toList := by simp
theorem ownsRowF_ext {w w' : World} {base : Nat} {e : TypeId} {size : Nat} {v : Value} {n : Nat} {xs : List Value} (h : w.ownsRowF base e size v n xs) (he : Ext w w') : w'.ownsRowF base e size v n xs := by
  obtain ⟨h1, h2⟩ := h
  refine ⟨h1, ?_⟩
  rcases h2 with h2 | ⟨g, cap, cur, fz, hv, hg, hh, r⟩
  · exact .inl h2
  · exact .inr ⟨g, cap, cur, fz, hv, hg, by rw [Below.block he _ (Array.getElem?_eq_some_iff.1 hh).1]; exact hh, r⟩
/-- The builder that was made in w0 holds these bytes; all that was there in w0 is as it was. -/
structure Blds (w0 : World) (acc : List UInt8) (w : World) : Prop where
  is : Lib.IsBuilderF 45 5 w0.heap.size w0.heap.size (Lib.byteCells acc) w
  ext : Ext w0 w
theorem Blds.start (w0 : World) : Blds w0 [] (w0.alloc (.cells #[.pointer none, .slice none 0 0] 45)) :=
  ⟨Lib.IsBuilderF.of (Lib.fresh_isBuilder _ _ w0), (Ext.refl _).alloc _⟩
theorem Blds.go {w0 : World} {acc : List UInt8} {w w' : World} (h : Blds w0 acc w) (e : Ext w w') : Blds w0 acc w' := by
  refine ⟨?_, h.ext.trans e⟩
  rcases h.is with ⟨hB, v, hb, hown, hne⟩ | ⟨hB, v, hb, hown, hne⟩
  · exact .inl ⟨hB, v, by rw [Below.block e _ (Array.getElem?_eq_some_iff.1 hb).1]; exact hb, ownsRowF_ext hown e, hne⟩
  · exact .inr ⟨hB, v, by rw [Below.block e _ (Array.getElem?_eq_some_iff.1 hb).1]; exact hb, ownsRowF_ext hown e, hne⟩
theorem Blds.lt {w0 : World} {acc : List UInt8} {w : World} (h : Blds w0 acc w) : w0.heap.size < w.heap.size := by
  rcases h.is with h | h <;> exact h.lt
/-- (*strings.Builder).WriteString. -/
theorem write {w0 : World} {acc : List UInt8} {w : World} (h : Blds w0 acc w) (s : ByteArray) (h1 : acc.length ≤ 100000000) (h2 : s.size ≤ 100000000) :
    Calls Tryd.prog 22 #[.pointer (some ⟨w0.heap.size, 0, none⟩), .string s] w fun e w' => e = .returned (.tuple #[.int .i64 s.size, .nilIface]) ∧ Blds w0 (acc ++ s.data.toList) w' ∧ Lib.OthersKept 5 (some w0.heap.size) w w' := by
  have hl : (Lib.byteCells acc).length = acc.length := by simp [Lib.byteCells]
  refine (Any.Builder_WriteString_k { Tryd.lays156 with } Tryd.Builder_Extra_156 w0.heap.size w0.heap.size (Lib.byteCells acc) s w h.is (by rw [hl]; omega) h.ext.size).mono ?_
  rintro e w' ⟨rfl, hb, hbl, hk⟩
  refine ⟨rfl, ⟨.inr ?_, Below.trans h.ext hbl⟩, hk⟩
  have : Lib.byteCells (acc ++ s.data.toList) = Lib.byteCells acc ++ Lib.strCells s := by simp [Lib.byteCells, Lib.strCells]
  rw [this]; exact hb
/-- (*strings.Builder).String. -/
theorem told {w0 : World} {acc : List UInt8} {w : World} (h : Blds w0 acc w) :
    Calls Tryd.prog 11 #[.pointer (some ⟨w0.heap.size, 0, none⟩)] w fun e w' => e = .returned (.string ⟨acc.toArray⟩) ∧ Ext w0 w' :=
  (Tryd.Builder_String_any_k w0.heap.size w0.heap.size acc w h.is h.ext.size).mono fun _ _ ⟨he, _, hbl, _⟩ => ⟨he, Below.trans h.ext hbl⟩
/-- A block that is no row of bytes and not the builder's is kept. -/
theorem kept_block {w w' : World} {B k : Nat} {c : Array Value} {t : TypeId} {fz : Nat × Nat} (h : Lib.OthersKept 5 (some B) w w') (hk : w.heap[k]? = some (.cells c t fz)) (hB : k ≠ B) (ht : t ≠ 5) : w'.heap[k]? = some (.cells c t fz) :=
  h k _ hk (fun e => hB (Option.some.inj e)) (fun c' fz' e => by cases e; exact ht rfl)
theorem ext_block {w w' : World} {k : Nat} {o : Obj} (h : Ext w w') (hk : w.heap[k]? = some o) : w'.heap[k]? = some o := by
  rw [Below.block h _ (Array.getElem?_eq_some_iff.1 hk).1]; exact hk
theorem block_cell {w : World} {k : Nat} {c : Array Value} {t : TypeId} {fz : Nat × Nat} (h : w.heap[k]? = some (.cells c t fz)) (j : Nat) : w.cell? ⟨k, j, none⟩ = c[j]? := by simp [World.cell?, h]

end Go.Proofs.YtjebmabffocobaaDoor
