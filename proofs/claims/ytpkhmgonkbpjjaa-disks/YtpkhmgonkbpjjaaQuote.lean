/-
  A string in quotes: what the function answers.
-/
import Derived.Test.YtpkhmgonkbpjjaaJ6
import Derived.Test.YtpkhmgonkbpjjaaPrL
import Derived.Deep.AppendLies
import Derived.Lib.Builder
namespace Go.Proofs.Ytpkhmgonkbpjjaa
open Go.RowKit

/-- What has been built so far, and the bytes that are gone through. -/
structure QRel (w : World) (s : ByteArray) (acc : List UInt8) (v : Value) (wr : World) : Prop where
  form : ∃ g cap, v = .slice (some ⟨g, 0, none⟩) acc.length cap ∧ g ≠ w.heap.size + 1
  own : wr.ownsRow w.heap.size 5 1 v acc.length (cellsB acc)
  src : ∀ j, j < s.size → wr.cell? ⟨w.heap.size + 1, j, none⟩ = some (.int .u8 ((s.data.toList[j]?.getD 0).toNat : Int))
  ext : Ext w wr
  big : w.heap.size + 1 < wr.heap.size
theorem QRel.start (w : World) (s : ByteArray) : QRel w s [34] (.slice (some ⟨w.heap.size, 0, none⟩) 1 1) (Lib.bytesWorld (w.alloc (.cells #[.int .u8 34] 5)) 5 s) := by
  have hs : (w.alloc (.cells #[.int .u8 34] 5)).heap.size = w.heap.size + 1 := by simp
  refine ⟨⟨w.heap.size, 1, rfl, by omega⟩, ⟨rfl, .inr ⟨w.heap.size, 1, #[.int .u8 34], rfl, Nat.le_refl _, ?_, Nat.le_refl _, by decide, rfl, rfl⟩⟩, ?_, ?_, ?_⟩
  · rw [Lib.bytesWorld_at_old _ _ _ _ (by omega)]; exact heap_alloc_new w _
  · intro j hj
    have := Lib.bytesWorld_cell (w.alloc (.cells #[.int .u8 34] 5)) 5 s j hj
    rw [hs] at this
    rw [this]; simp [List.getD]
  · exact ((Ext.refl _).alloc _).trans (Ext.bytes _ _ _)
  · rw [Lib.bytesWorld_size]; omega
theorem QRel.step {w : World} {s : ByteArray} {acc news : List UInt8} {v : Value} {wr w1 : World} {o : Obj} {m g cap : Nat} (h : QRel w s acc v wr) (hm : news.length = m)
    (hown : w1.ownsRow w.heap.size 5 1 (.slice (some ⟨g, 0, none⟩) (acc.length + m) cap) (acc.length + m) (cellsB acc ++ cellsB news)) (hgrow : (wr.alloc o).grownBy w1 v.ownBlock)
    (hat : v.ownBlock = some g ∨ g = wr.heap.size + 1) : QRel w s (acc ++ news) (.slice (some ⟨g, 0, none⟩) (acc.length + m) cap) w1 := by
  obtain ⟨⟨g0, c0, rfl, hne⟩, hown0, hsrc, hext, hbig⟩ := h
  have hl : (acc ++ news).length = acc.length + m := by rw [List.length_append, hm]
  have hg0 := (hown0.lt g0 rfl)
  refine ⟨⟨g, cap, by rw [hl], ?_⟩, by rw [hl, cellsB_append]; exact hown, ?_, ?_, ?_⟩
  · rcases hat with h | h
    · simp [Value.ownBlock] at h; omega
    · omega
  · intro j hj
    have h1 := ((Ext.refl wr).alloc o).cells (hsrc j hj)
    exact hgrow.cell h1 (by simp [Value.ownBlock]; omega)
  · exact Below.grown (hext.alloc o) hgrow (by have := hext.size; simp; omega) (fun k hk => by simp [Value.ownBlock] at hk; omega)
  · have := hgrow.size; simp at this; omega

end Go.Proofs.Ytpkhmgonkbpjjaa
