/-
  A slice of bytes as a string; a new row of one cell and of two.
-/
import Derived.Test.YtokogjhcgdhapaaBase
namespace Go.Proofs.Ytokogjhcgdhapaa
open Go.RowKit

theorem ba_app (a b : ByteArray) : a ++ b = ⟨(a.data.toList ++ b.data.toList).toArray⟩ := by
  apply ByteArray.ext; simp
theorem ba_app' (a b : List UInt8) : (⟨a.toArray⟩ : ByteArray) ++ ⟨b.toArray⟩ = ⟨(a ++ b).toArray⟩ := by
  apply ByteArray.ext; simp
theorem ba_app2 (a b : Array UInt8) : (⟨a⟩ : ByteArray) ++ ⟨b⟩ = ⟨(a.toList ++ b.toList).toArray⟩ := by
  apply ByteArray.ext; simp
theorem add_eq (b off j : Nat) : (⟨b, off, none⟩ : Addr).add j = ⟨b, off + j, none⟩ := by unfold Addr.add; split <;> simp_all
theorem push_fold : ∀ (l : List UInt8) (r : List UInt8), (l.map fun c => (c.toNat : Int)).foldl (fun r n => r.push (UInt8.ofNat n.toNat)) (⟨r.toArray⟩ : ByteArray) = ⟨(r ++ l).toArray⟩
  | [], r => by simp
  | c :: l, r => by
    have e : (⟨r.toArray⟩ : ByteArray).push (UInt8.ofNat ((c.toNat : Int).toNat)) = ⟨(r ++ [c]).toArray⟩ := by
      show (⟨r.toArray.push _⟩ : ByteArray) = _
      rw [Int.toNat_natCast, UInt8.ofNat_toNat]; simp
    rw [List.map_cons, List.foldl_cons, e, push_fold l (r ++ [c])]; simp
/-- string(bs): the bytes that lie there. -/
theorem conv_bytes (w : World) (b off n cap : Nat) (l : List UInt8) (hn : l.length = n) (h : ∀ j, j < l.length → w.cell? ⟨b, off + j, none⟩ = some (.int .u8 ((l[j]?.getD 0).toNat : Int))) :
    (convert 49 9 (.slice (some ⟨b, off, none⟩) n cap)).run Try.prog w = .ok (.string ⟨l.toArray⟩) w := by
  subst hn
  rw [run_convert_bytes_string w 49 9 5 _ _ _ Try.underlying49 Try.underlying5 Try.underlying9]
  have hl : (loadCells ⟨b, off, none⟩ l.length).run Try.prog w = .ok ((l.map fun c => (c.toNat : Int)).map (Value.int .u8)).toArray w := by
    have := run_loadCells_list (P := Try.prog) (w := w) ⟨b, off, none⟩ ((l.map fun c => (c.toNat : Int)).map (Value.int .u8)) (by
      intro j v hj
      rw [add_eq]
      have hlt : j < l.length := by
        have := (List.getElem?_eq_some_iff.1 hj).1; simpa using this
      rw [h j hlt]
      simp [hlt] at hj ⊢
      exact hj)
    simpa using this
  rw [run_bytesToString w _ _ _ _ hl]
  have := push_fold l []
  simp only [List.nil_append] at this
  exact congrArg (fun x => Result.ok (Value.string x) w) this
/-- .. of a row of one byte, just made. -/
theorem conv_one (w : World) (c : Int) (h0 : 0 ≤ c) (h1 : c ≤ 255) :
    (convert 49 9 (.slice (some ⟨w.heap.size, 0, none⟩) 1 1)).run Try.prog (w.alloc (.cells #[.int .u8 c] 5)) = .ok (.string ⟨#[UInt8.ofNat c.toNat]⟩) (w.alloc (.cells #[.int .u8 c] 5)) := by
  refine conv_bytes _ _ 0 1 1 [UInt8.ofNat c.toNat] rfl ?_
  intro j hj
  obtain rfl : j = 0 := by simpa using hj
  have : ((UInt8.ofNat c.toNat).toNat : Int) = c := by simp; omega
  simp [go_sem]; omega
theorem conv_at (w : World) (b : Nat) (c : Int) (h0 : 0 ≤ c) (h1 : c ≤ 255) (h : w.cell? ⟨b, 0, none⟩ = some (.int .u8 c)) :
    (convert 49 9 (.slice (some ⟨b, 0, none⟩) 1 1)).run Try.prog w = .ok (.string ⟨#[UInt8.ofNat c.toNat]⟩) w := by
  refine conv_bytes _ _ 0 1 1 [UInt8.ofNat c.toNat] rfl ?_
  intro j hj
  obtain rfl : j = 0 := by simpa using hj
  have e1 : ((UInt8.ofNat c.toNat).toNat : Int) = c := by simp; omega
  show w.cell? ⟨b, 0, none⟩ = some (.int .u8 ((UInt8.ofNat c.toNat).toNat : Int))
  rw [e1]; exact h
theorem conv_two (w : World) (c d : Int) (h0 : 0 ≤ c) (h1 : c ≤ 255) (h2 : 0 ≤ d) (h3 : d ≤ 255) :
    (convert 49 9 (.slice (some ⟨w.heap.size, 0, none⟩) 2 2)).run Try.prog (w.alloc (.cells #[.int .u8 c, .int .u8 d] 5)) = .ok (.string ⟨#[UInt8.ofNat c.toNat, UInt8.ofNat d.toNat]⟩) (w.alloc (.cells #[.int .u8 c, .int .u8 d] 5)) := by
  refine conv_bytes _ _ 0 2 2 [UInt8.ofNat c.toNat, UInt8.ofNat d.toNat] rfl ?_
  intro j hj
  have e1 : ((UInt8.ofNat c.toNat).toNat : Int) = c := by simp; omega
  have e2 : ((UInt8.ofNat d.toNat).toNat : Int) = d := by simp; omega
  have : j = 0 ∨ j = 1 := by simp at hj; omega
  rcases this with rfl | rfl
  · simp [go_sem]; omega
  · simp [go_sem]; omega
end Go.Proofs.Ytokogjhcgdhapaa
