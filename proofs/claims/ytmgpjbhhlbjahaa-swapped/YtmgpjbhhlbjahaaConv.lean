/-
  A slice of bytes as a string; a new row of one cell and of two.
-/
import Derived.Test.YtmgpjbhhlbjahaaBase
namespace Go.Proofs.Ytmgpjbhhlbjahaa
open Go.RowKit

theorem add_eq (b off j : Nat) : (⟨b, off, none⟩ : Addr).add j = ⟨b, off + j, none⟩ := by unfold Addr.add; split <;> simp_all
theorem push_fold : ∀ (l : List UInt8) (r : List UInt8), (l.map fun c => (c.toNat : Int)).foldl (fun r n => r.push (UInt8.ofNat n.toNat)) (⟨r.toArray⟩ : ByteArray) = ⟨(r ++ l).toArray⟩
  | [], r => by simp
  | c :: l, r => by
    have e : (⟨r.toArray⟩ : ByteArray).push (UInt8.ofNat ((c.toNat : Int).toNat)) = ⟨(r ++ [c]).toArray⟩ := by
      show (⟨r.toArray.push _⟩ : ByteArray) = _
      rw [Int.toNat_natCast, UInt8.ofNat_toNat]; simp
    rw [List.map_cons, List.foldl_cons, e, push_fold l (r ++ [c])]; simp
/-- string(bs): the bytes that lie there. -/
theorem conv_bytes (w : World) (b off n cap : Nat) (l : List UInt8) (hn : l.length = n) (h : ∀ j, j < l.length → w.cell? ⟨b, off + j, none⟩ = some (.int .u8 ((l[j]?.getD 0).toNat : Int))) :
    (convert 53 9 (.slice (some ⟨b, off, none⟩) n cap)).run Try.prog w = .ok (.string ⟨l.toArray⟩) w := by
  subst hn
  rw [run_convert_bytes_string w 53 9 5 _ _ _ Try.underlying53 Try.underlying5 Try.underlying9]
  have hl : (loadCells ⟨b, off, none⟩ l.length).run Try.prog w = .ok ((l.map fun c => (c.toNat : Int)).map (Value.int .u8)).toArray w := by
    have := run_loadCells_list (P := Try.prog) (w := w) ⟨b, off, none⟩ ((l.map fun c => (c.toNat : Int)).map (Value.int .u8)) (by
      intro j v hj
      rw [add_eq]
      have hlt : j < l.length := by
        have := (List.getElem?_eq_some_iff.1 hj).1; simpa using this
      rw [h j hlt]
      simp [hlt] at hj ⊢
      exact hj)
    simpa using this
  rw [run_bytesToString w _ _ _ _ hl]
  have := push_fold l []
  simp only [List.nil_append] at this
  exact congrArg (fun x => Result.ok (Value.string x) w) this
end Go.Proofs.Ytmgpjbhhlbjahaa
