/-
  The marks: what the functions that make them answer.
-/
import Derived.Test.YtjebmabffocobaaDoorConv
namespace Go.Proofs.YtjebmabffocobaaDoor
open Go.RowKit

/-- So many digits of a number, the last one first. -/
def digs : Nat → Int → List UInt8
  | 0, _ => []
  | n + 1, k => UInt8.ofNat (48 + k % 10).toNat :: digs n (k / 10)
def markL : List UInt8 := [109, 97, 114, 107]
/-- The k-th mark. -/
def textD (k : Int) : ByteArray := ⟨(markL ++ digs 8 k).toArray⟩

set_option maxRecDepth 100000 in
set_option maxHeartbeats 800000 in
theorem textOf (k : Int) (w : World) (h0 : 0 ≤ k) (h1 : k ≤ 1000000000) :
    Calls Tryd.prog 17 #[.int .i64 k] w fun e w' => e = .returned (.string (textD k)) ∧ Ext w w' := by
  go_enter Tryd.func17, Tryd.ntmps17
  go_wp2
  go_loopw [0, 3, 4] (fun n s i wr => ∃ (j : Nat) (m : Int) (l : List UInt8), j ≤ 8 ∧ 0 ≤ m ∧ m ≤ 1000000000 ∧ i = .int .i64 j ∧ n = .int .i64 m ∧ s = .string ⟨l.toArray⟩ ∧ l.length = 4 + j ∧ Hid (l ++ digs (8 - j) m = markL ++ digs 8 k) ∧ Ext w wr) (fun _ _ i _ => 8 - (intOf i).toNat)
  case atStart => exact ⟨0, k, markL, by omega, h0, h1, rfl, rfl, rfl, rfl, rfl, Ext.refl _⟩
  case round =>
    obtain ⟨j, m, l, hj, hm0, hm1, rfl, rfl, rfl, hl, hd, he⟩ := hrel
    replace he := hide he
    by_cases hlt : j < 8
    · have hcv := fun w => conv_one w (48 + m % 10) (by omega) (by omega)
      have hl' : l.length ≤ 100 := by omega
      replace hl := hide hl
      go_wp2
      go_roundw
      case rel =>
        refine ⟨j + 1, m / 10, l ++ [UInt8.ofNat (48 + m % 10).toNat], by omega, by omega, by omega, by go_num, rfl, ?_, ?_, ?_, he.out.alloc _⟩
        · rw [ba_app2]
        · rw [List.length_append, hl.out]; rfl
        · have := hd.out
          rw [show 8 - j = (8 - (j + 1)) + 1 by omega, digs] at this
          rw [List.append_assoc]; exact this
      case measure => simp [intOf]; omega
    · obtain rfl : j = 8 := by omega
      have hd' : l = markL ++ digs 8 k := by simpa [digs] using hd.out
      replace hd' := hide hd'
      go_wp2
      go_ret
      exact ⟨retS (by rw [unhide hd']; rfl), he.out⟩

set_option maxRecDepth 100000 in
set_option maxHeartbeats 800000 in
theorem resourceOf (k : Int) (w : World) (h0 : 0 ≤ k) (h1 : k ≤ 1000000000) :
    Calls Tryd.prog 8 #[.int .i64 k] w fun e w' => e = .returned (.agg #[.string (textD k), .string ⟨#[]⟩, .slice none 0 0, .slice none 0 0]) ∧ Ext w w' := by
  go_enter Tryd.func8, Tryd.ntmps8
  go_wp2_with fail
  refine (textOf k _ h0 h1).mono ?_
  rintro e w1 ⟨rfl, he1⟩
  have c0 := he1.cells (p := ⟨w.heap.size, 0, none⟩) (v := .string ⟨#[]⟩) (by simp [go_sem])
  have c1 := he1.cells (p := ⟨w.heap.size, 1, none⟩) (v := .string ⟨#[]⟩) (by simp [go_sem])
  have c2 := he1.cells (p := ⟨w.heap.size, 2, none⟩) (v := .slice none 0 0) (by simp [go_sem])
  have c3 := he1.cells (p := ⟨w.heap.size, 3, none⟩) (v := .slice none 0 0) (by simp [go_sem])
  have f0 : ∀ o, w1.frozen? ⟨w.heap.size, o, none⟩ = false := fun o => by rw [Below.frozen he1 (by simp)]; simp [go_sem]
  replace he1 := hide he1
  go_wp2
  refine bodyPost_ret (v := .agg #[.string (textD k), .string ⟨#[]⟩, .slice none 0 0, .slice none 0 0]) (by simp [results, Tryd.results8, go_sem, c0, c1, c2, c3]) rfl ⟨rfl, ?_⟩
  exact (((((((Ext.refl _).alloc _).trans he1.out).setCell (Nat.le_refl _) _).setCell (Nat.le_refl _) _).setCell (Nat.le_refl _) _).setCell (Nat.le_refl _) _)
end Go.Proofs.YtjebmabffocobaaDoor
