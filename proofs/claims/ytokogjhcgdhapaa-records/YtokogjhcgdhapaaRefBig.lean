/-
  Numbers and texts as bytes: what the reference's functions answer.
-/
import Derived.Test.YtokogjhcgdhapaaWire
namespace Go.Proofs.Ytokogjhcgdhapaa
open Go.RowKit

theorem pow8 : (2 : Int) ^ (8 * 0) = 1 ∧ (2 : Int) ^ (8 * 1) = 256 ∧ (2 : Int) ^ (8 * 2) = 65536 ∧ (2 : Int) ^ (8 * 3) = 16777216 := by decide
theorem big_neg {n : Int} : ∀ k, k ≤ 4 → bigL k (n + 4294967296) = bigL k n := by
  have e0 : (n + 4294967296) / 2 ^ (8 * 0) % 256 = n / 2 ^ (8 * 0) % 256 := by rw [pow8.1]; omega
  have e1 : (n + 4294967296) / 2 ^ (8 * 1) % 256 = n / 2 ^ (8 * 1) % 256 := by rw [pow8.2.1]; omega
  have e2 : (n + 4294967296) / 2 ^ (8 * 2) % 256 = n / 2 ^ (8 * 2) % 256 := by rw [pow8.2.2.1]; omega
  have e3 : (n + 4294967296) / 2 ^ (8 * 3) % 256 = n / 2 ^ (8 * 3) % 256 := by rw [pow8.2.2.2]; omega
  intro k hk
  have : k = 0 ∨ k = 1 ∨ k = 2 ∨ k = 3 ∨ k = 4 := by omega
  rcases this with rfl | rfl | rfl | rfl | rfl
  · rfl
  · simp only [bigL, e0]
  · simp only [bigL, e0, e1]
  · simp only [bigL, e0, e1, e2]
  · simp only [bigL, e0, e1, e2, e3]
theorem shift_succ (n : Int) (j : Nat) : n / 2 ^ (8 * j) / 256 = n / 2 ^ (8 * (j + 1)) := by
  rw [Int.ediv_ediv_of_nonneg (Int.pow_nonneg (by decide))]
  congr 1
  rw [show 8 * (j + 1) = 8 * j + 8 by omega, Int.pow_add]; rfl

set_option maxRecDepth 100000 in
set_option maxHeartbeats 800000 in
theorem refBig0 (n0 n : Int) (size : Nat) (w : World) (h0 : 0 ≤ n) (h1 : n ≤ 9007199254740992) (hs : size ≤ 4) (hn : (n0 = n) ∨ (n0 < 0 ∧ n0 + 4294967296 = n)) :
    Calls Try.prog 16 #[.int .i64 n0, .int .i64 size] w fun e w' => e = .returned (.string ⟨(bigL size n).toArray⟩) ∧ Ext w w' := by
  have hp0 : Hid (n = n / 2 ^ (8 * 0)) := by show n = n / 2 ^ (8 * 0); rw [pow8.1]; omega
  go_enter Try.func16, Try.ntmps16
  rcases hn with rfl | ⟨hneg, hN⟩
  · have d0 : decide (n0 < 0) = false := by simp; omega
    go_wp2
    go_loopw [0, 5, 6] (fun m s i wr => ∃ (j : Nat) (z : Int) (l : List UInt8), j ≤ size ∧ i = .int .i64 j ∧ m = .int .i64 z ∧ 0 ≤ z ∧ z ≤ 9007199254740992 ∧ s = .string ⟨l.toArray⟩ ∧ l.length ≤ j ∧ Hid (l = bigL j n0) ∧ Hid (z = n0 / 2 ^ (8 * j)) ∧ Ext w wr) (fun _ _ i _ => size - (intOf i).toNat)
    case atStart => exact ⟨0, n0, [], Nat.zero_le _, rfl, rfl, h0, h1, rfl, by simp, rfl, hp0, Ext.refl _⟩
    case round =>
      obtain ⟨j, z, l, hj, rfl, rfl, hz0, hz1, rfl, hl, hacc, hz, he⟩ := hrel
      replace he := hide he
      by_cases hlt : j < size
      · have hcv := fun w => conv_one w (z % 256) (by omega) (by omega)
        have hl' : l.length ≤ 100 := by omega
        go_wp2
        go_roundw
        case rel =>
          refine ⟨j + 1, z / 256, UInt8.ofNat (z % 256).toNat :: l, by omega, by go_num, rfl, by omega, by omega, ?_, by simp; omega, ?_, ?_, he.out.alloc _⟩
          · rw [ba_app2]; rfl
          · rw [hacc.out, hz.out]; rfl
          · rw [hz.out]; exact shift_succ n0 j
        case measure => simp [intOf]; omega
      · obtain rfl : j = size := by omega
        go_wp2
        go_ret
        exact ⟨retS (by rw [hacc.out]), he.out⟩
  · have d0 : decide (n0 < 0) = true := by simpa using hneg
    go_wp2
    go_loopw [0, 5, 6] (fun m s i wr => ∃ (j : Nat) (z : Int) (l : List UInt8), j ≤ size ∧ i = .int .i64 j ∧ m = .int .i64 z ∧ 0 ≤ z ∧ z ≤ 9007199254740992 ∧ s = .string ⟨l.toArray⟩ ∧ l.length ≤ j ∧ Hid (l = bigL j n) ∧ Hid (z = n / 2 ^ (8 * j)) ∧ Ext w wr) (fun _ _ i _ => size - (intOf i).toNat)
    case atStart => exact ⟨0, n, [], Nat.zero_le _, rfl, rfl, h0, h1, rfl, by simp, rfl, hp0, Ext.refl _⟩
    case round =>
      obtain ⟨j, z, l, hj, rfl, rfl, hz0, hz1, rfl, hl, hacc, hz, he⟩ := hrel
      replace he := hide he
      by_cases hlt : j < size
      · have hcv := fun w => conv_one w (z % 256) (by omega) (by omega)
        have hl' : l.length ≤ 100 := by omega
        go_wp2
        go_roundw
        case rel =>
          refine ⟨j + 1, z / 256, UInt8.ofNat (z % 256).toNat :: l, by omega, by go_num, rfl, by omega, by omega, ?_, by simp; omega, ?_, ?_, he.out.alloc _⟩
          · rw [ba_app2]; rfl
          · rw [hacc.out, hz.out]; rfl
          · rw [hz.out]; exact shift_succ n j
        case measure => simp [intOf]; omega
      · obtain rfl : j = size := by omega
        go_wp2
        go_ret
        exact ⟨retS (by rw [hacc.out]), he.out⟩
theorem refBig (n : Int) (size : Nat) (w : World) (h0 : -2147483648 ≤ n) (h1 : n ≤ 9007199254740992) (hs : size ≤ 4) :
    Calls Try.prog 16 #[.int .i64 n, .int .i64 size] w fun e w' => e = .returned (.string ⟨(bigL size n).toArray⟩) ∧ Ext w w' := by
  by_cases hn : n < 0
  · rw [← big_neg size hs]
    exact refBig0 n (n + 4294967296) size w (by omega) (by omega) hs (.inr ⟨hn, rfl⟩)
  · exact refBig0 n n size w (by omega) h1 hs (.inl rfl)

set_option maxRecDepth 100000 in
set_option maxHeartbeats 800000 in
theorem refText (s : ByteArray) (w : World) (hs : s.size ≤ 1048576) :
    Calls Try.prog 35 #[.string s] w fun e w' => e = .returned (.string ⟨(textL s).toArray⟩) ∧ Ext w w' := by
  have hl := bigL_len 1 (s.size : Int)
  have hl' : (bigL 1 (s.size : Int)).length ≤ 1 := by omega
  replace hl := hide hl
  have H : Hid ((⟨(bigL 1 (s.size : Int)).toArray⟩ : ByteArray) ++ s = ⟨(textL s).toArray⟩) := by rw [ba_app]; rfl
  have hb := hide (refBig (s.size : Int) 1)
  generalize bigL 1 (s.size : Int) = bl at *
  go_enter Try.func35, Try.ntmps35
  go_wp2_with fail
  refine (hb.out _ (by omega) (by omega) (by omega)).mono ?_
  rintro e w1 ⟨rfl, he1⟩
  replace he1 := hide he1
  go_wp2
  go_ret
  exact ⟨retS H.out, he1.out⟩
end Go.Proofs.Ytokogjhcgdhapaa
