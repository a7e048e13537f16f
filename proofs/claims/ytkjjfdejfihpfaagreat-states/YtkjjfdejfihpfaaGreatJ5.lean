/-
  Numbers and texts at a place: what the reference's functions answer.
-/
/-
  Numbers and texts as bytes: what the reference's functions answer.
-/
import Derived.Test.YtkjjfdejfihpfaaGreatSum
import Derived.Test.YtkjjfdejfihpfaaGreatReader
import Derived.Test.YtkjjfdejfihpfaaGreatWire
namespace Go.Proofs.YtkjjfdejfihpfaaGreat
open Go.RowKit

/-- A number of so many bytes at a place; what lies beyond is 0. -/
def rfN (l : List UInt8) (at_ : Nat) : Nat → Nat
  | 0 => 0
  | k + 1 => rfN l at_ k * 256 + (l[at_ + k]?.getD 0).toNat
theorem rfN_lt (l : List UInt8) (at_ : Nat) : ∀ k, rfN l at_ k < 256 ^ k
  | 0 => by simp [rfN]
  | k + 1 => by
    have h1 := rfN_lt l at_ k
    have h2 := (l[at_ + k]?.getD 0).toNat_lt
    rw [rfN, Nat.pow_succ]; omega

set_option maxRecDepth 100000 in
set_option maxHeartbeats 800000 in
theorem refRead (s : ByteArray) (at_ size : Nat) (w : World) (hs : s.size ≤ 9223372036854775807) (ha : at_ ≤ 1000000000000000) (hn : size ≤ 4) :
    Calls Tryz.prog 43 #[.string s, .int .i64 at_, .int .i64 size] w fun e w' => e = .returned (.int .i64 (rfN s.data.toList at_ size)) ∧ w' = w := by
  have Hz := hide (ba_len s)
  go_enter Tryz.func43, Tryz.ntmps43
  go_wp2
  go_loop [7, 8] (fun n i => ∃ (k m : Nat), k ≤ size ∧ i = .int .i64 k ∧ n = .int .i64 m ∧ m < 4294967296 ∧ Hid (m = rfN s.data.toList at_ k)) (fun _ i => size - (intOf i).toNat)
  case atStart => exact ⟨0, 0, Nat.zero_le _, rfl, rfl, by omega, rfl⟩
  case round =>
    obtain ⟨k, m, hk, rfl, rfl, hm, hacc⟩ := hrel
    by_cases hlt : k < size
    · have hm2 : m < 16777216 := by
        have := rfN_lt s.data.toList at_ k
        rw [← hacc.out] at this
        have h3 : 256 ^ k ≤ 256 ^ 3 := Nat.pow_le_pow_right (by omega) (by omega)
        omega
      have Hs : Hid (rfN s.data.toList at_ (k + 1) = m * 256 + (s.data.toList[at_ + k]?.getD 0).toNat) := by show _ = _; rw [rfN, ← hacc.out]
      by_cases hin : at_ + k < s.size
      · have hin' : at_ + k < s.data.toList.length := by rw [unhide Hz]; exact hin
        have hxx : s.data.toList[at_ + k]?.getD 0 = s[at_ + k] := by rw [List.getElem?_eq_getElem hin']; rfl
        rw [hxx] at Hs
        clear hxx
        generalize hc0 : s[at_ + k] = c at *
        have hc := c.toNat_lt
        have i1 : (at_ : Int) + (k : Int) < (s.size : Int) := by omega
        go_wp2
        go_round
        case rel => exact ⟨k + 1, m * 256 + c.toNat, by omega, by go_num, by simp, by omega, Hs.out.symm⟩
        case measure => simp [intOf]; omega
      · have hnone : s.data.toList[at_ + k]?.getD 0 = 0 := by rw [List.getElem?_eq_none (by rw [unhide Hz]; omega)]; rfl
        have i1 : decide ((at_ : Int) + (k : Int) < (s.size : Int)) = false := by simp; omega
        rw [hnone] at Hs
        clear hnone
        go_wp2
        go_round
        case rel => exact ⟨k + 1, m * 256, by omega, by go_num, by simp, by omega, Hs.out.symm⟩
        case measure => simp [intOf]; omega
    · obtain rfl : k = size := by omega
      go_wp2
      go_ret
      exact ⟨retI (by rw [hacc.out]), rfl⟩

/-- A text at a place, and the place behind it. -/
def rfText (l : List UInt8) (at_ : Nat) : ByteArray × Nat :=
  (if l.length < at_ + 1 + rfN l at_ 1 then ⟨#[]⟩ else ⟨((l.drop (at_ + 1)).take (rfN l at_ 1)).toArray⟩, at_ + 1 + rfN l at_ 1)
theorem ex_mid (s : ByteArray) (a n : Nat) : (s.extract a (a + n)).data.toList = (s.data.toList.drop a).take n := by
  rw [ByteArray.data_extract]; simp
/-- What the reading of a text at a place answers. -/
def TxAt (w : World) (s : ByteArray) (at_ : Nat) (e : Ending) (w' : World) : Prop :=
  ∃ (t : ByteArray) (m : Nat), e = .returned (.tuple #[.string t, .int .i64 m]) ∧ Hid (rfText s.data.toList at_ = (t, m)) ∧ t.size ≤ 255 ∧ m ≤ at_ + 256 ∧ w' = w

set_option maxRecDepth 100000 in
set_option maxHeartbeats 800000 in
theorem refTextAt (s : ByteArray) (at_ : Nat) (w : World) (hs : s.size ≤ 9223372036854775807) (ha : at_ ≤ 1000000000000000) :
    Calls Tryz.prog 63 #[.string s, .int .i64 at_] w (TxAt w s at_) := by
  have Hz := hide (ba_len s)
  have hlt := rfN_lt s.data.toList at_ 1
  rw [Nat.pow_one] at hlt
  have hrd := hide (refRead s at_ 1)
  have hdef : Hid (rfText s.data.toList at_ = (if s.data.toList.length < at_ + 1 + rfN s.data.toList at_ 1 then ⟨#[]⟩ else ⟨((s.data.toList.drop (at_ + 1)).take (rfN s.data.toList at_ 1)).toArray⟩, at_ + 1 + rfN s.data.toList at_ 1)) := rfl
  generalize rfN s.data.toList at_ 1 = n at *
  go_enter Tryz.func63, Tryz.ntmps63
  go_wp2_with fail
  refine (hrd.out _ hs ha (by omega)).mono ?_
  rintro e w1 ⟨rfl, rfl⟩
  by_cases hb : s.size < at_ + 1 + n
  · have hb' : decide ((s.size : Int) < (at_ : Int) + 1 + (n : Int)) = true := by simp; omega
    go_wp2_with fail
    go_ret2
    refine ⟨⟨#[]⟩, at_ + 1 + n, rfl, ?_, Nat.zero_le _, by omega, rfl⟩
    show _ = _
    rw [hdef.out, if_pos (by rw [Hz.out]; exact hb)]
  · have hb' : decide ((s.size : Int) < (at_ : Int) + 1 + (n : Int)) = false := by simp; omega
    have j1 : (0 : Int) ≤ (at_ : Int) + 1 := by omega
    have j2 : (at_ : Int) + 1 ≤ (at_ : Int) + 1 + (n : Int) := by omega
    have j3 : (at_ : Int) + 1 + (n : Int) ≤ (s.size : Int) := by omega
    go_wp2_with fail
    go_ret2
    refine ⟨s.extract (at_ + 1) (at_ + 1 + n), at_ + 1 + n, rfl, ?_, ?_, by omega, rfl⟩
    · show _ = _
      rw [hdef.out, if_neg (by rw [Hz.out]; exact hb)]
      congr 1
      apply ByteArray.ext; apply Array.toList_inj.1; rw [ex_mid]
    · rw [← ba_len, ex_mid, List.length_take]; omega
end Go.Proofs.YtkjjfdejfihpfaaGreat

namespace Go.Proofs.YtkjjfdejfihpfaaGreat
open Go.RowKit

theorem pow8 : (2 : Int) ^ (8 * 0) = 1 ∧ (2 : Int) ^ (8 * 1) = 256 ∧ (2 : Int) ^ (8 * 2) = 65536 ∧ (2 : Int) ^ (8 * 3) = 16777216 := by decide
theorem big_neg {n : Int} : ∀ k, k ≤ 4 → bigL k (n + 4294967296) = bigL k n := by
  have e0 : (n + 4294967296) / 2 ^ (8 * 0) % 256 = n / 2 ^ (8 * 0) % 256 := by rw [pow8.1]; omega
  have e1 : (n + 4294967296) / 2 ^ (8 * 1) % 256 = n / 2 ^ (8 * 1) % 256 := by rw [pow8.2.1]; omega
  have e2 : (n + 4294967296) / 2 ^ (8 * 2) % 256 = n / 2 ^ (8 * 2) % 256 := by rw [pow8.2.2.1]; omega
  have e3 : (n + 4294967296) / 2 ^ (8 * 3) % 256 = n / 2 ^ (8 * 3) % 256 := by rw [pow8.2.2.2]; omega
  intro k hk
  have : k = 0 ∨ k = 1 ∨ k = 2 ∨ k = 3 ∨ k = 4 := by omega
  rcases this with rfl | rfl | rfl | rfl | rfl
  · rfl
  · simp only [bigL, e0]
  · simp only [bigL, e0, e1]
  · simp only [bigL, e0, e1, e2]
  · simp only [bigL, e0, e1, e2, e3]
theorem shift_succ (n : Int) (j : Nat) : n / 2 ^ (8 * j) / 256 = n / 2 ^ (8 * (j + 1)) := by
  rw [Int.ediv_ediv_of_nonneg (Int.pow_nonneg (by decide))]
  congr 1
  rw [show 8 * (j + 1) = 8 * j + 8 by omega, Int.pow_add]; rfl

set_option maxRecDepth 100000 in
set_option maxHeartbeats 800000 in
theorem refBig0 (n0 n : Int) (size : Nat) (w : World) (h0 : 0 ≤ n) (h1 : n ≤ 9007199254740992) (hs : size ≤ 4) (hn : (n0 = n) ∨ (n0 < 0 ∧ n0 + 4294967296 = n)) :
    Calls Tryz.prog 17 #[.int .i64 n0, .int .i64 size] w fun e w' => e = .returned (.string ⟨(bigL size n).toArray⟩) ∧ Ext w w' := by
  have hp0 : Hid (n = n / 2 ^ (8 * 0)) := by show n = n / 2 ^ (8 * 0); rw [pow8.1]; omega
  go_enter Tryz.func17, Tryz.ntmps17
  rcases hn with rfl | ⟨hneg, hN⟩
  · have d0 : decide (n0 < 0) = false := by simp; omega
    go_wp2
    go_loopw [0, 5, 6] (fun m s i wr => ∃ (j : Nat) (z : Int) (l : List UInt8), j ≤ size ∧ i = .int .i64 j ∧ m = .int .i64 z ∧ 0 ≤ z ∧ z ≤ 9007199254740992 ∧ s = .string ⟨l.toArray⟩ ∧ l.length ≤ j ∧ Hid (l = bigL j n0) ∧ Hid (z = n0 / 2 ^ (8 * j)) ∧ Ext w wr) (fun _ _ i _ => size - (intOf i).toNat)
    case atStart => exact ⟨0, n0, [], Nat.zero_le _, rfl, rfl, h0, h1, rfl, by simp, rfl, hp0, Ext.refl _⟩
    case round =>
      obtain ⟨j, z, l, hj, rfl, rfl, hz0, hz1, rfl, hl, hacc, hz, he⟩ := hrel
      replace he := hide he
      by_cases hlt : j < size
      · have hcv := fun w => conv_one w (z % 256) (by omega) (by omega)
        have hl' : l.length ≤ 100 := by omega
        go_wp2
        go_roundw
        case rel =>
          refine ⟨j + 1, z / 256, UInt8.ofNat (z % 256).toNat :: l, by omega, by go_num, rfl, by omega, by omega, ?_, by simp; omega, ?_, ?_, he.out.alloc _⟩
          · rw [ba_app2]; rfl
          · rw [hacc.out, hz.out]; rfl
          · rw [hz.out]; exact shift_succ n0 j
        case measure => simp [intOf]; omega
      · obtain rfl : j = size := by omega
        go_wp2
        go_ret
        exact ⟨retS (by rw [hacc.out]), he.out⟩
  · have d0 : decide (n0 < 0) = true := by simpa using hneg
    go_wp2
    go_loopw [0, 5, 6] (fun m s i wr => ∃ (j : Nat) (z : Int) (l : List UInt8), j ≤ size ∧ i = .int .i64 j ∧ m = .int .i64 z ∧ 0 ≤ z ∧ z ≤ 9007199254740992 ∧ s = .string ⟨l.toArray⟩ ∧ l.length ≤ j ∧ Hid (l = bigL j n) ∧ Hid (z = n / 2 ^ (8 * j)) ∧ Ext w wr) (fun _ _ i _ => size - (intOf i).toNat)
    case atStart => exact ⟨0, n, [], Nat.zero_le _, rfl, rfl, h0, h1, rfl, by simp, rfl, hp0, Ext.refl _⟩
    case round =>
      obtain ⟨j, z, l, hj, rfl, rfl, hz0, hz1, rfl, hl, hacc, hz, he⟩ := hrel
      replace he := hide he
      by_cases hlt : j < size
      · have hcv := fun w => conv_one w (z % 256) (by omega) (by omega)
        have hl' : l.length ≤ 100 := by omega
        go_wp2
        go_roundw
        case rel =>
          refine ⟨j + 1, z / 256, UInt8.ofNat (z % 256).toNat :: l, by omega, by go_num, rfl, by omega, by omega, ?_, by simp; omega, ?_, ?_, he.out.alloc _⟩
          · rw [ba_app2]; rfl
          · rw [hacc.out, hz.out]; rfl
          · rw [hz.out]; exact shift_succ n j
        case measure => simp [intOf]; omega
      · obtain rfl : j = size := by omega
        go_wp2
        go_ret
        exact ⟨retS (by rw [hacc.out]), he.out⟩
theorem refBig (n : Int) (size : Nat) (w : World) (h0 : -2147483648 ≤ n) (h1 : n ≤ 9007199254740992) (hs : size ≤ 4) :
    Calls Tryz.prog 17 #[.int .i64 n, .int .i64 size] w fun e w' => e = .returned (.string ⟨(bigL size n).toArray⟩) ∧ Ext w w' := by
  by_cases hn : n < 0
  · rw [← big_neg size hs]
    exact refBig0 n (n + 4294967296) size w (by omega) (by omega) hs (.inr ⟨hn, rfl⟩)
  · exact refBig0 n n size w (by omega) h1 hs (.inl rfl)

set_option maxRecDepth 100000 in
set_option maxHeartbeats 800000 in
theorem refText (s : ByteArray) (w : World) (hs : s.size ≤ 1048576) :
    Calls Tryz.prog 41 #[.string s] w fun e w' => e = .returned (.string ⟨(textL s).toArray⟩) ∧ Ext w w' := by
  have hl := bigL_len 1 (s.size : Int)
  have hl' : (bigL 1 (s.size : Int)).length ≤ 1 := by omega
  replace hl := hide hl
  have H : Hid ((⟨(bigL 1 (s.size : Int)).toArray⟩ : ByteArray) ++ s = ⟨(textL s).toArray⟩) := by rw [ba_app]; rfl
  have hb := hide (refBig (s.size : Int) 1)
  generalize bigL 1 (s.size : Int) = bl at *
  go_enter Tryz.func41, Tryz.ntmps41
  go_wp2_with fail
  refine (hb.out _ (by omega) (by omega) (by omega)).mono ?_
  rintro e w1 ⟨rfl, he1⟩
  replace he1 := hide he1
  go_wp2
  go_ret
  exact ⟨retS H.out, he1.out⟩
end Go.Proofs.YtkjjfdejfihpfaaGreat
