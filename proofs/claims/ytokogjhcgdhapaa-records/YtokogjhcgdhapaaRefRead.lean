/-
  Numbers and texts at a place: what the reference's functions answer.
-/
import Derived.Test.YtokogjhcgdhapaaSum
import Derived.Test.YtokogjhcgdhapaaReader
namespace Go.Proofs.Ytokogjhcgdhapaa
open Go.RowKit

/-- A number of so many bytes at a place; what lies beyond is 0. -/
def rfN (l : List UInt8) (at_ : Nat) : Nat → Nat
  | 0 => 0
  | k + 1 => rfN l at_ k * 256 + (l[at_ + k]?.getD 0).toNat
theorem rfN_lt (l : List UInt8) (at_ : Nat) : ∀ k, rfN l at_ k < 256 ^ k
  | 0 => by simp [rfN]
  | k + 1 => by
    have h1 := rfN_lt l at_ k
    have h2 := (l[at_ + k]?.getD 0).toNat_lt
    rw [rfN, Nat.pow_succ]; omega

set_option maxRecDepth 100000 in
set_option maxHeartbeats 800000 in
theorem refRead (s : ByteArray) (at_ size : Nat) (w : World) (hs : s.size ≤ 9223372036854775807) (ha : at_ ≤ 1000000000000000) (hn : size ≤ 4) :
    Calls Try.prog 37 #[.string s, .int .i64 at_, .int .i64 size] w fun e w' => e = .returned (.int .i64 (rfN s.data.toList at_ size)) ∧ w' = w := by
  have Hz := hide (ba_len s)
  go_enter Try.func37, Try.ntmps37
  go_wp2
  go_loop [7, 8] (fun n i => ∃ (k m : Nat), k ≤ size ∧ i = .int .i64 k ∧ n = .int .i64 m ∧ m < 4294967296 ∧ Hid (m = rfN s.data.toList at_ k)) (fun _ i => size - (intOf i).toNat)
  case atStart => exact ⟨0, 0, Nat.zero_le _, rfl, rfl, by omega, rfl⟩
  case round =>
    obtain ⟨k, m, hk, rfl, rfl, hm, hacc⟩ := hrel
    by_cases hlt : k < size
    · have hm2 : m < 16777216 := by
        have := rfN_lt s.data.toList at_ k
        rw [← hacc.out] at this
        have h3 : 256 ^ k ≤ 256 ^ 3 := Nat.pow_le_pow_right (by omega) (by omega)
        omega
      have Hs : Hid (rfN s.data.toList at_ (k + 1) = m * 256 + (s.data.toList[at_ + k]?.getD 0).toNat) := by show _ = _; rw [rfN, ← hacc.out]
      by_cases hin : at_ + k < s.size
      · have hin' : at_ + k < s.data.toList.length := by rw [unhide Hz]; exact hin
        have hxx : s.data.toList[at_ + k]?.getD 0 = s[at_ + k] := by rw [List.getElem?_eq_getElem hin']; rfl
        rw [hxx] at Hs
        clear hxx
        generalize hc0 : s[at_ + k] = c at *
        have hc := c.toNat_lt
        have i1 : (at_ : Int) + (k : Int) < (s.size : Int) := by omega
        go_wp2
        go_round
        case rel => exact ⟨k + 1, m * 256 + c.toNat, by omega, by go_num, by simp, by omega, Hs.out.symm⟩
        case measure => simp [intOf]; omega
      · have hnone : s.data.toList[at_ + k]?.getD 0 = 0 := by rw [List.getElem?_eq_none (by rw [unhide Hz]; omega)]; rfl
        have i1 : decide ((at_ : Int) + (k : Int) < (s.size : Int)) = false := by simp; omega
        rw [hnone] at Hs
        clear hnone
        go_wp2
        go_round
        case rel => exact ⟨k + 1, m * 256, by omega, by go_num, by simp, by omega, Hs.out.symm⟩
        case measure => simp [intOf]; omega
    · obtain rfl : k = size := by omega
      go_wp2
      go_ret
      exact ⟨retI (by rw [hacc.out]), rfl⟩

/-- A text at a place, and the place behind it. -/
def rfText (l : List UInt8) (at_ : Nat) : ByteArray × Nat :=
  (if l.length < at_ + 1 + rfN l at_ 1 then ⟨#[]⟩ else ⟨((l.drop (at_ + 1)).take (rfN l at_ 1)).toArray⟩, at_ + 1 + rfN l at_ 1)
theorem ex_mid (s : ByteArray) (a n : Nat) : (s.extract a (a + n)).data.toList = (s.data.toList.drop a).take n := by
  rw [ByteArray.data_extract]; simp
/-- What the reading of a text at a place answers. -/
def TxAt (w : World) (s : ByteArray) (at_ : Nat) (e : Ending) (w' : World) : Prop :=
  ∃ (t : ByteArray) (m : Nat), e = .returned (.tuple #[.string t, .int .i64 m]) ∧ Hid (rfText s.data.toList at_ = (t, m)) ∧ t.size ≤ 255 ∧ m ≤ at_ + 256 ∧ w' = w

set_option maxRecDepth 100000 in
set_option maxHeartbeats 800000 in
theorem refTextAt (s : ByteArray) (at_ : Nat) (w : World) (hs : s.size ≤ 9223372036854775807) (ha : at_ ≤ 1000000000000000) :
    Calls Try.prog 50 #[.string s, .int .i64 at_] w (TxAt w s at_) := by
  have Hz := hide (ba_len s)
  have hlt := rfN_lt s.data.toList at_ 1
  rw [Nat.pow_one] at hlt
  have hrd := hide (refRead s at_ 1)
  have hdef : Hid (rfText s.data.toList at_ = (if s.data.toList.length < at_ + 1 + rfN s.data.toList at_ 1 then ⟨#[]⟩ else ⟨((s.data.toList.drop (at_ + 1)).take (rfN s.data.toList at_ 1)).toArray⟩, at_ + 1 + rfN s.data.toList at_ 1)) := rfl
  generalize rfN s.data.toList at_ 1 = n at *
  go_enter Try.func50, Try.ntmps50
  go_wp2_with fail
  refine (hrd.out _ hs ha (by omega)).mono ?_
  rintro e w1 ⟨rfl, rfl⟩
  by_cases hb : s.size < at_ + 1 + n
  · have hb' : decide ((s.size : Int) < (at_ : Int) + 1 + (n : Int)) = true := by simp; omega
    go_wp2_with fail
    go_ret2
    refine ⟨⟨#[]⟩, at_ + 1 + n, rfl, ?_, Nat.zero_le _, by omega, rfl⟩
    show _ = _
    rw [hdef.out, if_pos (by rw [Hz.out]; exact hb)]
  · have hb' : decide ((s.size : Int) < (at_ : Int) + 1 + (n : Int)) = false := by simp; omega
    have j1 : (0 : Int) ≤ (at_ : Int) + 1 := by omega
    have j2 : (at_ : Int) + 1 ≤ (at_ : Int) + 1 + (n : Int) := by omega
    have j3 : (at_ : Int) + 1 + (n : Int) ≤ (s.size : Int) := by omega
    go_wp2_with fail
    go_ret2
    refine ⟨s.extract (at_ + 1) (at_ + 1 + n), at_ + 1 + n, rfl, ?_, ?_, by omega, rfl⟩
    · show _ = _
      rw [hdef.out, if_neg (by rw [Hz.out]; exact hb)]
      congr 1
      apply ByteArray.ext; apply Array.toList_inj.1; rw [ex_mid]
    · rw [← ba_len, ex_mid, List.length_take]; omega
end Go.Proofs.Ytokogjhcgdhapaa
