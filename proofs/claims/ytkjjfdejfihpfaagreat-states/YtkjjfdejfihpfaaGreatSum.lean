/-
  The check sum: what the two functions answer.
-/
import Derived.Test.YtkjjfdejfihpfaaGreatJ1
import Derived.Laws.BitsAllLaws
namespace Go.Proofs.YtkjjfdejfihpfaaGreat
open Go.RowKit

def crcBit (n : Nat) : Nat := if n % 2 = 1 then (n / 2) ^^^ 3988292384 else n / 2
def crcBits : Nat → Nat → Nat
  | 0, n => n
  | k + 1, n => crcBits k (crcBit n)
def crcByte (n : Nat) (c : UInt8) : Nat := crcBits 8 (n ^^^ c.toNat)
def crcL (l : List UInt8) : Nat := l.foldl crcByte 4294967295
/-- The check sum. -/
def sumL (l : List UInt8) : Int := 4294967295 - crcL l

theorem crcBit_lt {n : Nat} (h : n < 4294967296) : crcBit n < 4294967296 := by
  unfold crcBit
  split
  · exact Nat.xor_lt_two_pow (n := 32) (by omega) (by omega)
  · omega
theorem crcBits_lt : ∀ (k : Nat) {n : Nat}, n < 4294967296 → crcBits k n < 4294967296
  | 0, _, h => h
  | k + 1, _, h => crcBits_lt k (crcBit_lt h)
theorem crcXor_lt {n : Nat} (c : UInt8) (h : n < 4294967296) : n ^^^ c.toNat < 4294967296 := Nat.xor_lt_two_pow (n := 32) (by omega) (by have := c.toNat_lt; omega)
theorem crcByte_lt {n : Nat} (c : UInt8) (h : n < 4294967296) : crcByte n c < 4294967296 := crcBits_lt 8 (crcXor_lt c h)
theorem crc_succ {l : List UInt8} {k : Nat} (h : k < l.length) (n : Nat) : (l.take (k + 1)).foldl crcByte n = crcByte ((l.take k).foldl crcByte n) (l[k]?.getD 0) := by
  rw [List.take_succ_eq_append_getElem h, List.foldl_append]; simp [h]

theorem not32 {m : Nat} (h : m < 4294967296) : 4294967295 ^^^ m = 4294967295 - m := by
  have e := congrArg BitVec.toNat (BitVec.allOnes_xor (x := BitVec.ofNat 32 m))
  rw [BitVec.toNat_xor, BitVec.toNat_not, BitVec.toNat_allOnes, BitVec.toNat_ofNat, Nat.mod_eq_of_lt h] at e
  exact e
theorem size_list (s : ByteArray) : s.data.toList.length = s.size := Array.length_toList

set_option maxRecDepth 100000 in
set_option maxHeartbeats 1600000 in
theorem sum (s : ByteArray) (w : World) (hs : s.size ≤ 9223372036854775807) :
    Calls Tryz.prog 14 #[.string s] w fun e w' => e = .returned (.int .i64 (sumL s.data.toList)) ∧ Ext w w' := by
  have hcv := fun (w : World) => Lib.run_convert_string_bytes (P := Tryz.prog) w 9 44 5 s Tryz.underlying9 Tryz.underlying44 Tryz.underlying5
  have Hc := hide fun j hj => Lib.bytesWorld_cell w 5 s j hj
  have Hx := hide (Ext.bytes w 5 s)
  have Hz := hide (size_list s)
  go_enter Tryz.func14, Tryz.ntmps14
  go_wp2
  go_loop [3, 10] (fun n i => ∃ (k m : Nat), k ≤ s.size ∧ i = .int .i64 k ∧ n = .int .u32 m ∧ m < 4294967296 ∧ Hid (m = (s.data.toList.take k).foldl crcByte 4294967295)) (fun _ i => s.size - (intOf i).toNat)
  case atStart => exact ⟨0, 4294967295, Nat.zero_le _, rfl, rfl, by omega, rfl⟩
  case round =>
    obtain ⟨k, m, hk, rfl, rfl, hm, hacc⟩ := hrel
    by_cases hlt : k < s.size
    · have g := unhide Hc k hlt
      rw [List.getD_eq_getElem?_getD] at g
      have hs1 := crc_succ (l := s.data.toList) (k := k) (by rw [unhide Hz]; exact hlt) 4294967295
      rw [← hacc.out] at hs1
      have Hs := hide hs1; clear hs1
      generalize s.data.toList[k]?.getD 0 = c at *
      have hx := crcXor_lt c hm
      have hc := c.toNat_lt
      have e1 : bits .xor .u32 (m : Int) (c.toNat : Int) = ((m ^^^ c.toNat : Nat) : Int) := u32_xor_nat m c.toNat hm (by omega)
      go_wp2
      go_loop [3, 18] (fun n i => ∃ (j q : Nat), j ≤ 8 ∧ i = .int .i64 j ∧ n = .int .u32 q ∧ q < 4294967296 ∧ Hid (crcBits (8 - j) q = crcByte m c)) (fun _ i => 8 - (intOf i).toNat)
      case atStart => exact ⟨0, m ^^^ c.toNat, Nat.zero_le _, rfl, rfl, hx, rfl⟩
      case round =>
        obtain ⟨j, q, hj, rfl, rfl, hq, hin⟩ := hrel
        by_cases hltj : j < 8
        · have hq2 : q / 2 < 4294967296 := by omega
          have hA : bits .and .u32 (q : Int) 1 = ((q % 2 : Nat) : Int) := by have := u32_and_nat q 1 hq (by omega); rwa [Nat.and_one_is_mod] at this
          have hX : bits .xor .u32 ((q : Int) / 2) 3988292384 = ((q / 2 ^^^ 3988292384 : Nat) : Int) := u32_xor_nat (q / 2) 3988292384 hq2 (by omega)
          have hB := hide (crcBit_lt hq)
          have hN : Hid (crcBits (8 - (j + 1)) (crcBit q) = crcByte m c) := by
            have := hin.out
            rw [show 8 - j = (8 - (j + 1)) + 1 by omega] at this
            exact this
          by_cases hodd : q % 2 = 1
          · have h1 : (bits .and .u32 (q : Int) 1 == 1) = true := by rw [hA, hodd]; rfl
            have hE := hide (show crcBit q = q / 2 ^^^ 3988292384 by rw [crcBit, if_pos hodd])
            clear hA
            replace hodd := hide hodd
            go_wp2
            go_round
            case rel => exact ⟨j + 1, crcBit q, by omega, by go_num, by rw [unhide hE], hB.out, hN⟩
            case measure => simp [intOf]; omega
          · have h1 : (bits .and .u32 (q : Int) 1 == 1) = false := by rw [hA, show q % 2 = 0 by omega]; rfl
            have hE := hide (show crcBit q = q / 2 by rw [crcBit, if_neg hodd])
            clear hA
            replace hodd := hide hodd
            go_wp2
            go_round
            case rel => exact ⟨j + 1, crcBit q, by omega, by go_num, by rw [unhide hE]; rfl, hB.out, hN⟩
            case measure => simp [intOf]; omega
        · obtain rfl : j = 8 := by omega
          go_wp2
          go_round
          case rel => exact ⟨k + 1, q, by omega, by go_num, rfl, hq, by have := hin.out; rw [← unhide Hs] at this; exact this⟩
          case measure => simp [intOf]; omega
    · have Hl : Hid (s.data.toList.take k = s.data.toList) := List.take_of_length_le (by rw [unhide Hz]; omega)
      have e1 : bits .xor .u32 IntKind.u32.max (m : Int) = ((4294967295 - m : Nat) : Int) := by rw [← not32 hm]; exact u32_xor_nat 4294967295 m (by omega) hm
      have e2 : wrap64 ((4294967295 - m : Nat) : Int) = 4294967295 - (m : Int) := by unfold wrap64; omega
      go_wp2
      go_ret
      refine ⟨retI ?_, Hx.out⟩
      rw [sumL, crcL, ← unhide Hl, ← hacc.out]

theorem i64_xor32 (a b : Nat) (ha : a < 4294967296) (hb : b < 4294967296) : bits .xor .i64 (a : Int) (b : Int) = ((a ^^^ b : Nat) : Int) := by
  have hx : a ^^^ b < 2 ^ 32 := Nat.xor_lt_two_pow (by omega) (by omega)
  have e : ∀ n : Nat, n < 4294967296 → (BitVec.ofInt 64 (n : Int)).toNat = n := fun n hn => by
    rw [BitVec.ofInt_natCast, BitVec.toNat_ofNat]; exact Nat.mod_eq_of_lt (by omega)
  show IntKind.i64.wrap ((BitVec.ofInt 64 (a : Int) ^^^ BitVec.ofInt 64 (b : Int)).toNat : Int) = _
  rw [BitVec.toNat_xor, e a ha, e b hb, IntKind.wrap_i64]
  omega

set_option maxRecDepth 100000 in
set_option maxHeartbeats 1600000 in
theorem refSum (s : ByteArray) (w : World) (hs : s.size ≤ 9223372036854775807) :
    Calls Tryz.prog 19 #[.string s] w fun e w' => e = .returned (.int .i64 (sumL s.data.toList)) ∧ w' = w := by
  have Hz := hide (size_list s)
  go_enter Tryz.func19, Tryz.ntmps19
  go_wp2
  go_loop [3, 4] (fun n i => ∃ (k m : Nat), k ≤ s.size ∧ i = .int .i64 k ∧ n = .int .i64 m ∧ m < 4294967296 ∧ Hid (m = (s.data.toList.take k).foldl crcByte 4294967295)) (fun _ i => s.size - (intOf i).toNat)
  case atStart => exact ⟨0, 4294967295, Nat.zero_le _, rfl, rfl, by omega, rfl⟩
  case round =>
    obtain ⟨k, m, hk, rfl, rfl, hm, hacc⟩ := hrel
    by_cases hlt : k < s.size
    · have hlt' : k < s.data.toList.length := by rw [unhide Hz]; exact hlt
      have hs1 := crc_succ (l := s.data.toList) (k := k) hlt' 4294967295
      have hxx : s.data.toList[k]?.getD 0 = s[k] := by rw [List.getElem?_eq_getElem hlt']; rfl
      rw [← hacc.out, hxx] at hs1
      have Hs := hide hs1; clear hs1 hxx
      generalize hc0 : s[k] = c at *
      have hx := crcXor_lt c hm
      have hc := c.toNat_lt
      have e1 : bits .xor .i64 (m : Int) (c.toNat : Int) = ((m ^^^ c.toNat : Nat) : Int) := i64_xor32 m c.toNat hm (by omega)
      go_wp2
      go_loop [3, 5] (fun n i => ∃ (j q : Nat), j ≤ 8 ∧ i = .int .i64 j ∧ n = .int .i64 q ∧ q < 4294967296 ∧ Hid (crcBits (8 - j) q = crcByte m c)) (fun _ i => 8 - (intOf i).toNat)
      case atStart => exact ⟨0, m ^^^ c.toNat, Nat.zero_le _, rfl, rfl, hx, rfl⟩
      case round =>
        obtain ⟨j, q, hj, rfl, rfl, hq, hin⟩ := hrel
        by_cases hltj : j < 8
        · have hq2 : q / 2 < 4294967296 := by omega
          have hX : bits .xor .i64 ((q : Int) / 2) 3988292384 = ((q / 2 ^^^ 3988292384 : Nat) : Int) := i64_xor32 (q / 2) 3988292384 hq2 (by omega)
          have hB := hide (crcBit_lt hq)
          have hN : Hid (crcBits (8 - (j + 1)) (crcBit q) = crcByte m c) := by
            have := hin.out
            rw [show 8 - j = (8 - (j + 1)) + 1 by omega] at this
            exact this
          by_cases hodd : q % 2 = 1
          · have h1 : ((q : Int) % 2 == 1) = true := by simp; omega
            have hE := hide (show crcBit q = q / 2 ^^^ 3988292384 by rw [crcBit, if_pos hodd])
            replace hodd := hide hodd
            go_wp2
            go_round
            case rel => exact ⟨j + 1, crcBit q, by omega, by go_num, by rw [unhide hE], hB.out, hN⟩
            case measure => simp [intOf]; omega
          · have h1 : ((q : Int) % 2 == 1) = false := by simp; omega
            have hE := hide (show crcBit q = q / 2 by rw [crcBit, if_neg hodd])
            replace hodd := hide hodd
            go_wp2
            go_round
            case rel => exact ⟨j + 1, crcBit q, by omega, by go_num, by rw [unhide hE]; rfl, hB.out, hN⟩
            case measure => simp [intOf]; omega
        · obtain rfl : j = 8 := by omega
          go_wp2
          go_round
          case rel => exact ⟨k + 1, q, by omega, by go_num, rfl, hq, by have := hin.out; rw [← unhide Hs] at this; exact this⟩
          case measure => simp [intOf]; omega
    · have Hl : Hid (s.data.toList.take k = s.data.toList) := List.take_of_length_le (by rw [unhide Hz]; omega)
      go_wp2
      go_ret
      refine ⟨retI ?_, rfl⟩
      rw [sumL, crcL, ← unhide Hl, ← hacc.out]
end Go.Proofs.YtkjjfdejfihpfaaGreat
