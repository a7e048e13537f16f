/-
  The reader of bytes: what its methods answer.
-/
import Derived.Test.YtkjjfdejfihpfaaGreatJ2
import Derived.Test.YtkjjfdejfihpfaaGreatWire
import Derived.Laws.BitsAllLaws
namespace Go.Proofs.YtkjjfdejfihpfaaGreat
open Go.RowKit

/-- A reader, and what it has still to read. -/
def RdAt (w : World) (R : Nat) (s : ByteArray) : Prop := w.heap[R]? = some (.cells #[.string s] 118 (0, 0))
/-- Only readers from R on have turned. -/
abbrev WroteR (R : Nat) (w w' : World) : Prop := Wrote R (· = 118) w w'
theorem RdAt.cell {w : World} {R : Nat} {s : ByteArray} (h : RdAt w R s) : w.cell? ⟨R, 0, none⟩ = some (.string s) := by unfold RdAt at h; simp [World.cell?, h]
theorem RdAt.frozen {w : World} {R : Nat} {s : ByteArray} (h : RdAt w R s) (j : Nat) : w.frozen? ⟨R, j, none⟩ = false := by unfold RdAt at h; simp [World.frozen?, h]
theorem RdAt.ext {w w' : World} {R : Nat} {s : ByteArray} (h : RdAt w R s) (e : Ext w w') : RdAt w' R s := by
  obtain ⟨_, _, _, _, h5⟩ := e
  unfold RdAt at h ⊢
  rw [h5 R (Array.getElem?_eq_some_iff.1 h).1]; exact h
theorem RdAt.set {w : World} {R : Nat} {s : ByteArray} (h : RdAt w R s) (s' : ByteArray) : RdAt (w.setCell ⟨R, 0, none⟩ (.string s')) R s' := by
  unfold RdAt at h ⊢
  simp [World.setCell, Array.getElem?_modify, h]
theorem RdAt.wrote {w : World} {R : Nat} {s : ByteArray} (h : RdAt w R s) (s' : ByteArray) : WroteR R w (w.setCell ⟨R, 0, none⟩ (.string s')) :=
  (Wrote.refl R (· = 118) w).setCell (p := ⟨R, 0, none⟩) (Nat.le_refl _) h rfl _

/-- What is left to read behind a call, and what the call has turned. -/
structure Left (w w' : World) (R : Nat) (s : ByteArray) (l : List UInt8) : Prop where
  at_ : RdAt w' R s
  list : s.data.toList = l
  wrote : WroteR R w w'
  few : s.size ≤ 9223372036854775807
theorem ex_take (s : ByteArray) (n : Nat) : (s.extract 0 n).data.toList = s.data.toList.take n := by
  rw [ByteArray.data_extract]; simp
theorem ex_drop (s : ByteArray) (n : Nat) : (s.extract n s.size).data.toList = s.data.toList.drop n := by
  rw [ByteArray.data_extract]; simp
  rw [List.take_of_length_le]
  rw [List.length_drop]
  have : s.data.toList.length = s.size := Array.length_toList
  simp at this ⊢
theorem ba_len (s : ByteArray) : s.data.toList.length = s.size := Array.length_toList

set_option maxRecDepth 100000 in
set_option maxHeartbeats 800000 in
theorem take (R : Nat) (s : ByteArray) (n : Nat) (w : World) (hR : RdAt w R s) (hs : s.size ≤ 9223372036854775807) (hn : n ≤ 4294967296) :
    Calls Tryz.prog 46 #[.pointer (some ⟨R, 0, none⟩), .int .i64 n] w fun e w' => ∃ t s' : ByteArray, e = .returned (.string t) ∧ Hid (t.data.toList = s.data.toList.take n) ∧ Hid (Left w w' R s' (s.data.toList.drop n)) := by
  have c0 := hR.cell
  have f0 := hR.frozen 0
  replace hR := hide hR
  have hlen := hide (ba_len s)
  go_enter Tryz.func46, Tryz.ntmps46
  by_cases h : s.size < n
  · go_wp2_with fail
    go_ret
    refine ⟨s, ByteArray.empty, rfl, ?_, ⟨hR.out.set _, ?_, hR.out.wrote _, by decide⟩⟩
    · show _ = _; rw [List.take_of_length_le (by rw [hlen.out]; omega)]
    · rw [List.drop_of_length_le (by rw [hlen.out]; omega)]; rfl
  · go_wp2_with fail
    go_ret
    refine ⟨s.extract 0 n, s.extract n s.size, rfl, ex_take s n, ⟨hR.out.set _, ex_drop s n, hR.out.wrote _, ?_⟩⟩
    have := ba_len (s.extract n s.size)
    rw [ex_drop, List.length_drop, ba_len] at this
    omega

/-- The number of bytes, the highest first. -/
def numN (l : List UInt8) : Nat := l.foldl (fun n b => n * 256 + b.toNat) 0
/-- What the reading of a number answers. -/
def NumIs (w : World) (R : Nat) (s : ByteArray) (size : Nat) (e : Ending) (w' : World) : Prop :=
  ∃ (n : Nat) (s' : ByteArray), e = .returned (.int .i64 n) ∧ Hid (n = numN (s.data.toList.take size)) ∧ n < 4294967296 ∧ Hid (Left w w' R s' (s.data.toList.drop size))
/-- What the reading of a text answers. -/
def TxtIs (w : World) (R : Nat) (s : ByteArray) (e : Ending) (w' : World) : Prop :=
  ∃ t s' : ByteArray, e = .returned (.string t) ∧ Hid (t.data.toList = (s.data.toList.drop 1).take (numN (s.data.toList.take 1))) ∧ t.size ≤ 255 ∧ Hid (Left w w' R s' ((s.data.toList.drop 1).drop (numN (s.data.toList.take 1))))
theorem i64_or (m c : Nat) (hm : m < 4294967296) (hc : c < 256) : bits .or .i64 ((m : Int) * 256) (c : Int) = ((m * 256 + c : Nat) : Int) := by
  have e : ∀ n : Nat, n < 9223372036854775808 → (BitVec.ofInt 64 (n : Int)).toNat = n := fun n hn => by
    rw [BitVec.ofInt_natCast, BitVec.toNat_ofNat]; exact Nat.mod_eq_of_lt (by omega)
  have e1 : ((m : Int) * 256) = ((m * 256 : Nat) : Int) := by omega
  rw [e1]
  show IntKind.i64.wrap ((BitVec.ofInt 64 ((m * 256 : Nat) : Int) ||| BitVec.ofInt 64 (c : Int)).toNat : Int) = _
  rw [BitVec.toNat_or, e _ (by omega), e c (by omega), IntKind.wrap_i64]
  have h := Nat.shiftLeft_add_eq_or_of_lt (i := 8) (b := c) (by omega) m
  rw [Nat.shiftLeft_eq] at h
  have h2 : m * 2 ^ 8 = m * 256 := by rfl
  rw [h2] at h
  rw [← h]
  omega
theorem num_lt : ∀ (k : Nat) (l : List UInt8), l.length ≤ k → numN l < 256 ^ k
  | 0, l, h => by
    obtain rfl : l = [] := List.eq_nil_of_length_eq_zero (by omega)
    decide
  | k + 1, l, h => by
    rcases List.eq_nil_or_concat l with rfl | ⟨l', c, hl⟩
    · exact Nat.pow_pos (by decide)
    · rw [List.concat_eq_append] at hl
      subst hl
      have h1 := num_lt k l' (by simp at h; omega)
      have h2 := c.toNat_lt
      simp only [numN, List.foldl_append, List.foldl_cons, List.foldl_nil] at h1 ⊢
      rw [Nat.pow_succ]; omega

set_option maxRecDepth 100000 in
set_option maxHeartbeats 1600000 in
theorem number (R : Nat) (s : ByteArray) (size : Nat) (w : World) (hR : RdAt w R s) (hs : s.size ≤ 9223372036854775807) (hn : size ≤ 4) :
    Calls Tryz.prog 47 #[.pointer (some ⟨R, 0, none⟩), .int .i64 size] w (NumIs w R s size) := by
  replace hR := hide hR
  go_enter Tryz.func47, Tryz.ntmps47
  go_wp2_with fail
  refine (take R s size _ hR.out hs (by omega)).mono ?_
  rintro e w1 ⟨t, s', rfl, ht, hL⟩
  have htz : t.size ≤ 4 := by rw [← ba_len, ht.out, List.length_take]; omega
  have hcv := fun (w : World) => Lib.run_convert_string_bytes (P := Tryz.prog) w 9 44 5 t Tryz.underlying9 Tryz.underlying44 Tryz.underlying5
  have Hc := hide fun j hj => Lib.bytesWorld_cell w1 5 t j hj
  have Hx := hide (Ext.bytes w1 5 t)
  have Hz := hide (ba_len t)
  go_wp2_with fail
  go_loop [5, 13] (fun n i => ∃ (k m : Nat), k ≤ t.size ∧ i = .int .i64 k ∧ n = .int .i64 m ∧ m < 4294967296 ∧ Hid (m = numN (t.data.toList.take k))) (fun _ i => t.size - (intOf i).toNat)
  case atStart => exact ⟨0, 0, Nat.zero_le _, rfl, rfl, by omega, rfl⟩
  case round =>
    obtain ⟨k, m, hk, rfl, rfl, hm, hacc⟩ := hrel
    by_cases hlt : k < t.size
    · have g := unhide Hc k hlt
      rw [List.getD_eq_getElem?_getD] at g
      have hlt' : k < t.data.toList.length := by rw [unhide Hz]; exact hlt
      have hs1 : numN (t.data.toList.take (k + 1)) = numN (t.data.toList.take k) * 256 + (t.data.toList[k]?.getD 0).toNat := by
        unfold numN; rw [List.take_succ_eq_append_getElem hlt', List.foldl_append, List.getElem?_eq_getElem hlt']; rfl
      have hm2 : m < 16777216 := by
        have := num_lt 3 (t.data.toList.take k) (by rw [List.length_take]; omega)
        rw [← hacc.out] at this; exact this
      rw [← hacc.out] at hs1
      have Hs := hide hs1; clear hs1
      generalize t.data.toList[k]?.getD 0 = c at *
      have hc := c.toNat_lt
      have e1 : bits .or .i64 ((m : Int) * 256) (c.toNat : Int) = ((m * 256 + c.toNat : Nat) : Int) := i64_or m c.toNat hm (by omega)
      have hm3 : m * 256 + c.toNat < 4294967296 := by omega
      generalize hq : m * 256 + c.toNat = q at *
      replace hq := hide hq
      go_wp2
      go_round
      case rel => exact ⟨k + 1, q, by omega, by go_num, rfl, hm3, Hs.out.symm⟩
      case measure => simp [intOf]; omega
    · have Hl : Hid (t.data.toList.take k = t.data.toList) := List.take_of_length_le (by rw [unhide Hz]; omega)
      go_wp2
      go_ret
      refine ⟨m, s', rfl, ?_, hm, ⟨hL.out.at_.ext Hx.out, hL.out.list, hL.out.wrote.then Hx.out, hL.out.few⟩⟩
      show _ = _
      rw [hacc.out, Hl.out, ht.out]

set_option maxRecDepth 100000 in
set_option maxHeartbeats 800000 in
theorem text (R : Nat) (s : ByteArray) (w : World) (hR : RdAt w R s) (hs : s.size ≤ 9223372036854775807) :
    Calls Tryz.prog 84 #[.pointer (some ⟨R, 0, none⟩)] w (TxtIs w R s) := by
  replace hR := hide hR
  go_enter Tryz.func84, Tryz.ntmps84
  go_wp2_with fail
  refine (number R s 1 _ hR.out hs (by omega)).mono ?_
  rintro e w1 ⟨n, s1, rfl, hn, hn2, hL⟩
  have hn3 : n < 256 := by
    have := num_lt 1 (s.data.toList.take 1) (by rw [List.length_take]; omega)
    rw [← hn.out] at this; exact this
  have hL1 := hide hL.out.list
  go_wp2_with fail
  refine (take R s1 n _ hL.out.at_ hL.out.few (by omega)).mono ?_
  rintro e w2 ⟨t, s2, rfl, ht, hL2⟩
  go_wp2
  go_ret
  refine ⟨t, s2, rfl, ?_, ?_, ⟨hL2.out.at_, ?_, hL.out.wrote.trans hL2.out.wrote, hL2.out.few⟩⟩
  · show _ = _; rw [ht.out, hL1.out, hn.out]
  · rw [← ba_len, ht.out, List.length_take]; omega
  · rw [hL2.out.list, hL1.out, hn.out]
end Go.Proofs.YtkjjfdejfihpfaaGreat
