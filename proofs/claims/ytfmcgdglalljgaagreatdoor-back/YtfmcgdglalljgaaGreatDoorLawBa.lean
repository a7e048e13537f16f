/-
  The law Back: what its walk leans on.
-/
import Derived.Test.YtfmcgdglalljgaaGreatDoorJ26
import Derived.Test.YtfmcgdglalljgaaGreatDoorJ9
import Derived.Test.YtfmcgdglalljgaaGreatDoorJ23
import Derived.Test.YtfmcgdglalljgaaGreatDoorLawLn
import Derived.Test.YtfmcgdglalljgaaGreatDoorJ10
import Derived.Test.YtfmcgdglalljgaaGreatDoorJ16
import Derived.Deep.DeepCutAuto
import Derived.Deep.CutBlock
namespace Go.Proofs.YtfmcgdglalljgaaGreatDoor
open Go.RowKit

attribute [local go_sem] Go.World.cell?_alloc_some
theorem fine_iffB {l : List Resd} : fineB l = true ↔ FineP l := by
  unfold fineB FineP
  rw [Bool.and_eq_true]
  constructor
  · rintro ⟨h1, h2⟩; exact ⟨h1, (whole_iff h1).1 h2⟩
  · rintro ⟨h1, h2⟩; exact ⟨h1, (whole_iff h1).2 h2⟩
theorem st_ok {n : Nat} {l : List Resd} (h0 : n < 1000000) (hf : FineP l) : stOk (1 + (n : Int)) l = true := by
  unfold stOk
  simp only [Bool.and_eq_true, decide_eq_true_eq]
  exact ⟨⟨by omega, by omega⟩, fine_iffB.2 hf⟩
theorem ld_back {e : Int} {l : List Resd} (h : stOk e l = true) : ldOf (rdEp (stateL e l)) (rdSt (stateL e l)) (stateL e l) = (e, l, 0) := by
  rw [(rd_inv h).1, (rd_inv h).2]; exact ld_yes h rfl
theorem ld_turn {e : Int} {l : List Resd} {i : Nat} {b d : UInt8} (hb : (stateL e l)[i]? = some b) (hd : d ≠ b) : ldOf (rdEp ((stateL e l).set i d)) (rdSt ((stateL e l).set i d)) ((stateL e l).set i d) = (0, [], 16) :=
  ld_no fun h => state_turn hb hd h.2
theorem ld_cut {e : Int} {l : List Resd} (h : stOk e l = true) : ldOf (rdEp ((stateL e l).take ((stateL e l).length - 1))) (rdSt ((stateL e l).take ((stateL e l).length - 1))) ((stateL e l).take ((stateL e l).length - 1)) = (0, [], 16) :=
  ld_no fun h' => state_cut h h'.1 h'.2
theorem ld_more {e : Int} {l : List Resd} {c : UInt8} (h : stOk e l = true) : ldOf (rdEp (stateL e l ++ [c])) (rdSt (stateL e l ++ [c])) (stateL e l ++ [c]) = (0, [], 16) :=
  ld_no fun h' => state_more h h'.1 h'.2
theorem stateL_size {e : Int} {l : List Resd} (h : stOk e l = true) : 12 ≤ (stateL e l).length ∧ (stateL e l).length ≤ 97004 := by
  have := stateB_len (epoch := e) (st_parts h).2.2
  unfold stateL
  rw [List.length_append, bigL_len]; omega
theorem rec_few {r : Recd} (h : recB r = true) : (recL r).length ≤ 8011 := by
  unfold recL
  rw [List.length_append, List.length_append, List.length_append, bigL_len, bigL_len, bigL_len]
  split
  · rename_i hk
    have := encR_len (rec_step h hk).1
    rw [List.length_append, bigL_len]; omega
  · simp
theorem rec_one {r : Recd} : 7 ≤ (recL r).length := by
  unfold recL
  rw [List.length_append, List.length_append, List.length_append, bigL_len, bigL_len, bigL_len]; omega
theorem six_is {n : Nat} {c : Int} (hn : n < 65536) (h0 : 0 ≤ c) (h1 : c ≤ 4294967295) : ∃ x0 x1 x2 x3 x4 x5 : UInt8, [x0, x1, x2, x3, x4, x5] = bigL 2 (n : Int) ++ bigL 4 c ∧ (n : Int) / 256 = (x0.toNat : Int) ∧ (n : Int) % 256 = (x1.toNat : Int) ∧ c / 16777216 = (x2.toNat : Int) ∧ c / 65536 % 256 = (x3.toNat : Int) ∧ c / 256 % 256 = (x4.toNat : Int) ∧ c % 256 = (x5.toNat : Int) := by
  have a0 := big_val (n : Int) 1; have a1 := big_val (n : Int) 0
  have b0 := big_val c 3; have b1 := big_val c 2; have b2 := big_val c 1; have b3 := big_val c 0
  refine ⟨_, _, _, _, _, _, rfl, ?_, ?_, ?_, ?_, ?_, ?_⟩
  · rw [a0]; simp; omega
  · rw [a1]; simp
  · rw [b0]; simp; omega
  · rw [b1]; simp
  · rw [b2]; simp
  · rw [b3]; simp
theorem farL {n : Nat} (h : n ≤ 1000000) : (9223372036854775807 < n) = False := by simp; omega
theorem wrapSub {n m k : Nat} (hm : m = n - k) (h2 : k ≤ n) (h : n ≤ 1000000) : IntKind.i64.wrap ((n : Int) - (k : Int)) = (m : Int) := by rw [IntKind.wrap_i64]; omega
theorem wrapSub1 {n : Nat} (h : n ≤ 1000000) : IntKind.i64.wrap ((n : Int) - 1) = (n : Int) - 1 := by rw [IntKind.wrap_i64]; omega
theorem wrapAdd2 {y j : Nat} (hj : j = 2 + y) (hy : y ≤ 1000000) : IntKind.i64.wrap (2 + (y : Int)) = (j : Int) := by rw [IntKind.wrap_i64]; omega
theorem wrapOne {y : Nat} (hy : y < 255) : IntKind.i64.wrap (1 + (y : Int)) = 1 + (y : Int) := by rw [IntKind.wrap_i64]; omega
theorem wrapOne8 {y : Nat} (hy : y < 255) : IntKind.u8.wrap (1 + (y : Int)) = 1 + (y : Int) := by rw [IntKind.wrap_u8]; omega
theorem wrapTwo {n : Nat} (h : n ≤ 1000000) : IntKind.i64.wrap (2 * (n : Int)) = 2 * (n : Int) := by rw [IntKind.wrap_i64]; omega
theorem turnOne {c : UInt8} {y : Nat} (hy : y < 255) : ∃ d : UInt8, d ≠ c ∧ bits .xor .u8 (c.toNat : Int) (1 + (y : Int)) = (d.toNat : Int) := by
  obtain ⟨d, hd, hx⟩ := byte_turn (c := c) (k := 1 + y) (by omega) (by omega)
  exact ⟨d, hd, by rw [← hx]; simp⟩
theorem intLt {a b : Nat} (h : a < b) : (a : Int) < (b : Int) := by omega
theorem intNn (a : Nat) : (0 : Int) ≤ (a : Int) := by omega
theorem predNn {n : Nat} (h : 1 ≤ n) : (0 : Int) ≤ (n : Int) - 1 := by omega
theorem predLe (n : Nat) : (n : Int) - 1 ≤ (n : Int) := by omega
theorem sub2 {n m : Nat} (hm : m = n - 2) (h : 13 ≤ n) (h' : n ≤ 8017) : 0 < m ∧ m ≤ 1000000 := by omega
theorem sub2lt {n m y j : Nat} (hm : m = n - 2) (hy : y < m) (hj : j = 2 + y) : 2 ≤ j ∧ j < n ∧ y ≤ n := by omega
/-- Bytes that are no state. -/
theorem LdIs.bad {w w' : World} {s : ByteArray} {e : Ending} (h : LdIs w (rdEp s.data.toList) (rdSt s.data.toList) s e w') (hn : ldOf (rdEp s.data.toList) (rdSt s.data.toList) s.data.toList = (0, [], 16)) : e = .returned (.tuple #[.int .i64 0, .slice none 0 0, .int .i64 16]) ∧ Hid (Ext w w') := by
  obtain ⟨ps, pa, cap, n, en, rfl, h1, h2, h3, h4, h5⟩ := h
  have h6 := h1.out
  rw [hn] at h6
  simp only [Prod.mk.injEq] at h6
  obtain ⟨rfl, h7, rfl⟩ := h6
  rcases h3 with h3 | ⟨-, rfl, rfl, rfl⟩
  · omega
  · exact ⟨rfl, h5⟩

theorem dec_ways {r q : Recd} {s : ByteArray} {en : Int} (h : decOf r s.data.toList = (q, en)) : (en = 0 ∧ recB q = true ∧ ⟨(recL q).toArray⟩ = s) ∨ en = 16 := by
  unfold decOf at h
  split at h
  · rename_i hc
    simp only [Prod.mk.injEq] at h
    obtain ⟨rfl, rfl⟩ := h
    exact .inl ⟨rfl, hc.1, by rw [hc.2]⟩
  · simp only [Prod.mk.injEq] at h
    exact .inr h.2.symm
/-- The if whose test lies in a slot, out of a body. -/
def findIf (t : Nat) : Code → Option Code
  | .cond o a b => match o with
    | .tmp k => if k = t then some (.cond o a b) else (findIf t a).orElse fun _ => findIf t b
    | _ => (findIf t a).orElse fun _ => findIf t b
  | .seq a b => (findIf t a).orElse fun _ => findIf t b
  | .block _ a => findIf t a
  | .scope a => findIf t a
  | .loop a => findIf t a
  | _ => none
/-- Is it that if? -/
def isIf (t : Nat) : Code → Bool
  | .cond (.tmp k) _ _ => k == t
  | .scope a => isIf t a
  | .block _ a => isIf t a
  | .seq _ b => isIf t b
  | _ => false
/-- What stands behind it. -/
def findRest (t : Nat) : Code → Option Code
  | .seq a b => if isIf t a then some b else (findRest t a).orElse fun _ => findRest t b
  | .block _ a => findRest t a
  | .scope a => findRest t a
  | _ => none
noncomputable def backIf : Code := (Tryz.f3.body.bind (findIf 147)).getD .skip
noncomputable def backRest : Code := (Tryz.f3.body.bind (findRest 147)).getD .skip
end Go.Proofs.YtfmcgdglalljgaaGreatDoor
