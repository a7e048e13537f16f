/-
  What is written is read again: both readers.
-/
import Derived.Test.YtokogjhcgdhapaaRefDec
import Derived.Test.YtokogjhcgdhapaaInv0
namespace Go.Proofs.Ytokogjhcgdhapaa
open Go.RowKit

theorem emptyB_eq {x : Resd} (h : emptyB x = true) : x = noRes := by
  obtain ⟨⟨k, n⟩, a, f⟩ := x
  simp only [emptyB, Bool.and_eq_true, List.isEmpty_iff] at h
  obtain ⟨⟨⟨h1, h2⟩, h3⟩, h4⟩ := h
  subst h3 h4
  have e1 : k = ⟨#[]⟩ := by apply ByteArray.ext; apply Array.toList_inj.1; exact h1
  have e2 : n = ⟨#[]⟩ := by apply ByteArray.ext; apply Array.toList_inj.1; exact h2
  rw [e1, e2]; rfl
theorem rec_none {r : Recd} (h : recB r = true) (hk : r.kind ≠ 2) : r.op = 0 ∧ r.res = noRes := by
  have hn : noneB r = true := by
    simp only [recB, Bool.and_eq_true] at h
    have h2 := h.2
    split at h2
    · simp only [Bool.and_eq_true] at h2; exact h2.2
    · split at h2
      · exact h2
      · cases h2
  simp only [noneB, Bool.and_eq_true, beq_iff_eq] at hn
  exact ⟨hn.1, emptyB_eq hn.2⟩
theorem rdRec_inv {r : Recd} (h : recB r = true) : rdRec (recL r) = r := by
  obtain ⟨b1, b2, b3, b4, b5, b6⟩ := rec_in h
  have n1 := num1 r.kind
  have n2 := num3 r.epoch
  have n3 := num3 r.number
  have n4 := num1 r.op
  unfold rdRec recL
  rw [List.append_assoc, List.append_assoc, take_big, drop_big, take_big, drop_big, take_big, drop_big]
  by_cases hk : r.kind = 2
  · obtain ⟨hm, o1, o2⟩ := rec_step h hk
    rw [if_pos hk, if_pos (by omega), take_big, drop_big]
    have := rdRes_inv hm []
    rw [List.append_nil] at this
    have k1 : (numN (bigL 1 r.kind) : Int) = r.kind := by omega
    have k2 : (numN (bigL 3 r.epoch) : Int) = r.epoch := by omega
    have k3 : (numN (bigL 3 r.number) : Int) = r.number := by omega
    have k4 : (numN (bigL 1 r.op) : Int) = r.op := by omega
    rw [this, k1, k2, k3, k4]
  · obtain ⟨e1, e2⟩ := rec_none h hk
    have k1 : (numN (bigL 1 r.kind) : Int) = r.kind := by omega
    have k2 : (numN (bigL 3 r.epoch) : Int) = r.epoch := by omega
    have k3 : (numN (bigL 3 r.number) : Int) = r.number := by omega
    rw [if_neg hk, if_neg (by omega), k1, k2, k3, ← e1, ← e2]

/-! The reference's reader: at a place behind which something was written. -/
theorem rfRec_inv {r : Recd} (h : recB r = true) : rfRec (recL r) = r := by
  obtain ⟨b1, b2, b3, b4, b5, b6⟩ := rec_in h
  have n1 := num1 r.kind
  have n2 := num3 r.epoch
  have n3 := num3 r.number
  have n4 := num1 r.op
  have h0 : (recL r).drop 0 = bigL 1 r.kind ++ (bigL 3 r.epoch ++ (bigL 3 r.number ++ (if r.kind = 2 then bigL 1 r.op ++ encR r.res else []))) := by
    rw [List.drop_zero, recL, List.append_assoc, List.append_assoc]
  obtain ⟨k1, h1⟩ := rfN_inv h0 (by omega)
  obtain ⟨k2, h2⟩ := rfN_inv h1 (by omega)
  obtain ⟨k3, h3⟩ := rfN_inv h2 (by omega)
  have e1 : (numN (bigL 1 r.kind) : Int) = r.kind := by omega
  have e2 : (numN (bigL 3 r.epoch) : Int) = r.epoch := by omega
  have e3 : (numN (bigL 3 r.number) : Int) = r.number := by omega
  unfold rfRec
  rw [show (0 + 1 : Nat) = 1 from rfl] at k2 h1 h2 k3
  rw [show (1 + 3 : Nat) = 4 from rfl] at k3 h3 h2
  rw [k1, k2, k3, e1, e2, e3]
  by_cases hk : r.kind = 2
  · obtain ⟨hm, o1, o2⟩ := rec_step h hk
    rw [if_pos hk] at h3
    obtain ⟨k4, h4⟩ := rfN_inv h3 (by omega)
    have e4 : (numN (bigL 1 r.op) : Int) = r.op := by omega
    have h4' : (recL r).drop 8 = encR r.res ++ [] := by rw [List.append_nil]; exact h4
    have k4' : rfN (recL r) 7 1 = numN (bigL 1 r.op) := k4
    rw [if_pos (by omega), k4', e4, rfRes_inv hm h4']
  · obtain ⟨e4, e5⟩ := rec_none h hk
    rw [if_neg (by omega), ← e4, ← e5]
/-- The two readers come to the same. -/
theorem dec_same (l : List UInt8) : decOf (rfRec l) l = decOf (rdRec l) l := by
  unfold decOf
  by_cases h1 : recB (rdRec l) = true ∧ recL (rdRec l) = l
  · have e : rfRec l = rdRec l := by
      have := rfRec_inv h1.1
      rw [h1.2] at this
      exact this
    rw [e]
  · rw [if_neg h1]
    by_cases h2 : recB (rfRec l) = true ∧ recL (rfRec l) = l
    · have e : rdRec l = rfRec l := by
        have := rdRec_inv h2.1
        rw [h2.2] at this
        exact this
      rw [e] at h1
      exact absurd h2 h1
    · rw [if_neg h2]
end Go.Proofs.Ytokogjhcgdhapaa
