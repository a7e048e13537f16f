/-
  The small functions of bytes and words: what each answers.
-/
/-
  Plain facts on the order of texts: Go's '<' and '==' on strings against strings.Compare's number.
-/
import Derived.Test.YtmgpjbhhlbjahaaBase
namespace Go.Proofs.Ytmgpjbhhlbjahaa
open Go.RowKit

set_option maxHeartbeats 400000 in
theorem isLetter (c : Int) (w : World) :
    Calls Try.prog 44 #[.int .u8 c] w fun e w' => e = .returned (.bool (isLetterB c)) ∧ w' = w := by
  go_enter Try.func44, Try.ntmps44
  go_wp2
  all_goals (go_ret; exact ⟨retB (by rw [Bool.eq_iff_iff]; simp [isLetterB]; omega), rfl⟩)

set_option maxHeartbeats 400000 in
theorem isDigit (c : Int) (w : World) :
    Calls Try.prog 52 #[.int .u8 c] w fun e w' => e = .returned (.bool (isDigitB c)) ∧ w' = w := by
  go_enter Try.func52, Try.ntmps52
  go_wp2
  all_goals (go_ret; exact ⟨retB (by rw [Bool.eq_iff_iff]; simp [isDigitB]; omega), rfl⟩)

set_option maxHeartbeats 400000 in
theorem isWordByte (c : Int) (w : World) :
    Calls Try.prog 46 #[.int .u8 c] w fun e w' => e = .returned (.bool (isInnerB c)) ∧ w' = w := by
  go_enter Try.func46, Try.ntmps46
  go_wp2_with (first | (go_at_call 44; refine (isLetter c _).mono ?_; rintro e w' ⟨rfl, rfl⟩) | (go_at_call 52; refine (isDigit c _).mono ?_; rintro e w' ⟨rfl, rfl⟩))
  all_goals (go_ret; exact ⟨retB (by simp [isInnerB, *]), rfl⟩)

theorem all_take_succ {l : List UInt8} {p : UInt8 → Bool} {k : Nat} (h : k < l.length) (ha : (l.take k).all p = true) : (l.take (k + 1)).all p = p (l[k]?.getD 0) := by
  rw [List.take_succ_eq_append_getElem h, List.all_append, ha]; simp [h]
theorem all_false_of {l : List UInt8} {p : UInt8 → Bool} {k : Nat} (h : k < l.length) (hp : p (l[k]?.getD 0) = false) : l.all p = false := by
  rw [List.all_eq_false]; exact ⟨l[k], List.getElem_mem h, by simpa [h] using hp⟩

set_option maxHeartbeats 400000 in
theorem everyWord (b off cap n : Nat) (l : List UInt8) (w : World) (hn : l.length = n) (hl : l.length ≤ 1000000) (hc : ∀ i, i < l.length → w.cell? ⟨b, off + i, none⟩ = some (.int .u8 ((l[i]?.getD 0).toNat : Int))) :
    Calls Try.prog 45 #[.slice (some ⟨b, off, none⟩) n cap, .func (.func 46) #[] #[]] w fun e w' => e = .returned (.bool (l.all fun c => isInnerB (c.toNat : Int))) ∧ w' = w := by
  subst hn
  go_enter Try.func45, Try.ntmps45
  go_wp2
  go_loop [9] (fun i => ∃ k : Nat, k ≤ l.length ∧ i = .int .i64 k ∧ Hid ((l.take k).all fun c => isInnerB (c.toNat : Int))) (fun i => l.length - (intOf i).toNat)
  case atStart => exact ⟨0, Nat.zero_le _, rfl, by simp [Hid]⟩
  case round =>
    obtain ⟨k, hk, rfl, hall⟩ := hrel
    by_cases hlt : k < l.length
    · have g := hc k hlt
      have hs := all_take_succ (p := fun c => isInnerB (c.toNat : Int)) hlt hall.out
      have hf := all_false_of (p := fun c => isInnerB (c.toNat : Int)) hlt
      have Hs := hide hs; have Hf := hide hf; clear hs hf
      generalize l[k]?.getD 0 = x at *
      go_wp2_with (go_at_call 46; refine (isWordByte _ _).mono ?_; rintro e w' ⟨rfl, rfl⟩)
      · go_ret
        exact ⟨retB (unhide Hf (by simp_all)).symm, rfl⟩
      · go_round
        case rel => exact ⟨k + 1, by omega, by go_num, by rw [unhide Hs]; simp_all⟩
        case measure => simp [intOf]; omega
    · have Hl := hide (show l.take k = l from List.take_of_length_le (by omega))
      go_wp2
      go_ret
      exact ⟨retB (by rw [unhide Hl] at hall; exact hall.out.symm), rfl⟩

end Go.Proofs.Ytmgpjbhhlbjahaa

namespace Go.Proofs.Ytmgpjbhhlbjahaa
open Go.RowKit

theorem cmpB_self : ∀ a : List UInt8, Lib.compareBytes a a = 0
  | [] => rfl
  | a :: l => by simp [Lib.compareBytes, cmpB_self l]
theorem u8_lt_irrefl (a : UInt8) : ¬ a < a := by simp
theorem cmpB_eq : ∀ a b : List UInt8, (a == b) = decide (Lib.compareBytes a b = 0)
  | [], [] => by simp [Lib.compareBytes]
  | [], _ :: _ => by simp [Lib.compareBytes]
  | _ :: _, [] => by simp [Lib.compareBytes]
  | a :: x, b :: y => by
    have ih := cmpB_eq x y
    simp only [Lib.compareBytes, List.cons_beq_cons]
    by_cases h : a < b
    · have : ¬ a = b := by rintro rfl; exact u8_lt_irrefl _ h
      simp [h, this]
    · by_cases h' : b < a
      · have : ¬ a = b := by rintro rfl; exact u8_lt_irrefl _ h'
        simp [h, h', this]
      · have : a = b := UInt8.le_antisymm (UInt8.not_lt.1 h') (UInt8.not_lt.1 h)
        subst this
        simp [h, ih]
theorem cmpS_zero {a b : ByteArray} : cmpS a b = 0 ↔ a = b := by
  have h := cmpB_eq a.data.toList b.data.toList
  constructor
  · intro hz
    unfold cmpS at hz
    rw [hz] at h
    have : a.data.toList = b.data.toList := by simpa using h
    cases a; cases b; simpa [Array.toList_inj] using this
  · rintro rfl; exact cmpB_self _
end Go.Proofs.Ytmgpjbhhlbjahaa
