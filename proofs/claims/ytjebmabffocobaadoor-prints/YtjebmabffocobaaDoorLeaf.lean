/-
  The small functions of bytes and words: what each answers.
-/
import Derived.Test.YtjebmabffocobaaDoorBase
namespace Go.Proofs.YtjebmabffocobaaDoor
open Go.RowKit

set_option maxHeartbeats 400000 in
theorem isLetter (c : Int) (w : World) :
    Calls Tryd.prog 50 #[.int .u8 c] w fun e w' => e = .returned (.bool (isLetterB c)) ∧ w' = w := by
  go_enter Tryd.func50, Tryd.ntmps50
  go_wp2
  all_goals (go_ret; exact ⟨retB (by rw [Bool.eq_iff_iff]; simp [isLetterB]; omega), rfl⟩)

set_option maxHeartbeats 400000 in
theorem isDigit (c : Int) (w : World) :
    Calls Tryd.prog 59 #[.int .u8 c] w fun e w' => e = .returned (.bool (isDigitB c)) ∧ w' = w := by
  go_enter Tryd.func59, Tryd.ntmps59
  go_wp2
  all_goals (go_ret; exact ⟨retB (by rw [Bool.eq_iff_iff]; simp [isDigitB]; omega), rfl⟩)

set_option maxHeartbeats 400000 in
theorem isPlain (c : Int) (w : World) :
    Calls Tryd.prog 54 #[.int .u8 c] w fun e w' => e = .returned (.bool (isPlainB c)) ∧ w' = w := by
  go_enter Tryd.func54, Tryd.ntmps54
  go_wp2
  all_goals (go_ret; exact ⟨retB (by rw [Bool.eq_iff_iff]; simp [isPlainB]; omega), rfl⟩)

set_option maxHeartbeats 400000 in
theorem isWordByte (c : Int) (w : World) :
    Calls Tryd.prog 52 #[.int .u8 c] w fun e w' => e = .returned (.bool (isInnerB c)) ∧ w' = w := by
  go_enter Tryd.func52, Tryd.ntmps52
  go_wp2_with (first | (go_at_call 50; refine (isLetter c _).mono ?_; rintro e w' ⟨rfl, rfl⟩) | (go_at_call 59; refine (isDigit c _).mono ?_; rintro e w' ⟨rfl, rfl⟩))
  all_goals (go_ret; exact ⟨retB (by simp [isInnerB, *]), rfl⟩)

set_option maxHeartbeats 400000 in
theorem isTextByte (c : Int) (w : World) :
    Calls Tryd.prog 53 #[.int .u8 c] w fun e w' => e = .returned (.bool (isTextB c)) ∧ w' = w := by
  go_enter Tryd.func53, Tryd.ntmps53
  go_wp2_with (go_at_call 54; refine (isPlain c _).mono ?_; rintro e w' ⟨rfl, rfl⟩)
  all_goals (go_ret; exact ⟨retB (by simp [isTextB, *]), rfl⟩)

set_option maxHeartbeats 400000 in
theorem refLetter (c : Int) (w : World) :
    Calls Tryd.prog 58 #[.int .u8 c] w fun e w' => e = .returned (.bool (isLetterB c)) ∧ w' = w := by
  go_enter Tryd.func58, Tryd.ntmps58
  go_wp2
  all_goals (go_ret; exact ⟨retB (by rw [Bool.eq_iff_iff]; simp [isLetterB]; omega), rfl⟩)

set_option maxHeartbeats 400000 in
theorem refDigit (c : Int) (w : World) :
    Calls Tryd.prog 48 #[.int .u8 c] w fun e w' => e = .returned (.bool (isDigitB c)) ∧ w' = w := by
  go_enter Tryd.func48, Tryd.ntmps48
  go_wp2
  all_goals (go_ret; exact ⟨retB (by rw [Bool.eq_iff_iff]; simp [isDigitB]; omega), rfl⟩)

set_option maxHeartbeats 400000 in
theorem refInner (c : Int) (w : World) :
    Calls Tryd.prog 49 #[.int .u8 c] w fun e w' => e = .returned (.bool (isInnerB c)) ∧ w' = w := by
  go_enter Tryd.func49, Tryd.ntmps49
  go_wp2_with (first | (go_at_call 58; refine (refLetter c _).mono ?_; rintro e w' ⟨rfl, rfl⟩) | (go_at_call 48; refine (refDigit c _).mono ?_; rintro e w' ⟨rfl, rfl⟩))
  all_goals (go_ret; exact ⟨retB (by simp [isInnerB, *]), rfl⟩)

theorem all_take_succ {l : List UInt8} {p : UInt8 → Bool} {k : Nat} (h : k < l.length) (ha : (l.take k).all p = true) : (l.take (k + 1)).all p = p (l[k]?.getD 0) := by
  rw [List.take_succ_eq_append_getElem h, List.all_append, ha]; simp [h]
theorem all_false_of {l : List UInt8} {p : UInt8 → Bool} {k : Nat} (h : k < l.length) (hp : p (l[k]?.getD 0) = false) : l.all p = false := by
  rw [List.all_eq_false]; exact ⟨l[k], List.getElem_mem h, by simpa [h] using hp⟩

set_option maxHeartbeats 400000 in
theorem everyWord (b off cap n : Nat) (l : List UInt8) (w : World) (hn : l.length = n) (hl : l.length ≤ 1000000) (hc : ∀ i, i < l.length → w.cell? ⟨b, off + i, none⟩ = some (.int .u8 ((l[i]?.getD 0).toNat : Int))) :
    Calls Tryd.prog 51 #[.slice (some ⟨b, off, none⟩) n cap, .func (.func 52) #[] #[]] w fun e w' => e = .returned (.bool (l.all fun c => isInnerB (c.toNat : Int))) ∧ w' = w := by
  subst hn
  go_enter Tryd.func51, Tryd.ntmps51
  go_wp2
  go_loop [9] (fun i => ∃ k : Nat, k ≤ l.length ∧ i = .int .i64 k ∧ Hid ((l.take k).all fun c => isInnerB (c.toNat : Int))) (fun i => l.length - (intOf i).toNat)
  case atStart => exact ⟨0, Nat.zero_le _, rfl, by simp [Hid]⟩
  case round =>
    obtain ⟨k, hk, rfl, hall⟩ := hrel
    by_cases hlt : k < l.length
    · have g := hc k hlt
      have hs := all_take_succ (p := fun c => isInnerB (c.toNat : Int)) hlt hall.out
      have hf := all_false_of (p := fun c => isInnerB (c.toNat : Int)) hlt
      have Hs := hide hs; have Hf := hide hf; clear hs hf
      generalize l[k]?.getD 0 = x at *
      go_wp2_with (go_at_call 52; refine (isWordByte _ _).mono ?_; rintro e w' ⟨rfl, rfl⟩)
      · go_ret
        exact ⟨retB (unhide Hf (by simp_all)).symm, rfl⟩
      · go_round
        case rel => exact ⟨k + 1, by omega, by go_num, by rw [unhide Hs]; simp_all⟩
        case measure => simp [intOf]; omega
    · have Hl := hide (show l.take k = l from List.take_of_length_le (by omega))
      go_wp2
      go_ret
      exact ⟨retB (by rw [unhide Hl] at hall; exact hall.out.symm), rfl⟩

set_option maxHeartbeats 400000 in
theorem everyText (b off cap n : Nat) (l : List UInt8) (w : World) (hn : l.length = n) (hl : l.length ≤ 1000000) (hc : ∀ i, i < l.length → w.cell? ⟨b, off + i, none⟩ = some (.int .u8 ((l[i]?.getD 0).toNat : Int))) :
    Calls Tryd.prog 51 #[.slice (some ⟨b, off, none⟩) n cap, .func (.func 53) #[] #[]] w fun e w' => e = .returned (.bool (l.all fun c => isTextB (c.toNat : Int))) ∧ w' = w := by
  subst hn
  go_enter Tryd.func51, Tryd.ntmps51
  go_wp2
  go_loop [9] (fun i => ∃ k : Nat, k ≤ l.length ∧ i = .int .i64 k ∧ Hid ((l.take k).all fun c => isTextB (c.toNat : Int))) (fun i => l.length - (intOf i).toNat)
  case atStart => exact ⟨0, Nat.zero_le _, rfl, by simp [Hid]⟩
  case round =>
    obtain ⟨k, hk, rfl, hall⟩ := hrel
    by_cases hlt : k < l.length
    · have g := hc k hlt
      have hs := all_take_succ (p := fun c => isTextB (c.toNat : Int)) hlt hall.out
      have hf := all_false_of (p := fun c => isTextB (c.toNat : Int)) hlt
      have Hs := hide hs; have Hf := hide hf; clear hs hf
      generalize l[k]?.getD 0 = x at *
      go_wp2_with (go_at_call 53; refine (isTextByte _ _).mono ?_; rintro e w' ⟨rfl, rfl⟩)
      · go_ret
        exact ⟨retB (unhide Hf (by simp_all)).symm, rfl⟩
      · go_round
        case rel => exact ⟨k + 1, by omega, by go_num, by rw [unhide Hs]; simp_all⟩
        case measure => simp [intOf]; omega
    · have Hl := hide (show l.take k = l from List.take_of_length_le (by omega))
      go_wp2
      go_ret
      exact ⟨retB (by rw [unhide Hl] at hall; exact hall.out.symm), rfl⟩
end Go.Proofs.YtjebmabffocobaaDoor
