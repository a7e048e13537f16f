/-
  Words, strings, the order of IDs: what each function answers.
-/
import Derived.Test.YtokogjhcgdhapaaLeaf
import Derived.Test.YtokogjhcgdhapaaJ1
namespace Go.Proofs.Ytokogjhcgdhapaa
open Go.RowKit

theorem size_toList (s : ByteArray) : s.data.toList.length = s.size := Array.length_toList
theorem get_of_size {s : ByteArray} (h : 0 < s.size) : s.data.toList = s[0] :: s.data.toList.tail := by
  rcases s with ⟨⟨l⟩⟩
  cases l with
  | nil => simp [ByteArray.size] at h
  | cons a l => rfl
theorem wordB_of {s : ByteArray} (h : 0 < s.size) (h' : s.size ≤ 12) : wordB s.data.toList = (isLetterB (s[0].toNat : Int) && s.data.toList.all fun x => isInnerB x.toNat) := by
  have hl := size_toList s
  rw [get_of_size h] at hl ⊢
  simp only [List.length_cons] at hl
  simp only [wordB]
  rw [decide_eq_true (by omega), Bool.true_and]

set_option maxRecDepth 100000 in
set_option maxHeartbeats 400000 in
theorem isWord (s : ByteArray) (w : World) (hm : s.size ≤ 9223372036854775807) :
    Calls Try.prog 70 #[.string s] w fun e w' => e = .returned (.bool (wordB s.data.toList)) ∧ Ext w w' := by
  by_cases h0 : s.size = 0
  · have he : s.toList = [] := by rw [ByteArray.toList_eq]; exact List.eq_nil_of_length_eq_zero (by rw [size_toList]; exact h0)
    have H := hide (show wordB s.data.toList = false by rw [← ByteArray.toList_eq, he]; rfl)
    go_enter Try.func70, Try.ntmps70
    go_wp2
    go_ret
    exact ⟨retB (by rw [unhide H]), Ext.refl _⟩
  have h0 : 0 < s.size := by omega
  have he : ¬ s.toList = [] := by rw [ByteArray.toList_eq]; intro h; have := size_toList s; rw [h] at this; simp at this; omega
  have he' : s.toList.isEmpty = false := by simp [he]
  by_cases h12 : 12 < s.size
  · have H := hide (show wordB s.data.toList = false from wordB_long (by rw [size_toList]; exact h12))
    have h1 : (12:Int) < (s.size : Int) := by omega
    go_enter Try.func70, Try.ntmps70
    go_wp2
    go_ret
    exact ⟨retB (by rw [unhide H]), Ext.refl _⟩
  have h1 : decide ((12:Int) < (s.size : Int)) = false := by simp; omega
  have H := hide (wordB_of h0 (by omega))
  have hsz := size_toList s
  cases hl : isLetterB (s[0].toNat : Int)
  · go_enter Try.func70, Try.ntmps70
    go_wp2_with (go_at_call 76; refine (isLetter _ _).mono ?_; rintro e w' ⟨rfl, rfl⟩)
    go_ret
    exact ⟨retB (by rw [unhide H, hl]; rfl), Ext.refl _⟩
  · have hcv := fun (w : World) => Lib.run_convert_string_bytes (P := Try.prog) w 9 49 5 s Try.underlying9 Try.underlying49 Try.underlying5
    have Hz := hide hsz; clear hsz
    go_enter Try.func70, Try.ntmps70
    go_wp2_with (go_at_call 76; refine (isLetter _ _).mono ?_; rintro e w' ⟨rfl, rfl⟩)
    refine (everyWord _ 0 _ _ s.data.toList _ (unhide Hz) (by rw [unhide Hz]; omega) ?_).mono ?_
    · intro i hi
      rw [unhide Hz] at hi
      have := Lib.bytesWorld_cell w' 5 s i hi
      simpa using this
    rintro e w1 ⟨rfl, rfl⟩
    go_wp2
    go_ret
    exact ⟨retB (by rw [unhide H, hl]; simp), Ext.bytes _ _ _⟩

set_option maxRecDepth 100000 in
set_option maxHeartbeats 400000 in
theorem isString (s : ByteArray) (w : World) (hm : s.size ≤ 9223372036854775807) :
    Calls Try.prog 71 #[.string s] w fun e w' => e = .returned (.bool (stringB s.data.toList)) ∧ Ext w w' := by
  have Hz := hide (size_toList s)
  by_cases h12 : 20 < s.size
  · have H := hide (show stringB s.data.toList = false by simp only [stringB]; rw [unhide Hz]; simp; omega)
    have h1 : (20:Int) < (s.size : Int) := by omega
    go_enter Try.func71, Try.ntmps71
    go_wp2
    go_ret
    exact ⟨retB (by rw [unhide H]), Ext.refl _⟩
  have h1 : decide ((20:Int) < (s.size : Int)) = false := by simp; omega
  have H := hide (show stringB s.data.toList = s.data.toList.all fun x => isTextB x.toNat by simp only [stringB]; rw [unhide Hz]; simp; omega)
  have hcv := fun (w : World) => Lib.run_convert_string_bytes (P := Try.prog) w 9 49 5 s Try.underlying9 Try.underlying49 Try.underlying5
  go_enter Try.func71, Try.ntmps71
  go_wp2_with fail
  refine (everyText _ 0 _ _ s.data.toList _ (unhide Hz) (by rw [unhide Hz]; omega) ?_).mono ?_
  · intro i hi
    rw [unhide Hz] at hi
    have := Lib.bytesWorld_cell w 5 s i hi
    simpa using this
  rintro e w1 ⟨rfl, rfl⟩
  go_wp2
  go_ret
  exact ⟨retB (by rw [unhide H]; simp), Ext.bytes _ _ _⟩
end Go.Proofs.Ytokogjhcgdhapaa
