/-
  The marks: what the functions that make them answer.
-/
/-
  The small functions of bytes and words: what each answers.
-/
/-
  Plain facts on the order of texts: Go's '<' and '==' on strings against strings.Compare's number.
-/
/-
  Words, strings, the order of IDs: what each function answers.
-/
/-
  Keys in their order, and what was met while one looks who waits for itself: plain facts.
-/
/-
  The check sum: what the two functions answer.
-/
/-
  Where nothing waits for itself, who waits for whom comes to an end: a rank.
-/
/-
  Who waits for one that fits: plain facts, for any test.
-/
/-
  Rows in the order of their keys: plain facts, for keys and rows of any kind.
-/
import Derived.Test.YtfmcgdglalljgaaGreatDoorJ1
import Derived.Laws.BitsAllLaws
namespace Go.Proofs.YtfmcgdglalljgaaGreatDoor
open Go.RowKit

/-- So many digits of a number, the last one first. -/
def digs : Nat → Int → List UInt8
  | 0, _ => []
  | n + 1, k => UInt8.ofNat (48 + k % 10).toNat :: digs n (k / 10)
def markL : List UInt8 := [109, 97, 114, 107]
/-- The k-th mark. -/
def textD (k : Int) : ByteArray := ⟨(markL ++ digs 8 k).toArray⟩

end Go.Proofs.YtfmcgdglalljgaaGreatDoor

namespace Go.Proofs.YtfmcgdglalljgaaGreatDoor
open Go.RowKit

set_option maxHeartbeats 400000 in
theorem isLetter (c : Int) (w : World) :
    Calls Tryz.prog 96 #[.int .u8 c] w fun e w' => e = .returned (.bool (isLetterB c)) ∧ w' = w := by
  go_enter Tryz.func96, Tryz.ntmps96
  go_wp2
  all_goals (go_ret; exact ⟨retB (by rw [Bool.eq_iff_iff]; simp [isLetterB]; omega), rfl⟩)

set_option maxHeartbeats 400000 in
theorem isDigit (c : Int) (w : World) :
    Calls Tryz.prog 98 #[.int .u8 c] w fun e w' => e = .returned (.bool (isDigitB c)) ∧ w' = w := by
  go_enter Tryz.func98, Tryz.ntmps98
  go_wp2
  all_goals (go_ret; exact ⟨retB (by rw [Bool.eq_iff_iff]; simp [isDigitB]; omega), rfl⟩)

set_option maxHeartbeats 400000 in
theorem isPlain (c : Int) (w : World) :
    Calls Tryz.prog 152 #[.int .u8 c] w fun e w' => e = .returned (.bool (isPlainB c)) ∧ w' = w := by
  go_enter Tryz.func152, Tryz.ntmps152
  go_wp2
  all_goals (go_ret; exact ⟨retB (by rw [Bool.eq_iff_iff]; simp [isPlainB]; omega), rfl⟩)

set_option maxHeartbeats 400000 in
theorem isWordByte (c : Int) (w : World) :
    Calls Tryz.prog 128 #[.int .u8 c] w fun e w' => e = .returned (.bool (isInnerB c)) ∧ w' = w := by
  go_enter Tryz.func128, Tryz.ntmps128
  go_wp2_with (first | (go_at_call 96; refine (isLetter c _).mono ?_; rintro e w' ⟨rfl, rfl⟩) | (go_at_call 98; refine (isDigit c _).mono ?_; rintro e w' ⟨rfl, rfl⟩))
  all_goals (go_ret; exact ⟨retB (by simp [isInnerB, *]), rfl⟩)

set_option maxHeartbeats 400000 in
theorem isTextByte (c : Int) (w : World) :
    Calls Tryz.prog 161 #[.int .u8 c] w fun e w' => e = .returned (.bool (isTextB c)) ∧ w' = w := by
  go_enter Tryz.func161, Tryz.ntmps161
  go_wp2_with (go_at_call 152; refine (isPlain c _).mono ?_; rintro e w' ⟨rfl, rfl⟩)
  all_goals (go_ret; exact ⟨retB (by simp [isTextB, *]), rfl⟩)

theorem all_take_succ {l : List UInt8} {p : UInt8 → Bool} {k : Nat} (h : k < l.length) (ha : (l.take k).all p = true) : (l.take (k + 1)).all p = p (l[k]?.getD 0) := by
  rw [List.take_succ_eq_append_getElem h, List.all_append, ha]; simp [h]
theorem all_false_of {l : List UInt8} {p : UInt8 → Bool} {k : Nat} (h : k < l.length) (hp : p (l[k]?.getD 0) = false) : l.all p = false := by
  rw [List.all_eq_false]; exact ⟨l[k], List.getElem_mem h, by simpa [h] using hp⟩

set_option maxHeartbeats 400000 in
theorem everyWord (b off cap n : Nat) (l : List UInt8) (w : World) (hn : l.length = n) (hl : l.length ≤ 1000000) (hc : ∀ i, i < l.length → w.cell? ⟨b, off + i, none⟩ = some (.int .u8 ((l[i]?.getD 0).toNat : Int))) :
    Calls Tryz.prog 160 #[.slice (some ⟨b, off, none⟩) n cap, .func (.func 128) #[] #[]] w fun e w' => e = .returned (.bool (l.all fun c => isInnerB (c.toNat : Int))) ∧ w' = w := by
  subst hn
  go_enter Tryz.func160, Tryz.ntmps160
  go_wp2
  go_loop [9] (fun i => ∃ k : Nat, k ≤ l.length ∧ i = .int .i64 k ∧ Hid ((l.take k).all fun c => isInnerB (c.toNat : Int))) (fun i => l.length - (intOf i).toNat)
  case atStart => exact ⟨0, Nat.zero_le _, rfl, by simp [Hid]⟩
  case round =>
    obtain ⟨k, hk, rfl, hall⟩ := hrel
    by_cases hlt : k < l.length
    · have g := hc k hlt
      have hs := all_take_succ (p := fun c => isInnerB (c.toNat : Int)) hlt hall.out
      have hf := all_false_of (p := fun c => isInnerB (c.toNat : Int)) hlt
      have Hs := hide hs; have Hf := hide hf; clear hs hf
      generalize l[k]?.getD 0 = x at *
      go_wp2_with (go_at_call 128; refine (isWordByte _ _).mono ?_; rintro e w' ⟨rfl, rfl⟩)
      · go_ret
        exact ⟨retB (unhide Hf (by simp_all)).symm, rfl⟩
      · go_round
        case rel => exact ⟨k + 1, by omega, by go_num, by rw [unhide Hs]; simp_all⟩
        case measure => simp [intOf]; omega
    · have Hl := hide (show l.take k = l from List.take_of_length_le (by omega))
      go_wp2
      go_ret
      exact ⟨retB (by rw [unhide Hl] at hall; exact hall.out.symm), rfl⟩

set_option maxHeartbeats 400000 in
theorem everyText (b off cap n : Nat) (l : List UInt8) (w : World) (hn : l.length = n) (hl : l.length ≤ 1000000) (hc : ∀ i, i < l.length → w.cell? ⟨b, off + i, none⟩ = some (.int .u8 ((l[i]?.getD 0).toNat : Int))) :
    Calls Tryz.prog 160 #[.slice (some ⟨b, off, none⟩) n cap, .func (.func 161) #[] #[]] w fun e w' => e = .returned (.bool (l.all fun c => isTextB (c.toNat : Int))) ∧ w' = w := by
  subst hn
  go_enter Tryz.func160, Tryz.ntmps160
  go_wp2
  go_loop [9] (fun i => ∃ k : Nat, k ≤ l.length ∧ i = .int .i64 k ∧ Hid ((l.take k).all fun c => isTextB (c.toNat : Int))) (fun i => l.length - (intOf i).toNat)
  case atStart => exact ⟨0, Nat.zero_le _, rfl, by simp [Hid]⟩
  case round =>
    obtain ⟨k, hk, rfl, hall⟩ := hrel
    by_cases hlt : k < l.length
    · have g := hc k hlt
      have hs := all_take_succ (p := fun c => isTextB (c.toNat : Int)) hlt hall.out
      have hf := all_false_of (p := fun c => isTextB (c.toNat : Int)) hlt
      have Hs := hide hs; have Hf := hide hf; clear hs hf
      generalize l[k]?.getD 0 = x at *
      go_wp2_with (go_at_call 161; refine (isTextByte _ _).mono ?_; rintro e w' ⟨rfl, rfl⟩)
      · go_ret
        exact ⟨retB (unhide Hf (by simp_all)).symm, rfl⟩
      · go_round
        case rel => exact ⟨k + 1, by omega, by go_num, by rw [unhide Hs]; simp_all⟩
        case measure => simp [intOf]; omega
    · have Hl := hide (show l.take k = l from List.take_of_length_le (by omega))
      go_wp2
      go_ret
      exact ⟨retB (by rw [unhide Hl] at hall; exact hall.out.symm), rfl⟩
end Go.Proofs.YtfmcgdglalljgaaGreatDoor

namespace Go.Proofs.YtfmcgdglalljgaaGreatDoor
open Go.RowKit

theorem cmpB_self : ∀ a : List UInt8, Lib.compareBytes a a = 0
  | [] => rfl
  | a :: l => by simp [Lib.compareBytes, cmpB_self l]
theorem u8_lt_irrefl (a : UInt8) : ¬ a < a := by simp
theorem cmpB_lt : ∀ a b : List UInt8, Op.bytesLess a b = decide (Lib.compareBytes a b < 0)
  | [], [] => by simp [Op.bytesLess, Lib.compareBytes]
  | [], _ :: _ => by simp [Op.bytesLess, Lib.compareBytes]
  | _ :: _, [] => by simp [Op.bytesLess, Lib.compareBytes]
  | a :: x, b :: y => by
    have ih := cmpB_lt x y
    simp only [Op.bytesLess, Lib.compareBytes]
    by_cases h : a < b
    · simp [h]
    · by_cases h' : b < a
      · have : ¬ a = b := by rintro rfl; exact u8_lt_irrefl _ h'
        simp [h, h', this]
      · have : a = b := UInt8.le_antisymm (UInt8.not_lt.1 h') (UInt8.not_lt.1 h)
        subst this
        simp [h, ih]
theorem cmpB_eq : ∀ a b : List UInt8, (a == b) = decide (Lib.compareBytes a b = 0)
  | [], [] => by simp [Lib.compareBytes]
  | [], _ :: _ => by simp [Lib.compareBytes]
  | _ :: _, [] => by simp [Lib.compareBytes]
  | a :: x, b :: y => by
    have ih := cmpB_eq x y
    simp only [Lib.compareBytes, List.cons_beq_cons]
    by_cases h : a < b
    · have : ¬ a = b := by rintro rfl; exact u8_lt_irrefl _ h
      simp [h, this]
    · by_cases h' : b < a
      · have : ¬ a = b := by rintro rfl; exact u8_lt_irrefl _ h'
        simp [h, h', this]
      · have : a = b := UInt8.le_antisymm (UInt8.not_lt.1 h') (UInt8.not_lt.1 h)
        subst this
        simp [h, ih]
theorem lessS (a b : ByteArray) : Op.bytesLess a.toList b.toList = decide (cmpS a b < 0) := by rw [ByteArray.toList_eq, ByteArray.toList_eq]; exact cmpB_lt _ _
theorem eqS (a b : ByteArray) : (a.toList == b.toList) = decide (cmpS a b = 0) := by rw [ByteArray.toList_eq, ByteArray.toList_eq]; exact cmpB_eq _ _
theorem cmpS_zero {a b : ByteArray} : cmpS a b = 0 ↔ a = b := by
  have h := cmpB_eq a.data.toList b.data.toList
  constructor
  · intro hz
    unfold cmpS at hz
    rw [hz] at h
    have : a.data.toList = b.data.toList := by simpa using h
    cases a; cases b; simpa [Array.toList_inj] using this
  · rintro rfl; exact cmpB_self _
theorem lessI_eq (a b : IDd) : lessI a b = (Op.bytesLess a.kind.toList b.kind.toList || ((a.kind.toList == b.kind.toList) && Op.bytesLess a.name.toList b.name.toList)) := by
  rw [lessS, lessS, eqS]
  unfold lessI cmpI
  by_cases h : cmpS a.kind b.kind = 0
  · simp [h]
  · simp [h]
end Go.Proofs.YtfmcgdglalljgaaGreatDoor

namespace Go.Proofs.YtfmcgdglalljgaaGreatDoor
open Go.RowKit

theorem size_toList (s : ByteArray) : s.data.toList.length = s.size := Array.length_toList
theorem get_of_size {s : ByteArray} (h : 0 < s.size) : s.data.toList = s[0] :: s.data.toList.tail := by
  rcases s with ⟨⟨l⟩⟩
  cases l with
  | nil => simp [ByteArray.size] at h
  | cons a l => rfl
theorem wordB_of {s : ByteArray} (h : 0 < s.size) (h' : s.size ≤ 12) : wordB s.data.toList = (isLetterB (s[0].toNat : Int) && s.data.toList.all fun x => isInnerB x.toNat) := by
  have hl := size_toList s
  rw [get_of_size h] at hl ⊢
  simp only [List.length_cons] at hl
  simp only [wordB]
  rw [decide_eq_true (by omega), Bool.true_and]

set_option maxRecDepth 100000 in
set_option maxHeartbeats 400000 in
theorem isWord (s : ByteArray) (w : World) (hm : s.size ≤ 9223372036854775807) :
    Calls Tryz.prog 142 #[.string s] w fun e w' => e = .returned (.bool (wordB s.data.toList)) ∧ Ext w w' := by
  by_cases h0 : s.size = 0
  · have he : s.toList = [] := by rw [ByteArray.toList_eq]; exact List.eq_nil_of_length_eq_zero (by rw [size_toList]; exact h0)
    have H := hide (show wordB s.data.toList = false by rw [← ByteArray.toList_eq, he]; rfl)
    go_enter Tryz.func142, Tryz.ntmps142
    go_wp2
    go_ret
    exact ⟨retB (by rw [unhide H]), Ext.refl _⟩
  have h0 : 0 < s.size := by omega
  have he : ¬ s.toList = [] := by rw [ByteArray.toList_eq]; intro h; have := size_toList s; rw [h] at this; simp at this; omega
  have he' : s.toList.isEmpty = false := by simp [he]
  by_cases h12 : 12 < s.size
  · have H := hide (show wordB s.data.toList = false from wordB_long (by rw [size_toList]; exact h12))
    have h1 : (12:Int) < (s.size : Int) := by omega
    go_enter Tryz.func142, Tryz.ntmps142
    go_wp2
    go_ret
    exact ⟨retB (by rw [unhide H]), Ext.refl _⟩
  have h1 : decide ((12:Int) < (s.size : Int)) = false := by simp; omega
  have H := hide (wordB_of h0 (by omega))
  have hsz := size_toList s
  cases hl : isLetterB (s[0].toNat : Int)
  · go_enter Tryz.func142, Tryz.ntmps142
    go_wp2_with (go_at_call 96; refine (isLetter _ _).mono ?_; rintro e w' ⟨rfl, rfl⟩)
    go_ret
    exact ⟨retB (by rw [unhide H, hl]; rfl), Ext.refl _⟩
  · have hcv := fun (w : World) => Lib.run_convert_string_bytes (P := Tryz.prog) w 9 45 5 s Tryz.underlying9 Tryz.underlying45 Tryz.underlying5
    have Hz := hide hsz; clear hsz
    go_enter Tryz.func142, Tryz.ntmps142
    go_wp2_with (go_at_call 96; refine (isLetter _ _).mono ?_; rintro e w' ⟨rfl, rfl⟩)
    refine (everyWord _ 0 _ _ s.data.toList _ (unhide Hz) (by rw [unhide Hz]; omega) ?_).mono ?_
    · intro i hi
      rw [unhide Hz] at hi
      have := Lib.bytesWorld_cell w' 5 s i hi
      simpa using this
    rintro e w1 ⟨rfl, rfl⟩
    go_wp2
    go_ret
    exact ⟨retB (by rw [unhide H, hl]; simp), Ext.bytes _ _ _⟩

set_option maxRecDepth 100000 in
set_option maxHeartbeats 400000 in
theorem isString (s : ByteArray) (w : World) (hm : s.size ≤ 9223372036854775807) :
    Calls Tryz.prog 143 #[.string s] w fun e w' => e = .returned (.bool (stringB s.data.toList)) ∧ Ext w w' := by
  have Hz := hide (size_toList s)
  by_cases h12 : 20 < s.size
  · have H := hide (show stringB s.data.toList = false by simp only [stringB]; rw [unhide Hz]; simp; omega)
    have h1 : (20:Int) < (s.size : Int) := by omega
    go_enter Tryz.func143, Tryz.ntmps143
    go_wp2
    go_ret
    exact ⟨retB (by rw [unhide H]), Ext.refl _⟩
  have h1 : decide ((20:Int) < (s.size : Int)) = false := by simp; omega
  have H := hide (show stringB s.data.toList = s.data.toList.all fun x => isTextB x.toNat by simp only [stringB]; rw [unhide Hz]; simp; omega)
  have hcv := fun (w : World) => Lib.run_convert_string_bytes (P := Tryz.prog) w 9 45 5 s Tryz.underlying9 Tryz.underlying45 Tryz.underlying5
  go_enter Tryz.func143, Tryz.ntmps143
  go_wp2_with fail
  refine (everyText _ 0 _ _ s.data.toList _ (unhide Hz) (by rw [unhide Hz]; omega) ?_).mono ?_
  · intro i hi
    rw [unhide Hz] at hi
    have := Lib.bytesWorld_cell w 5 s i hi
    simpa using this
  rintro e w1 ⟨rfl, rfl⟩
  go_wp2
  go_ret
  exact ⟨retB (by rw [unhide H]; simp), Ext.bytes _ _ _⟩
end Go.Proofs.YtfmcgdglalljgaaGreatDoor

namespace Go.Proofs.YtfmcgdglalljgaaGreatDoor
open Go.RowKit

theorem cmpB_trans : ∀ {a b c : List UInt8}, Lib.compareBytes a b < 0 → Lib.compareBytes b c < 0 → Lib.compareBytes a c < 0
  | [], [], _, _, h' => h'
  | [], _ :: _, [], _, h' => by simp [Lib.compareBytes] at h'
  | [], _ :: _, _ :: _, _, _ => by simp [Lib.compareBytes]
  | _ :: _, [], _, h, _ => by simp [Lib.compareBytes] at h
  | _ :: _, _ :: _, [], _, h' => by simp [Lib.compareBytes] at h'
  | a :: x, b :: y, c :: z, h, h' => by
    have ih := @cmpB_trans x y z
    simp only [Lib.compareBytes, UInt8.lt_iff_toNat_lt] at h h' ⊢
    by_cases h1 : a.toNat < b.toNat
    · have h2 : ¬ c.toNat < b.toNat := by
        intro hc
        rw [if_neg (by omega), if_pos hc] at h'
        omega
      rw [if_pos (by omega)]; decide
    · by_cases h2 : b.toNat < a.toNat
      · rw [if_neg h1, if_pos h2] at h
        omega
      · rw [if_neg h1, if_neg h2] at h
        by_cases h3 : b.toNat < c.toNat
        · rw [if_pos (by omega)]; decide
        · by_cases h4 : c.toNat < b.toNat
          · rw [if_neg h3, if_pos h4] at h'
            omega
          · rw [if_neg h3, if_neg h4] at h'
            rw [if_neg (by omega), if_neg (by omega)]
            exact ih h h'
theorem cmpB_flip : ∀ a b : List UInt8, Lib.compareBytes a b = - Lib.compareBytes b a
  | [], [] => rfl
  | [], _ :: _ => rfl
  | _ :: _, [] => rfl
  | a :: x, b :: y => by
    have ih := cmpB_flip x y
    simp only [Lib.compareBytes, UInt8.lt_iff_toNat_lt]
    by_cases h1 : a.toNat < b.toNat
    · rw [if_pos h1, if_neg (by omega), if_pos h1]
    · by_cases h2 : b.toNat < a.toNat
      · rw [if_neg h1, if_pos h2, if_pos h2]; rfl
      · rw [if_neg h1, if_neg h2, if_neg h2, if_neg h1]; exact ih
theorem cmpS_flip (a b : ByteArray) : cmpS a b = - cmpS b a := cmpB_flip _ _
theorem cmpS_trans {a b c : ByteArray} (h : cmpS a b < 0) (h' : cmpS b c < 0) : cmpS a c < 0 := cmpB_trans h h'
theorem cmpI_flip (a b : IDd) : cmpI a b = - cmpI b a := by
  unfold cmpI
  rw [cmpS_flip a.kind, cmpS_flip a.name]
  by_cases h : cmpS b.kind a.kind = 0 <;> simp [h]
theorem cmpI_zero {a b : IDd} : cmpI a b = 0 ↔ a = b := by
  unfold cmpI
  constructor
  · intro h
    by_cases e : cmpS a.kind b.kind = 0
    · rw [if_pos e] at h
      have e1 := cmpS_zero.1 e
      have e2 := cmpS_zero.1 h
      cases a; cases b; simp_all
    · rw [if_neg e] at h; exact absurd h e
  · rintro rfl
    rw [if_pos (cmpS_zero.2 rfl)]; exact cmpS_zero.2 rfl
theorem cmpI_trans {a b c : IDd} (h : cmpI a b < 0) (h' : cmpI b c < 0) : cmpI a c < 0 := by
  unfold cmpI at *
  by_cases e1 : cmpS a.kind b.kind = 0
  · rw [if_pos e1] at h
    by_cases e2 : cmpS b.kind c.kind = 0
    · rw [if_pos e2] at h'
      rw [if_pos (cmpS_zero.2 ((cmpS_zero.1 e1).trans (cmpS_zero.1 e2)))]
      exact cmpS_trans h h'
    · rw [if_neg e2] at h'
      rw [cmpS_zero.1 e1, if_neg e2]; exact h'
  · rw [if_neg e1] at h
    by_cases e2 : cmpS b.kind c.kind = 0
    · rw [← cmpS_zero.1 e2, if_neg e1]; exact h
    · rw [if_neg e2] at h'
      have := cmpS_trans h h'
      rw [if_neg (by omega)]; exact this

/-- Keys rise. -/
def Up (ks : List IDd) : Prop := ks.Pairwise fun a b => cmpI a b < 0
theorem Up.at {ks : List IDd} (h : Up ks) {i j : Nat} {x y : IDd} (hi : ks[i]? = some x) (hj : ks[j]? = some y) (hij : i < j) : cmpI x y < 0 := by
  obtain ⟨h1, rfl⟩ := List.getElem?_eq_some_iff.1 hi
  obtain ⟨h2, rfl⟩ := List.getElem?_eq_some_iff.1 hj
  exact List.pairwise_iff_getElem.1 h i j h1 h2 hij
/-- The place where a key stands, or would stand. -/
structure Stands (ks : List IDd) (a : IDd) (i : Nat) : Prop where
  le : i ≤ ks.length
  ahead : ∀ (k : Nat) x, k < i → ks[k]? = some x → cmpI x a < 0
  behind : ∀ (k : Nat) x, i ≤ k → ks[k]? = some x → ¬ cmpI x a < 0
theorem Stands.there {ks : List IDd} {a : IDd} {i : Nat} {x : IDd} (hx : ks[i]? = some x) (h0 : cmpI x a = 0) : a ∈ ks := by
  rw [← cmpI_zero.1 h0]; exact List.mem_of_getElem? hx
theorem Stands.gone {ks : List IDd} {a : IDd} {i : Nat} (h : Stands ks a i) (hu : Up ks) (hn : ∀ x, ks[i]? = some x → cmpI x a ≠ 0) : a ∉ ks := by
  intro hm
  obtain ⟨k, hk⟩ := List.mem_iff_getElem?.1 hm
  have h0 : cmpI a a = 0 := cmpI_zero.2 rfl
  by_cases hki : k < i
  · have := h.ahead k a hki hk; omega
  · by_cases e : k = i
    · subst e; exact hn a hk h0
    · have hlt : i < ks.length := by have := (List.getElem?_eq_some_iff.1 hk).1; omega
      have := hu.at (List.getElem?_eq_getElem hlt) hk (by omega)
      exact h.behind i _ (Nat.le_refl _) (List.getElem?_eq_getElem hlt) this
def insL (ks : List IDd) (i : Nat) (a : IDd) : List IDd := ks.take i ++ a :: ks.drop i
theorem ins_mem {ks : List IDd} {i : Nat} {a b : IDd} : b ∈ insL ks i a ↔ b = a ∨ b ∈ ks := by
  have : b ∈ ks ↔ b ∈ ks.take i ∨ b ∈ ks.drop i := by rw [← List.mem_append, List.take_append_drop]
  simp only [insL, List.mem_append, List.mem_cons, this]
  constructor
  · rintro (h | h | h)
    · exact .inr (.inl h)
    · exact .inl h
    · exact .inr (.inr h)
  · rintro (h | h | h)
    · exact .inr (.inl h)
    · exact .inl h
    · exact .inr (.inr h)
theorem ins_len {ks : List IDd} {i : Nat} {a : IDd} (h : i ≤ ks.length) : (insL ks i a).length = ks.length + 1 := by
  simp [insL]; omega
theorem Up.insert {ks : List IDd} {a : IDd} {i : Nat} (hu : Up ks) (h : Stands ks a i) (hn : a ∉ ks) : Up (insL ks i a) := by
  have hA : ∀ x ∈ ks.take i, cmpI x a < 0 := fun x hx => by
    obtain ⟨k, hk⟩ := List.mem_iff_getElem?.1 hx
    rw [List.getElem?_take] at hk
    split at hk
    · rename_i hki; exact h.ahead k x hki hk
    · cases hk
  have hB : ∀ x ∈ ks.drop i, cmpI a x < 0 := fun x hx => by
    obtain ⟨k, hk⟩ := List.mem_iff_getElem?.1 hx
    rw [List.getElem?_drop] at hk
    have h1 := h.behind (i + k) x (by omega) hk
    have h2 : cmpI x a ≠ 0 := fun e => hn (by rw [← cmpI_zero.1 e]; exact List.mem_of_getElem? hk)
    rw [cmpI_flip]; omega
  refine List.pairwise_append.2 ⟨List.Pairwise.sublist (List.take_sublist _ _) hu, List.pairwise_cons.2 ⟨hB, List.Pairwise.sublist (List.drop_sublist _ _) hu⟩, fun x hx y hy => ?_⟩
  rcases List.mem_cons.1 hy with rfl | hy
  · exact hA x hx
  · exact cmpI_trans (hA x hx) (hB y hy)
theorem len_le_of_sub : ∀ (ks U : List IDd), ks.Pairwise (fun a b => a ≠ b) → (∀ x ∈ ks, x ∈ U) → ks.length ≤ U.length
  | [], _, _, _ => Nat.zero_le _
  | x :: ks, U, hd, hs => by
    obtain ⟨s, t, rfl⟩ := List.append_of_mem (hs x (List.mem_cons_self ..))
    obtain ⟨h1, h2⟩ := List.pairwise_cons.1 hd
    have := len_le_of_sub ks (s ++ t) h2 fun y hy => by
      have := hs y (List.mem_cons_of_mem _ hy)
      rcases List.mem_append.1 this with h | h
      · exact List.mem_append.2 (.inl h)
      · rcases List.mem_cons.1 h with rfl | h
        · exact absurd rfl (h1 _ hy)
        · exact List.mem_append.2 (.inr h)
    simp only [List.length_append, List.length_cons] at *
    omega
theorem Up.few {ks U : List IDd} (hu : Up ks) (hs : ∀ x ∈ ks, x ∈ U) : ks.length ≤ U.length :=
  len_le_of_sub ks U (List.Pairwise.imp (fun {a b} h e => by subst e; rw [cmpI_zero.2 rfl] at h; omega) hu) hs

/-! What was met -/
/-- What the resource of an ID waits for. -/
def afterL (l : List Resd) (a : IDd) : List IDd := match placeL l a with
  | some k => (match l[k]? with
    | some y => y.after
    | none => [])
  | none => []
def allAfter (l : List Resd) : List IDd := l.flatMap (·.after)
theorem after_edge {l : List Resd} {a c : IDd} : c ∈ afterL l a ↔ IdEdge l a c := by
  unfold afterL IdEdge
  constructor
  · intro h
    split at h
    · rename_i k hk
      split at h
      · rename_i y hy; exact ⟨k, y, hk, hy, h⟩
      · simp at h
    · simp at h
  · rintro ⟨k, y, h1, h2, h3⟩
    rw [h1]; simp only [h2]; exact h3
theorem after_all {l : List Resd} {a c : IDd} (h : c ∈ afterL l a) : c ∈ allAfter l := by
  obtain ⟨k, y, _, h2, h3⟩ := after_edge.1 h
  exact List.mem_flatMap.2 ⟨y, List.mem_of_getElem? h2, h3⟩
/-- Between two that are looked at: keys met, and those still to be looked at. -/
structure Met (l : List Resd) (a : IDd) (ks td : List IDd) : Prop where
  up : Up ks
  sub : ∀ b ∈ ks, b ∈ allAfter l
  reach : ∀ b ∈ td, IdComes l a b
  done : ∀ b, b = a ∨ b ∈ ks → b ∈ td ∨ ∀ c ∈ afterL l b, c ∈ ks
  no : a ∉ ks
/-- While the first k of what x waits for were looked at. -/
structure MetI (l : List Resd) (a : IDd) (ks td : List IDd) (x : IDd) (k : Nat) : Prop where
  up : Up ks
  sub : ∀ b ∈ ks, b ∈ allAfter l
  reach : ∀ b ∈ td, IdComes l a b
  here : IdComes l a x
  done : ∀ b, b = a ∨ b ∈ ks → b ∈ td ∨ b = x ∨ ∀ c ∈ afterL l b, c ∈ ks
  got : ∀ (t : Nat) c, t < k → (afterL l x)[t]? = some c → c ∈ ks
  no : a ∉ ks
theorem Met.start (l : List Resd) (a : IDd) : Met l a [] [a] := by
  refine ⟨List.Pairwise.nil, fun b h => (by cases h), fun b h => ?_, fun b h => ?_, (by simp)⟩
  · rw [List.mem_singleton.1 h]; exact .here
  · rcases h with rfl | h
    · exact .inl (List.mem_singleton.2 rfl)
    · cases h
theorem Met.pop {l : List Resd} {a : IDd} {ks td : List IDd} {x : IDd} (h : Met l a ks (td ++ [x])) : MetI l a ks td x 0 := by
  refine ⟨h.up, h.sub, fun b hb => h.reach b (List.mem_append.2 (.inl hb)), h.reach x (List.mem_append.2 (.inr (List.mem_singleton.2 rfl))), fun b hb => ?_, fun t c ht => absurd ht (by omega), h.no⟩
  rcases h.done b hb with h | h
  · rcases List.mem_append.1 h with h | h
    · exact .inl h
    · exact .inr (.inl (List.mem_singleton.1 h))
  · exact .inr (.inr h)
theorem MetI.old {l : List Resd} {a : IDd} {ks td : List IDd} {x c : IDd} {k : Nat} (h : MetI l a ks td x k) (hc : (afterL l x)[k]? = some c) (hm : c ∈ ks) : MetI l a ks td x (k + 1) := by
  refine ⟨h.up, h.sub, h.reach, h.here, h.done, fun t d ht hd => ?_, h.no⟩
  by_cases e : t = k
  · subst e
    obtain rfl : c = d := by simpa using hc.symm.trans hd
    exact hm
  · exact h.got t d (by omega) hd
theorem MetI.new {l : List Resd} {a : IDd} {ks td : List IDd} {x c : IDd} {k i : Nat} (h : MetI l a ks td x k) (hc : (afterL l x)[k]? = some c) (hs : Stands ks c i) (hm : c ∉ ks) (hne : c ≠ a) : MetI l a (insL ks i c) (td ++ [c]) x (k + 1) := by
  have hcm := List.mem_of_getElem? hc
  refine ⟨h.up.insert hs hm, fun b hb => ?_, fun b hb => ?_, h.here, fun b hb => ?_, fun t d ht hd => ?_, fun hb => ?_⟩
  · rcases ins_mem.1 hb with rfl | hb
    · exact after_all hcm
    · exact h.sub b hb
  · rcases List.mem_append.1 hb with hb | hb
    · exact h.reach b hb
    · rw [List.mem_singleton.1 hb]; exact h.here.step (after_edge.1 hcm)
  · have key : b = a ∨ b ∈ ks → b ∈ td ++ [c] ∨ b = x ∨ ∀ d ∈ afterL l b, d ∈ insL ks i c := fun hb => by
      rcases h.done b hb with h | h | h
      · exact .inl (List.mem_append.2 (.inl h))
      · exact .inr (.inl h)
      · exact .inr (.inr fun d hd => ins_mem.2 (.inr (h d hd)))
    rcases hb with hb | hb
    · exact key (.inl hb)
    · rcases ins_mem.1 hb with rfl | hb
      · exact .inl (List.mem_append.2 (.inr (List.mem_singleton.2 rfl)))
      · exact key (.inr hb)
  · by_cases e : t = k
    · subst e
      obtain rfl : c = d := by simpa using hc.symm.trans hd
      exact ins_mem.2 (.inl rfl)
    · exact ins_mem.2 (.inr (h.got t d (by omega) hd))
  · rcases ins_mem.1 hb with rfl | hb
    · exact hne rfl
    · exact h.no hb
theorem MetI.finish {l : List Resd} {a : IDd} {ks td : List IDd} {x : IDd} {k : Nat} (h : MetI l a ks td x k) (hk : (afterL l x).length ≤ k) : Met l a ks td := by
  refine ⟨h.up, h.sub, h.reach, fun b hb => ?_, h.no⟩
  rcases h.done b hb with h1 | rfl | h1
  · exact .inl h1
  · refine .inr fun c hc => ?_
    obtain ⟨t, ht⟩ := List.mem_iff_getElem?.1 hc
    exact h.got t c (by have := (List.getElem?_eq_some_iff.1 ht).1; omega) ht
  · exact .inr h1
theorem MetI.hit {l : List Resd} {a : IDd} {ks td : List IDd} {x : IDd} {k : Nat} (h : MetI l a ks td x k) (hc : (afterL l x)[k]? = some a) : IdCirc l a :=
  ⟨x, h.here, after_edge.1 (List.mem_of_getElem? hc)⟩
theorem Met.finish {l : List Resd} {a : IDd} {ks : List IDd} (h : Met l a ks []) : ¬ IdCirc l a := by
  have hd : ∀ b, b = a ∨ b ∈ ks → ∀ c ∈ afterL l b, c ∈ ks := fun b hb => (h.done b hb).resolve_left (by simp)
  exact waits_no (M := (· ∈ ks)) (fun c hc => hd a (.inl rfl) c (after_edge.2 hc)) (fun b c hb hc => hd b (.inr hb) c (after_edge.2 hc)) h.no
end Go.Proofs.YtfmcgdglalljgaaGreatDoor

namespace Go.Proofs.YtfmcgdglalljgaaGreatDoor
open Go.RowKit

def crcBit (n : Nat) : Nat := if n % 2 = 1 then (n / 2) ^^^ 3988292384 else n / 2
def crcBits : Nat → Nat → Nat
  | 0, n => n
  | k + 1, n => crcBits k (crcBit n)
def crcByte (n : Nat) (c : UInt8) : Nat := crcBits 8 (n ^^^ c.toNat)
def crcL (l : List UInt8) : Nat := l.foldl crcByte 4294967295
/-- The check sum. -/
def sumL (l : List UInt8) : Int := 4294967295 - crcL l

theorem crcBit_lt {n : Nat} (h : n < 4294967296) : crcBit n < 4294967296 := by
  unfold crcBit
  split
  · exact Nat.xor_lt_two_pow (n := 32) (by omega) (by omega)
  · omega
theorem crcBits_lt : ∀ (k : Nat) {n : Nat}, n < 4294967296 → crcBits k n < 4294967296
  | 0, _, h => h
  | k + 1, _, h => crcBits_lt k (crcBit_lt h)
theorem crcXor_lt {n : Nat} (c : UInt8) (h : n < 4294967296) : n ^^^ c.toNat < 4294967296 := Nat.xor_lt_two_pow (n := 32) (by omega) (by have := c.toNat_lt; omega)
theorem crcByte_lt {n : Nat} (c : UInt8) (h : n < 4294967296) : crcByte n c < 4294967296 := crcBits_lt 8 (crcXor_lt c h)
theorem crc_succ {l : List UInt8} {k : Nat} (h : k < l.length) (n : Nat) : (l.take (k + 1)).foldl crcByte n = crcByte ((l.take k).foldl crcByte n) (l[k]?.getD 0) := by
  rw [List.take_succ_eq_append_getElem h, List.foldl_append]; simp [h]

theorem not32 {m : Nat} (h : m < 4294967296) : 4294967295 ^^^ m = 4294967295 - m := by
  have e := congrArg BitVec.toNat (BitVec.allOnes_xor (x := BitVec.ofNat 32 m))
  rw [BitVec.toNat_xor, BitVec.toNat_not, BitVec.toNat_allOnes, BitVec.toNat_ofNat, Nat.mod_eq_of_lt h] at e
  exact e
theorem size_list (s : ByteArray) : s.data.toList.length = s.size := Array.length_toList

set_option maxRecDepth 100000 in
set_option maxHeartbeats 1600000 in
theorem sum (s : ByteArray) (w : World) (hs : s.size ≤ 1048576) :
    Calls Tryz.prog 13 #[.string s] w fun e w' => e = .returned (.int .i64 (sumL s.data.toList)) ∧ Ext w w' := by
  have hcv := fun (w : World) => Lib.run_convert_string_bytes (P := Tryz.prog) w 9 45 5 s Tryz.underlying9 Tryz.underlying45 Tryz.underlying5
  have Hc := hide fun j hj => Lib.bytesWorld_cell w 5 s j hj
  have Hx := hide (Ext.bytes w 5 s)
  have Hz := hide (size_list s)
  go_enter Tryz.func13, Tryz.ntmps13
  go_wp2
  go_loop [3, 10] (fun n i => ∃ (k m : Nat), k ≤ s.size ∧ i = .int .i64 k ∧ n = .int .u32 m ∧ m < 4294967296 ∧ Hid (m = (s.data.toList.take k).foldl crcByte 4294967295)) (fun _ i => s.size - (intOf i).toNat)
  case atStart => exact ⟨0, 4294967295, Nat.zero_le _, rfl, rfl, by omega, rfl⟩
  case round =>
    obtain ⟨k, m, hk, rfl, rfl, hm, hacc⟩ := hrel
    by_cases hlt : k < s.size
    · have g := unhide Hc k hlt
      rw [List.getD_eq_getElem?_getD] at g
      have hs1 := crc_succ (l := s.data.toList) (k := k) (by rw [unhide Hz]; exact hlt) 4294967295
      rw [← hacc.out] at hs1
      have Hs := hide hs1; clear hs1
      generalize s.data.toList[k]?.getD 0 = c at *
      have hx := crcXor_lt c hm
      have hc := c.toNat_lt
      have e1 : bits .xor .u32 (m : Int) (c.toNat : Int) = ((m ^^^ c.toNat : Nat) : Int) := u32_xor_nat m c.toNat hm (by omega)
      go_wp2
      go_loop [3, 18] (fun n i => ∃ (j q : Nat), j ≤ 8 ∧ i = .int .i64 j ∧ n = .int .u32 q ∧ q < 4294967296 ∧ Hid (crcBits (8 - j) q = crcByte m c)) (fun _ i => 8 - (intOf i).toNat)
      case atStart => exact ⟨0, m ^^^ c.toNat, Nat.zero_le _, rfl, rfl, hx, rfl⟩
      case round =>
        obtain ⟨j, q, hj, rfl, rfl, hq, hin⟩ := hrel
        by_cases hltj : j < 8
        · have hq2 : q / 2 < 4294967296 := by omega
          have hA : bits .and .u32 (q : Int) 1 = ((q % 2 : Nat) : Int) := by have := u32_and_nat q 1 hq (by omega); rwa [Nat.and_one_is_mod] at this
          have hX : bits .xor .u32 ((q : Int) / 2) 3988292384 = ((q / 2 ^^^ 3988292384 : Nat) : Int) := u32_xor_nat (q / 2) 3988292384 hq2 (by omega)
          have hB := hide (crcBit_lt hq)
          have hN : Hid (crcBits (8 - (j + 1)) (crcBit q) = crcByte m c) := by
            have := hin.out
            rw [show 8 - j = (8 - (j + 1)) + 1 by omega] at this
            exact this
          by_cases hodd : q % 2 = 1
          · have h1 : (bits .and .u32 (q : Int) 1 == 1) = true := by rw [hA, hodd]; rfl
            have hE := hide (show crcBit q = q / 2 ^^^ 3988292384 by rw [crcBit, if_pos hodd])
            clear hA
            replace hodd := hide hodd
            go_wp2
            go_round
            case rel => exact ⟨j + 1, crcBit q, by omega, by go_num, by rw [unhide hE], hB.out, hN⟩
            case measure => simp [intOf]; omega
          · have h1 : (bits .and .u32 (q : Int) 1 == 1) = false := by rw [hA, show q % 2 = 0 by omega]; rfl
            have hE := hide (show crcBit q = q / 2 by rw [crcBit, if_neg hodd])
            clear hA
            replace hodd := hide hodd
            go_wp2
            go_round
            case rel => exact ⟨j + 1, crcBit q, by omega, by go_num, by rw [unhide hE]; rfl, hB.out, hN⟩
            case measure => simp [intOf]; omega
        · obtain rfl : j = 8 := by omega
          go_wp2
          go_round
          case rel => exact ⟨k + 1, q, by omega, by go_num, rfl, hq, by have := hin.out; rw [← unhide Hs] at this; exact this⟩
          case measure => simp [intOf]; omega
    · have Hl : Hid (s.data.toList.take k = s.data.toList) := List.take_of_length_le (by rw [unhide Hz]; omega)
      have e1 : bits .xor .u32 IntKind.u32.max (m : Int) = ((4294967295 - m : Nat) : Int) := by rw [← not32 hm]; exact u32_xor_nat 4294967295 m (by omega) hm
      have e2 : wrap64 ((4294967295 - m : Nat) : Int) = 4294967295 - (m : Int) := by unfold wrap64; omega
      go_wp2
      go_ret
      refine ⟨retI ?_, Hx.out⟩
      rw [sumL, crcL, ← unhide Hl, ← hacc.out]

end Go.Proofs.YtfmcgdglalljgaaGreatDoor

namespace Go.Proofs.YtfmcgdglalljgaaGreatDoor
open Go.RowKit

theorem Comes.trans {l : List Resd} {i j k : Nat} (h : Comes l i j) (h' : Comes l j k) : Comes l i k := by
  induction h' with
  | here => exact h
  | step _ e ih => exact ih.step e
theorem Edge.comes {l : List Resd} {i j k : Nat} (h : Edge l i j) (h' : Comes l j k) : Comes l i k := (Comes.here.step h).trans h'
end Go.Proofs.YtfmcgdglalljgaaGreatDoor

namespace Go.Proofs.YtfmcgdglalljgaaGreatDoor
open Go.RowKit

/-- Between two that are looked at: keys met, and those still to be looked at. -/
structure MetF (F : IDd → Prop) (l : List Resd) (a : IDd) (ks td : List IDd) : Prop where
  up : Up ks
  sub : ∀ b ∈ ks, b ∈ allAfter l
  reach : ∀ b ∈ td, IdComes l a b
  done : ∀ b, b = a ∨ b ∈ ks → b ∈ td ∨ ∀ c ∈ afterL l b, c ∈ ks
  no : ∀ b ∈ ks, ¬ F b
/-- While the first k of what x waits for were looked at. -/
structure MetJ (F : IDd → Prop) (l : List Resd) (a : IDd) (ks td : List IDd) (x : IDd) (k : Nat) : Prop where
  up : Up ks
  sub : ∀ b ∈ ks, b ∈ allAfter l
  reach : ∀ b ∈ td, IdComes l a b
  here : IdComes l a x
  done : ∀ b, b = a ∨ b ∈ ks → b ∈ td ∨ b = x ∨ ∀ c ∈ afterL l b, c ∈ ks
  got : ∀ (t : Nat) c, t < k → (afterL l x)[t]? = some c → c ∈ ks
  no : ∀ b ∈ ks, ¬ F b
theorem MetF.start (F : IDd → Prop) (l : List Resd) (a : IDd) : MetF F l a [] [a] := by
  refine ⟨List.Pairwise.nil, fun b h => (by cases h), fun b h => ?_, fun b h => ?_, (by simp)⟩
  · rw [List.mem_singleton.1 h]; exact .here
  · rcases h with rfl | h
    · exact .inl (List.mem_singleton.2 rfl)
    · cases h
theorem MetF.pop {F : IDd → Prop} {l : List Resd} {a : IDd} {ks td : List IDd} {x : IDd} (h : MetF F l a ks (td ++ [x])) : MetJ F l a ks td x 0 := by
  refine ⟨h.up, h.sub, fun b hb => h.reach b (List.mem_append.2 (.inl hb)), h.reach x (List.mem_append.2 (.inr (List.mem_singleton.2 rfl))), fun b hb => ?_, fun t c ht => absurd ht (by omega), h.no⟩
  rcases h.done b hb with h | h
  · rcases List.mem_append.1 h with h | h
    · exact .inl h
    · exact .inr (.inl (List.mem_singleton.1 h))
  · exact .inr (.inr h)
theorem MetJ.old {F : IDd → Prop} {l : List Resd} {a : IDd} {ks td : List IDd} {x c : IDd} {k : Nat} (h : MetJ F l a ks td x k) (hc : (afterL l x)[k]? = some c) (hm : c ∈ ks) : MetJ F l a ks td x (k + 1) := by
  refine ⟨h.up, h.sub, h.reach, h.here, h.done, fun t d ht hd => ?_, h.no⟩
  by_cases e : t = k
  · subst e
    obtain rfl : c = d := by simpa using hc.symm.trans hd
    exact hm
  · exact h.got t d (by omega) hd
theorem MetJ.new {F : IDd → Prop} {l : List Resd} {a : IDd} {ks td : List IDd} {x c : IDd} {k i : Nat} (h : MetJ F l a ks td x k) (hc : (afterL l x)[k]? = some c) (hs : Stands ks c i) (hm : c ∉ ks) (hne : ¬ F c) : MetJ F l a (insL ks i c) (td ++ [c]) x (k + 1) := by
  have hcm := List.mem_of_getElem? hc
  refine ⟨h.up.insert hs hm, fun b hb => ?_, fun b hb => ?_, h.here, fun b hb => ?_, fun t d ht hd => ?_, fun b hb => ?_⟩
  · rcases ins_mem.1 hb with rfl | hb
    · exact after_all hcm
    · exact h.sub b hb
  · rcases List.mem_append.1 hb with hb | hb
    · exact h.reach b hb
    · rw [List.mem_singleton.1 hb]; exact h.here.step (after_edge.1 hcm)
  · have key : b = a ∨ b ∈ ks → b ∈ td ++ [c] ∨ b = x ∨ ∀ d ∈ afterL l b, d ∈ insL ks i c := fun hb => by
      rcases h.done b hb with h | h | h
      · exact .inl (List.mem_append.2 (.inl h))
      · exact .inr (.inl h)
      · exact .inr (.inr fun d hd => ins_mem.2 (.inr (h d hd)))
    rcases hb with hb | hb
    · exact key (.inl hb)
    · rcases ins_mem.1 hb with rfl | hb
      · exact .inl (List.mem_append.2 (.inr (List.mem_singleton.2 rfl)))
      · exact key (.inr hb)
  · by_cases e : t = k
    · subst e
      obtain rfl : c = d := by simpa using hc.symm.trans hd
      exact ins_mem.2 (.inl rfl)
    · exact ins_mem.2 (.inr (h.got t d (by omega) hd))
  · rcases ins_mem.1 hb with rfl | hb
    · exact hne
    · exact h.no b hb
theorem MetJ.finish {F : IDd → Prop} {l : List Resd} {a : IDd} {ks td : List IDd} {x : IDd} {k : Nat} (h : MetJ F l a ks td x k) (hk : (afterL l x).length ≤ k) : MetF F l a ks td := by
  refine ⟨h.up, h.sub, h.reach, fun b hb => ?_, h.no⟩
  rcases h.done b hb with h1 | rfl | h1
  · exact .inl h1
  · refine .inr fun c hc => ?_
    obtain ⟨t, ht⟩ := List.mem_iff_getElem?.1 hc
    exact h.got t c (by have := (List.getElem?_eq_some_iff.1 ht).1; omega) ht
  · exact .inr h1
theorem MetJ.hit {F : IDd → Prop} {l : List Resd} {a : IDd} {ks td : List IDd} {x c : IDd} {k : Nat} (h : MetJ F l a ks td x k) (hc : (afterL l x)[k]? = some c) (hF : F c) : WaitsTo l a F :=
  ⟨x, c, h.here, after_edge.1 (List.mem_of_getElem? hc), hF⟩
theorem MetF.finish {F : IDd → Prop} {l : List Resd} {a : IDd} {ks : List IDd} (h : MetF F l a ks []) : ¬ WaitsTo l a F := by
  have hd : ∀ b, b = a ∨ b ∈ ks → ∀ c ∈ afterL l b, c ∈ ks := fun b hb => (h.done b hb).resolve_left (by simp)
  have hr : ∀ b, IdComes l a b → b = a ∨ b ∈ ks := by
    intro b hb
    induction hb with
    | here => exact .inl rfl
    | step _ e ih => exact .inr (hd _ ih _ (after_edge.2 e))
  rintro ⟨b, c, hb, hc, hF⟩
  exact h.no c (hd b (hr b hb) c (after_edge.2 hc)) hF
end Go.Proofs.YtfmcgdglalljgaaGreatDoor

namespace Go.Proofs.YtfmcgdglalljgaaGreatDoor
open Go.RowKit

/-- An order of keys. -/
structure OrdK {κ : Type} (cmp : κ → κ → Int) : Prop where
  zero : ∀ {a b : κ}, cmp a b = 0 ↔ a = b
  flip : ∀ a b : κ, cmp a b = - cmp b a
  trans : ∀ {a b c : κ}, cmp a b < 0 → cmp b c < 0 → cmp a c < 0
section
variable {κ ρ : Type} {cmp : κ → κ → Int} {key : ρ → κ}
/-- Keys rise. -/
def UpG (cmp : κ → κ → Int) (key : ρ → κ) (rs : List ρ) : Prop := rs.Pairwise fun a b => cmp (key a) (key b) < 0
theorem UpG.at {rs : List ρ} (h : UpG cmp key rs) {i j : Nat} {x y : ρ} (hi : rs[i]? = some x) (hj : rs[j]? = some y) (hij : i < j) : cmp (key x) (key y) < 0 := by
  obtain ⟨h1, rfl⟩ := List.getElem?_eq_some_iff.1 hi
  obtain ⟨h2, rfl⟩ := List.getElem?_eq_some_iff.1 hj
  exact List.pairwise_iff_getElem.1 h i j h1 h2 hij
/-- The place where a key stands, or would stand. -/
structure StandsG (cmp : κ → κ → Int) (key : ρ → κ) (rs : List ρ) (a : κ) (i : Nat) : Prop where
  le : i ≤ rs.length
  ahead : ∀ (k : Nat) x, k < i → rs[k]? = some x → cmp (key x) a < 0
  behind : ∀ (k : Nat) x, i ≤ k → rs[k]? = some x → ¬ cmp (key x) a < 0
/-- A key is there. -/
def HasK (key : ρ → κ) (rs : List ρ) (a : κ) : Prop := ∃ x ∈ rs, key x = a
theorem StandsG.there {rs : List ρ} {a : κ} {i : Nat} {x : ρ} (ho : OrdK cmp) (hx : rs[i]? = some x) (h0 : cmp (key x) a = 0) : HasK key rs a := ⟨x, List.mem_of_getElem? hx, ho.zero.1 h0⟩
theorem StandsG.gone {rs : List ρ} {a : κ} {i : Nat} (ho : OrdK cmp) (h : StandsG cmp key rs a i) (hu : UpG cmp key rs) (hn : ∀ x, rs[i]? = some x → cmp (key x) a ≠ 0) : ¬ HasK key rs a := by
  rintro ⟨y, hm, rfl⟩
  obtain ⟨k, hk⟩ := List.mem_iff_getElem?.1 hm
  have h0 : cmp (key y) (key y) = 0 := ho.zero.2 rfl
  by_cases hki : k < i
  · have := h.ahead k y hki hk; omega
  · by_cases e : k = i
    · subst e; exact hn y hk h0
    · have hlt : i < rs.length := by have := (List.getElem?_eq_some_iff.1 hk).1; omega
      have := hu.at (List.getElem?_eq_getElem hlt) hk (by omega)
      exact h.behind i _ (Nat.le_refl _) (List.getElem?_eq_getElem hlt) this
theorem UpG.stands {rs : List ρ} {a : κ} {k : Nat} {x : ρ} (ho : OrdK cmp) (hu : UpG cmp key rs) (hx : rs[k]? = some x) (h : cmp (key x) a < 0) : ∀ (j : Nat) y, j < k + 1 → rs[j]? = some y → cmp (key y) a < 0 := fun j y hj hy => by
  by_cases e : j = k
  · subst e; rw [hx] at hy; cases hy; exact h
  · exact ho.trans (hu.at hy hx (by omega)) h
theorem UpG.stands' {rs : List ρ} {a : κ} {k : Nat} {x : ρ} (ho : OrdK cmp) (hu : UpG cmp key rs) (hx : rs[k]? = some x) (h : ¬ cmp (key x) a < 0) : ∀ (j : Nat) y, k ≤ j → rs[j]? = some y → 0 ≤ cmp (key y) a := fun j y hj hy => Int.not_lt.1 fun hn => by
  by_cases e : j = k
  · subst e; rw [hx] at hy; cases hy; exact h hn
  · exact h (ho.trans (hu.at hx hy (by omega)) hn)
/-- A row put into its place. -/
def insG (rs : List ρ) (i : Nat) (x : ρ) : List ρ := rs.take i ++ x :: rs.drop i
theorem insG_len {rs : List ρ} {i : Nat} {a : ρ} (h : i ≤ rs.length) : (insG rs i a).length = rs.length + 1 := by
  simp [insG]; omega
theorem UpG.insert {rs : List ρ} {x : ρ} {i : Nat} (ho : OrdK cmp) (hu : UpG cmp key rs) (h : StandsG cmp key rs (key x) i) (hn : ¬ HasK key rs (key x)) : UpG cmp key (insG rs i x) := by
  have hA : ∀ y ∈ rs.take i, cmp (key y) (key x) < 0 := fun y hy => by
    obtain ⟨k, hk⟩ := List.mem_iff_getElem?.1 hy
    rw [List.getElem?_take] at hk
    split at hk
    · rename_i hki; exact h.ahead k y hki hk
    · cases hk
  have hB : ∀ y ∈ rs.drop i, cmp (key x) (key y) < 0 := fun y hy => by
    obtain ⟨k, hk⟩ := List.mem_iff_getElem?.1 hy
    rw [List.getElem?_drop] at hk
    have h1 := h.behind (i + k) y (by omega) hk
    have h2 : cmp (key y) (key x) ≠ 0 := fun e => hn ⟨y, List.mem_of_getElem? hk, ho.zero.1 e⟩
    rw [ho.flip]; omega
  refine List.pairwise_append.2 ⟨List.Pairwise.sublist (List.take_sublist _ _) hu, List.pairwise_cons.2 ⟨hB, List.Pairwise.sublist (List.drop_sublist _ _) hu⟩, fun y hy z hz => ?_⟩
  rcases List.mem_cons.1 hz with rfl | hz
  · exact hA y hy
  · exact ho.trans (hA y hy) (hB z hz)
/-- No two rows have the same key. -/
theorem UpG.one {rs : List ρ} (ho : OrdK cmp) (hu : UpG cmp key rs) {i j : Nat} {x y : ρ} (hi : rs[i]? = some x) (hj : rs[j]? = some y) (he : key x = key y) : i = j := by
  rcases Nat.lt_trichotomy i j with h | h | h
  · have := hu.at hi hj h; rw [he, ho.zero.2 rfl] at this; omega
  · exact h
  · have := hu.at hj hi h; rw [he, ho.zero.2 rfl] at this; omega
end
/-- The cells of rows. -/
def cellsG {ρ : Type} (c : ρ → List Value) (rs : List ρ) : List Value := rs.flatMap c
theorem cellsG_len {ρ : Type} {c : ρ → List Value} {n : Nat} (hc : ∀ x, (c x).length = n) : ∀ rs : List ρ, (cellsG c rs).length = rs.length * n
  | [] => by simp [cellsG]
  | x :: rs => by
    have := cellsG_len hc rs
    simp only [cellsG, List.flatMap_cons, List.length_append, List.length_cons] at this ⊢
    rw [this, hc, Nat.succ_mul]; omega
theorem cellsG_take {ρ : Type} {c : ρ → List Value} {n : Nat} (hc : ∀ x, (c x).length = n) : ∀ (rs : List ρ) (i : Nat), (cellsG c rs).take (i * n) = cellsG c (rs.take i)
  | [], i => by simp [cellsG]
  | _ :: _, 0 => by simp [cellsG]
  | x :: rs, i + 1 => by
    have := cellsG_take hc rs i
    simp only [cellsG, List.flatMap_cons, List.take_succ_cons] at this ⊢
    rw [show (i + 1) * n = (c x).length + i * n by rw [hc, Nat.succ_mul]; omega, List.take_append, List.take_of_length_le (by omega), show (c x).length + i * n - (c x).length = i * n by omega, this]
theorem cellsG_drop {ρ : Type} {c : ρ → List Value} {n : Nat} (hc : ∀ x, (c x).length = n) : ∀ (rs : List ρ) (i : Nat), (cellsG c rs).drop (i * n) = cellsG c (rs.drop i)
  | [], i => by simp [cellsG]
  | _ :: _, 0 => by simp [cellsG]
  | x :: rs, i + 1 => by
    have := cellsG_drop hc rs i
    simp only [cellsG, List.flatMap_cons, List.drop_succ_cons] at this ⊢
    rw [show (i + 1) * n = (c x).length + i * n by rw [hc, Nat.succ_mul]; omega, List.drop_append, List.drop_of_length_le (by omega), show (c x).length + i * n - (c x).length = i * n by omega, this]; simp
theorem cellsG_ins {ρ : Type} {c : ρ → List Value} {n : Nat} (hc : ∀ x, (c x).length = n) (rs : List ρ) (i : Nat) (x : ρ) : (cellsG c rs).take (i * n) ++ c x ++ (cellsG c rs).drop (i * n) = cellsG c (insG rs i x) := by
  rw [cellsG_take hc, cellsG_drop hc]; simp [cellsG, insG, List.flatMap_append]
end Go.Proofs.YtfmcgdglalljgaaGreatDoor
