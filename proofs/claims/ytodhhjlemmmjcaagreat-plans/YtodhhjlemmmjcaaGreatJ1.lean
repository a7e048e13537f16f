/-
  The words of the proofs: what bytes, words, strings, IDs, Attrs and resources may be, and how they are ordered, as functions of data; and the relation 'Ext' between two worlds: all that was there is there, as it was.
-/
/-
  The small functions of bytes and words: what each answers.
-/
import Derived.Test.YtodhhjlemmmjcaaGreatRows
import Derived.WalkKit
import Derived.WalkSpells
import Derived.WalkLawsBesides
import Derived.Lib.ConvBytes
import Derived.Lib.Bytealg
namespace Go.Proofs.YtodhhjlemmmjcaaGreat
open Go.RowKit

/-- All that was there is there, as it was. -/
def Ext (w w' : World) : Prop := Below w.heap.size w w'
theorem Ext.refl (w : World) : Ext w w := Below.refl _ _
theorem Ext.size {w w' : World} (h : Ext w w') : w.heap.size ≤ w'.heap.size := Below.size h
theorem Ext.trans {a b c : World} (h : Ext a b) (k : Ext b c) : Ext a c := Below.trans h (Below.mono k h.size)
theorem Ext.cell {w w' : World} (h : Ext w w') {p : Addr} (hp : p.block < w.heap.size) : w'.cell? p = w.cell? p := Below.cell h hp
theorem Ext.cells {w w' : World} (h : Ext w w') {p : Addr} {v : Value} (hv : w.cell? p = some v) : w'.cell? p = some v := by
  rw [h.cell (World.block_lt_of_cell? w p hv)]; exact hv
theorem Ext.alloc {a w : World} (h : Ext a w) (o : Obj) : Ext a (w.alloc o) := Below.alloc h (Ext.size h) o
theorem Ext.drew {a w : World} (h : Ext a w) : Ext a w.drew := Below.drew h
theorem Ext.drewN {a w : World} (h : Ext a w) (n : Nat) : Ext a (w.drewN n) := h.trans ⟨rfl, rfl, rfl, Nat.le_refl _, fun _ _ => rfl⟩
theorem Ext.setCell {a w : World} (h : Ext a w) {p : Addr} (hp : a.heap.size ≤ p.block) (u : Value) : Ext a (w.setCell p u) := Below.setCell h hp u
theorem Ext.bytes (w : World) (e : TypeId) (s : ByteArray) : Ext w (Lib.bytesWorld w e s) :=
  ⟨rfl, rfl, rfl, by rw [Lib.bytesWorld_size]; omega, fun k hk => Lib.bytesWorld_at_old w e s k hk⟩

theorem retB {b c : Bool} (h : b = c) : Ending.returned (.bool b) = .returned (.bool c) := by rw [h]
theorem retI {b c : Int} (h : b = c) : Ending.returned (.int .i64 b) = .returned (.int .i64 c) := by rw [h]
theorem retS {b c : ByteArray} (h : b = c) : Ending.returned (.string b) = .returned (.string c) := by rw [h]
theorem hide {p : Prop} (h : p) : Hid p := h
theorem unhide {p : Prop} (h : Hid p) : p := h

def isLetterB (c : Int) : Bool := decide (97 ≤ c ∧ c ≤ 122) || decide (65 ≤ c ∧ c ≤ 90)
def isDigitB (c : Int) : Bool := decide (48 ≤ c ∧ c ≤ 57)
def isInnerB (c : Int) : Bool := isLetterB c || isDigitB c || c == 95 || c == 45
def isPlainB (c : Int) : Bool := decide (32 ≤ c ∧ c ≤ 126)
def isTextB (c : Int) : Bool := isPlainB c || c == 10

/-- A word. -/
def wordB : List UInt8 → Bool
  | [] => false
  | c :: l => decide (l.length + 1 ≤ 12) && (isLetterB c.toNat && (c :: l).all fun x => isInnerB x.toNat)
/-- A string that may be. -/
def stringB (l : List UInt8) : Bool := decide (l.length ≤ 20) && l.all fun x => isTextB x.toNat

theorem wordB_long {l : List UInt8} (h : 12 < l.length) : wordB l = false := by
  cases l with
  | nil => rfl
  | cons c l => simp only [List.length_cons] at h; simp [wordB]; omega

/-- An ID, an Attr, a resource. -/
structure IDd where
  kind : ByteArray
  name : ByteArray
structure Attrd where
  name : ByteArray
  isText : Bool
  text : ByteArray
  number : Int
structure Resd where
  id : IDd
  attrs : List Attrd
  after : List IDd

def idB (x : IDd) : Bool := wordB x.kind.data.toList && wordB x.name.data.toList
/-- The order of texts. -/
def cmpS (a b : ByteArray) : Int := Lib.compareBytes a.data.toList b.data.toList
/-- The order of IDs. -/
def cmpI (a b : IDd) : Int := if cmpS a.kind b.kind = 0 then cmpS a.name b.name else cmpS a.kind b.kind
def lessI (a b : IDd) : Bool := decide (cmpI a b < 0)

def afterW : List UInt8 := [97, 102, 116, 101, 114]
def attrB (x : Attrd) : Bool :=
  wordB x.name.data.toList && !(x.name.data.toList == afterW) &&
    (if x.isText then stringB x.text.data.toList && x.number == 0 else x.text.data.toList.isEmpty && decide (-1000000000 ≤ x.number ∧ x.number ≤ 1000000000))
/-- Each is less than the next. -/
def risesB {α : Type} (lt : α → α → Bool) : List α → Bool
  | [] => true
  | [_] => true
  | a :: b :: l => lt a b && risesB lt (b :: l)
def lessA (a b : Attrd) : Bool := decide (cmpS a.name b.name < 0)
def lessR (a b : Resd) : Bool := lessI a.id b.id
def mayB (x : Resd) : Bool :=
  decide (x.attrs.length ≤ 6) && decide (x.after.length ≤ 6) && idB x.id && x.attrs.all attrB && risesB lessA x.attrs && x.after.all idB && risesB lessI x.after
def mayAllB (l : List Resd) : Bool := decide (l.length ≤ 12) && l.all mayB && risesB lessR l

end Go.Proofs.YtodhhjlemmmjcaaGreat

namespace Go.Proofs.YtodhhjlemmmjcaaGreat
open Go.RowKit

set_option maxHeartbeats 400000 in
theorem isLetter (c : Int) (w : World) :
    Calls Tryz.prog 122 #[.int .u8 c] w fun e w' => e = .returned (.bool (isLetterB c)) ∧ w' = w := by
  go_enter Tryz.func122, Tryz.ntmps122
  go_wp2
  all_goals (go_ret; exact ⟨retB (by rw [Bool.eq_iff_iff]; simp [isLetterB]; omega), rfl⟩)

set_option maxHeartbeats 400000 in
theorem isDigit (c : Int) (w : World) :
    Calls Tryz.prog 130 #[.int .u8 c] w fun e w' => e = .returned (.bool (isDigitB c)) ∧ w' = w := by
  go_enter Tryz.func130, Tryz.ntmps130
  go_wp2
  all_goals (go_ret; exact ⟨retB (by rw [Bool.eq_iff_iff]; simp [isDigitB]; omega), rfl⟩)

set_option maxHeartbeats 400000 in
theorem isPlain (c : Int) (w : World) :
    Calls Tryz.prog 126 #[.int .u8 c] w fun e w' => e = .returned (.bool (isPlainB c)) ∧ w' = w := by
  go_enter Tryz.func126, Tryz.ntmps126
  go_wp2
  all_goals (go_ret; exact ⟨retB (by rw [Bool.eq_iff_iff]; simp [isPlainB]; omega), rfl⟩)

set_option maxHeartbeats 400000 in
theorem isWordByte (c : Int) (w : World) :
    Calls Tryz.prog 124 #[.int .u8 c] w fun e w' => e = .returned (.bool (isInnerB c)) ∧ w' = w := by
  go_enter Tryz.func124, Tryz.ntmps124
  go_wp2_with (first | (go_at_call 122; refine (isLetter c _).mono ?_; rintro e w' ⟨rfl, rfl⟩) | (go_at_call 130; refine (isDigit c _).mono ?_; rintro e w' ⟨rfl, rfl⟩))
  all_goals (go_ret; exact ⟨retB (by simp [isInnerB, *]), rfl⟩)

set_option maxHeartbeats 400000 in
theorem isTextByte (c : Int) (w : World) :
    Calls Tryz.prog 125 #[.int .u8 c] w fun e w' => e = .returned (.bool (isTextB c)) ∧ w' = w := by
  go_enter Tryz.func125, Tryz.ntmps125
  go_wp2_with (go_at_call 126; refine (isPlain c _).mono ?_; rintro e w' ⟨rfl, rfl⟩)
  all_goals (go_ret; exact ⟨retB (by simp [isTextB, *]), rfl⟩)

set_option maxHeartbeats 400000 in
theorem refLetter (c : Int) (w : World) :
    Calls Tryz.prog 114 #[.int .u8 c] w fun e w' => e = .returned (.bool (isLetterB c)) ∧ w' = w := by
  go_enter Tryz.func114, Tryz.ntmps114
  go_wp2
  all_goals (go_ret; exact ⟨retB (by rw [Bool.eq_iff_iff]; simp [isLetterB]; omega), rfl⟩)

set_option maxHeartbeats 400000 in
theorem refDigit (c : Int) (w : World) :
    Calls Tryz.prog 94 #[.int .u8 c] w fun e w' => e = .returned (.bool (isDigitB c)) ∧ w' = w := by
  go_enter Tryz.func94, Tryz.ntmps94
  go_wp2
  all_goals (go_ret; exact ⟨retB (by rw [Bool.eq_iff_iff]; simp [isDigitB]; omega), rfl⟩)

set_option maxHeartbeats 400000 in
theorem refInner (c : Int) (w : World) :
    Calls Tryz.prog 95 #[.int .u8 c] w fun e w' => e = .returned (.bool (isInnerB c)) ∧ w' = w := by
  go_enter Tryz.func95, Tryz.ntmps95
  go_wp2_with (first | (go_at_call 114; refine (refLetter c _).mono ?_; rintro e w' ⟨rfl, rfl⟩) | (go_at_call 94; refine (refDigit c _).mono ?_; rintro e w' ⟨rfl, rfl⟩))
  all_goals (go_ret; exact ⟨retB (by simp [isInnerB, *]), rfl⟩)

theorem all_take_succ {l : List UInt8} {p : UInt8 → Bool} {k : Nat} (h : k < l.length) (ha : (l.take k).all p = true) : (l.take (k + 1)).all p = p (l[k]?.getD 0) := by
  rw [List.take_succ_eq_append_getElem h, List.all_append, ha]; simp [h]
theorem all_false_of {l : List UInt8} {p : UInt8 → Bool} {k : Nat} (h : k < l.length) (hp : p (l[k]?.getD 0) = false) : l.all p = false := by
  rw [List.all_eq_false]; exact ⟨l[k], List.getElem_mem h, by simpa [h] using hp⟩

set_option maxHeartbeats 400000 in
theorem everyWord (b off cap n : Nat) (l : List UInt8) (w : World) (hn : l.length = n) (hl : l.length ≤ 1000000) (hc : ∀ i, i < l.length → w.cell? ⟨b, off + i, none⟩ = some (.int .u8 ((l[i]?.getD 0).toNat : Int))) :
    Calls Tryz.prog 123 #[.slice (some ⟨b, off, none⟩) n cap, .func (.func 124) #[] #[]] w fun e w' => e = .returned (.bool (l.all fun c => isInnerB (c.toNat : Int))) ∧ w' = w := by
  subst hn
  go_enter Tryz.func123, Tryz.ntmps123
  go_wp2
  go_loop [9] (fun i => ∃ k : Nat, k ≤ l.length ∧ i = .int .i64 k ∧ Hid ((l.take k).all fun c => isInnerB (c.toNat : Int))) (fun i => l.length - (intOf i).toNat)
  case atStart => exact ⟨0, Nat.zero_le _, rfl, by simp [Hid]⟩
  case round =>
    obtain ⟨k, hk, rfl, hall⟩ := hrel
    by_cases hlt : k < l.length
    · have g := hc k hlt
      have hs := all_take_succ (p := fun c => isInnerB (c.toNat : Int)) hlt hall.out
      have hf := all_false_of (p := fun c => isInnerB (c.toNat : Int)) hlt
      have Hs := hide hs; have Hf := hide hf; clear hs hf
      generalize l[k]?.getD 0 = x at *
      go_wp2_with (go_at_call 124; refine (isWordByte _ _).mono ?_; rintro e w' ⟨rfl, rfl⟩)
      · go_ret
        exact ⟨retB (unhide Hf (by simp_all)).symm, rfl⟩
      · go_round
        case rel => exact ⟨k + 1, by omega, by go_num, by rw [unhide Hs]; simp_all⟩
        case measure => simp [intOf]; omega
    · have Hl := hide (show l.take k = l from List.take_of_length_le (by omega))
      go_wp2
      go_ret
      exact ⟨retB (by rw [unhide Hl] at hall; exact hall.out.symm), rfl⟩

set_option maxHeartbeats 400000 in
theorem everyText (b off cap n : Nat) (l : List UInt8) (w : World) (hn : l.length = n) (hl : l.length ≤ 1000000) (hc : ∀ i, i < l.length → w.cell? ⟨b, off + i, none⟩ = some (.int .u8 ((l[i]?.getD 0).toNat : Int))) :
    Calls Tryz.prog 123 #[.slice (some ⟨b, off, none⟩) n cap, .func (.func 125) #[] #[]] w fun e w' => e = .returned (.bool (l.all fun c => isTextB (c.toNat : Int))) ∧ w' = w := by
  subst hn
  go_enter Tryz.func123, Tryz.ntmps123
  go_wp2
  go_loop [9] (fun i => ∃ k : Nat, k ≤ l.length ∧ i = .int .i64 k ∧ Hid ((l.take k).all fun c => isTextB (c.toNat : Int))) (fun i => l.length - (intOf i).toNat)
  case atStart => exact ⟨0, Nat.zero_le _, rfl, by simp [Hid]⟩
  case round =>
    obtain ⟨k, hk, rfl, hall⟩ := hrel
    by_cases hlt : k < l.length
    · have g := hc k hlt
      have hs := all_take_succ (p := fun c => isTextB (c.toNat : Int)) hlt hall.out
      have hf := all_false_of (p := fun c => isTextB (c.toNat : Int)) hlt
      have Hs := hide hs; have Hf := hide hf; clear hs hf
      generalize l[k]?.getD 0 = x at *
      go_wp2_with (go_at_call 125; refine (isTextByte _ _).mono ?_; rintro e w' ⟨rfl, rfl⟩)
      · go_ret
        exact ⟨retB (unhide Hf (by simp_all)).symm, rfl⟩
      · go_round
        case rel => exact ⟨k + 1, by omega, by go_num, by rw [unhide Hs]; simp_all⟩
        case measure => simp [intOf]; omega
    · have Hl := hide (show l.take k = l from List.take_of_length_le (by omega))
      go_wp2
      go_ret
      exact ⟨retB (by rw [unhide Hl] at hall; exact hall.out.symm), rfl⟩
end Go.Proofs.YtodhhjlemmmjcaaGreat
