/-
  How lists of IDs, Attrs and resources lie in memory; plain facts on lists that rise.
-/
/-
  The small functions of bytes and words: what each answers.
-/
import Derived.Test.YtkjjfdejfihpfaaGreatJ1
namespace Go.Proofs.YtkjjfdejfihpfaaGreat
open Go.RowKit

def okI (x : IDd) : Prop := x.kind.size ≤ 140737488355328 ∧ x.name.size ≤ 140737488355328
def okA (x : Attrd) : Prop := x.name.size ≤ 140737488355328 ∧ x.text.size ≤ 140737488355328 ∧ -9223372036854775808 ≤ x.number ∧ x.number ≤ 9223372036854775807

/-- IDs lie in a block, from a place on. -/
def IDsIn (w : World) (b off : Nat) (l : List IDd) : Prop :=
  ∀ i x, l[i]? = some x → w.cell? ⟨b, off + i * 2, none⟩ = some (.string x.kind) ∧ w.cell? ⟨b, off + i * 2 + 1, none⟩ = some (.string x.name)
def AttrsIn (w : World) (b off : Nat) (l : List Attrd) : Prop :=
  ∀ i x, l[i]? = some x → w.cell? ⟨b, off + i * 4, none⟩ = some (.string x.name) ∧ w.cell? ⟨b, off + i * 4 + 1, none⟩ = some (.bool x.isText) ∧ w.cell? ⟨b, off + i * 4 + 2, none⟩ = some (.string x.text) ∧ w.cell? ⟨b, off + i * 4 + 3, none⟩ = some (.int .i64 x.number)

/-- A slice leads to a list of IDs. -/
structure IDsV (w : World) (v : Value) (l : List IDd) : Prop where
  shape : ∃ a cap, v = .slice a l.length cap ∧ l.length ≤ cap ∧ cap ≤ 9223372036854775807 ∧ (l = [] ∨ ∃ b off, a = some ⟨b, off, none⟩ ∧ IDsIn w b off l)
  few : l.length ≤ 4398046511200
  ok : ∀ x ∈ l, okI x
structure AttrsV (w : World) (v : Value) (l : List Attrd) : Prop where
  shape : ∃ a cap, v = .slice a l.length cap ∧ l.length ≤ cap ∧ cap ≤ 9223372036854775807 ∧ (l = [] ∨ ∃ b off, a = some ⟨b, off, none⟩ ∧ AttrsIn w b off l)
  few : l.length ≤ 4398046511200
  ok : ∀ x ∈ l, okA x

theorem IDsIn.ext {w w' : World} {b off : Nat} {l : List IDd} (h : IDsIn w b off l) (e : Ext w w') : IDsIn w' b off l :=
  fun i x hx => ⟨e.cells (h i x hx).1, e.cells (h i x hx).2⟩
theorem AttrsIn.ext {w w' : World} {b off : Nat} {l : List Attrd} (h : AttrsIn w b off l) (e : Ext w w') : AttrsIn w' b off l :=
  fun i x hx => ⟨e.cells (h i x hx).1, e.cells (h i x hx).2.1, e.cells (h i x hx).2.2.1, e.cells (h i x hx).2.2.2⟩
theorem IDsV.ext {w w' : World} {v : Value} {l : List IDd} (h : IDsV w v l) (e : Ext w w') : IDsV w' v l := by
  obtain ⟨⟨a, cap, hv, hc, hm, hs⟩, h2, h3⟩ := h
  refine ⟨⟨a, cap, hv, hc, hm, ?_⟩, h2, h3⟩
  rcases hs with hs | ⟨b, off, ha, hi⟩
  · exact .inl hs
  · exact .inr ⟨b, off, ha, hi.ext e⟩
theorem AttrsV.ext {w w' : World} {v : Value} {l : List Attrd} (h : AttrsV w v l) (e : Ext w w') : AttrsV w' v l := by
  obtain ⟨⟨a, cap, hv, hc, hm, hs⟩, h2, h3⟩ := h
  refine ⟨⟨a, cap, hv, hc, hm, ?_⟩, h2, h3⟩
  rcases hs with hs | ⟨b, off, ha, hi⟩
  · exact .inl hs
  · exact .inr ⟨b, off, ha, hi.ext e⟩

/-- A resource's four cells. -/
structure ResV (w : World) (c2 c3 : Value) (x : Resd) : Prop where
  id : okI x.id
  attrs : AttrsV w c2 x.attrs
  after : IDsV w c3 x.after
theorem ResV.ext {w w' : World} {c2 c3 : Value} {x : Resd} (h : ResV w c2 c3 x) (e : Ext w w') : ResV w' c2 c3 x := ⟨h.id, h.attrs.ext e, h.after.ext e⟩
def RessIn (w : World) (b off : Nat) (l : List Resd) : Prop :=
  ∀ i x, l[i]? = some x → w.cell? ⟨b, off + i * 4, none⟩ = some (.string x.id.kind) ∧ w.cell? ⟨b, off + i * 4 + 1, none⟩ = some (.string x.id.name) ∧
    ∃ c2 c3, w.cell? ⟨b, off + i * 4 + 2, none⟩ = some c2 ∧ w.cell? ⟨b, off + i * 4 + 3, none⟩ = some c3 ∧ ResV w c2 c3 x
structure RessV (w : World) (v : Value) (l : List Resd) : Prop where
  shape : ∃ a cap, v = .slice a l.length cap ∧ l.length ≤ cap ∧ cap ≤ 9223372036854775807 ∧ (l = [] ∨ ∃ b off, a = some ⟨b, off, none⟩ ∧ RessIn w b off l)
  few : l.length ≤ 4398046511200
theorem RessIn.ext {w w' : World} {b off : Nat} {l : List Resd} (h : RessIn w b off l) (e : Ext w w') : RessIn w' b off l := by
  intro i x hx
  obtain ⟨h0, h1, c2, c3, h2, h3, h4⟩ := h i x hx
  exact ⟨e.cells h0, e.cells h1, c2, c3, e.cells h2, e.cells h3, h4.ext e⟩
theorem RessV.ext {w w' : World} {v : Value} {l : List Resd} (h : RessV w v l) (e : Ext w w') : RessV w' v l := by
  obtain ⟨⟨a, cap, hv, hc, hm, hs⟩, h2⟩ := h
  refine ⟨⟨a, cap, hv, hc, hm, ?_⟩, h2⟩
  rcases hs with hs | ⟨b, off, ha, hi⟩
  · exact .inl hs
  · exact .inr ⟨b, off, ha, hi.ext e⟩

/-! Plain facts -/
theorem all_succ {α : Type} {l : List α} {p : α → Bool} {k : Nat} {x : α} (h : l[k]? = some x) (ha : (l.take k).all p = true) : (l.take (k + 1)).all p = p x := by
  have hk : k < l.length := (List.getElem?_eq_some_iff.1 h).1
  rw [List.take_succ_eq_append_getElem hk, List.all_append, ha]
  have : l[k] = x := (List.getElem?_eq_some_iff.1 h).2
  simp [this]
theorem all_no {α : Type} {l : List α} {p : α → Bool} {k : Nat} {x : α} (h : l[k]? = some x) (hp : p x = false) : l.all p = false := by
  rw [List.all_eq_false]; exact ⟨x, List.mem_of_getElem? h, by simpa using hp⟩
theorem rises_take {α : Type} {lt : α → α → Bool} : ∀ {l : List α} {k : Nat} {x y : α}, l[k]? = some x → l[k + 1]? = some y → risesB lt (l.take (k + 2)) = (risesB lt (l.take (k + 1)) && lt x y)
  | [], k, x, y, h, _ => by simp at h
  | [a], k, x, y, h, h' => by simp at h'
  | a :: b :: l, 0, x, y, h, h' => by
    simp at h h'
    subst h h'
    simp [risesB]
  | a :: b :: l, k + 1, x, y, h, h' => by
    have ih := rises_take (lt := lt) (l := b :: l) (k := k) (x := x) (y := y) (by simpa using h) (by simpa using h')
    have e1 : (a :: b :: l).take (k + 1 + 2) = a :: b :: (l.take (k + 1)) := by simp
    have e2 : (a :: b :: l).take (k + 1 + 1) = a :: b :: (l.take k) := by simp
    have e3 : (b :: l).take (k + 2) = b :: l.take (k + 1) := by simp
    have e4 : (b :: l).take (k + 1) = b :: l.take k := by simp
    rw [e3, e4] at ih
    rw [e1, e2]
    simp only [risesB]
    rw [ih, Bool.and_assoc]
theorem rises_no {α : Type} {lt : α → α → Bool} : ∀ {l : List α} {k : Nat} {x y : α}, l[k]? = some x → l[k + 1]? = some y → lt x y = false → risesB lt l = false
  | [], k, x, y, h, _, _ => by simp at h
  | [a], k, x, y, h, h', _ => by simp at h'
  | a :: b :: l, 0, x, y, h, h', hn => by
    simp at h h'
    subst h h'
    simp [risesB, hn]
  | a :: b :: l, k + 1, x, y, h, h', hn => by
    have ih := rises_no (lt := lt) (l := b :: l) (k := k) (x := x) (y := y) (by simpa using h) (by simpa using h') hn
    simp [risesB, ih]
theorem rises_short {α : Type} {lt : α → α → Bool} {l : List α} {k : Nat} (h : l.length ≤ k + 1) : risesB lt (l.take (k + 1)) = risesB lt l := by
  rw [List.take_of_length_le h]
theorem rises_one {α : Type} {lt : α → α → Bool} (l : List α) : risesB lt (l.take 1) = true := by
  match l with
  | [] => rfl
  | [_] => rfl
  | _ :: _ :: _ => rfl
theorem some_of_lt {α : Type} {l : List α} {k : Nat} (h : k < l.length) : ∃ x, l[k]? = some x := ⟨l[k], List.getElem?_eq_getElem h⟩
end Go.Proofs.YtkjjfdejfihpfaaGreat

namespace Go.Proofs.YtkjjfdejfihpfaaGreat
open Go.RowKit

set_option maxHeartbeats 400000 in
theorem isLetter (c : Int) (w : World) :
    Calls Tryz.prog 94 #[.int .u8 c] w fun e w' => e = .returned (.bool (isLetterB c)) ∧ w' = w := by
  go_enter Tryz.func94, Tryz.ntmps94
  go_wp2
  all_goals (go_ret; exact ⟨retB (by rw [Bool.eq_iff_iff]; simp [isLetterB]; omega), rfl⟩)

set_option maxHeartbeats 400000 in
theorem isDigit (c : Int) (w : World) :
    Calls Tryz.prog 104 #[.int .u8 c] w fun e w' => e = .returned (.bool (isDigitB c)) ∧ w' = w := by
  go_enter Tryz.func104, Tryz.ntmps104
  go_wp2
  all_goals (go_ret; exact ⟨retB (by rw [Bool.eq_iff_iff]; simp [isDigitB]; omega), rfl⟩)

set_option maxHeartbeats 400000 in
theorem isPlain (c : Int) (w : World) :
    Calls Tryz.prog 98 #[.int .u8 c] w fun e w' => e = .returned (.bool (isPlainB c)) ∧ w' = w := by
  go_enter Tryz.func98, Tryz.ntmps98
  go_wp2
  all_goals (go_ret; exact ⟨retB (by rw [Bool.eq_iff_iff]; simp [isPlainB]; omega), rfl⟩)

set_option maxHeartbeats 400000 in
theorem isWordByte (c : Int) (w : World) :
    Calls Tryz.prog 96 #[.int .u8 c] w fun e w' => e = .returned (.bool (isInnerB c)) ∧ w' = w := by
  go_enter Tryz.func96, Tryz.ntmps96
  go_wp2_with (first | (go_at_call 94; refine (isLetter c _).mono ?_; rintro e w' ⟨rfl, rfl⟩) | (go_at_call 104; refine (isDigit c _).mono ?_; rintro e w' ⟨rfl, rfl⟩))
  all_goals (go_ret; exact ⟨retB (by simp [isInnerB, *]), rfl⟩)

set_option maxHeartbeats 400000 in
theorem isTextByte (c : Int) (w : World) :
    Calls Tryz.prog 97 #[.int .u8 c] w fun e w' => e = .returned (.bool (isTextB c)) ∧ w' = w := by
  go_enter Tryz.func97, Tryz.ntmps97
  go_wp2_with (go_at_call 98; refine (isPlain c _).mono ?_; rintro e w' ⟨rfl, rfl⟩)
  all_goals (go_ret; exact ⟨retB (by simp [isTextB, *]), rfl⟩)

set_option maxHeartbeats 400000 in
theorem refLetter (c : Int) (w : World) :
    Calls Tryz.prog 93 #[.int .u8 c] w fun e w' => e = .returned (.bool (isLetterB c)) ∧ w' = w := by
  go_enter Tryz.func93, Tryz.ntmps93
  go_wp2
  all_goals (go_ret; exact ⟨retB (by rw [Bool.eq_iff_iff]; simp [isLetterB]; omega), rfl⟩)

set_option maxHeartbeats 400000 in
theorem refDigit (c : Int) (w : World) :
    Calls Tryz.prog 82 #[.int .u8 c] w fun e w' => e = .returned (.bool (isDigitB c)) ∧ w' = w := by
  go_enter Tryz.func82, Tryz.ntmps82
  go_wp2
  all_goals (go_ret; exact ⟨retB (by rw [Bool.eq_iff_iff]; simp [isDigitB]; omega), rfl⟩)

set_option maxHeartbeats 400000 in
theorem refInner (c : Int) (w : World) :
    Calls Tryz.prog 83 #[.int .u8 c] w fun e w' => e = .returned (.bool (isInnerB c)) ∧ w' = w := by
  go_enter Tryz.func83, Tryz.ntmps83
  go_wp2_with (first | (go_at_call 93; refine (refLetter c _).mono ?_; rintro e w' ⟨rfl, rfl⟩) | (go_at_call 82; refine (refDigit c _).mono ?_; rintro e w' ⟨rfl, rfl⟩))
  all_goals (go_ret; exact ⟨retB (by simp [isInnerB, *]), rfl⟩)

theorem all_take_succ {l : List UInt8} {p : UInt8 → Bool} {k : Nat} (h : k < l.length) (ha : (l.take k).all p = true) : (l.take (k + 1)).all p = p (l[k]?.getD 0) := by
  rw [List.take_succ_eq_append_getElem h, List.all_append, ha]; simp [h]
theorem all_false_of {l : List UInt8} {p : UInt8 → Bool} {k : Nat} (h : k < l.length) (hp : p (l[k]?.getD 0) = false) : l.all p = false := by
  rw [List.all_eq_false]; exact ⟨l[k], List.getElem_mem h, by simpa [h] using hp⟩

set_option maxHeartbeats 400000 in
theorem everyWord (b off cap n : Nat) (l : List UInt8) (w : World) (hn : l.length = n) (hl : l.length ≤ 1000000) (hc : ∀ i, i < l.length → w.cell? ⟨b, off + i, none⟩ = some (.int .u8 ((l[i]?.getD 0).toNat : Int))) :
    Calls Tryz.prog 95 #[.slice (some ⟨b, off, none⟩) n cap, .func (.func 96) #[] #[]] w fun e w' => e = .returned (.bool (l.all fun c => isInnerB (c.toNat : Int))) ∧ w' = w := by
  subst hn
  go_enter Tryz.func95, Tryz.ntmps95
  go_wp2
  go_loop [9] (fun i => ∃ k : Nat, k ≤ l.length ∧ i = .int .i64 k ∧ Hid ((l.take k).all fun c => isInnerB (c.toNat : Int))) (fun i => l.length - (intOf i).toNat)
  case atStart => exact ⟨0, Nat.zero_le _, rfl, by simp [Hid]⟩
  case round =>
    obtain ⟨k, hk, rfl, hall⟩ := hrel
    by_cases hlt : k < l.length
    · have g := hc k hlt
      have hs := all_take_succ (p := fun c => isInnerB (c.toNat : Int)) hlt hall.out
      have hf := all_false_of (p := fun c => isInnerB (c.toNat : Int)) hlt
      have Hs := hide hs; have Hf := hide hf; clear hs hf
      generalize l[k]?.getD 0 = x at *
      go_wp2_with (go_at_call 96; refine (isWordByte _ _).mono ?_; rintro e w' ⟨rfl, rfl⟩)
      · go_ret
        exact ⟨retB (unhide Hf (by simp_all)).symm, rfl⟩
      · go_round
        case rel => exact ⟨k + 1, by omega, by go_num, by rw [unhide Hs]; simp_all⟩
        case measure => simp [intOf]; omega
    · have Hl := hide (show l.take k = l from List.take_of_length_le (by omega))
      go_wp2
      go_ret
      exact ⟨retB (by rw [unhide Hl] at hall; exact hall.out.symm), rfl⟩

set_option maxHeartbeats 400000 in
theorem everyText (b off cap n : Nat) (l : List UInt8) (w : World) (hn : l.length = n) (hl : l.length ≤ 1000000) (hc : ∀ i, i < l.length → w.cell? ⟨b, off + i, none⟩ = some (.int .u8 ((l[i]?.getD 0).toNat : Int))) :
    Calls Tryz.prog 95 #[.slice (some ⟨b, off, none⟩) n cap, .func (.func 97) #[] #[]] w fun e w' => e = .returned (.bool (l.all fun c => isTextB (c.toNat : Int))) ∧ w' = w := by
  subst hn
  go_enter Tryz.func95, Tryz.ntmps95
  go_wp2
  go_loop [9] (fun i => ∃ k : Nat, k ≤ l.length ∧ i = .int .i64 k ∧ Hid ((l.take k).all fun c => isTextB (c.toNat : Int))) (fun i => l.length - (intOf i).toNat)
  case atStart => exact ⟨0, Nat.zero_le _, rfl, by simp [Hid]⟩
  case round =>
    obtain ⟨k, hk, rfl, hall⟩ := hrel
    by_cases hlt : k < l.length
    · have g := hc k hlt
      have hs := all_take_succ (p := fun c => isTextB (c.toNat : Int)) hlt hall.out
      have hf := all_false_of (p := fun c => isTextB (c.toNat : Int)) hlt
      have Hs := hide hs; have Hf := hide hf; clear hs hf
      generalize l[k]?.getD 0 = x at *
      go_wp2_with (go_at_call 97; refine (isTextByte _ _).mono ?_; rintro e w' ⟨rfl, rfl⟩)
      · go_ret
        exact ⟨retB (unhide Hf (by simp_all)).symm, rfl⟩
      · go_round
        case rel => exact ⟨k + 1, by omega, by go_num, by rw [unhide Hs]; simp_all⟩
        case measure => simp [intOf]; omega
    · have Hl := hide (show l.take k = l from List.take_of_length_le (by omega))
      go_wp2
      go_ret
      exact ⟨retB (by rw [unhide Hl] at hall; exact hall.out.symm), rfl⟩
end Go.Proofs.YtkjjfdejfihpfaaGreat
