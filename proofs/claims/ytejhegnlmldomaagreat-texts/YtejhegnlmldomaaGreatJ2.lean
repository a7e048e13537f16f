/-
  How lists of IDs, Attrs and resources lie in memory; plain facts on lists that rise.
-/
/-
  The marks: what the functions that make them answer.
-/
/-
  The small functions of bytes and words: what each answers.
-/
/-
  Plain facts on the order of texts: Go's '<' and '==' on strings against strings.Compare's number.
-/
/-
  Words, strings, the order of IDs: what each function answers.
-/
/-
  The check sum: what the two functions answer.
-/
/-
  Tokens: where they end; a text cut piece by piece.
-/
import Derived.Test.YtejhegnlmldomaaGreatJ1
import Derived.Laws.BitsAllLaws
namespace Go.Proofs.YtejhegnlmldomaaGreat
open Go.RowKit

def okI (x : IDd) : Prop := x.kind.size ≤ 1048576 ∧ x.name.size ≤ 1048576
def okA (x : Attrd) : Prop := x.name.size ≤ 1048576 ∧ x.text.size ≤ 1048576 ∧ -9223372036854775808 ≤ x.number ∧ x.number ≤ 9223372036854775807

/-- IDs lie in a block, from a place on. -/
def IDsIn (w : World) (b off : Nat) (l : List IDd) : Prop :=
  ∀ i x, l[i]? = some x → w.cell? ⟨b, off + i * 2, none⟩ = some (.string x.kind) ∧ w.cell? ⟨b, off + i * 2 + 1, none⟩ = some (.string x.name)
def AttrsIn (w : World) (b off : Nat) (l : List Attrd) : Prop :=
  ∀ i x, l[i]? = some x → w.cell? ⟨b, off + i * 4, none⟩ = some (.string x.name) ∧ w.cell? ⟨b, off + i * 4 + 1, none⟩ = some (.bool x.isText) ∧ w.cell? ⟨b, off + i * 4 + 2, none⟩ = some (.string x.text) ∧ w.cell? ⟨b, off + i * 4 + 3, none⟩ = some (.int .i64 x.number)

/-- A slice leads to a list of IDs. -/
structure IDsV (w : World) (v : Value) (l : List IDd) : Prop where
  shape : ∃ a cap, v = .slice a l.length cap ∧ l.length ≤ cap ∧ cap ≤ 9223372036854775807 ∧ (l = [] ∨ ∃ b off, a = some ⟨b, off, none⟩ ∧ IDsIn w b off l)
  few : l.length ≤ 2000000
  ok : ∀ x ∈ l, okI x
structure AttrsV (w : World) (v : Value) (l : List Attrd) : Prop where
  shape : ∃ a cap, v = .slice a l.length cap ∧ l.length ≤ cap ∧ cap ≤ 9223372036854775807 ∧ (l = [] ∨ ∃ b off, a = some ⟨b, off, none⟩ ∧ AttrsIn w b off l)
  few : l.length ≤ 2000000
  ok : ∀ x ∈ l, okA x

theorem IDsIn.ext {w w' : World} {b off : Nat} {l : List IDd} (h : IDsIn w b off l) (e : Ext w w') : IDsIn w' b off l :=
  fun i x hx => ⟨e.cells (h i x hx).1, e.cells (h i x hx).2⟩
theorem AttrsIn.ext {w w' : World} {b off : Nat} {l : List Attrd} (h : AttrsIn w b off l) (e : Ext w w') : AttrsIn w' b off l :=
  fun i x hx => ⟨e.cells (h i x hx).1, e.cells (h i x hx).2.1, e.cells (h i x hx).2.2.1, e.cells (h i x hx).2.2.2⟩
theorem IDsV.ext {w w' : World} {v : Value} {l : List IDd} (h : IDsV w v l) (e : Ext w w') : IDsV w' v l := by
  obtain ⟨⟨a, cap, hv, hc, hm, hs⟩, h2, h3⟩ := h
  refine ⟨⟨a, cap, hv, hc, hm, ?_⟩, h2, h3⟩
  rcases hs with hs | ⟨b, off, ha, hi⟩
  · exact .inl hs
  · exact .inr ⟨b, off, ha, hi.ext e⟩
theorem AttrsV.ext {w w' : World} {v : Value} {l : List Attrd} (h : AttrsV w v l) (e : Ext w w') : AttrsV w' v l := by
  obtain ⟨⟨a, cap, hv, hc, hm, hs⟩, h2, h3⟩ := h
  refine ⟨⟨a, cap, hv, hc, hm, ?_⟩, h2, h3⟩
  rcases hs with hs | ⟨b, off, ha, hi⟩
  · exact .inl hs
  · exact .inr ⟨b, off, ha, hi.ext e⟩

/-- A resource's four cells. -/
structure ResV (w : World) (c2 c3 : Value) (x : Resd) : Prop where
  id : okI x.id
  attrs : AttrsV w c2 x.attrs
  after : IDsV w c3 x.after
theorem ResV.ext {w w' : World} {c2 c3 : Value} {x : Resd} (h : ResV w c2 c3 x) (e : Ext w w') : ResV w' c2 c3 x := ⟨h.id, h.attrs.ext e, h.after.ext e⟩
def RessIn (w : World) (b off : Nat) (l : List Resd) : Prop :=
  ∀ i x, l[i]? = some x → w.cell? ⟨b, off + i * 4, none⟩ = some (.string x.id.kind) ∧ w.cell? ⟨b, off + i * 4 + 1, none⟩ = some (.string x.id.name) ∧
    ∃ c2 c3, w.cell? ⟨b, off + i * 4 + 2, none⟩ = some c2 ∧ w.cell? ⟨b, off + i * 4 + 3, none⟩ = some c3 ∧ ResV w c2 c3 x
structure RessV (w : World) (v : Value) (l : List Resd) : Prop where
  shape : ∃ a cap, v = .slice a l.length cap ∧ l.length ≤ cap ∧ cap ≤ 9223372036854775807 ∧ (l = [] ∨ ∃ b off, a = some ⟨b, off, none⟩ ∧ RessIn w b off l)
  few : l.length ≤ 2000000
theorem RessIn.ext {w w' : World} {b off : Nat} {l : List Resd} (h : RessIn w b off l) (e : Ext w w') : RessIn w' b off l := by
  intro i x hx
  obtain ⟨h0, h1, c2, c3, h2, h3, h4⟩ := h i x hx
  exact ⟨e.cells h0, e.cells h1, c2, c3, e.cells h2, e.cells h3, h4.ext e⟩
theorem RessV.ext {w w' : World} {v : Value} {l : List Resd} (h : RessV w v l) (e : Ext w w') : RessV w' v l := by
  obtain ⟨⟨a, cap, hv, hc, hm, hs⟩, h2⟩ := h
  refine ⟨⟨a, cap, hv, hc, hm, ?_⟩, h2⟩
  rcases hs with hs | ⟨b, off, ha, hi⟩
  · exact .inl hs
  · exact .inr ⟨b, off, ha, hi.ext e⟩

/-! Plain facts -/
theorem all_succ {α : Type} {l : List α} {p : α → Bool} {k : Nat} {x : α} (h : l[k]? = some x) (ha : (l.take k).all p = true) : (l.take (k + 1)).all p = p x := by
  have hk : k < l.length := (List.getElem?_eq_some_iff.1 h).1
  rw [List.take_succ_eq_append_getElem hk, List.all_append, ha]
  have : l[k] = x := (List.getElem?_eq_some_iff.1 h).2
  simp [this]
theorem all_no {α : Type} {l : List α} {p : α → Bool} {k : Nat} {x : α} (h : l[k]? = some x) (hp : p x = false) : l.all p = false := by
  rw [List.all_eq_false]; exact ⟨x, List.mem_of_getElem? h, by simpa using hp⟩
theorem rises_take {α : Type} {lt : α → α → Bool} : ∀ {l : List α} {k : Nat} {x y : α}, l[k]? = some x → l[k + 1]? = some y → risesB lt (l.take (k + 2)) = (risesB lt (l.take (k + 1)) && lt x y)
  | [], k, x, y, h, _ => by simp at h
  | [a], k, x, y, h, h' => by simp at h'
  | a :: b :: l, 0, x, y, h, h' => by
    simp at h h'
    subst h h'
    simp [risesB]
  | a :: b :: l, k + 1, x, y, h, h' => by
    have ih := rises_take (lt := lt) (l := b :: l) (k := k) (x := x) (y := y) (by simpa using h) (by simpa using h')
    have e1 : (a :: b :: l).take (k + 1 + 2) = a :: b :: (l.take (k + 1)) := by simp
    have e2 : (a :: b :: l).take (k + 1 + 1) = a :: b :: (l.take k) := by simp
    have e3 : (b :: l).take (k + 2) = b :: l.take (k + 1) := by simp
    have e4 : (b :: l).take (k + 1) = b :: l.take k := by simp
    rw [e3, e4] at ih
    rw [e1, e2]
    simp only [risesB]
    rw [ih, Bool.and_assoc]
theorem rises_no {α : Type} {lt : α → α → Bool} : ∀ {l : List α} {k : Nat} {x y : α}, l[k]? = some x → l[k + 1]? = some y → lt x y = false → risesB lt l = false
  | [], k, x, y, h, _, _ => by simp at h
  | [a], k, x, y, h, h', _ => by simp at h'
  | a :: b :: l, 0, x, y, h, h', hn => by
    simp at h h'
    subst h h'
    simp [risesB, hn]
  | a :: b :: l, k + 1, x, y, h, h', hn => by
    have ih := rises_no (lt := lt) (l := b :: l) (k := k) (x := x) (y := y) (by simpa using h) (by simpa using h') hn
    simp [risesB, ih]
theorem rises_short {α : Type} {lt : α → α → Bool} {l : List α} {k : Nat} (h : l.length ≤ k + 1) : risesB lt (l.take (k + 1)) = risesB lt l := by
  rw [List.take_of_length_le h]
theorem rises_one {α : Type} {lt : α → α → Bool} (l : List α) : risesB lt (l.take 1) = true := by
  match l with
  | [] => rfl
  | [_] => rfl
  | _ :: _ :: _ => rfl
theorem some_of_lt {α : Type} {l : List α} {k : Nat} (h : k < l.length) : ∃ x, l[k]? = some x := ⟨l[k], List.getElem?_eq_getElem h⟩
end Go.Proofs.YtejhegnlmldomaaGreat

namespace Go.Proofs.YtejhegnlmldomaaGreat
open Go.RowKit

/-- So many digits of a number, the last one first. -/
def digs : Nat → Int → List UInt8
  | 0, _ => []
  | n + 1, k => UInt8.ofNat (48 + k % 10).toNat :: digs n (k / 10)
def markL : List UInt8 := [109, 97, 114, 107]
/-- The k-th mark. -/
def textD (k : Int) : ByteArray := ⟨(markL ++ digs 8 k).toArray⟩

set_option maxRecDepth 100000 in
set_option maxHeartbeats 800000 in
theorem textOf (k : Int) (w : World) (h0 : 0 ≤ k) (h1 : k ≤ 1000000000) :
    Calls Tryz.prog 54 #[.int .i64 k] w fun e w' => e = .returned (.string (textD k)) ∧ Ext w w' := by
  go_enter Tryz.func54, Tryz.ntmps54
  go_wp2
  go_loopw [0, 3, 4] (fun n s i wr => ∃ (j : Nat) (m : Int) (l : List UInt8), j ≤ 8 ∧ 0 ≤ m ∧ m ≤ 1000000000 ∧ i = .int .i64 j ∧ n = .int .i64 m ∧ s = .string ⟨l.toArray⟩ ∧ l.length = 4 + j ∧ Hid (l ++ digs (8 - j) m = markL ++ digs 8 k) ∧ Ext w wr) (fun _ _ i _ => 8 - (intOf i).toNat)
  case atStart => exact ⟨0, k, markL, by omega, h0, h1, rfl, rfl, rfl, rfl, rfl, Ext.refl _⟩
  case round =>
    obtain ⟨j, m, l, hj, hm0, hm1, rfl, rfl, rfl, hl, hd, he⟩ := hrel
    replace he := hide he
    by_cases hlt : j < 8
    · have hcv := fun w => conv_one w (48 + m % 10) (by omega) (by omega)
      have hl' : l.length ≤ 100 := by omega
      replace hl := hide hl
      go_wp2
      go_roundw
      case rel =>
        refine ⟨j + 1, m / 10, l ++ [UInt8.ofNat (48 + m % 10).toNat], by omega, by omega, by omega, by go_num, rfl, ?_, ?_, ?_, he.out.alloc _⟩
        · rw [ba_app2]
        · rw [List.length_append, hl.out]; rfl
        · have := hd.out
          rw [show 8 - j = (8 - (j + 1)) + 1 by omega, digs] at this
          rw [List.append_assoc]; exact this
      case measure => simp [intOf]; omega
    · obtain rfl : j = 8 := by omega
      have hd' : l = markL ++ digs 8 k := by simpa [digs] using hd.out
      replace hd' := hide hd'
      go_wp2
      go_ret
      exact ⟨retS (by rw [unhide hd']; rfl), he.out⟩

set_option maxRecDepth 100000 in
set_option maxHeartbeats 800000 in
theorem resourceOf (k : Int) (w : World) (h0 : 0 ≤ k) (h1 : k ≤ 1000000000) :
    Calls Tryz.prog 24 #[.int .i64 k] w fun e w' => e = .returned (.agg #[.string (textD k), .string ⟨#[]⟩, .slice none 0 0, .slice none 0 0]) ∧ Ext w w' := by
  go_enter Tryz.func24, Tryz.ntmps24
  go_wp2_with fail
  refine (textOf k _ h0 h1).mono ?_
  rintro e w1 ⟨rfl, he1⟩
  have c0 := he1.cells (p := ⟨w.heap.size, 0, none⟩) (v := .string ⟨#[]⟩) (by simp [go_sem])
  have c1 := he1.cells (p := ⟨w.heap.size, 1, none⟩) (v := .string ⟨#[]⟩) (by simp [go_sem])
  have c2 := he1.cells (p := ⟨w.heap.size, 2, none⟩) (v := .slice none 0 0) (by simp [go_sem])
  have c3 := he1.cells (p := ⟨w.heap.size, 3, none⟩) (v := .slice none 0 0) (by simp [go_sem])
  have f0 : ∀ o, w1.frozen? ⟨w.heap.size, o, none⟩ = false := fun o => by rw [Below.frozen he1 (by simp)]; simp [go_sem]
  replace he1 := hide he1
  go_wp2
  refine bodyPost_ret (v := .agg #[.string (textD k), .string ⟨#[]⟩, .slice none 0 0, .slice none 0 0]) (by simp [results, Tryz.results24, go_sem, c0, c1, c2, c3]) rfl ⟨rfl, ?_⟩
  exact (((((((Ext.refl _).alloc _).trans he1.out).setCell (Nat.le_refl _) _).setCell (Nat.le_refl _) _).setCell (Nat.le_refl _) _).setCell (Nat.le_refl _) _)
end Go.Proofs.YtejhegnlmldomaaGreat

namespace Go.Proofs.YtejhegnlmldomaaGreat
open Go.RowKit

set_option maxHeartbeats 400000 in
theorem isLetter (c : Int) (w : World) :
    Calls Tryz.prog 59 #[.int .u8 c] w fun e w' => e = .returned (.bool (isLetterB c)) ∧ w' = w := by
  go_enter Tryz.func59, Tryz.ntmps59
  go_wp2
  all_goals (go_ret; exact ⟨retB (by rw [Bool.eq_iff_iff]; simp [isLetterB]; omega), rfl⟩)

set_option maxHeartbeats 400000 in
theorem isDigit (c : Int) (w : World) :
    Calls Tryz.prog 61 #[.int .u8 c] w fun e w' => e = .returned (.bool (isDigitB c)) ∧ w' = w := by
  go_enter Tryz.func61, Tryz.ntmps61
  go_wp2
  all_goals (go_ret; exact ⟨retB (by rw [Bool.eq_iff_iff]; simp [isDigitB]; omega), rfl⟩)

set_option maxHeartbeats 400000 in
theorem isPlain (c : Int) (w : World) :
    Calls Tryz.prog 96 #[.int .u8 c] w fun e w' => e = .returned (.bool (isPlainB c)) ∧ w' = w := by
  go_enter Tryz.func96, Tryz.ntmps96
  go_wp2
  all_goals (go_ret; exact ⟨retB (by rw [Bool.eq_iff_iff]; simp [isPlainB]; omega), rfl⟩)

set_option maxHeartbeats 400000 in
theorem isWordByte (c : Int) (w : World) :
    Calls Tryz.prog 77 #[.int .u8 c] w fun e w' => e = .returned (.bool (isInnerB c)) ∧ w' = w := by
  go_enter Tryz.func77, Tryz.ntmps77
  go_wp2_with (first | (go_at_call 59; refine (isLetter c _).mono ?_; rintro e w' ⟨rfl, rfl⟩) | (go_at_call 61; refine (isDigit c _).mono ?_; rintro e w' ⟨rfl, rfl⟩))
  all_goals (go_ret; exact ⟨retB (by simp [isInnerB, *]), rfl⟩)

set_option maxHeartbeats 400000 in
theorem refLetter (c : Int) (w : World) :
    Calls Tryz.prog 27 #[.int .u8 c] w fun e w' => e = .returned (.bool (isLetterB c)) ∧ w' = w := by
  go_enter Tryz.func27, Tryz.ntmps27
  go_wp2
  all_goals (go_ret; exact ⟨retB (by rw [Bool.eq_iff_iff]; simp [isLetterB]; omega), rfl⟩)

set_option maxHeartbeats 400000 in
theorem refDigit (c : Int) (w : World) :
    Calls Tryz.prog 28 #[.int .u8 c] w fun e w' => e = .returned (.bool (isDigitB c)) ∧ w' = w := by
  go_enter Tryz.func28, Tryz.ntmps28
  go_wp2
  all_goals (go_ret; exact ⟨retB (by rw [Bool.eq_iff_iff]; simp [isDigitB]; omega), rfl⟩)

set_option maxHeartbeats 400000 in
theorem refInner (c : Int) (w : World) :
    Calls Tryz.prog 29 #[.int .u8 c] w fun e w' => e = .returned (.bool (isInnerB c)) ∧ w' = w := by
  go_enter Tryz.func29, Tryz.ntmps29
  go_wp2_with (first | (go_at_call 27; refine (refLetter c _).mono ?_; rintro e w' ⟨rfl, rfl⟩) | (go_at_call 28; refine (refDigit c _).mono ?_; rintro e w' ⟨rfl, rfl⟩))
  all_goals (go_ret; exact ⟨retB (by simp [isInnerB, *]), rfl⟩)

theorem all_take_succ {l : List UInt8} {p : UInt8 → Bool} {k : Nat} (h : k < l.length) (ha : (l.take k).all p = true) : (l.take (k + 1)).all p = p (l[k]?.getD 0) := by
  rw [List.take_succ_eq_append_getElem h, List.all_append, ha]; simp [h]
theorem all_false_of {l : List UInt8} {p : UInt8 → Bool} {k : Nat} (h : k < l.length) (hp : p (l[k]?.getD 0) = false) : l.all p = false := by
  rw [List.all_eq_false]; exact ⟨l[k], List.getElem_mem h, by simpa [h] using hp⟩

end Go.Proofs.YtejhegnlmldomaaGreat

namespace Go.Proofs.YtejhegnlmldomaaGreat
open Go.RowKit

theorem cmpB_self : ∀ a : List UInt8, Lib.compareBytes a a = 0
  | [] => rfl
  | a :: l => by simp [Lib.compareBytes, cmpB_self l]
theorem u8_lt_irrefl (a : UInt8) : ¬ a < a := by simp
theorem cmpB_lt : ∀ a b : List UInt8, Op.bytesLess a b = decide (Lib.compareBytes a b < 0)
  | [], [] => by simp [Op.bytesLess, Lib.compareBytes]
  | [], _ :: _ => by simp [Op.bytesLess, Lib.compareBytes]
  | _ :: _, [] => by simp [Op.bytesLess, Lib.compareBytes]
  | a :: x, b :: y => by
    have ih := cmpB_lt x y
    simp only [Op.bytesLess, Lib.compareBytes]
    by_cases h : a < b
    · simp [h]
    · by_cases h' : b < a
      · have : ¬ a = b := by rintro rfl; exact u8_lt_irrefl _ h'
        simp [h, h', this]
      · have : a = b := UInt8.le_antisymm (UInt8.not_lt.1 h') (UInt8.not_lt.1 h)
        subst this
        simp [h, ih]
theorem cmpB_eq : ∀ a b : List UInt8, (a == b) = decide (Lib.compareBytes a b = 0)
  | [], [] => by simp [Lib.compareBytes]
  | [], _ :: _ => by simp [Lib.compareBytes]
  | _ :: _, [] => by simp [Lib.compareBytes]
  | a :: x, b :: y => by
    have ih := cmpB_eq x y
    simp only [Lib.compareBytes, List.cons_beq_cons]
    by_cases h : a < b
    · have : ¬ a = b := by rintro rfl; exact u8_lt_irrefl _ h
      simp [h, this]
    · by_cases h' : b < a
      · have : ¬ a = b := by rintro rfl; exact u8_lt_irrefl _ h'
        simp [h, h', this]
      · have : a = b := UInt8.le_antisymm (UInt8.not_lt.1 h') (UInt8.not_lt.1 h)
        subst this
        simp [h, ih]
theorem cmpB_bound : ∀ a b : List UInt8, -1 ≤ Lib.compareBytes a b ∧ Lib.compareBytes a b ≤ 1
  | [], [] => by simp [Lib.compareBytes]
  | [], _ :: _ => by simp [Lib.compareBytes]
  | _ :: _, [] => by simp [Lib.compareBytes]
  | a :: x, b :: y => by
    have ih := cmpB_bound x y
    simp only [Lib.compareBytes]
    split
    · omega
    · split
      · omega
      · exact ih
theorem lessS (a b : ByteArray) : Op.bytesLess a.toList b.toList = decide (cmpS a b < 0) := by rw [ByteArray.toList_eq, ByteArray.toList_eq]; exact cmpB_lt _ _
theorem eqS (a b : ByteArray) : (a.toList == b.toList) = decide (cmpS a b = 0) := by rw [ByteArray.toList_eq, ByteArray.toList_eq]; exact cmpB_eq _ _
theorem cmpS_zero {a b : ByteArray} : cmpS a b = 0 ↔ a = b := by
  have h := cmpB_eq a.data.toList b.data.toList
  constructor
  · intro hz
    unfold cmpS at hz
    rw [hz] at h
    have : a.data.toList = b.data.toList := by simpa using h
    cases a; cases b; simpa [Array.toList_inj] using this
  · rintro rfl; exact cmpB_self _
theorem lessI_eq (a b : IDd) : lessI a b = (Op.bytesLess a.kind.toList b.kind.toList || ((a.kind.toList == b.kind.toList) && Op.bytesLess a.name.toList b.name.toList)) := by
  rw [lessS, lessS, eqS]
  unfold lessI cmpI
  by_cases h : cmpS a.kind b.kind = 0
  · simp [h]
  · simp [h]
end Go.Proofs.YtejhegnlmldomaaGreat

namespace Go.Proofs.YtejhegnlmldomaaGreat
open Go.RowKit

theorem size_toList (s : ByteArray) : s.data.toList.length = s.size := Array.length_toList
theorem get_of_size {s : ByteArray} (h : 0 < s.size) : s.data.toList = s[0] :: s.data.toList.tail := by
  rcases s with ⟨⟨l⟩⟩
  cases l with
  | nil => simp [ByteArray.size] at h
  | cons a l => rfl
theorem wordB_of {s : ByteArray} (h : 0 < s.size) (h' : s.size ≤ 12) : wordB s.data.toList = (isLetterB (s[0].toNat : Int) && s.data.toList.all fun x => isInnerB x.toNat) := by
  have hl := size_toList s
  rw [get_of_size h] at hl ⊢
  simp only [List.length_cons] at hl
  simp only [wordB]
  rw [decide_eq_true (by omega), Bool.true_and]

end Go.Proofs.YtejhegnlmldomaaGreat

namespace Go.Proofs.YtejhegnlmldomaaGreat
open Go.RowKit

def crcBit (n : Nat) : Nat := if n % 2 = 1 then (n / 2) ^^^ 3988292384 else n / 2
def crcBits : Nat → Nat → Nat
  | 0, n => n
  | k + 1, n => crcBits k (crcBit n)
def crcByte (n : Nat) (c : UInt8) : Nat := crcBits 8 (n ^^^ c.toNat)
def crcL (l : List UInt8) : Nat := l.foldl crcByte 4294967295
/-- The check sum. -/
def sumL (l : List UInt8) : Int := 4294967295 - crcL l

theorem crcBit_lt {n : Nat} (h : n < 4294967296) : crcBit n < 4294967296 := by
  unfold crcBit
  split
  · exact Nat.xor_lt_two_pow (n := 32) (by omega) (by omega)
  · omega
theorem crcBits_lt : ∀ (k : Nat) {n : Nat}, n < 4294967296 → crcBits k n < 4294967296
  | 0, _, h => h
  | k + 1, _, h => crcBits_lt k (crcBit_lt h)
theorem crcXor_lt {n : Nat} (c : UInt8) (h : n < 4294967296) : n ^^^ c.toNat < 4294967296 := Nat.xor_lt_two_pow (n := 32) (by omega) (by have := c.toNat_lt; omega)
theorem crcByte_lt {n : Nat} (c : UInt8) (h : n < 4294967296) : crcByte n c < 4294967296 := crcBits_lt 8 (crcXor_lt c h)
theorem crc_succ {l : List UInt8} {k : Nat} (h : k < l.length) (n : Nat) : (l.take (k + 1)).foldl crcByte n = crcByte ((l.take k).foldl crcByte n) (l[k]?.getD 0) := by
  rw [List.take_succ_eq_append_getElem h, List.foldl_append]; simp [h]

theorem not32 {m : Nat} (h : m < 4294967296) : 4294967295 ^^^ m = 4294967295 - m := by
  have e := congrArg BitVec.toNat (BitVec.allOnes_xor (x := BitVec.ofNat 32 m))
  rw [BitVec.toNat_xor, BitVec.toNat_not, BitVec.toNat_allOnes, BitVec.toNat_ofNat, Nat.mod_eq_of_lt h] at e
  exact e
theorem size_list (s : ByteArray) : s.data.toList.length = s.size := Array.length_toList

theorem i64_xor32 (a b : Nat) (ha : a < 4294967296) (hb : b < 4294967296) : bits .xor .i64 (a : Int) (b : Int) = ((a ^^^ b : Nat) : Int) := by
  have hx : a ^^^ b < 2 ^ 32 := Nat.xor_lt_two_pow (by omega) (by omega)
  have e : ∀ n : Nat, n < 4294967296 → (BitVec.ofInt 64 (n : Int)).toNat = n := fun n hn => by
    rw [BitVec.ofInt_natCast, BitVec.toNat_ofNat]; exact Nat.mod_eq_of_lt (by omega)
  show IntKind.i64.wrap ((BitVec.ofInt 64 (a : Int) ^^^ BitVec.ofInt 64 (b : Int)).toNat : Int) = _
  rw [BitVec.toNat_xor, e a ha, e b hb, IntKind.wrap_i64]
  omega

end Go.Proofs.YtejhegnlmldomaaGreat

namespace Go.Proofs.YtejhegnlmldomaaGreat
open Go.RowKit

theorem strF_at (l : List UInt8) : ∀ (f a : Nat) (m : List UInt8) (e : Nat), strF l f a = some (m, e) → a ≤ e ∧ e < l.length
  | 0, a, m, e, h => by simp [strF] at h
  | f + 1, a, m, e, h => by
    simp only [strF] at h
    cases hc : l[a]? with
    | none => rw [hc] at h; simp at h
    | some c =>
      rw [hc] at h
      have hlt := (List.getElem?_eq_some_iff.1 hc).1
      dsimp only at h
      by_cases h34 : c = 34
      · rw [if_pos h34] at h; simp at h; omega
      · rw [if_neg h34] at h
        by_cases hu : (signL (l.drop a)).2 = 0
        · rw [if_pos hu] at h; simp at h
        · rw [if_neg hu] at h
          cases hr : strF l f (a + (signL (l.drop a)).2) with
          | none => rw [hr] at h; simp at h
          | some r =>
            obtain ⟨m', e'⟩ := r
            rw [hr] at h
            have := strF_at l f _ m' e' hr
            simp at h
            omega
theorem tok_at {l : List UInt8} {a : Nat} {c : UInt8} {t : Tok} {b : Nat} (hc : l[a]? = some c) (h : tokL l a c = .inl (t, b)) :
    t.place = a ∧ a < b ∧ b ≤ l.length ∧ 1 ≤ t.kind ∧ t.kind ≤ 10 := by
  have hlt := (List.getElem?_eq_some_iff.1 hc).1
  unfold tokL at h
  by_cases hl : isLetterB c.toNat = true
  · rw [if_pos hl] at h
    have hin : isInnerB c.toNat = true := by unfold isInnerB; rw [hl]; rfl
    have h1 := behind_yes (p := fun b => isInnerB b.toNat) hc hin
    have h2 := behind_le (p := fun b => isInnerB b.toNat) (l := l) (a := a + 1) (by omega)
    split at h
    · simp only [Sum.inl.injEq, Prod.mk.injEq] at h
      obtain ⟨rfl, rfl⟩ := h
      exact ⟨rfl, by omega, by omega, by simp, by simp⟩
    · simp at h
  · rw [if_neg hl] at h
    by_cases hd : (isDigitB c.toNat || c == 45) = true
    · rw [if_pos hd] at h
      generalize hg : (if c = 45 then a + 1 else a) = k at h
      generalize (if c = 45 then (-1 : Int) else 1) = sg at h
      split at h
      · rename_i hok
        simp only [Sum.inl.injEq, Prod.mk.injEq] at h
        obtain ⟨rfl, rfl⟩ := h
        refine ⟨rfl, ?_, ?_, by simp, by simp⟩
        · by_cases h45 : c = 45
          · rw [if_pos h45] at hg; subst hg
            have h2 := behind_le (p := fun b => isDigitB b.toNat) (l := l) (a := a + 1) (by omega)
            omega
          · rw [if_neg h45] at hg; subst hg
            have hd' : isDigitB c.toNat = true := by simpa [h45] using hd
            have h1 := behind_yes (p := fun b => isDigitB b.toNat) hc hd'
            have h2 := behind_le (p := fun b => isDigitB b.toNat) (l := l) (a := a + 1) (by omega)
            omega
        · exact (behind_le (p := fun b => isDigitB b.toNat) (l := l) (by rw [← hg]; split <;> omega)).2
      · simp at h
    · rw [if_neg hd] at h
      by_cases h34 : c = 34
      · rw [if_pos h34] at h
        split at h
        · simp at h
        · rename_i m e he
          have := strF_at l _ _ m e he
          split at h
          · simp only [Sum.inl.injEq, Prod.mk.injEq] at h
            obtain ⟨rfl, rfl⟩ := h
            exact ⟨rfl, by omega, by omega, by simp, by simp⟩
          · simp at h
      · rw [if_neg h34] at h
        split at h
        · simp at h
        · rename_i hk
          simp only [Sum.inl.injEq, Prod.mk.injEq] at h
          obtain ⟨rfl, rfl⟩ := h
          refine ⟨rfl, by omega, by omega, by show 1 ≤ signKind c; omega, ?_⟩
          show signKind c ≤ 10
          unfold signKind
          repeat (first | omega | split)
theorem tok_bad {l : List UInt8} {a : Nat} {c : UInt8} {e : Int} (h : tokL l a c = .inr e) : e ≠ 0 := by
  unfold tokL at h
  by_cases hl : isLetterB c.toNat = true
  · rw [if_pos hl] at h
    split at h
    · cases h
    · cases h; decide
  · rw [if_neg hl] at h
    by_cases hd : (isDigitB c.toNat || c == 45) = true
    · rw [if_pos hd] at h
      generalize (if c = 45 then a + 1 else a) = k at h
      generalize (if c = 45 then (-1 : Int) else 1) = sg at h
      split at h
      · cases h
      · cases h; decide
    · rw [if_neg hd] at h
      by_cases h34 : c = 34
      · rw [if_pos h34] at h
        split at h
        · cases h; decide
        · split at h
          · cases h
          · cases h; decide
      · rw [if_neg h34] at h
        split at h
        · cases h; decide
        · cases h
/-- What was cut so far, and the rest. -/
def comb (acc : List Tok) (r : List Tok × (Int × Nat)) : List Tok × (Int × Nat) := if r.2.1 = 0 then (acc ++ r.1, (0, 0)) else ([], r.2)
def cutL (l : List UInt8) : List Tok × (Int × Nat) := cutF l (l.length + 1) 0
theorem cutF_ok (l : List UInt8) (f a : Nat) : ∀ r, cutF l f a = r → r.2.1 = 0 → r.2 = (0, 0) := by
  intro r hr h0
  subst hr
  cases f with
  | zero => rfl
  | succ f =>
    revert h0
    simp only [cutF]
    split
    · intro _; rfl
    · split
      · intro h0
        rename_i e he
        exact absurd h0 (tok_bad he)
      · split
        · intro _; rfl
        · intro h0; rename_i hne; exact absurd h0 hne
theorem comb_nil (l : List UInt8) (f a : Nat) : comb [] (cutF l f a) = cutF l f a := by
  unfold comb
  split
  · rename_i h
    have := cutF_ok l f a _ rfl h
    rw [List.nil_append, ← this]
  · rename_i h
    cases hr : cutF l f a with
    | mk x y =>
      rw [hr] at h
      have : x = [] := by
        cases f with
        | zero => simp [cutF] at hr; exact hr.1
        | succ f =>
          simp only [cutF] at hr
          split at hr
          · simp at hr; obtain ⟨_, rfl⟩ := hr; exact absurd rfl h
          · split at hr
            · simp at hr; exact hr.1
            · split at hr
              · simp at hr; obtain ⟨_, rfl⟩ := hr; exact absurd rfl h
              · simp at hr; exact hr.1
      subst this; rfl
theorem comb_step {l : List UInt8} {f a b : Nat} {acc : List Tok} {c : UInt8} {t : Tok} (hc : l[skipL l a]? = some c) (ht : tokL l (skipL l a) c = .inl (t, b)) :
    comb acc (cutF l (f + 1) a) = comb (acc ++ [t]) (cutF l f b) := by
  simp only [cutF, hc, ht]
  unfold comb
  by_cases h : (cutF l f b).2.1 = 0
  · simp [h]
  · simp [h]
theorem comb_bad {l : List UInt8} {f a : Nat} {acc : List Tok} {c : UInt8} {e : Int} (hc : l[skipL l a]? = some c) (ht : tokL l (skipL l a) c = .inr e) (he : e ≠ 0) :
    comb acc (cutF l (f + 1) a) = ([], (e, skipL l a)) := by
  simp only [cutF, hc, ht]
  unfold comb
  simp [he]
theorem comb_end {l : List UInt8} {f a : Nat} {acc : List Tok} (hc : l.length ≤ skipL l a) :
    comb acc (cutF l (f + 1) a) = (acc ++ [endTok l.length], (0, 0)) := by
  simp only [cutF, List.getElem?_eq_none hc]
  simp [comb]
end Go.Proofs.YtejhegnlmldomaaGreat
