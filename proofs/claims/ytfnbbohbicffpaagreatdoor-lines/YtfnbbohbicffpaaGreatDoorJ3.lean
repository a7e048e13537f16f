/-
  The small functions of bytes and words: what each answers.
-/
/-
  Words, strings, the order of IDs: what each function answers.
-/
/-
  Who waits for itself: plain facts on lists of resources.
-/
import Derived.Test.YtfnbbohbicffpaaGreatDoorJ1
import Derived.Test.YtfnbbohbicffpaaGreatDoorJ2
namespace Go.Proofs.YtfnbbohbicffpaaGreatDoor
open Go.RowKit

set_option maxHeartbeats 400000 in
theorem isLetter (c : Int) (w : World) :
    Calls Tryz.prog 59 #[.int .u8 c] w fun e w' => e = .returned (.bool (isLetterB c)) ∧ w' = w := by
  go_enter Tryz.func59, Tryz.ntmps59
  go_wp2
  all_goals (go_ret; exact ⟨retB (by rw [Bool.eq_iff_iff]; simp [isLetterB]; omega), rfl⟩)

set_option maxHeartbeats 400000 in
theorem isDigit (c : Int) (w : World) :
    Calls Tryz.prog 61 #[.int .u8 c] w fun e w' => e = .returned (.bool (isDigitB c)) ∧ w' = w := by
  go_enter Tryz.func61, Tryz.ntmps61
  go_wp2
  all_goals (go_ret; exact ⟨retB (by rw [Bool.eq_iff_iff]; simp [isDigitB]; omega), rfl⟩)

set_option maxHeartbeats 400000 in
theorem isPlain (c : Int) (w : World) :
    Calls Tryz.prog 101 #[.int .u8 c] w fun e w' => e = .returned (.bool (isPlainB c)) ∧ w' = w := by
  go_enter Tryz.func101, Tryz.ntmps101
  go_wp2
  all_goals (go_ret; exact ⟨retB (by rw [Bool.eq_iff_iff]; simp [isPlainB]; omega), rfl⟩)

set_option maxHeartbeats 400000 in
theorem isWordByte (c : Int) (w : World) :
    Calls Tryz.prog 81 #[.int .u8 c] w fun e w' => e = .returned (.bool (isInnerB c)) ∧ w' = w := by
  go_enter Tryz.func81, Tryz.ntmps81
  go_wp2_with (first | (go_at_call 59; refine (isLetter c _).mono ?_; rintro e w' ⟨rfl, rfl⟩) | (go_at_call 61; refine (isDigit c _).mono ?_; rintro e w' ⟨rfl, rfl⟩))
  all_goals (go_ret; exact ⟨retB (by simp [isInnerB, *]), rfl⟩)

set_option maxHeartbeats 400000 in
theorem isTextByte (c : Int) (w : World) :
    Calls Tryz.prog 100 #[.int .u8 c] w fun e w' => e = .returned (.bool (isTextB c)) ∧ w' = w := by
  go_enter Tryz.func100, Tryz.ntmps100
  go_wp2_with (go_at_call 101; refine (isPlain c _).mono ?_; rintro e w' ⟨rfl, rfl⟩)
  all_goals (go_ret; exact ⟨retB (by simp [isTextB, *]), rfl⟩)

theorem all_take_succ {l : List UInt8} {p : UInt8 → Bool} {k : Nat} (h : k < l.length) (ha : (l.take k).all p = true) : (l.take (k + 1)).all p = p (l[k]?.getD 0) := by
  rw [List.take_succ_eq_append_getElem h, List.all_append, ha]; simp [h]
theorem all_false_of {l : List UInt8} {p : UInt8 → Bool} {k : Nat} (h : k < l.length) (hp : p (l[k]?.getD 0) = false) : l.all p = false := by
  rw [List.all_eq_false]; exact ⟨l[k], List.getElem_mem h, by simpa [h] using hp⟩

set_option maxHeartbeats 400000 in
theorem everyWord (b off cap n : Nat) (l : List UInt8) (w : World) (hn : l.length = n) (hl : l.length ≤ 1000000) (hc : ∀ i, i < l.length → w.cell? ⟨b, off + i, none⟩ = some (.int .u8 ((l[i]?.getD 0).toNat : Int))) :
    Calls Tryz.prog 99 #[.slice (some ⟨b, off, none⟩) n cap, .func (.func 81) #[] #[]] w fun e w' => e = .returned (.bool (l.all fun c => isInnerB (c.toNat : Int))) ∧ w' = w := by
  subst hn
  go_enter Tryz.func99, Tryz.ntmps99
  go_wp2
  go_loop [9] (fun i => ∃ k : Nat, k ≤ l.length ∧ i = .int .i64 k ∧ Hid ((l.take k).all fun c => isInnerB (c.toNat : Int))) (fun i => l.length - (intOf i).toNat)
  case atStart => exact ⟨0, Nat.zero_le _, rfl, by simp [Hid]⟩
  case round =>
    obtain ⟨k, hk, rfl, hall⟩ := hrel
    by_cases hlt : k < l.length
    · have g := hc k hlt
      have hs := all_take_succ (p := fun c => isInnerB (c.toNat : Int)) hlt hall.out
      have hf := all_false_of (p := fun c => isInnerB (c.toNat : Int)) hlt
      have Hs := hide hs; have Hf := hide hf; clear hs hf
      generalize l[k]?.getD 0 = x at *
      go_wp2_with (go_at_call 81; refine (isWordByte _ _).mono ?_; rintro e w' ⟨rfl, rfl⟩)
      · go_ret
        exact ⟨retB (unhide Hf (by simp_all)).symm, rfl⟩
      · go_round
        case rel => exact ⟨k + 1, by omega, by go_num, by rw [unhide Hs]; simp_all⟩
        case measure => simp [intOf]; omega
    · have Hl := hide (show l.take k = l from List.take_of_length_le (by omega))
      go_wp2
      go_ret
      exact ⟨retB (by rw [unhide Hl] at hall; exact hall.out.symm), rfl⟩

set_option maxHeartbeats 400000 in
theorem everyText (b off cap n : Nat) (l : List UInt8) (w : World) (hn : l.length = n) (hl : l.length ≤ 1000000) (hc : ∀ i, i < l.length → w.cell? ⟨b, off + i, none⟩ = some (.int .u8 ((l[i]?.getD 0).toNat : Int))) :
    Calls Tryz.prog 99 #[.slice (some ⟨b, off, none⟩) n cap, .func (.func 100) #[] #[]] w fun e w' => e = .returned (.bool (l.all fun c => isTextB (c.toNat : Int))) ∧ w' = w := by
  subst hn
  go_enter Tryz.func99, Tryz.ntmps99
  go_wp2
  go_loop [9] (fun i => ∃ k : Nat, k ≤ l.length ∧ i = .int .i64 k ∧ Hid ((l.take k).all fun c => isTextB (c.toNat : Int))) (fun i => l.length - (intOf i).toNat)
  case atStart => exact ⟨0, Nat.zero_le _, rfl, by simp [Hid]⟩
  case round =>
    obtain ⟨k, hk, rfl, hall⟩ := hrel
    by_cases hlt : k < l.length
    · have g := hc k hlt
      have hs := all_take_succ (p := fun c => isTextB (c.toNat : Int)) hlt hall.out
      have hf := all_false_of (p := fun c => isTextB (c.toNat : Int)) hlt
      have Hs := hide hs; have Hf := hide hf; clear hs hf
      generalize l[k]?.getD 0 = x at *
      go_wp2_with (go_at_call 100; refine (isTextByte _ _).mono ?_; rintro e w' ⟨rfl, rfl⟩)
      · go_ret
        exact ⟨retB (unhide Hf (by simp_all)).symm, rfl⟩
      · go_round
        case rel => exact ⟨k + 1, by omega, by go_num, by rw [unhide Hs]; simp_all⟩
        case measure => simp [intOf]; omega
    · have Hl := hide (show l.take k = l from List.take_of_length_le (by omega))
      go_wp2
      go_ret
      exact ⟨retB (by rw [unhide Hl] at hall; exact hall.out.symm), rfl⟩
end Go.Proofs.YtfnbbohbicffpaaGreatDoor

namespace Go.Proofs.YtfnbbohbicffpaaGreatDoor
open Go.RowKit

theorem size_toList (s : ByteArray) : s.data.toList.length = s.size := Array.length_toList
theorem get_of_size {s : ByteArray} (h : 0 < s.size) : s.data.toList = s[0] :: s.data.toList.tail := by
  rcases s with ⟨⟨l⟩⟩
  cases l with
  | nil => simp [ByteArray.size] at h
  | cons a l => rfl
theorem wordB_of {s : ByteArray} (h : 0 < s.size) (h' : s.size ≤ 12) : wordB s.data.toList = (isLetterB (s[0].toNat : Int) && s.data.toList.all fun x => isInnerB x.toNat) := by
  have hl := size_toList s
  rw [get_of_size h] at hl ⊢
  simp only [List.length_cons] at hl
  simp only [wordB]
  rw [decide_eq_true (by omega), Bool.true_and]

set_option maxRecDepth 100000 in
set_option maxHeartbeats 400000 in
theorem isWord (s : ByteArray) (w : World) (hm : s.size ≤ 9223372036854775807) :
    Calls Tryz.prog 76 #[.string s] w fun e w' => e = .returned (.bool (wordB s.data.toList)) ∧ Ext w w' := by
  by_cases h0 : s.size = 0
  · have he : s.toList = [] := by rw [ByteArray.toList_eq]; exact List.eq_nil_of_length_eq_zero (by rw [size_toList]; exact h0)
    have H := hide (show wordB s.data.toList = false by rw [← ByteArray.toList_eq, he]; rfl)
    go_enter Tryz.func76, Tryz.ntmps76
    go_wp2
    go_ret
    exact ⟨retB (by rw [unhide H]), Ext.refl _⟩
  have h0 : 0 < s.size := by omega
  have he : ¬ s.toList = [] := by rw [ByteArray.toList_eq]; intro h; have := size_toList s; rw [h] at this; simp at this; omega
  have he' : s.toList.isEmpty = false := by simp [he]
  by_cases h12 : 12 < s.size
  · have H := hide (show wordB s.data.toList = false from wordB_long (by rw [size_toList]; exact h12))
    have h1 : (12:Int) < (s.size : Int) := by omega
    go_enter Tryz.func76, Tryz.ntmps76
    go_wp2
    go_ret
    exact ⟨retB (by rw [unhide H]), Ext.refl _⟩
  have h1 : decide ((12:Int) < (s.size : Int)) = false := by simp; omega
  have H := hide (wordB_of h0 (by omega))
  have hsz := size_toList s
  cases hl : isLetterB (s[0].toNat : Int)
  · go_enter Tryz.func76, Tryz.ntmps76
    go_wp2_with (go_at_call 59; refine (isLetter _ _).mono ?_; rintro e w' ⟨rfl, rfl⟩)
    go_ret
    exact ⟨retB (by rw [unhide H, hl]; rfl), Ext.refl _⟩
  · have hcv := fun (w : World) => Lib.run_convert_string_bytes (P := Tryz.prog) w 9 39 5 s Tryz.underlying9 Tryz.underlying39 Tryz.underlying5
    have Hz := hide hsz; clear hsz
    go_enter Tryz.func76, Tryz.ntmps76
    go_wp2_with (go_at_call 59; refine (isLetter _ _).mono ?_; rintro e w' ⟨rfl, rfl⟩)
    refine (everyWord _ 0 _ _ s.data.toList _ (unhide Hz) (by rw [unhide Hz]; omega) ?_).mono ?_
    · intro i hi
      rw [unhide Hz] at hi
      have := Lib.bytesWorld_cell w' 5 s i hi
      simpa using this
    rintro e w1 ⟨rfl, rfl⟩
    go_wp2
    go_ret
    exact ⟨retB (by rw [unhide H, hl]; simp), Ext.bytes _ _ _⟩

set_option maxRecDepth 100000 in
set_option maxHeartbeats 400000 in
theorem isString (s : ByteArray) (w : World) (hm : s.size ≤ 9223372036854775807) :
    Calls Tryz.prog 77 #[.string s] w fun e w' => e = .returned (.bool (stringB s.data.toList)) ∧ Ext w w' := by
  have Hz := hide (size_toList s)
  by_cases h12 : 20 < s.size
  · have H := hide (show stringB s.data.toList = false by simp only [stringB]; rw [unhide Hz]; simp; omega)
    have h1 : (20:Int) < (s.size : Int) := by omega
    go_enter Tryz.func77, Tryz.ntmps77
    go_wp2
    go_ret
    exact ⟨retB (by rw [unhide H]), Ext.refl _⟩
  have h1 : decide ((20:Int) < (s.size : Int)) = false := by simp; omega
  have H := hide (show stringB s.data.toList = s.data.toList.all fun x => isTextB x.toNat by simp only [stringB]; rw [unhide Hz]; simp; omega)
  have hcv := fun (w : World) => Lib.run_convert_string_bytes (P := Tryz.prog) w 9 39 5 s Tryz.underlying9 Tryz.underlying39 Tryz.underlying5
  go_enter Tryz.func77, Tryz.ntmps77
  go_wp2_with fail
  refine (everyText _ 0 _ _ s.data.toList _ (unhide Hz) (by rw [unhide Hz]; omega) ?_).mono ?_
  · intro i hi
    rw [unhide Hz] at hi
    have := Lib.bytesWorld_cell w 5 s i hi
    simpa using this
  rintro e w1 ⟨rfl, rfl⟩
  go_wp2
  go_ret
  exact ⟨retB (by rw [unhide H]; simp), Ext.bytes _ _ _⟩
end Go.Proofs.YtfnbbohbicffpaaGreatDoor

namespace Go.Proofs.YtfnbbohbicffpaaGreatDoor

/-- The place of the first resource with an ID. -/
def placeL (l : List Resd) (a : IDd) : Option Nat := l.findIdx? (fun x => decide (x.id.kind = a.kind ∧ x.id.name = a.name))
/-- The resource at k waits for the one at j. -/
def Edge (l : List Resd) (k j : Nat) : Prop := ∃ x a, l[k]? = some x ∧ a ∈ x.after ∧ placeL l a = some j
/-- From i one comes to j, by so many steps as it takes. -/
inductive Comes (l : List Resd) (i : Nat) : Nat → Prop
  | here : Comes l i i
  | step {k j : Nat} : Comes l i k → Edge l k j → Comes l i j
/-- The resource at i waits for itself. -/
def Circ (l : List Resd) (i : Nat) : Prop := ∃ k, Comes l i k ∧ Edge l k i

theorem place_id {l : List Resd} {a : IDd} {j : Nat} (h : placeL l a = some j) : ∃ x, l[j]? = some x ∧ x.id = a := by
  unfold placeL at h
  obtain ⟨h1, h2, _⟩ := List.findIdx?_eq_some_iff_getElem.1 h
  obtain ⟨h3, h4⟩ := of_decide_eq_true h2
  refine ⟨l[j], List.getElem?_eq_getElem h1, ?_⟩
  cases hx : l[j].id; cases a; simp_all
/-- What holds of i and goes over each step holds of all that one comes to. -/
theorem Comes.closed {l : List Resd} {i : Nat} {S : Nat → Prop} (h0 : S i) (hs : ∀ k j, S k → Edge l k j → S j) {j : Nat} (h : Comes l i j) : S j := by
  induction h with
  | here => exact h0
  | step _ e ih => exact hs _ _ ih e

/-- How many are marked. -/
def marks (r : List Bool) : Nat := r.countP (· == true)
theorem marks_le (r : List Bool) : marks r ≤ r.length := List.countP_le_length
/-- More marks than before, none lost. -/
def MoreM (r r' : List Bool) : Prop := r'.length = r.length ∧ ∀ k : Nat, r[k]? = some true → r'[k]? = some true
theorem MoreM.refl (r : List Bool) : MoreM r r := ⟨rfl, fun _ h => h⟩
theorem MoreM.trans {r r' r'' : List Bool} (h : MoreM r r') (h' : MoreM r' r'') : MoreM r r'' := ⟨h'.1.trans h.1, fun k hk => h'.2 k (h.2 k hk)⟩
theorem MoreM.set (r : List Bool) (j : Nat) : MoreM r (r.set j true) := by
  refine ⟨List.length_set .., fun k hk => ?_⟩
  have hlt := (List.getElem?_eq_some_iff.1 hk).1
  rw [List.getElem?_set]
  split
  · rename_i h; subst h; rw [if_pos hlt]
  · exact hk

theorem marks_cons (b : Bool) (r : List Bool) : marks (b :: r) = marks r + (if b = true then 1 else 0) := by
  simp [marks, List.countP_cons]
theorem MoreM.marks_le : ∀ {r r' : List Bool}, MoreM r r' → marks r ≤ marks r'
  | [], r', h => Nat.zero_le _
  | b :: r, [], h => by cases h.1
  | b :: r, b' :: r', h => by
    have h1 : MoreM r r' := ⟨by simpa using h.1, fun k hk => by simpa using h.2 (k + 1) (by simpa using hk)⟩
    have h2 : b = true → b' = true := fun hb => by simpa using h.2 0 (by simpa using hb)
    have := MoreM.marks_le h1
    rw [marks_cons, marks_cons]
    cases b <;> cases b' <;> simp_all <;> omega
theorem MoreM.same : ∀ {r r' : List Bool}, MoreM r r' → marks r' ≤ marks r → r' = r
  | [], r', h, _ => List.eq_nil_of_length_eq_zero h.1
  | b :: r, [], h, _ => by cases h.1
  | b :: r, b' :: r', h, hm => by
    have h1 : MoreM r r' := ⟨by simpa using h.1, fun k hk => by simpa using h.2 (k + 1) (by simpa using hk)⟩
    have h2 : b = true → b' = true := fun hb => by simpa using h.2 0 (by simpa using hb)
    have h3 := MoreM.marks_le h1
    rw [marks_cons, marks_cons] at hm
    have h4 : b' = b := by cases b <;> cases b' <;> simp_all <;> omega
    subst h4
    rw [MoreM.same h1 (by omega)]

/-- What is marked is closed, and the mark of i itself is seen. -/
def ClosedQ (l : List Resd) (i : Nat) (r : List Bool) (q : Bool) : Prop := ∀ k j, r[k]? = some true → Edge l k j → r[j]? = some true ∧ (j = i → q = true)
/-- Ahead of a round: what is marked one comes to; it is closed, or there are many marks. -/
structure Rounds (l : List Resd) (i n : Nat) (r : List Bool) (q : Bool) : Prop where
  len : r.length = l.length
  start : r[i]? = some true
  sound : ∀ k : Nat, r[k]? = some true → Comes l i k
  told : q = true → Circ l i
  grows : ClosedQ l i r q ∨ n + 1 ≤ marks r
theorem closed_comes {l : List Resd} {i : Nat} {r : List Bool} {q : Bool} (hs : r[i]? = some true) (hc : ClosedQ l i r q) {k : Nat} (h : Comes l i k) : r[k]? = some true :=
  h.closed (S := fun k => r[k]? = some true) hs fun k j hk he => (hc k j hk he).1
/-- A round: each step from what was marked ahead is taken. -/
theorem Rounds.step {l : List Resd} {i n : Nat} {r r' : List Bool} {q q' : Bool} (h : Rounds l i n r q) (hm : MoreM r r') (hs : ∀ k : Nat, r'[k]? = some true → Comes l i k) (ht : q' = true → Circ l i)
    (ha : ∀ k j : Nat, r[k]? = some true → Edge l k j → r'[j]? = some true ∧ (j = i → q' = true)) : Rounds l i (n + 1) r' q' := by
  have key : r' = r → ClosedQ l i r' q' := by rintro rfl; exact ha
  refine ⟨hm.1.trans h.len, hm.2 i h.start, hs, ht, ?_⟩
  rcases h.grows with hc | hn
  · refine .inl (key (hm.same (MoreM.marks_le ⟨hm.1.symm, fun k hk => closed_comes h.start hc (hs k hk)⟩)))
  · by_cases hmm : marks r' ≤ marks r
    · exact .inl (key (hm.same hmm))
    · exact .inr (by omega)
/-- Behind all rounds. -/
theorem Rounds.done {l : List Resd} {i : Nat} {r : List Bool} {q : Bool} (h : Rounds l i (l.length + 1) r q) : q = true ↔ Circ l i := by
  refine ⟨h.told, fun ⟨k, hk, he⟩ => ?_⟩
  have hc : ClosedQ l i r q := by
    rcases h.grows with hc | hn
    · exact hc
    · have := marks_le r; rw [h.len] at this; omega
  exact (hc k i (closed_comes h.start hc hk) he).2 rfl

/-- The same by IDs: who has the ID a waits for b. -/
def IdEdge (l : List Resd) (a b : IDd) : Prop := ∃ k y, placeL l a = some k ∧ l[k]? = some y ∧ b ∈ y.after
inductive IdComes (l : List Resd) (a : IDd) : IDd → Prop
  | here : IdComes l a a
  | step {b c : IDd} : IdComes l a b → IdEdge l b c → IdComes l a c
def IdCirc (l : List Resd) (a : IDd) : Prop := ∃ b, IdComes l a b ∧ IdEdge l b a
theorem IdComes.closed {l : List Resd} {a : IDd} {S : IDd → Prop} (h0 : S a) (hs : ∀ b c, S b → IdEdge l b c → S c) {b : IDd} (h : IdComes l a b) : S b := by
  induction h with
  | here => exact h0
  | step _ e ih => exact hs _ _ ih e
/-- What was met: each is met or is still to be done. -/
theorem waits_no {l : List Resd} {a : IDd} {M : IDd → Prop} (h0 : ∀ c, IdEdge l a c → M c) (hs : ∀ b c, M b → IdEdge l b c → M c) (hn : ¬ M a) : ¬ IdCirc l a := by
  rintro ⟨b, hb, he⟩
  have : b = a ∨ M b := hb.closed (S := fun b => b = a ∨ M b) (.inl rfl) (by
    rintro b c (rfl | h) he
    · exact .inr (h0 c he)
    · exact .inr (hs b c h he))
  rcases this with rfl | h
  · exact hn (h0 _ he)
  · exact hn (hs _ _ h he)
end Go.Proofs.YtfnbbohbicffpaaGreatDoor
