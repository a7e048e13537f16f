/-
  The words of the proofs: what bytes, words, strings, IDs, Attrs and resources may be, and how they are ordered, as functions of data; and the relation 'Ext' between two worlds: all that was there is there, as it was.
-/
/-
  How lists of IDs, Attrs and resources lie in memory; plain facts on lists that rise.
-/
/-
  Who waits for itself: plain facts on lists of resources.
-/
import Derived.Test.YtodhhjlemmmjcaaGreatRows
import Derived.WalkKit
import Derived.WalkSpells
import Derived.WalkLawsBesides
import Derived.Lib.ConvBytes
import Derived.Lib.Bytealg
namespace Go.Proofs.YtodhhjlemmmjcaaGreat
open Go.RowKit

/-- All that was there is there, as it was. -/
def Ext (w w' : World) : Prop := Below w.heap.size w w'
theorem Ext.refl (w : World) : Ext w w := Below.refl _ _
theorem Ext.size {w w' : World} (h : Ext w w') : w.heap.size ≤ w'.heap.size := Below.size h
theorem Ext.trans {a b c : World} (h : Ext a b) (k : Ext b c) : Ext a c := Below.trans h (Below.mono k h.size)
theorem Ext.cell {w w' : World} (h : Ext w w') {p : Addr} (hp : p.block < w.heap.size) : w'.cell? p = w.cell? p := Below.cell h hp
theorem Ext.cells {w w' : World} (h : Ext w w') {p : Addr} {v : Value} (hv : w.cell? p = some v) : w'.cell? p = some v := by
  rw [h.cell (World.block_lt_of_cell? w p hv)]; exact hv
theorem Ext.alloc {a w : World} (h : Ext a w) (o : Obj) : Ext a (w.alloc o) := Below.alloc h (Ext.size h) o
theorem Ext.drew {a w : World} (h : Ext a w) : Ext a w.drew := Below.drew h
theorem Ext.drewN {a w : World} (h : Ext a w) (n : Nat) : Ext a (w.drewN n) := h.trans ⟨rfl, rfl, rfl, Nat.le_refl _, fun _ _ => rfl⟩
theorem Ext.setCell {a w : World} (h : Ext a w) {p : Addr} (hp : a.heap.size ≤ p.block) (u : Value) : Ext a (w.setCell p u) := Below.setCell h hp u
theorem Ext.bytes (w : World) (e : TypeId) (s : ByteArray) : Ext w (Lib.bytesWorld w e s) :=
  ⟨rfl, rfl, rfl, by rw [Lib.bytesWorld_size]; omega, fun k hk => Lib.bytesWorld_at_old w e s k hk⟩

theorem retB {b c : Bool} (h : b = c) : Ending.returned (.bool b) = .returned (.bool c) := by rw [h]
theorem retI {b c : Int} (h : b = c) : Ending.returned (.int .i64 b) = .returned (.int .i64 c) := by rw [h]
theorem retS {b c : ByteArray} (h : b = c) : Ending.returned (.string b) = .returned (.string c) := by rw [h]
theorem hide {p : Prop} (h : p) : Hid p := h
theorem unhide {p : Prop} (h : Hid p) : p := h

def isLetterB (c : Int) : Bool := decide (97 ≤ c ∧ c ≤ 122) || decide (65 ≤ c ∧ c ≤ 90)
def isDigitB (c : Int) : Bool := decide (48 ≤ c ∧ c ≤ 57)
def isInnerB (c : Int) : Bool := isLetterB c || isDigitB c || c == 95 || c == 45
def isPlainB (c : Int) : Bool := decide (32 ≤ c ∧ c ≤ 126)
def isTextB (c : Int) : Bool := isPlainB c || c == 10

/-- A word. -/
def wordB : List UInt8 → Bool
  | [] => false
  | c :: l => decide (l.length + 1 ≤ 12) && (isLetterB c.toNat && (c :: l).all fun x => isInnerB x.toNat)
/-- A string that may be. -/
def stringB (l : List UInt8) : Bool := decide (l.length ≤ 20) && l.all fun x => isTextB x.toNat

theorem wordB_long {l : List UInt8} (h : 12 < l.length) : wordB l = false := by
  cases l with
  | nil => rfl
  | cons c l => simp only [List.length_cons] at h; simp [wordB]; omega

/-- An ID, an Attr, a resource. -/
structure IDd where
  kind : ByteArray
  name : ByteArray
structure Attrd where
  name : ByteArray
  isText : Bool
  text : ByteArray
  number : Int
structure Resd where
  id : IDd
  attrs : List Attrd
  after : List IDd

def idB (x : IDd) : Bool := wordB x.kind.data.toList && wordB x.name.data.toList
/-- The order of texts. -/
def cmpS (a b : ByteArray) : Int := Lib.compareBytes a.data.toList b.data.toList
/-- The order of IDs. -/
def cmpI (a b : IDd) : Int := if cmpS a.kind b.kind = 0 then cmpS a.name b.name else cmpS a.kind b.kind
def lessI (a b : IDd) : Bool := decide (cmpI a b < 0)

def afterW : List UInt8 := [97, 102, 116, 101, 114]
def attrB (x : Attrd) : Bool :=
  wordB x.name.data.toList && !(x.name.data.toList == afterW) &&
    (if x.isText then stringB x.text.data.toList && x.number == 0 else x.text.data.toList.isEmpty && decide (-1000000000 ≤ x.number ∧ x.number ≤ 1000000000))
/-- Each is less than the next. -/
def risesB {α : Type} (lt : α → α → Bool) : List α → Bool
  | [] => true
  | [_] => true
  | a :: b :: l => lt a b && risesB lt (b :: l)
def lessA (a b : Attrd) : Bool := decide (cmpS a.name b.name < 0)
def lessR (a b : Resd) : Bool := lessI a.id b.id
def mayB (x : Resd) : Bool :=
  decide (x.attrs.length ≤ 6) && decide (x.after.length ≤ 6) && idB x.id && x.attrs.all attrB && risesB lessA x.attrs && x.after.all idB && risesB lessI x.after
def mayAllB (l : List Resd) : Bool := decide (l.length ≤ 12) && l.all mayB && risesB lessR l

end Go.Proofs.YtodhhjlemmmjcaaGreat

namespace Go.Proofs.YtodhhjlemmmjcaaGreat
open Go.RowKit

def okI (x : IDd) : Prop := x.kind.size ≤ 1048576 ∧ x.name.size ≤ 1048576
def okA (x : Attrd) : Prop := x.name.size ≤ 1048576 ∧ x.text.size ≤ 1048576 ∧ -9223372036854775808 ≤ x.number ∧ x.number ≤ 9223372036854775807

/-- IDs lie in a block, from a place on. -/
def IDsIn (w : World) (b off : Nat) (l : List IDd) : Prop :=
  ∀ i x, l[i]? = some x → w.cell? ⟨b, off + i * 2, none⟩ = some (.string x.kind) ∧ w.cell? ⟨b, off + i * 2 + 1, none⟩ = some (.string x.name)
def AttrsIn (w : World) (b off : Nat) (l : List Attrd) : Prop :=
  ∀ i x, l[i]? = some x → w.cell? ⟨b, off + i * 4, none⟩ = some (.string x.name) ∧ w.cell? ⟨b, off + i * 4 + 1, none⟩ = some (.bool x.isText) ∧ w.cell? ⟨b, off + i * 4 + 2, none⟩ = some (.string x.text) ∧ w.cell? ⟨b, off + i * 4 + 3, none⟩ = some (.int .i64 x.number)

/-- A slice leads to a list of IDs. -/
structure IDsV (w : World) (v : Value) (l : List IDd) : Prop where
  shape : ∃ a cap, v = .slice a l.length cap ∧ l.length ≤ cap ∧ cap ≤ 9223372036854775807 ∧ (l = [] ∨ ∃ b off, a = some ⟨b, off, none⟩ ∧ IDsIn w b off l)
  few : l.length ≤ 2000000
  ok : ∀ x ∈ l, okI x
structure AttrsV (w : World) (v : Value) (l : List Attrd) : Prop where
  shape : ∃ a cap, v = .slice a l.length cap ∧ l.length ≤ cap ∧ cap ≤ 9223372036854775807 ∧ (l = [] ∨ ∃ b off, a = some ⟨b, off, none⟩ ∧ AttrsIn w b off l)
  few : l.length ≤ 2000000
  ok : ∀ x ∈ l, okA x

theorem IDsIn.ext {w w' : World} {b off : Nat} {l : List IDd} (h : IDsIn w b off l) (e : Ext w w') : IDsIn w' b off l :=
  fun i x hx => ⟨e.cells (h i x hx).1, e.cells (h i x hx).2⟩
theorem AttrsIn.ext {w w' : World} {b off : Nat} {l : List Attrd} (h : AttrsIn w b off l) (e : Ext w w') : AttrsIn w' b off l :=
  fun i x hx => ⟨e.cells (h i x hx).1, e.cells (h i x hx).2.1, e.cells (h i x hx).2.2.1, e.cells (h i x hx).2.2.2⟩
theorem IDsV.ext {w w' : World} {v : Value} {l : List IDd} (h : IDsV w v l) (e : Ext w w') : IDsV w' v l := by
  obtain ⟨⟨a, cap, hv, hc, hm, hs⟩, h2, h3⟩ := h
  refine ⟨⟨a, cap, hv, hc, hm, ?_⟩, h2, h3⟩
  rcases hs with hs | ⟨b, off, ha, hi⟩
  · exact .inl hs
  · exact .inr ⟨b, off, ha, hi.ext e⟩
theorem AttrsV.ext {w w' : World} {v : Value} {l : List Attrd} (h : AttrsV w v l) (e : Ext w w') : AttrsV w' v l := by
  obtain ⟨⟨a, cap, hv, hc, hm, hs⟩, h2, h3⟩ := h
  refine ⟨⟨a, cap, hv, hc, hm, ?_⟩, h2, h3⟩
  rcases hs with hs | ⟨b, off, ha, hi⟩
  · exact .inl hs
  · exact .inr ⟨b, off, ha, hi.ext e⟩

/-- A resource's four cells. -/
structure ResV (w : World) (c2 c3 : Value) (x : Resd) : Prop where
  id : okI x.id
  attrs : AttrsV w c2 x.attrs
  after : IDsV w c3 x.after
theorem ResV.ext {w w' : World} {c2 c3 : Value} {x : Resd} (h : ResV w c2 c3 x) (e : Ext w w') : ResV w' c2 c3 x := ⟨h.id, h.attrs.ext e, h.after.ext e⟩
def RessIn (w : World) (b off : Nat) (l : List Resd) : Prop :=
  ∀ i x, l[i]? = some x → w.cell? ⟨b, off + i * 4, none⟩ = some (.string x.id.kind) ∧ w.cell? ⟨b, off + i * 4 + 1, none⟩ = some (.string x.id.name) ∧
    ∃ c2 c3, w.cell? ⟨b, off + i * 4 + 2, none⟩ = some c2 ∧ w.cell? ⟨b, off + i * 4 + 3, none⟩ = some c3 ∧ ResV w c2 c3 x
structure RessV (w : World) (v : Value) (l : List Resd) : Prop where
  shape : ∃ a cap, v = .slice a l.length cap ∧ l.length ≤ cap ∧ cap ≤ 9223372036854775807 ∧ (l = [] ∨ ∃ b off, a = some ⟨b, off, none⟩ ∧ RessIn w b off l)
  few : l.length ≤ 2000000
theorem RessIn.ext {w w' : World} {b off : Nat} {l : List Resd} (h : RessIn w b off l) (e : Ext w w') : RessIn w' b off l := by
  intro i x hx
  obtain ⟨h0, h1, c2, c3, h2, h3, h4⟩ := h i x hx
  exact ⟨e.cells h0, e.cells h1, c2, c3, e.cells h2, e.cells h3, h4.ext e⟩
theorem RessV.ext {w w' : World} {v : Value} {l : List Resd} (h : RessV w v l) (e : Ext w w') : RessV w' v l := by
  obtain ⟨⟨a, cap, hv, hc, hm, hs⟩, h2⟩ := h
  refine ⟨⟨a, cap, hv, hc, hm, ?_⟩, h2⟩
  rcases hs with hs | ⟨b, off, ha, hi⟩
  · exact .inl hs
  · exact .inr ⟨b, off, ha, hi.ext e⟩

/-! Plain facts -/
theorem all_succ {α : Type} {l : List α} {p : α → Bool} {k : Nat} {x : α} (h : l[k]? = some x) (ha : (l.take k).all p = true) : (l.take (k + 1)).all p = p x := by
  have hk : k < l.length := (List.getElem?_eq_some_iff.1 h).1
  rw [List.take_succ_eq_append_getElem hk, List.all_append, ha]
  have : l[k] = x := (List.getElem?_eq_some_iff.1 h).2
  simp [this]
theorem all_no {α : Type} {l : List α} {p : α → Bool} {k : Nat} {x : α} (h : l[k]? = some x) (hp : p x = false) : l.all p = false := by
  rw [List.all_eq_false]; exact ⟨x, List.mem_of_getElem? h, by simpa using hp⟩
theorem rises_take {α : Type} {lt : α → α → Bool} : ∀ {l : List α} {k : Nat} {x y : α}, l[k]? = some x → l[k + 1]? = some y → risesB lt (l.take (k + 2)) = (risesB lt (l.take (k + 1)) && lt x y)
  | [], k, x, y, h, _ => by simp at h
  | [a], k, x, y, h, h' => by simp at h'
  | a :: b :: l, 0, x, y, h, h' => by
    simp at h h'
    subst h h'
    simp [risesB]
  | a :: b :: l, k + 1, x, y, h, h' => by
    have ih := rises_take (lt := lt) (l := b :: l) (k := k) (x := x) (y := y) (by simpa using h) (by simpa using h')
    have e1 : (a :: b :: l).take (k + 1 + 2) = a :: b :: (l.take (k + 1)) := by simp
    have e2 : (a :: b :: l).take (k + 1 + 1) = a :: b :: (l.take k) := by simp
    have e3 : (b :: l).take (k + 2) = b :: l.take (k + 1) := by simp
    have e4 : (b :: l).take (k + 1) = b :: l.take k := by simp
    rw [e3, e4] at ih
    rw [e1, e2]
    simp only [risesB]
    rw [ih, Bool.and_assoc]
theorem rises_no {α : Type} {lt : α → α → Bool} : ∀ {l : List α} {k : Nat} {x y : α}, l[k]? = some x → l[k + 1]? = some y → lt x y = false → risesB lt l = false
  | [], k, x, y, h, _, _ => by simp at h
  | [a], k, x, y, h, h', _ => by simp at h'
  | a :: b :: l, 0, x, y, h, h', hn => by
    simp at h h'
    subst h h'
    simp [risesB, hn]
  | a :: b :: l, k + 1, x, y, h, h', hn => by
    have ih := rises_no (lt := lt) (l := b :: l) (k := k) (x := x) (y := y) (by simpa using h) (by simpa using h') hn
    simp [risesB, ih]
theorem rises_short {α : Type} {lt : α → α → Bool} {l : List α} {k : Nat} (h : l.length ≤ k + 1) : risesB lt (l.take (k + 1)) = risesB lt l := by
  rw [List.take_of_length_le h]
theorem rises_one {α : Type} {lt : α → α → Bool} (l : List α) : risesB lt (l.take 1) = true := by
  match l with
  | [] => rfl
  | [_] => rfl
  | _ :: _ :: _ => rfl
theorem some_of_lt {α : Type} {l : List α} {k : Nat} (h : k < l.length) : ∃ x, l[k]? = some x := ⟨l[k], List.getElem?_eq_getElem h⟩
end Go.Proofs.YtodhhjlemmmjcaaGreat

namespace Go.Proofs.YtodhhjlemmmjcaaGreat

/-- The place of the first resource with an ID. -/
def placeL (l : List Resd) (a : IDd) : Option Nat := l.findIdx? (fun x => decide (x.id.kind = a.kind ∧ x.id.name = a.name))
/-- The resource at k waits for the one at j. -/
def Edge (l : List Resd) (k j : Nat) : Prop := ∃ x a, l[k]? = some x ∧ a ∈ x.after ∧ placeL l a = some j
/-- From i one comes to j, by so many steps as it takes. -/
inductive Comes (l : List Resd) (i : Nat) : Nat → Prop
  | here : Comes l i i
  | step {k j : Nat} : Comes l i k → Edge l k j → Comes l i j
/-- The resource at i waits for itself. -/
def Circ (l : List Resd) (i : Nat) : Prop := ∃ k, Comes l i k ∧ Edge l k i

theorem place_lt {l : List Resd} {a : IDd} {j : Nat} (h : placeL l a = some j) : j < l.length := by
  unfold placeL at h
  exact (List.findIdx?_eq_some_iff_getElem.1 h).1
theorem place_id {l : List Resd} {a : IDd} {j : Nat} (h : placeL l a = some j) : ∃ x, l[j]? = some x ∧ x.id = a := by
  unfold placeL at h
  obtain ⟨h1, h2, _⟩ := List.findIdx?_eq_some_iff_getElem.1 h
  obtain ⟨h3, h4⟩ := of_decide_eq_true h2
  refine ⟨l[j], List.getElem?_eq_getElem h1, ?_⟩
  cases hx : l[j].id; cases a; simp_all
theorem edge_lt {l : List Resd} {k j : Nat} (h : Edge l k j) : j < l.length := by
  obtain ⟨_, _, _, _, h⟩ := h; exact place_lt h
theorem edge_lt' {l : List Resd} {k j : Nat} (h : Edge l k j) : k < l.length := by
  obtain ⟨_, _, h, _, _⟩ := h; exact (List.getElem?_eq_some_iff.1 h).1

/-- What holds of i and goes over each step holds of all that one comes to. -/
theorem Comes.closed {l : List Resd} {i : Nat} {S : Nat → Prop} (h0 : S i) (hs : ∀ k j, S k → Edge l k j → S j) {j : Nat} (h : Comes l i j) : S j := by
  induction h with
  | here => exact h0
  | step _ e ih => exact hs _ _ ih e

/-- How many are marked. -/
def marks (r : List Bool) : Nat := r.countP (· == true)
theorem marks_le (r : List Bool) : marks r ≤ r.length := List.countP_le_length
theorem marks_set {r : List Bool} {j : Nat} (h : r[j]? = some false) : marks (r.set j true) = marks r + 1 := by
  induction r generalizing j with
  | nil => cases h
  | cons b r ih =>
    cases j with
    | zero =>
      obtain rfl : b = false := by simpa using h
      simp [marks]
    | succ j =>
      have := ih (j := j) (by simpa using h)
      simp only [List.set_cons_succ, marks, List.countP_cons] at *
      omega
theorem marks_set_same {r : List Bool} {j : Nat} (h : r[j]? = some true) : r.set j true = r := by
  obtain ⟨hj, h⟩ := List.getElem?_eq_some_iff.1 h
  rw [← h]; exact List.set_getElem_self hj

/-- The marks are closed under the steps. -/
def ClosedM (l : List Resd) (r : List Bool) : Prop := ∀ k j, r[k]? = some true → Edge l k j → r[j]? = some true
/-- More marks than before, none lost. -/
def MoreM (r r' : List Bool) : Prop := r'.length = r.length ∧ ∀ k : Nat, r[k]? = some true → r'[k]? = some true
theorem MoreM.refl (r : List Bool) : MoreM r r := ⟨rfl, fun _ h => h⟩
theorem MoreM.trans {r r' r'' : List Bool} (h : MoreM r r') (h' : MoreM r' r'') : MoreM r r'' := ⟨h'.1.trans h.1, fun k hk => h'.2 k (h.2 k hk)⟩
theorem MoreM.set (r : List Bool) (j : Nat) : MoreM r (r.set j true) := by
  refine ⟨List.length_set .., fun k hk => ?_⟩
  have hlt := (List.getElem?_eq_some_iff.1 hk).1
  rw [List.getElem?_set]
  split
  · rename_i h; subst h; rw [if_pos hlt]
  · exact hk

theorem marks_cons (b : Bool) (r : List Bool) : marks (b :: r) = marks r + (if b = true then 1 else 0) := by
  simp [marks, List.countP_cons]
theorem MoreM.marks_le : ∀ {r r' : List Bool}, MoreM r r' → marks r ≤ marks r'
  | [], r', h => Nat.zero_le _
  | b :: r, [], h => by cases h.1
  | b :: r, b' :: r', h => by
    have h1 : MoreM r r' := ⟨by simpa using h.1, fun k hk => by simpa using h.2 (k + 1) (by simpa using hk)⟩
    have h2 : b = true → b' = true := fun hb => by simpa using h.2 0 (by simpa using hb)
    have := MoreM.marks_le h1
    rw [marks_cons, marks_cons]
    cases b <;> cases b' <;> simp_all <;> omega
theorem MoreM.same : ∀ {r r' : List Bool}, MoreM r r' → marks r' ≤ marks r → r' = r
  | [], r', h, _ => List.eq_nil_of_length_eq_zero h.1
  | b :: r, [], h, _ => by cases h.1
  | b :: r, b' :: r', h, hm => by
    have h1 : MoreM r r' := ⟨by simpa using h.1, fun k hk => by simpa using h.2 (k + 1) (by simpa using hk)⟩
    have h2 : b = true → b' = true := fun hb => by simpa using h.2 0 (by simpa using hb)
    have h3 := MoreM.marks_le h1
    rw [marks_cons, marks_cons] at hm
    have h4 : b' = b := by cases b <;> cases b' <;> simp_all <;> omega
    subst h4
    rw [MoreM.same h1 (by omega)]

/-- What is marked is closed, and the mark of i itself is seen. -/
def ClosedQ (l : List Resd) (i : Nat) (r : List Bool) (q : Bool) : Prop := ∀ k j, r[k]? = some true → Edge l k j → r[j]? = some true ∧ (j = i → q = true)
/-- Ahead of a round: what is marked one comes to; it is closed, or there are many marks. -/
structure Rounds (l : List Resd) (i n : Nat) (r : List Bool) (q : Bool) : Prop where
  len : r.length = l.length
  start : r[i]? = some true
  sound : ∀ k : Nat, r[k]? = some true → Comes l i k
  told : q = true → Circ l i
  grows : ClosedQ l i r q ∨ n + 1 ≤ marks r
theorem closed_comes {l : List Resd} {i : Nat} {r : List Bool} {q : Bool} (hs : r[i]? = some true) (hc : ClosedQ l i r q) {k : Nat} (h : Comes l i k) : r[k]? = some true :=
  h.closed (S := fun k => r[k]? = some true) hs fun k j hk he => (hc k j hk he).1
/-- A round: each step from what was marked ahead is taken. -/
theorem Rounds.step {l : List Resd} {i n : Nat} {r r' : List Bool} {q q' : Bool} (h : Rounds l i n r q) (hm : MoreM r r') (hs : ∀ k : Nat, r'[k]? = some true → Comes l i k) (ht : q' = true → Circ l i)
    (ha : ∀ k j : Nat, r[k]? = some true → Edge l k j → r'[j]? = some true ∧ (j = i → q' = true)) : Rounds l i (n + 1) r' q' := by
  have key : r' = r → ClosedQ l i r' q' := by rintro rfl; exact ha
  refine ⟨hm.1.trans h.len, hm.2 i h.start, hs, ht, ?_⟩
  rcases h.grows with hc | hn
  · refine .inl (key (hm.same (MoreM.marks_le ⟨hm.1.symm, fun k hk => closed_comes h.start hc (hs k hk)⟩)))
  · by_cases hmm : marks r' ≤ marks r
    · exact .inl (key (hm.same hmm))
    · exact .inr (by omega)
/-- Behind all rounds. -/
theorem Rounds.done {l : List Resd} {i : Nat} {r : List Bool} {q : Bool} (h : Rounds l i (l.length + 1) r q) : q = true ↔ Circ l i := by
  refine ⟨h.told, fun ⟨k, hk, he⟩ => ?_⟩
  have hc : ClosedQ l i r q := by
    rcases h.grows with hc | hn
    · exact hc
    · have := marks_le r; rw [h.len] at this; omega
  exact (hc k i (closed_comes h.start hc hk) he).2 rfl

/-- The same by IDs: who has the ID a waits for b. -/
def IdEdge (l : List Resd) (a b : IDd) : Prop := ∃ k y, placeL l a = some k ∧ l[k]? = some y ∧ b ∈ y.after
inductive IdComes (l : List Resd) (a : IDd) : IDd → Prop
  | here : IdComes l a a
  | step {b c : IDd} : IdComes l a b → IdEdge l b c → IdComes l a c
def IdCirc (l : List Resd) (a : IDd) : Prop := ∃ b, IdComes l a b ∧ IdEdge l b a
theorem IdComes.closed {l : List Resd} {a : IDd} {S : IDd → Prop} (h0 : S a) (hs : ∀ b c, S b → IdEdge l b c → S c) {b : IDd} (h : IdComes l a b) : S b := by
  induction h with
  | here => exact h0
  | step _ e ih => exact hs _ _ ih e
/-- No two have the same ID. -/
def Apart (l : List Resd) : Prop := ∀ (i j : Nat) x y, l[i]? = some x → l[j]? = some y → x.id = y.id → i = j
theorem place_self {l : List Resd} (hd : Apart l) {i : Nat} {x : Resd} (hx : l[i]? = some x) : placeL l x.id = some i := by
  obtain ⟨hi, hxi⟩ := List.getElem?_eq_some_iff.1 hx
  refine List.findIdx?_eq_some_iff_getElem.2 ⟨hi, by rw [hxi]; simp, fun j hj => ?_⟩
  simp only [decide_eq_true_eq, not_and]
  intro h1 h2
  have := hd j i l[j] x (List.getElem?_eq_getElem (by omega)) hx (by
    cases hl : l[j].id; cases hx2 : x.id; simp_all)
  omega
theorem circ_iff {l : List Resd} (hd : Apart l) {i : Nat} {x : Resd} (hx : l[i]? = some x) : IdCirc l x.id ↔ Circ l i := by
  constructor
  · rintro ⟨b, hb, k, y, h1, h2, h3⟩
    have key : ∀ c, IdComes l x.id c → ∀ k, placeL l c = some k → Comes l i k := by
      intro c hc
      induction hc with
      | here =>
        intro k hk
        obtain rfl : i = k := by simpa using (place_self hd hx).symm.trans hk
        exact .here
      | step _ e ih =>
        intro j hj
        obtain ⟨k, y, h1, h2, h3⟩ := e
        exact (ih k h1).step ⟨y, _, h2, h3, hj⟩
    exact ⟨k, key b hb k h1, y, x.id, h2, h3, place_self hd hx⟩
  · rintro ⟨k, hk, y, a, h1, h2, h3⟩
    have key : ∀ k, Comes l i k → ∀ y, l[k]? = some y → IdComes l x.id y.id := by
      intro k hk
      induction hk with
      | here =>
        intro y hy
        obtain rfl : x = y := by simpa using hx.symm.trans hy
        exact .here
      | step _ e ih =>
        intro z hz
        obtain ⟨y, a, h1, h2, h3⟩ := e
        obtain ⟨z', hz', rfl⟩ := place_id h3
        obtain rfl : z = z' := by simpa using hz.symm.trans hz'
        exact (ih y h1).step ⟨_, y, place_self hd h1, h1, h2⟩
    obtain ⟨x', hx', rfl⟩ := place_id h3
    obtain rfl : x = x' := by simpa using hx.symm.trans hx'
    exact ⟨y.id, key k hk y h1, _, y, place_self hd h1, h1, h2⟩
/-- What was met: each is met or is still to be done. -/
theorem waits_no {l : List Resd} {a : IDd} {M : IDd → Prop} (h0 : ∀ c, IdEdge l a c → M c) (hs : ∀ b c, M b → IdEdge l b c → M c) (hn : ¬ M a) : ¬ IdCirc l a := by
  rintro ⟨b, hb, he⟩
  have : b = a ∨ M b := hb.closed (S := fun b => b = a ∨ M b) (.inl rfl) (by
    rintro b c (rfl | h) he
    · exact .inr (h0 c he)
    · exact .inr (hs b c h he))
  rcases this with rfl | h
  · exact hn (h0 _ he)
  · exact hn (hs _ _ h he)
end Go.Proofs.YtodhhjlemmmjcaaGreat
