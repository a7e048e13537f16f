/-
  The words of the proofs: what bytes, words, strings, IDs, Attrs and resources may be, and how they are ordered, as functions of data; and the relation 'Ext' between two worlds: all that was there is there, as it was.
-/
/-
  How lists of IDs, Attrs and resources lie in memory; plain facts on lists that rise.
-/
/-
  A slice of bytes as a string; a new row of one cell and of two.
-/
/-
  The small functions of bytes and words: what each answers.
-/
/-
  Tokens: what a text is cut into, as functions of its bytes.
-/
/-
  Tokens: where they end; a text cut piece by piece.
-/
/-
  Rows in the order of their keys: plain facts, for keys and rows of any kind.
-/
import Derived.Test.YtfoelahabalbpaaGreatDoorRows
import Derived.WalkKit
import Derived.WalkSpells
import Derived.WalkLawsBesides
import Derived.Lib.ConvBytes
import Derived.Lib.Bytealg
namespace Go.Proofs.YtfoelahabalbpaaGreatDoor
open Go.RowKit

/-- All that was there is there, as it was. -/
def Ext (w w' : World) : Prop := Below w.heap.size w w'
theorem Ext.refl (w : World) : Ext w w := Below.refl _ _
theorem Ext.size {w w' : World} (h : Ext w w') : w.heap.size ≤ w'.heap.size := Below.size h
theorem Ext.trans {a b c : World} (h : Ext a b) (k : Ext b c) : Ext a c := Below.trans h (Below.mono k h.size)
theorem Ext.cell {w w' : World} (h : Ext w w') {p : Addr} (hp : p.block < w.heap.size) : w'.cell? p = w.cell? p := Below.cell h hp
theorem Ext.cells {w w' : World} (h : Ext w w') {p : Addr} {v : Value} (hv : w.cell? p = some v) : w'.cell? p = some v := by
  rw [h.cell (World.block_lt_of_cell? w p hv)]; exact hv
theorem Ext.alloc {a w : World} (h : Ext a w) (o : Obj) : Ext a (w.alloc o) := Below.alloc h (Ext.size h) o
theorem Ext.drew {a w : World} (h : Ext a w) : Ext a w.drew := Below.drew h
theorem Ext.drewN {a w : World} (h : Ext a w) (n : Nat) : Ext a (w.drewN n) := h.trans ⟨rfl, rfl, rfl, Nat.le_refl _, fun _ _ => rfl⟩
theorem Ext.setCell {a w : World} (h : Ext a w) {p : Addr} (hp : a.heap.size ≤ p.block) (u : Value) : Ext a (w.setCell p u) := Below.setCell h hp u
theorem Ext.bytes (w : World) (e : TypeId) (s : ByteArray) : Ext w (Lib.bytesWorld w e s) :=
  ⟨rfl, rfl, rfl, by rw [Lib.bytesWorld_size]; omega, fun k hk => Lib.bytesWorld_at_old w e s k hk⟩

theorem retB {b c : Bool} (h : b = c) : Ending.returned (.bool b) = .returned (.bool c) := by rw [h]
theorem retI {b c : Int} (h : b = c) : Ending.returned (.int .i64 b) = .returned (.int .i64 c) := by rw [h]
theorem retS {b c : ByteArray} (h : b = c) : Ending.returned (.string b) = .returned (.string c) := by rw [h]
theorem hide {p : Prop} (h : p) : Hid p := h
theorem unhide {p : Prop} (h : Hid p) : p := h

def isLetterB (c : Int) : Bool := decide (97 ≤ c ∧ c ≤ 122) || decide (65 ≤ c ∧ c ≤ 90)
def isDigitB (c : Int) : Bool := decide (48 ≤ c ∧ c ≤ 57)
def isInnerB (c : Int) : Bool := isLetterB c || isDigitB c || c == 95 || c == 45
def isPlainB (c : Int) : Bool := decide (32 ≤ c ∧ c ≤ 126)
def isTextB (c : Int) : Bool := isPlainB c || c == 10

/-- A word. -/
def wordB : List UInt8 → Bool
  | [] => false
  | c :: l => decide (l.length + 1 ≤ 12) && (isLetterB c.toNat && (c :: l).all fun x => isInnerB x.toNat)
/-- A string that may be. -/
def stringB (l : List UInt8) : Bool := decide (l.length ≤ 20) && l.all fun x => isTextB x.toNat

theorem wordB_long {l : List UInt8} (h : 12 < l.length) : wordB l = false := by
  cases l with
  | nil => rfl
  | cons c l => simp only [List.length_cons] at h; simp [wordB]; omega

/-- An ID, an Attr, a resource. -/
structure IDd where
  kind : ByteArray
  name : ByteArray
structure Attrd where
  name : ByteArray
  isText : Bool
  text : ByteArray
  number : Int
structure Resd where
  id : IDd
  attrs : List Attrd
  after : List IDd

def idB (x : IDd) : Bool := wordB x.kind.data.toList && wordB x.name.data.toList
/-- The order of texts. -/
def cmpS (a b : ByteArray) : Int := Lib.compareBytes a.data.toList b.data.toList
/-- The order of IDs. -/
def cmpI (a b : IDd) : Int := if cmpS a.kind b.kind = 0 then cmpS a.name b.name else cmpS a.kind b.kind
def lessI (a b : IDd) : Bool := decide (cmpI a b < 0)

def afterW : List UInt8 := [97, 102, 116, 101, 114]
def attrB (x : Attrd) : Bool :=
  wordB x.name.data.toList && !(x.name.data.toList == afterW) &&
    (if x.isText then stringB x.text.data.toList && x.number == 0 else x.text.data.toList.isEmpty && decide (-1000000000 ≤ x.number ∧ x.number ≤ 1000000000))
/-- Each is less than the next. -/
def risesB {α : Type} (lt : α → α → Bool) : List α → Bool
  | [] => true
  | [_] => true
  | a :: b :: l => lt a b && risesB lt (b :: l)
def lessA (a b : Attrd) : Bool := decide (cmpS a.name b.name < 0)
def lessR (a b : Resd) : Bool := lessI a.id b.id
def mayB (x : Resd) : Bool :=
  decide (x.attrs.length ≤ 6) && decide (x.after.length ≤ 6) && idB x.id && x.attrs.all attrB && risesB lessA x.attrs && x.after.all idB && risesB lessI x.after
def mayAllB (l : List Resd) : Bool := decide (l.length ≤ 12) && l.all mayB && risesB lessR l

end Go.Proofs.YtfoelahabalbpaaGreatDoor

namespace Go.Proofs.YtfoelahabalbpaaGreatDoor
open Go.RowKit

def okI (x : IDd) : Prop := x.kind.size ≤ 1048576 ∧ x.name.size ≤ 1048576
def okA (x : Attrd) : Prop := x.name.size ≤ 1048576 ∧ x.text.size ≤ 1048576 ∧ -9223372036854775808 ≤ x.number ∧ x.number ≤ 9223372036854775807

/-- IDs lie in a block, from a place on. -/
def IDsIn (w : World) (b off : Nat) (l : List IDd) : Prop :=
  ∀ i x, l[i]? = some x → w.cell? ⟨b, off + i * 2, none⟩ = some (.string x.kind) ∧ w.cell? ⟨b, off + i * 2 + 1, none⟩ = some (.string x.name)
def AttrsIn (w : World) (b off : Nat) (l : List Attrd) : Prop :=
  ∀ i x, l[i]? = some x → w.cell? ⟨b, off + i * 4, none⟩ = some (.string x.name) ∧ w.cell? ⟨b, off + i * 4 + 1, none⟩ = some (.bool x.isText) ∧ w.cell? ⟨b, off + i * 4 + 2, none⟩ = some (.string x.text) ∧ w.cell? ⟨b, off + i * 4 + 3, none⟩ = some (.int .i64 x.number)

/-- A slice leads to a list of IDs. -/
structure IDsV (w : World) (v : Value) (l : List IDd) : Prop where
  shape : ∃ a cap, v = .slice a l.length cap ∧ l.length ≤ cap ∧ cap ≤ 9223372036854775807 ∧ (l = [] ∨ ∃ b off, a = some ⟨b, off, none⟩ ∧ IDsIn w b off l)
  few : l.length ≤ 2000000
  ok : ∀ x ∈ l, okI x
structure AttrsV (w : World) (v : Value) (l : List Attrd) : Prop where
  shape : ∃ a cap, v = .slice a l.length cap ∧ l.length ≤ cap ∧ cap ≤ 9223372036854775807 ∧ (l = [] ∨ ∃ b off, a = some ⟨b, off, none⟩ ∧ AttrsIn w b off l)
  few : l.length ≤ 2000000
  ok : ∀ x ∈ l, okA x

theorem IDsIn.ext {w w' : World} {b off : Nat} {l : List IDd} (h : IDsIn w b off l) (e : Ext w w') : IDsIn w' b off l :=
  fun i x hx => ⟨e.cells (h i x hx).1, e.cells (h i x hx).2⟩
theorem AttrsIn.ext {w w' : World} {b off : Nat} {l : List Attrd} (h : AttrsIn w b off l) (e : Ext w w') : AttrsIn w' b off l :=
  fun i x hx => ⟨e.cells (h i x hx).1, e.cells (h i x hx).2.1, e.cells (h i x hx).2.2.1, e.cells (h i x hx).2.2.2⟩
theorem IDsV.ext {w w' : World} {v : Value} {l : List IDd} (h : IDsV w v l) (e : Ext w w') : IDsV w' v l := by
  obtain ⟨⟨a, cap, hv, hc, hm, hs⟩, h2, h3⟩ := h
  refine ⟨⟨a, cap, hv, hc, hm, ?_⟩, h2, h3⟩
  rcases hs with hs | ⟨b, off, ha, hi⟩
  · exact .inl hs
  · exact .inr ⟨b, off, ha, hi.ext e⟩
theorem AttrsV.ext {w w' : World} {v : Value} {l : List Attrd} (h : AttrsV w v l) (e : Ext w w') : AttrsV w' v l := by
  obtain ⟨⟨a, cap, hv, hc, hm, hs⟩, h2, h3⟩ := h
  refine ⟨⟨a, cap, hv, hc, hm, ?_⟩, h2, h3⟩
  rcases hs with hs | ⟨b, off, ha, hi⟩
  · exact .inl hs
  · exact .inr ⟨b, off, ha, hi.ext e⟩

/-- A resource's four cells. -/
structure ResV (w : World) (c2 c3 : Value) (x : Resd) : Prop where
  id : okI x.id
  attrs : AttrsV w c2 x.attrs
  after : IDsV w c3 x.after
theorem ResV.ext {w w' : World} {c2 c3 : Value} {x : Resd} (h : ResV w c2 c3 x) (e : Ext w w') : ResV w' c2 c3 x := ⟨h.id, h.attrs.ext e, h.after.ext e⟩
def RessIn (w : World) (b off : Nat) (l : List Resd) : Prop :=
  ∀ i x, l[i]? = some x → w.cell? ⟨b, off + i * 4, none⟩ = some (.string x.id.kind) ∧ w.cell? ⟨b, off + i * 4 + 1, none⟩ = some (.string x.id.name) ∧
    ∃ c2 c3, w.cell? ⟨b, off + i * 4 + 2, none⟩ = some c2 ∧ w.cell? ⟨b, off + i * 4 + 3, none⟩ = some c3 ∧ ResV w c2 c3 x
structure RessV (w : World) (v : Value) (l : List Resd) : Prop where
  shape : ∃ a cap, v = .slice a l.length cap ∧ l.length ≤ cap ∧ cap ≤ 9223372036854775807 ∧ (l = [] ∨ ∃ b off, a = some ⟨b, off, none⟩ ∧ RessIn w b off l)
  few : l.length ≤ 2000000
theorem RessIn.ext {w w' : World} {b off : Nat} {l : List Resd} (h : RessIn w b off l) (e : Ext w w') : RessIn w' b off l := by
  intro i x hx
  obtain ⟨h0, h1, c2, c3, h2, h3, h4⟩ := h i x hx
  exact ⟨e.cells h0, e.cells h1, c2, c3, e.cells h2, e.cells h3, h4.ext e⟩
theorem RessV.ext {w w' : World} {v : Value} {l : List Resd} (h : RessV w v l) (e : Ext w w') : RessV w' v l := by
  obtain ⟨⟨a, cap, hv, hc, hm, hs⟩, h2⟩ := h
  refine ⟨⟨a, cap, hv, hc, hm, ?_⟩, h2⟩
  rcases hs with hs | ⟨b, off, ha, hi⟩
  · exact .inl hs
  · exact .inr ⟨b, off, ha, hi.ext e⟩

/-! Plain facts -/
theorem all_succ {α : Type} {l : List α} {p : α → Bool} {k : Nat} {x : α} (h : l[k]? = some x) (ha : (l.take k).all p = true) : (l.take (k + 1)).all p = p x := by
  have hk : k < l.length := (List.getElem?_eq_some_iff.1 h).1
  rw [List.take_succ_eq_append_getElem hk, List.all_append, ha]
  have : l[k] = x := (List.getElem?_eq_some_iff.1 h).2
  simp [this]
theorem all_no {α : Type} {l : List α} {p : α → Bool} {k : Nat} {x : α} (h : l[k]? = some x) (hp : p x = false) : l.all p = false := by
  rw [List.all_eq_false]; exact ⟨x, List.mem_of_getElem? h, by simpa using hp⟩
theorem rises_take {α : Type} {lt : α → α → Bool} : ∀ {l : List α} {k : Nat} {x y : α}, l[k]? = some x → l[k + 1]? = some y → risesB lt (l.take (k + 2)) = (risesB lt (l.take (k + 1)) && lt x y)
  | [], k, x, y, h, _ => by simp at h
  | [a], k, x, y, h, h' => by simp at h'
  | a :: b :: l, 0, x, y, h, h' => by
    simp at h h'
    subst h h'
    simp [risesB]
  | a :: b :: l, k + 1, x, y, h, h' => by
    have ih := rises_take (lt := lt) (l := b :: l) (k := k) (x := x) (y := y) (by simpa using h) (by simpa using h')
    have e1 : (a :: b :: l).take (k + 1 + 2) = a :: b :: (l.take (k + 1)) := by simp
    have e2 : (a :: b :: l).take (k + 1 + 1) = a :: b :: (l.take k) := by simp
    have e3 : (b :: l).take (k + 2) = b :: l.take (k + 1) := by simp
    have e4 : (b :: l).take (k + 1) = b :: l.take k := by simp
    rw [e3, e4] at ih
    rw [e1, e2]
    simp only [risesB]
    rw [ih, Bool.and_assoc]
theorem rises_no {α : Type} {lt : α → α → Bool} : ∀ {l : List α} {k : Nat} {x y : α}, l[k]? = some x → l[k + 1]? = some y → lt x y = false → risesB lt l = false
  | [], k, x, y, h, _, _ => by simp at h
  | [a], k, x, y, h, h', _ => by simp at h'
  | a :: b :: l, 0, x, y, h, h', hn => by
    simp at h h'
    subst h h'
    simp [risesB, hn]
  | a :: b :: l, k + 1, x, y, h, h', hn => by
    have ih := rises_no (lt := lt) (l := b :: l) (k := k) (x := x) (y := y) (by simpa using h) (by simpa using h') hn
    simp [risesB, ih]
theorem rises_one {α : Type} {lt : α → α → Bool} (l : List α) : risesB lt (l.take 1) = true := by
  match l with
  | [] => rfl
  | [_] => rfl
  | _ :: _ :: _ => rfl
theorem some_of_lt {α : Type} {l : List α} {k : Nat} (h : k < l.length) : ∃ x, l[k]? = some x := ⟨l[k], List.getElem?_eq_getElem h⟩
end Go.Proofs.YtfoelahabalbpaaGreatDoor

namespace Go.Proofs.YtfoelahabalbpaaGreatDoor
open Go.RowKit

theorem ba_app (a b : ByteArray) : a ++ b = ⟨(a.data.toList ++ b.data.toList).toArray⟩ := by
  apply ByteArray.ext; simp
theorem ba_app2 (a b : Array UInt8) : (⟨a⟩ : ByteArray) ++ ⟨b⟩ = ⟨(a.toList ++ b.toList).toArray⟩ := by
  apply ByteArray.ext; simp
theorem add_eq (b off j : Nat) : (⟨b, off, none⟩ : Addr).add j = ⟨b, off + j, none⟩ := by unfold Addr.add; split <;> simp_all
theorem push_fold : ∀ (l : List UInt8) (r : List UInt8), (l.map fun c => (c.toNat : Int)).foldl (fun r n => r.push (UInt8.ofNat n.toNat)) (⟨r.toArray⟩ : ByteArray) = ⟨(r ++ l).toArray⟩
  | [], r => by simp
  | c :: l, r => by
    have e : (⟨r.toArray⟩ : ByteArray).push (UInt8.ofNat ((c.toNat : Int).toNat)) = ⟨(r ++ [c]).toArray⟩ := by
      show (⟨r.toArray.push _⟩ : ByteArray) = _
      rw [Int.toNat_natCast, UInt8.ofNat_toNat]; simp
    rw [List.map_cons, List.foldl_cons, e, push_fold l (r ++ [c])]; simp
/-- string(bs): the bytes that lie there. -/
theorem conv_bytes (w : World) (b off n cap : Nat) (l : List UInt8) (hn : l.length = n) (h : ∀ j, j < l.length → w.cell? ⟨b, off + j, none⟩ = some (.int .u8 ((l[j]?.getD 0).toNat : Int))) :
    (convert 50 9 (.slice (some ⟨b, off, none⟩) n cap)).run Tryz.prog w = .ok (.string ⟨l.toArray⟩) w := by
  subst hn
  rw [run_convert_bytes_string w 50 9 5 _ _ _ Tryz.underlying50 Tryz.underlying5 Tryz.underlying9]
  have hl : (loadCells ⟨b, off, none⟩ l.length).run Tryz.prog w = .ok ((l.map fun c => (c.toNat : Int)).map (Value.int .u8)).toArray w := by
    have := run_loadCells_list (P := Tryz.prog) (w := w) ⟨b, off, none⟩ ((l.map fun c => (c.toNat : Int)).map (Value.int .u8)) (by
      intro j v hj
      rw [add_eq]
      have hlt : j < l.length := by
        have := (List.getElem?_eq_some_iff.1 hj).1; simpa using this
      rw [h j hlt]
      simp [hlt] at hj ⊢
      exact hj)
    simpa using this
  rw [run_bytesToString w _ _ _ _ hl]
  have := push_fold l []
  simp only [List.nil_append] at this
  exact congrArg (fun x => Result.ok (Value.string x) w) this
/-- .. of a row of one byte, just made. -/
theorem conv_one (w : World) (c : Int) (h0 : 0 ≤ c) (h1 : c ≤ 255) :
    (convert 50 9 (.slice (some ⟨w.heap.size, 0, none⟩) 1 1)).run Tryz.prog (w.alloc (.cells #[.int .u8 c] 5)) = .ok (.string ⟨#[UInt8.ofNat c.toNat]⟩) (w.alloc (.cells #[.int .u8 c] 5)) := by
  refine conv_bytes _ _ 0 1 1 [UInt8.ofNat c.toNat] rfl ?_
  intro j hj
  obtain rfl : j = 0 := by simpa using hj
  have : ((UInt8.ofNat c.toNat).toNat : Int) = c := by simp; omega
  simp [go_sem]; omega
end Go.Proofs.YtfoelahabalbpaaGreatDoor

namespace Go.Proofs.YtfoelahabalbpaaGreatDoor
open Go.RowKit

set_option maxHeartbeats 400000 in
theorem isLetter (c : Int) (w : World) :
    Calls Tryz.prog 115 #[.int .u8 c] w fun e w' => e = .returned (.bool (isLetterB c)) ∧ w' = w := by
  go_enter Tryz.func115, Tryz.ntmps115
  go_wp2
  all_goals (go_ret; exact ⟨retB (by rw [Bool.eq_iff_iff]; simp [isLetterB]; omega), rfl⟩)

set_option maxHeartbeats 400000 in
theorem isDigit (c : Int) (w : World) :
    Calls Tryz.prog 117 #[.int .u8 c] w fun e w' => e = .returned (.bool (isDigitB c)) ∧ w' = w := by
  go_enter Tryz.func117, Tryz.ntmps117
  go_wp2
  all_goals (go_ret; exact ⟨retB (by rw [Bool.eq_iff_iff]; simp [isDigitB]; omega), rfl⟩)

set_option maxHeartbeats 400000 in
theorem isPlain (c : Int) (w : World) :
    Calls Tryz.prog 174 #[.int .u8 c] w fun e w' => e = .returned (.bool (isPlainB c)) ∧ w' = w := by
  go_enter Tryz.func174, Tryz.ntmps174
  go_wp2
  all_goals (go_ret; exact ⟨retB (by rw [Bool.eq_iff_iff]; simp [isPlainB]; omega), rfl⟩)

set_option maxHeartbeats 400000 in
theorem isWordByte (c : Int) (w : World) :
    Calls Tryz.prog 150 #[.int .u8 c] w fun e w' => e = .returned (.bool (isInnerB c)) ∧ w' = w := by
  go_enter Tryz.func150, Tryz.ntmps150
  go_wp2_with (first | (go_at_call 115; refine (isLetter c _).mono ?_; rintro e w' ⟨rfl, rfl⟩) | (go_at_call 117; refine (isDigit c _).mono ?_; rintro e w' ⟨rfl, rfl⟩))
  all_goals (go_ret; exact ⟨retB (by simp [isInnerB, *]), rfl⟩)

set_option maxHeartbeats 400000 in
theorem isTextByte (c : Int) (w : World) :
    Calls Tryz.prog 182 #[.int .u8 c] w fun e w' => e = .returned (.bool (isTextB c)) ∧ w' = w := by
  go_enter Tryz.func182, Tryz.ntmps182
  go_wp2_with (go_at_call 174; refine (isPlain c _).mono ?_; rintro e w' ⟨rfl, rfl⟩)
  all_goals (go_ret; exact ⟨retB (by simp [isTextB, *]), rfl⟩)

theorem all_take_succ {l : List UInt8} {p : UInt8 → Bool} {k : Nat} (h : k < l.length) (ha : (l.take k).all p = true) : (l.take (k + 1)).all p = p (l[k]?.getD 0) := by
  rw [List.take_succ_eq_append_getElem h, List.all_append, ha]; simp [h]
theorem all_false_of {l : List UInt8} {p : UInt8 → Bool} {k : Nat} (h : k < l.length) (hp : p (l[k]?.getD 0) = false) : l.all p = false := by
  rw [List.all_eq_false]; exact ⟨l[k], List.getElem_mem h, by simpa [h] using hp⟩

set_option maxHeartbeats 400000 in
theorem everyWord (b off cap n : Nat) (l : List UInt8) (w : World) (hn : l.length = n) (hl : l.length ≤ 1000000) (hc : ∀ i, i < l.length → w.cell? ⟨b, off + i, none⟩ = some (.int .u8 ((l[i]?.getD 0).toNat : Int))) :
    Calls Tryz.prog 181 #[.slice (some ⟨b, off, none⟩) n cap, .func (.func 150) #[] #[]] w fun e w' => e = .returned (.bool (l.all fun c => isInnerB (c.toNat : Int))) ∧ w' = w := by
  subst hn
  go_enter Tryz.func181, Tryz.ntmps181
  go_wp2
  go_loop [9] (fun i => ∃ k : Nat, k ≤ l.length ∧ i = .int .i64 k ∧ Hid ((l.take k).all fun c => isInnerB (c.toNat : Int))) (fun i => l.length - (intOf i).toNat)
  case atStart => exact ⟨0, Nat.zero_le _, rfl, by simp [Hid]⟩
  case round =>
    obtain ⟨k, hk, rfl, hall⟩ := hrel
    by_cases hlt : k < l.length
    · have g := hc k hlt
      have hs := all_take_succ (p := fun c => isInnerB (c.toNat : Int)) hlt hall.out
      have hf := all_false_of (p := fun c => isInnerB (c.toNat : Int)) hlt
      have Hs := hide hs; have Hf := hide hf; clear hs hf
      generalize l[k]?.getD 0 = x at *
      go_wp2_with (go_at_call 150; refine (isWordByte _ _).mono ?_; rintro e w' ⟨rfl, rfl⟩)
      · go_ret
        exact ⟨retB (unhide Hf (by simp_all)).symm, rfl⟩
      · go_round
        case rel => exact ⟨k + 1, by omega, by go_num, by rw [unhide Hs]; simp_all⟩
        case measure => simp [intOf]; omega
    · have Hl := hide (show l.take k = l from List.take_of_length_le (by omega))
      go_wp2
      go_ret
      exact ⟨retB (by rw [unhide Hl] at hall; exact hall.out.symm), rfl⟩

set_option maxHeartbeats 400000 in
theorem everyText (b off cap n : Nat) (l : List UInt8) (w : World) (hn : l.length = n) (hl : l.length ≤ 1000000) (hc : ∀ i, i < l.length → w.cell? ⟨b, off + i, none⟩ = some (.int .u8 ((l[i]?.getD 0).toNat : Int))) :
    Calls Tryz.prog 181 #[.slice (some ⟨b, off, none⟩) n cap, .func (.func 182) #[] #[]] w fun e w' => e = .returned (.bool (l.all fun c => isTextB (c.toNat : Int))) ∧ w' = w := by
  subst hn
  go_enter Tryz.func181, Tryz.ntmps181
  go_wp2
  go_loop [9] (fun i => ∃ k : Nat, k ≤ l.length ∧ i = .int .i64 k ∧ Hid ((l.take k).all fun c => isTextB (c.toNat : Int))) (fun i => l.length - (intOf i).toNat)
  case atStart => exact ⟨0, Nat.zero_le _, rfl, by simp [Hid]⟩
  case round =>
    obtain ⟨k, hk, rfl, hall⟩ := hrel
    by_cases hlt : k < l.length
    · have g := hc k hlt
      have hs := all_take_succ (p := fun c => isTextB (c.toNat : Int)) hlt hall.out
      have hf := all_false_of (p := fun c => isTextB (c.toNat : Int)) hlt
      have Hs := hide hs; have Hf := hide hf; clear hs hf
      generalize l[k]?.getD 0 = x at *
      go_wp2_with (go_at_call 182; refine (isTextByte _ _).mono ?_; rintro e w' ⟨rfl, rfl⟩)
      · go_ret
        exact ⟨retB (unhide Hf (by simp_all)).symm, rfl⟩
      · go_round
        case rel => exact ⟨k + 1, by omega, by go_num, by rw [unhide Hs]; simp_all⟩
        case measure => simp [intOf]; omega
    · have Hl := hide (show l.take k = l from List.take_of_length_le (by omega))
      go_wp2
      go_ret
      exact ⟨retB (by rw [unhide Hl] at hall; exact hall.out.symm), rfl⟩
end Go.Proofs.YtfoelahabalbpaaGreatDoor

namespace Go.Proofs.YtfoelahabalbpaaGreatDoor
open Go.RowKit

/-- A token: its kind, its place, its text, its number. -/
structure Tok where
  kind : Nat
  place : Nat
  text : ByteArray
  value : Int
/-- The first place, from a given one on, whose byte does not fit. -/
def behindL (p : UInt8 → Bool) (l : List UInt8) (a : Nat) : Nat := a + ((l.drop a).takeWhile p).length
theorem behind_no {p : UInt8 → Bool} {l : List UInt8} {a : Nat} (h : ∀ c, l[a]? = some c → p c = false) : behindL p l a = a := by
  unfold behindL
  cases hd : l.drop a with
  | nil => simp
  | cons c t =>
    have : l[a]? = some c := by have := List.getElem?_drop (xs := l) (i := a) (j := 0); rw [hd] at this; simpa using this.symm
    simp [List.takeWhile, h c this]
theorem behind_yes {p : UInt8 → Bool} {l : List UInt8} {a : Nat} {c : UInt8} (h : l[a]? = some c) (hp : p c = true) : behindL p l a = behindL p l (a + 1) := by
  unfold behindL
  obtain ⟨hlt, rfl⟩ := List.getElem?_eq_some_iff.1 h
  rw [List.drop_eq_getElem_cons hlt]
  simp [List.takeWhile, hp]; omega
theorem behind_le {p : UInt8 → Bool} {l : List UInt8} {a : Nat} (h : a ≤ l.length) : a ≤ behindL p l a ∧ behindL p l a ≤ l.length := by
  unfold behindL
  have h1 : ((l.drop a).takeWhile p).length ≤ (l.drop a).length := (List.takeWhile_prefix p).length_le
  rw [List.length_drop] at h1
  omega
def isBlank (c : UInt8) : Bool := c == 32 || c == 9 || c == 10
def skipF (l : List UInt8) : Nat → Nat → Nat
  | 0, a => a
  | f + 1, a => match l[a]? with
    | none => a
    | some c => if isBlank c then skipF l f (a + 1) else if c = 35 then skipF l f (behindL (fun b => b != 10) l a) else a
/-- Where, from a place on, the next thing stands that counts. -/
def skipL (l : List UInt8) (a : Nat) : Nat := skipF l (l.length + 1 - a) a
theorem skipF_more (l : List UInt8) : ∀ (f g a : Nat), l.length + 1 - a ≤ f → l.length + 1 - a ≤ g → a ≤ l.length → skipF l f a = skipF l g a
  | 0, g, a, h, _, ha => by omega
  | f + 1, 0, a, _, h, ha => by omega
  | f + 1, g + 1, a, hf, hg, ha => by
    simp only [skipF]
    cases hc : l[a]? with
    | none => rfl
    | some c =>
      have hlt := (List.getElem?_eq_some_iff.1 hc).1
      dsimp only
      by_cases hb : isBlank c = true
      · rw [if_pos hb, if_pos hb]; exact skipF_more l f g (a + 1) (by omega) (by omega) (by omega)
      · rw [if_neg hb, if_neg hb]
        by_cases h35 : c = 35
        · rw [if_pos h35, if_pos h35]
          have h1 := behind_yes (p := fun b => b != 10) hc (by rw [h35]; decide)
          have h2 := behind_le (p := fun b => b != 10) (l := l) (a := a + 1) (by omega)
          rw [h1]
          exact skipF_more l f g _ (by omega) (by omega) (by omega)
        · rw [if_neg h35, if_neg h35]
theorem skip_end {l : List UInt8} {a : Nat} (h : l.length ≤ a) : skipL l a = a := by
  unfold skipL
  cases l.length + 1 - a with
  | zero => rfl
  | succ f => simp only [skipF]; rw [List.getElem?_eq_none h]
theorem skip_step {l : List UInt8} {a : Nat} {c : UInt8} (h : l[a]? = some c) : skipL l a = if isBlank c then skipL l (a + 1) else if c = 35 then skipL l (behindL (fun b => b != 10) l a) else a := by
  have hlt := (List.getElem?_eq_some_iff.1 h).1
  unfold skipL
  rw [show l.length + 1 - a = (l.length - a) + 1 by omega]
  simp only [skipF, h]
  by_cases hb : isBlank c = true
  · rw [if_pos hb, if_pos hb]; exact skipF_more l _ _ _ (by omega) (by omega) (by omega)
  · rw [if_neg hb, if_neg hb]
    by_cases h35 : c = 35
    · rw [if_pos h35, if_pos h35]
      have h1 := behind_yes (p := fun b => b != 10) h (by rw [h35]; decide)
      have h2 := behind_le (p := fun b => b != 10) (l := l) (a := a + 1) (by omega)
      rw [h1]
      exact skipF_more l _ _ _ (by omega) (by omega) (by omega)
    · rw [if_neg h35, if_neg h35]
theorem skip_le {l : List UInt8} {a : Nat} (h : a ≤ l.length) : a ≤ skipL l a ∧ skipL l a ≤ l.length := by
  have key : ∀ f a, a ≤ l.length → a ≤ skipF l f a ∧ skipF l f a ≤ l.length := fun f => by
    induction f with
    | zero => intro a h; exact ⟨Nat.le_refl _, h⟩
    | succ f ih =>
      intro a h
      simp only [skipF]
      cases hc : l[a]? with
      | none => exact ⟨Nat.le_refl _, h⟩
      | some c =>
        have hlt := (List.getElem?_eq_some_iff.1 hc).1
        dsimp only
        by_cases hb : isBlank c = true
        · rw [if_pos hb]; have := ih (a + 1) (by omega); exact ⟨by omega, this.2⟩
        · rw [if_neg hb]
          by_cases h35 : c = 35
          · rw [if_pos h35]
            have h2 := behind_le (p := fun b => b != 10) (l := l) (a := a) (by omega)
            have := ih _ h2.2
            exact ⟨by omega, this.2⟩
          · rw [if_neg h35]; exact ⟨Nat.le_refl _, h⟩
  exact key _ a h
/-- What a byte within a string stands for, and how many bytes say it: 0, if it must not stand there. -/
def signL : List UInt8 → UInt8 × Nat
  | [] => (0, 0)
  | c :: t => if c = 92 then (match t with
      | [] => (0, 0)
      | d :: _ => if d = 92 ∨ d = 34 then (d, 2) else if d = 110 then (10, 2) else (0, 0))
    else if isPlainB c.toNat then (c, 1) else (0, 0)
theorem sign_used (t : List UInt8) : (signL t).2 ≤ t.length := by
  unfold signL
  split
  · simp
  · split
    · split
      · simp
      · split
        · simp
        · split <;> simp
    · split <;> simp
def strF (l : List UInt8) : Nat → Nat → Option (List UInt8 × Nat)
  | 0, _ => none
  | f + 1, a => match l[a]? with
    | none => none
    | some c => if c = 34 then some ([], a) else if (signL (l.drop a)).2 = 0 then none else match strF l f (a + (signL (l.drop a)).2) with
      | none => none
      | some (m, e) => some ((signL (l.drop a)).1 :: m, e)
/-- The bytes that a string stands for, and the place of its end. -/
def strL (l : List UInt8) (a : Nat) : Option (List UInt8 × Nat) := strF l (l.length + 1 - a) a
theorem strF_more (l : List UInt8) : ∀ (f g a : Nat), l.length + 1 - a ≤ f → l.length + 1 - a ≤ g → a ≤ l.length → strF l f a = strF l g a
  | 0, g, a, h, _, ha => by omega
  | f + 1, 0, a, _, h, ha => by omega
  | f + 1, g + 1, a, hf, hg, ha => by
    simp only [strF]
    cases hc : l[a]? with
    | none => rfl
    | some c =>
      have hlt := (List.getElem?_eq_some_iff.1 hc).1
      dsimp only
      by_cases hb : c = 34
      · rw [if_pos hb, if_pos hb]
      · rw [if_neg hb, if_neg hb]
        by_cases hu : (signL (l.drop a)).2 = 0
        · rw [if_pos hu, if_pos hu]
        · rw [if_neg hu, if_neg hu]
          have h1 := sign_used (l.drop a)
          rw [List.length_drop] at h1
          rw [strF_more l f g _ (by omega) (by omega) (by omega)]
theorem str_step {l : List UInt8} {a : Nat} {c : UInt8} (h : l[a]? = some c) : strL l a = if c = 34 then some ([], a) else if (signL (l.drop a)).2 = 0 then none else match strL l (a + (signL (l.drop a)).2) with
    | none => none
    | some (m, e) => some ((signL (l.drop a)).1 :: m, e) := by
  have hlt := (List.getElem?_eq_some_iff.1 h).1
  unfold strL
  rw [show l.length + 1 - a = (l.length - a) + 1 by omega]
  simp only [strF, h]
  by_cases hb : c = 34
  · rw [if_pos hb, if_pos hb]
  · rw [if_neg hb, if_neg hb]
    by_cases hu : (signL (l.drop a)).2 = 0
    · rw [if_pos hu, if_pos hu]
    · rw [if_neg hu, if_neg hu]
      have h1 := sign_used (l.drop a)
      rw [List.length_drop] at h1
      rw [strF_more l (l.length - a) _ _ (by omega) (Nat.le_refl _) (by omega)]
theorem str_end {l : List UInt8} {a : Nat} (h : l.length ≤ a) : strL l a = none := by
  unfold strL
  cases l.length + 1 - a with
  | zero => rfl
  | succ f => simp only [strF]; rw [List.getElem?_eq_none h]
/-- What digits are worth. -/
def valN (d : List UInt8) : Nat := d.foldl (fun n c => n * 10 + (c.toNat - 48)) 0
def digitsOk (d : List UInt8) : Bool := !d.isEmpty && decide (valN d ≤ 1000000000)
def signKind (c : UInt8) : Nat := if c = 123 then 4 else if c = 125 then 5 else if c = 91 then 6 else if c = 93 then 7 else if c = 61 then 8 else if c = 44 then 9 else if c = 46 then 10 else 0
def baOf (l : List UInt8) : ByteArray := ⟨l.toArray⟩
/-- The token that begins at a place, and the place behind it; or an error. -/
def tokL (l : List UInt8) (a : Nat) (c : UInt8) : (Tok × Nat) ⊕ Int :=
  if isLetterB c.toNat then
    if behindL (fun b => isInnerB b.toNat) l a - a ≤ 12 then .inl (⟨1, a, baOf ((l.drop a).take (behindL (fun b => isInnerB b.toNat) l a - a)), 0⟩, behindL (fun b => isInnerB b.toNat) l a) else .inr 5
  else if isDigitB c.toNat || c == 45 then
    if digitsOk ((l.drop (if c = 45 then a + 1 else a)).takeWhile fun b => isDigitB b.toNat) then .inl (⟨2, a, ⟨#[]⟩, (if c = 45 then -1 else 1) * (valN ((l.drop (if c = 45 then a + 1 else a)).takeWhile fun b => isDigitB b.toNat) : Int)⟩, behindL (fun b => isDigitB b.toNat) l (if c = 45 then a + 1 else a)) else .inr 4
  else if c = 34 then
    match strL l (a + 1) with
    | none => .inr 3
    | some (m, e) => if m.length ≤ 20 then .inl (⟨3, a, baOf m, 0⟩, e + 1) else .inr 3
  else if signKind c = 0 then .inr 2 else .inl (⟨signKind c, a, ⟨#[]⟩, 0⟩, a + 1)
def endTok (n : Nat) : Tok := ⟨11, n, ⟨#[]⟩, 0⟩
def cutF (l : List UInt8) : Nat → Nat → List Tok × (Int × Nat)
  | 0, _ => ([], (0, 0))
  | f + 1, a => match l[skipL l a]? with
    | none => ([endTok l.length], (0, 0))
    | some c => match tokL l (skipL l a) c with
      | .inr e => ([], (e, skipL l a))
      | .inl (t, b) => if (cutF l f b).2.1 = 0 then (t :: (cutF l f b).1, (0, 0)) else ([], (cutF l f b).2)
end Go.Proofs.YtfoelahabalbpaaGreatDoor

namespace Go.Proofs.YtfoelahabalbpaaGreatDoor
open Go.RowKit

theorem strF_at (l : List UInt8) : ∀ (f a : Nat) (m : List UInt8) (e : Nat), strF l f a = some (m, e) → a ≤ e ∧ e < l.length
  | 0, a, m, e, h => by simp [strF] at h
  | f + 1, a, m, e, h => by
    simp only [strF] at h
    cases hc : l[a]? with
    | none => rw [hc] at h; simp at h
    | some c =>
      rw [hc] at h
      have hlt := (List.getElem?_eq_some_iff.1 hc).1
      dsimp only at h
      by_cases h34 : c = 34
      · rw [if_pos h34] at h; simp at h; omega
      · rw [if_neg h34] at h
        by_cases hu : (signL (l.drop a)).2 = 0
        · rw [if_pos hu] at h; simp at h
        · rw [if_neg hu] at h
          cases hr : strF l f (a + (signL (l.drop a)).2) with
          | none => rw [hr] at h; simp at h
          | some r =>
            obtain ⟨m', e'⟩ := r
            rw [hr] at h
            have := strF_at l f _ m' e' hr
            simp at h
            omega
theorem tok_at {l : List UInt8} {a : Nat} {c : UInt8} {t : Tok} {b : Nat} (hc : l[a]? = some c) (h : tokL l a c = .inl (t, b)) :
    t.place = a ∧ a < b ∧ b ≤ l.length ∧ 1 ≤ t.kind ∧ t.kind ≤ 10 := by
  have hlt := (List.getElem?_eq_some_iff.1 hc).1
  unfold tokL at h
  by_cases hl : isLetterB c.toNat = true
  · rw [if_pos hl] at h
    have hin : isInnerB c.toNat = true := by unfold isInnerB; rw [hl]; rfl
    have h1 := behind_yes (p := fun b => isInnerB b.toNat) hc hin
    have h2 := behind_le (p := fun b => isInnerB b.toNat) (l := l) (a := a + 1) (by omega)
    split at h
    · simp only [Sum.inl.injEq, Prod.mk.injEq] at h
      obtain ⟨rfl, rfl⟩ := h
      exact ⟨rfl, by omega, by omega, by simp, by simp⟩
    · simp at h
  · rw [if_neg hl] at h
    by_cases hd : (isDigitB c.toNat || c == 45) = true
    · rw [if_pos hd] at h
      generalize hg : (if c = 45 then a + 1 else a) = k at h
      generalize (if c = 45 then (-1 : Int) else 1) = sg at h
      split at h
      · rename_i hok
        simp only [Sum.inl.injEq, Prod.mk.injEq] at h
        obtain ⟨rfl, rfl⟩ := h
        refine ⟨rfl, ?_, ?_, by simp, by simp⟩
        · by_cases h45 : c = 45
          · rw [if_pos h45] at hg; subst hg
            have h2 := behind_le (p := fun b => isDigitB b.toNat) (l := l) (a := a + 1) (by omega)
            omega
          · rw [if_neg h45] at hg; subst hg
            have hd' : isDigitB c.toNat = true := by simpa [h45] using hd
            have h1 := behind_yes (p := fun b => isDigitB b.toNat) hc hd'
            have h2 := behind_le (p := fun b => isDigitB b.toNat) (l := l) (a := a + 1) (by omega)
            omega
        · exact (behind_le (p := fun b => isDigitB b.toNat) (l := l) (by rw [← hg]; split <;> omega)).2
      · simp at h
    · rw [if_neg hd] at h
      by_cases h34 : c = 34
      · rw [if_pos h34] at h
        split at h
        · simp at h
        · rename_i m e he
          have := strF_at l _ _ m e he
          split at h
          · simp only [Sum.inl.injEq, Prod.mk.injEq] at h
            obtain ⟨rfl, rfl⟩ := h
            exact ⟨rfl, by omega, by omega, by simp, by simp⟩
          · simp at h
      · rw [if_neg h34] at h
        split at h
        · simp at h
        · rename_i hk
          simp only [Sum.inl.injEq, Prod.mk.injEq] at h
          obtain ⟨rfl, rfl⟩ := h
          refine ⟨rfl, by omega, by omega, by show 1 ≤ signKind c; omega, ?_⟩
          show signKind c ≤ 10
          unfold signKind
          repeat (first | omega | split)
theorem tok_bad {l : List UInt8} {a : Nat} {c : UInt8} {e : Int} (h : tokL l a c = .inr e) : e ≠ 0 := by
  unfold tokL at h
  by_cases hl : isLetterB c.toNat = true
  · rw [if_pos hl] at h
    split at h
    · cases h
    · cases h; decide
  · rw [if_neg hl] at h
    by_cases hd : (isDigitB c.toNat || c == 45) = true
    · rw [if_pos hd] at h
      generalize (if c = 45 then a + 1 else a) = k at h
      generalize (if c = 45 then (-1 : Int) else 1) = sg at h
      split at h
      · cases h
      · cases h; decide
    · rw [if_neg hd] at h
      by_cases h34 : c = 34
      · rw [if_pos h34] at h
        split at h
        · cases h; decide
        · split at h
          · cases h
          · cases h; decide
      · rw [if_neg h34] at h
        split at h
        · cases h; decide
        · cases h
/-- What was cut so far, and the rest. -/
def comb (acc : List Tok) (r : List Tok × (Int × Nat)) : List Tok × (Int × Nat) := if r.2.1 = 0 then (acc ++ r.1, (0, 0)) else ([], r.2)
def cutL (l : List UInt8) : List Tok × (Int × Nat) := cutF l (l.length + 1) 0
theorem cutF_ok (l : List UInt8) (f a : Nat) : ∀ r, cutF l f a = r → r.2.1 = 0 → r.2 = (0, 0) := by
  intro r hr h0
  subst hr
  cases f with
  | zero => rfl
  | succ f =>
    revert h0
    simp only [cutF]
    split
    · intro _; rfl
    · split
      · intro h0
        rename_i e he
        exact absurd h0 (tok_bad he)
      · split
        · intro _; rfl
        · intro h0; rename_i hne; exact absurd h0 hne
theorem comb_nil (l : List UInt8) (f a : Nat) : comb [] (cutF l f a) = cutF l f a := by
  unfold comb
  split
  · rename_i h
    have := cutF_ok l f a _ rfl h
    rw [List.nil_append, ← this]
  · rename_i h
    cases hr : cutF l f a with
    | mk x y =>
      rw [hr] at h
      have : x = [] := by
        cases f with
        | zero => simp [cutF] at hr; exact hr.1
        | succ f =>
          simp only [cutF] at hr
          split at hr
          · simp at hr; obtain ⟨_, rfl⟩ := hr; exact absurd rfl h
          · split at hr
            · simp at hr; exact hr.1
            · split at hr
              · simp at hr; obtain ⟨_, rfl⟩ := hr; exact absurd rfl h
              · simp at hr; exact hr.1
      subst this; rfl
theorem comb_step {l : List UInt8} {f a b : Nat} {acc : List Tok} {c : UInt8} {t : Tok} (hc : l[skipL l a]? = some c) (ht : tokL l (skipL l a) c = .inl (t, b)) :
    comb acc (cutF l (f + 1) a) = comb (acc ++ [t]) (cutF l f b) := by
  simp only [cutF, hc, ht]
  unfold comb
  by_cases h : (cutF l f b).2.1 = 0
  · simp [h]
  · simp [h]
theorem comb_bad {l : List UInt8} {f a : Nat} {acc : List Tok} {c : UInt8} {e : Int} (hc : l[skipL l a]? = some c) (ht : tokL l (skipL l a) c = .inr e) (he : e ≠ 0) :
    comb acc (cutF l (f + 1) a) = ([], (e, skipL l a)) := by
  simp only [cutF, hc, ht]
  unfold comb
  simp [he]
theorem comb_end {l : List UInt8} {f a : Nat} {acc : List Tok} (hc : l.length ≤ skipL l a) :
    comb acc (cutF l (f + 1) a) = (acc ++ [endTok l.length], (0, 0)) := by
  simp only [cutF, List.getElem?_eq_none hc]
  simp [comb]
end Go.Proofs.YtfoelahabalbpaaGreatDoor

namespace Go.Proofs.YtfoelahabalbpaaGreatDoor
open Go.RowKit

/-- An order of keys. -/
structure OrdK {κ : Type} (cmp : κ → κ → Int) : Prop where
  zero : ∀ {a b : κ}, cmp a b = 0 ↔ a = b
  flip : ∀ a b : κ, cmp a b = - cmp b a
  trans : ∀ {a b c : κ}, cmp a b < 0 → cmp b c < 0 → cmp a c < 0
section
variable {κ ρ : Type} {cmp : κ → κ → Int} {key : ρ → κ}
/-- Keys rise. -/
def UpG (cmp : κ → κ → Int) (key : ρ → κ) (rs : List ρ) : Prop := rs.Pairwise fun a b => cmp (key a) (key b) < 0
theorem UpG.at {rs : List ρ} (h : UpG cmp key rs) {i j : Nat} {x y : ρ} (hi : rs[i]? = some x) (hj : rs[j]? = some y) (hij : i < j) : cmp (key x) (key y) < 0 := by
  obtain ⟨h1, rfl⟩ := List.getElem?_eq_some_iff.1 hi
  obtain ⟨h2, rfl⟩ := List.getElem?_eq_some_iff.1 hj
  exact List.pairwise_iff_getElem.1 h i j h1 h2 hij
/-- The place where a key stands, or would stand. -/
structure StandsG (cmp : κ → κ → Int) (key : ρ → κ) (rs : List ρ) (a : κ) (i : Nat) : Prop where
  le : i ≤ rs.length
  ahead : ∀ (k : Nat) x, k < i → rs[k]? = some x → cmp (key x) a < 0
  behind : ∀ (k : Nat) x, i ≤ k → rs[k]? = some x → ¬ cmp (key x) a < 0
/-- A key is there. -/
def HasK (key : ρ → κ) (rs : List ρ) (a : κ) : Prop := ∃ x ∈ rs, key x = a
theorem StandsG.there {rs : List ρ} {a : κ} {i : Nat} {x : ρ} (ho : OrdK cmp) (hx : rs[i]? = some x) (h0 : cmp (key x) a = 0) : HasK key rs a := ⟨x, List.mem_of_getElem? hx, ho.zero.1 h0⟩
theorem StandsG.gone {rs : List ρ} {a : κ} {i : Nat} (ho : OrdK cmp) (h : StandsG cmp key rs a i) (hu : UpG cmp key rs) (hn : ∀ x, rs[i]? = some x → cmp (key x) a ≠ 0) : ¬ HasK key rs a := by
  rintro ⟨y, hm, rfl⟩
  obtain ⟨k, hk⟩ := List.mem_iff_getElem?.1 hm
  have h0 : cmp (key y) (key y) = 0 := ho.zero.2 rfl
  by_cases hki : k < i
  · have := h.ahead k y hki hk; omega
  · by_cases e : k = i
    · subst e; exact hn y hk h0
    · have hlt : i < rs.length := by have := (List.getElem?_eq_some_iff.1 hk).1; omega
      have := hu.at (List.getElem?_eq_getElem hlt) hk (by omega)
      exact h.behind i _ (Nat.le_refl _) (List.getElem?_eq_getElem hlt) this
theorem UpG.stands {rs : List ρ} {a : κ} {k : Nat} {x : ρ} (ho : OrdK cmp) (hu : UpG cmp key rs) (hx : rs[k]? = some x) (h : cmp (key x) a < 0) : ∀ (j : Nat) y, j < k + 1 → rs[j]? = some y → cmp (key y) a < 0 := fun j y hj hy => by
  by_cases e : j = k
  · subst e; rw [hx] at hy; cases hy; exact h
  · exact ho.trans (hu.at hy hx (by omega)) h
theorem UpG.stands' {rs : List ρ} {a : κ} {k : Nat} {x : ρ} (ho : OrdK cmp) (hu : UpG cmp key rs) (hx : rs[k]? = some x) (h : ¬ cmp (key x) a < 0) : ∀ (j : Nat) y, k ≤ j → rs[j]? = some y → 0 ≤ cmp (key y) a := fun j y hj hy => Int.not_lt.1 fun hn => by
  by_cases e : j = k
  · subst e; rw [hx] at hy; cases hy; exact h hn
  · exact h (ho.trans (hu.at hx hy (by omega)) hn)
/-- A row put into its place. -/
def insG (rs : List ρ) (i : Nat) (x : ρ) : List ρ := rs.take i ++ x :: rs.drop i
theorem insG_len {rs : List ρ} {i : Nat} {a : ρ} (h : i ≤ rs.length) : (insG rs i a).length = rs.length + 1 := by
  simp [insG]; omega
theorem UpG.insert {rs : List ρ} {x : ρ} {i : Nat} (ho : OrdK cmp) (hu : UpG cmp key rs) (h : StandsG cmp key rs (key x) i) (hn : ¬ HasK key rs (key x)) : UpG cmp key (insG rs i x) := by
  have hA : ∀ y ∈ rs.take i, cmp (key y) (key x) < 0 := fun y hy => by
    obtain ⟨k, hk⟩ := List.mem_iff_getElem?.1 hy
    rw [List.getElem?_take] at hk
    split at hk
    · rename_i hki; exact h.ahead k y hki hk
    · cases hk
  have hB : ∀ y ∈ rs.drop i, cmp (key x) (key y) < 0 := fun y hy => by
    obtain ⟨k, hk⟩ := List.mem_iff_getElem?.1 hy
    rw [List.getElem?_drop] at hk
    have h1 := h.behind (i + k) y (by omega) hk
    have h2 : cmp (key y) (key x) ≠ 0 := fun e => hn ⟨y, List.mem_of_getElem? hk, ho.zero.1 e⟩
    rw [ho.flip]; omega
  refine List.pairwise_append.2 ⟨List.Pairwise.sublist (List.take_sublist _ _) hu, List.pairwise_cons.2 ⟨hB, List.Pairwise.sublist (List.drop_sublist _ _) hu⟩, fun y hy z hz => ?_⟩
  rcases List.mem_cons.1 hz with rfl | hz
  · exact hA y hy
  · exact ho.trans (hA y hy) (hB z hz)
/-- No two rows have the same key. -/
theorem UpG.one {rs : List ρ} (ho : OrdK cmp) (hu : UpG cmp key rs) {i j : Nat} {x y : ρ} (hi : rs[i]? = some x) (hj : rs[j]? = some y) (he : key x = key y) : i = j := by
  rcases Nat.lt_trichotomy i j with h | h | h
  · have := hu.at hi hj h; rw [he, ho.zero.2 rfl] at this; omega
  · exact h
  · have := hu.at hj hi h; rw [he, ho.zero.2 rfl] at this; omega
end
/-- The cells of rows. -/
def cellsG {ρ : Type} (c : ρ → List Value) (rs : List ρ) : List Value := rs.flatMap c
theorem cellsG_len {ρ : Type} {c : ρ → List Value} {n : Nat} (hc : ∀ x, (c x).length = n) : ∀ rs : List ρ, (cellsG c rs).length = rs.length * n
  | [] => by simp [cellsG]
  | x :: rs => by
    have := cellsG_len hc rs
    simp only [cellsG, List.flatMap_cons, List.length_append, List.length_cons] at this ⊢
    rw [this, hc, Nat.succ_mul]; omega
theorem cellsG_take {ρ : Type} {c : ρ → List Value} {n : Nat} (hc : ∀ x, (c x).length = n) : ∀ (rs : List ρ) (i : Nat), (cellsG c rs).take (i * n) = cellsG c (rs.take i)
  | [], i => by simp [cellsG]
  | _ :: _, 0 => by simp [cellsG]
  | x :: rs, i + 1 => by
    have := cellsG_take hc rs i
    simp only [cellsG, List.flatMap_cons, List.take_succ_cons] at this ⊢
    rw [show (i + 1) * n = (c x).length + i * n by rw [hc, Nat.succ_mul]; omega, List.take_append, List.take_of_length_le (by omega), show (c x).length + i * n - (c x).length = i * n by omega, this]
theorem cellsG_drop {ρ : Type} {c : ρ → List Value} {n : Nat} (hc : ∀ x, (c x).length = n) : ∀ (rs : List ρ) (i : Nat), (cellsG c rs).drop (i * n) = cellsG c (rs.drop i)
  | [], i => by simp [cellsG]
  | _ :: _, 0 => by simp [cellsG]
  | x :: rs, i + 1 => by
    have := cellsG_drop hc rs i
    simp only [cellsG, List.flatMap_cons, List.drop_succ_cons] at this ⊢
    rw [show (i + 1) * n = (c x).length + i * n by rw [hc, Nat.succ_mul]; omega, List.drop_append, List.drop_of_length_le (by omega), show (c x).length + i * n - (c x).length = i * n by omega, this]; simp
theorem cellsG_ins {ρ : Type} {c : ρ → List Value} {n : Nat} (hc : ∀ x, (c x).length = n) (rs : List ρ) (i : Nat) (x : ρ) : (cellsG c rs).take (i * n) ++ c x ++ (cellsG c rs).drop (i * n) = cellsG c (insG rs i x) := by
  rw [cellsG_take hc, cellsG_drop hc]; simp [cellsG, insG, List.flatMap_append]
end Go.Proofs.YtfoelahabalbpaaGreatDoor
