/-
  The words of the proofs: what bytes, words, strings, IDs, Attrs and resources may be, and how they are ordered, as functions of data; and the relation 'Ext' between two worlds: all that was there is there, as it was.
-/
/-
  How lists of IDs, Attrs and resources lie in memory; plain facts on lists that rise.
-/
/-
  Tokens: what a text is cut into, as functions of its bytes.
-/
import Derived.Test.YtfnbbohbicffpaaGreatDoorRows
import Derived.WalkKit
import Derived.WalkSpells
import Derived.WalkLawsBesides
import Derived.Lib.ConvBytes
import Derived.Lib.Bytealg
namespace Go.Proofs.YtfnbbohbicffpaaGreatDoor
open Go.RowKit

/-- All that was there is there, as it was. -/
def Ext (w w' : World) : Prop := Below w.heap.size w w'
theorem Ext.refl (w : World) : Ext w w := Below.refl _ _
theorem Ext.size {w w' : World} (h : Ext w w') : w.heap.size ≤ w'.heap.size := Below.size h
theorem Ext.trans {a b c : World} (h : Ext a b) (k : Ext b c) : Ext a c := Below.trans h (Below.mono k h.size)
theorem Ext.cell {w w' : World} (h : Ext w w') {p : Addr} (hp : p.block < w.heap.size) : w'.cell? p = w.cell? p := Below.cell h hp
theorem Ext.cells {w w' : World} (h : Ext w w') {p : Addr} {v : Value} (hv : w.cell? p = some v) : w'.cell? p = some v := by
  rw [h.cell (World.block_lt_of_cell? w p hv)]; exact hv
theorem Ext.alloc {a w : World} (h : Ext a w) (o : Obj) : Ext a (w.alloc o) := Below.alloc h (Ext.size h) o
theorem Ext.drew {a w : World} (h : Ext a w) : Ext a w.drew := Below.drew h
theorem Ext.drewN {a w : World} (h : Ext a w) (n : Nat) : Ext a (w.drewN n) := h.trans ⟨rfl, rfl, rfl, Nat.le_refl _, fun _ _ => rfl⟩
theorem Ext.setCell {a w : World} (h : Ext a w) {p : Addr} (hp : a.heap.size ≤ p.block) (u : Value) : Ext a (w.setCell p u) := Below.setCell h hp u
theorem Ext.bytes (w : World) (e : TypeId) (s : ByteArray) : Ext w (Lib.bytesWorld w e s) :=
  ⟨rfl, rfl, rfl, by rw [Lib.bytesWorld_size]; omega, fun k hk => Lib.bytesWorld_at_old w e s k hk⟩

theorem retB {b c : Bool} (h : b = c) : Ending.returned (.bool b) = .returned (.bool c) := by rw [h]
theorem retI {b c : Int} (h : b = c) : Ending.returned (.int .i64 b) = .returned (.int .i64 c) := by rw [h]
theorem retS {b c : ByteArray} (h : b = c) : Ending.returned (.string b) = .returned (.string c) := by rw [h]
theorem hide {p : Prop} (h : p) : Hid p := h
theorem unhide {p : Prop} (h : Hid p) : p := h

def isLetterB (c : Int) : Bool := decide (97 ≤ c ∧ c ≤ 122) || decide (65 ≤ c ∧ c ≤ 90)
def isDigitB (c : Int) : Bool := decide (48 ≤ c ∧ c ≤ 57)
def isInnerB (c : Int) : Bool := isLetterB c || isDigitB c || c == 95 || c == 45
def isPlainB (c : Int) : Bool := decide (32 ≤ c ∧ c ≤ 126)
def isTextB (c : Int) : Bool := isPlainB c || c == 10

/-- A word. -/
def wordB : List UInt8 → Bool
  | [] => false
  | c :: l => decide (l.length + 1 ≤ 12) && (isLetterB c.toNat && (c :: l).all fun x => isInnerB x.toNat)
/-- A string that may be. -/
def stringB (l : List UInt8) : Bool := decide (l.length ≤ 20) && l.all fun x => isTextB x.toNat

theorem wordB_long {l : List UInt8} (h : 12 < l.length) : wordB l = false := by
  cases l with
  | nil => rfl
  | cons c l => simp only [List.length_cons] at h; simp [wordB]; omega

/-- An ID, an Attr, a resource. -/
structure IDd where
  kind : ByteArray
  name : ByteArray
structure Attrd where
  name : ByteArray
  isText : Bool
  text : ByteArray
  number : Int
structure Resd where
  id : IDd
  attrs : List Attrd
  after : List IDd

def idB (x : IDd) : Bool := wordB x.kind.data.toList && wordB x.name.data.toList
/-- The order of texts. -/
def cmpS (a b : ByteArray) : Int := Lib.compareBytes a.data.toList b.data.toList
/-- The order of IDs. -/
def cmpI (a b : IDd) : Int := if cmpS a.kind b.kind = 0 then cmpS a.name b.name else cmpS a.kind b.kind
def lessI (a b : IDd) : Bool := decide (cmpI a b < 0)

def afterW : List UInt8 := [97, 102, 116, 101, 114]
def attrB (x : Attrd) : Bool :=
  wordB x.name.data.toList && !(x.name.data.toList == afterW) &&
    (if x.isText then stringB x.text.data.toList && x.number == 0 else x.text.data.toList.isEmpty && decide (-1000000000 ≤ x.number ∧ x.number ≤ 1000000000))
/-- Each is less than the next. -/
def risesB {α : Type} (lt : α → α → Bool) : List α → Bool
  | [] => true
  | [_] => true
  | a :: b :: l => lt a b && risesB lt (b :: l)
def lessA (a b : Attrd) : Bool := decide (cmpS a.name b.name < 0)
def lessR (a b : Resd) : Bool := lessI a.id b.id
def mayB (x : Resd) : Bool :=
  decide (x.attrs.length ≤ 6) && decide (x.after.length ≤ 6) && idB x.id && x.attrs.all attrB && risesB lessA x.attrs && x.after.all idB && risesB lessI x.after
def mayAllB (l : List Resd) : Bool := decide (l.length ≤ 12) && l.all mayB && risesB lessR l

end Go.Proofs.YtfnbbohbicffpaaGreatDoor

namespace Go.Proofs.YtfnbbohbicffpaaGreatDoor
open Go.RowKit

def okI (x : IDd) : Prop := x.kind.size ≤ 9223372036854775807 ∧ x.name.size ≤ 9223372036854775807
def okA (x : Attrd) : Prop := x.name.size ≤ 9223372036854775807 ∧ x.text.size ≤ 9223372036854775807 ∧ -9223372036854775808 ≤ x.number ∧ x.number ≤ 9223372036854775807

/-- IDs lie in a block, from a place on. -/
def IDsIn (w : World) (b off : Nat) (l : List IDd) : Prop :=
  ∀ i x, l[i]? = some x → w.cell? ⟨b, off + i * 2, none⟩ = some (.string x.kind) ∧ w.cell? ⟨b, off + i * 2 + 1, none⟩ = some (.string x.name)
def AttrsIn (w : World) (b off : Nat) (l : List Attrd) : Prop :=
  ∀ i x, l[i]? = some x → w.cell? ⟨b, off + i * 4, none⟩ = some (.string x.name) ∧ w.cell? ⟨b, off + i * 4 + 1, none⟩ = some (.bool x.isText) ∧ w.cell? ⟨b, off + i * 4 + 2, none⟩ = some (.string x.text) ∧ w.cell? ⟨b, off + i * 4 + 3, none⟩ = some (.int .i64 x.number)

/-- A slice leads to a list of IDs. -/
structure IDsV (w : World) (v : Value) (l : List IDd) : Prop where
  shape : ∃ a cap, v = .slice a l.length cap ∧ l.length ≤ cap ∧ cap ≤ 9223372036854775807 ∧ (l = [] ∨ ∃ b off, a = some ⟨b, off, none⟩ ∧ IDsIn w b off l)
  few : l.length ≤ 9223372036854775807
  ok : ∀ x ∈ l, okI x
structure AttrsV (w : World) (v : Value) (l : List Attrd) : Prop where
  shape : ∃ a cap, v = .slice a l.length cap ∧ l.length ≤ cap ∧ cap ≤ 9223372036854775807 ∧ (l = [] ∨ ∃ b off, a = some ⟨b, off, none⟩ ∧ AttrsIn w b off l)
  few : l.length ≤ 9223372036854775807
  ok : ∀ x ∈ l, okA x

theorem IDsIn.ext {w w' : World} {b off : Nat} {l : List IDd} (h : IDsIn w b off l) (e : Ext w w') : IDsIn w' b off l :=
  fun i x hx => ⟨e.cells (h i x hx).1, e.cells (h i x hx).2⟩
theorem AttrsIn.ext {w w' : World} {b off : Nat} {l : List Attrd} (h : AttrsIn w b off l) (e : Ext w w') : AttrsIn w' b off l :=
  fun i x hx => ⟨e.cells (h i x hx).1, e.cells (h i x hx).2.1, e.cells (h i x hx).2.2.1, e.cells (h i x hx).2.2.2⟩
theorem IDsV.ext {w w' : World} {v : Value} {l : List IDd} (h : IDsV w v l) (e : Ext w w') : IDsV w' v l := by
  obtain ⟨⟨a, cap, hv, hc, hm, hs⟩, h2, h3⟩ := h
  refine ⟨⟨a, cap, hv, hc, hm, ?_⟩, h2, h3⟩
  rcases hs with hs | ⟨b, off, ha, hi⟩
  · exact .inl hs
  · exact .inr ⟨b, off, ha, hi.ext e⟩
theorem AttrsV.ext {w w' : World} {v : Value} {l : List Attrd} (h : AttrsV w v l) (e : Ext w w') : AttrsV w' v l := by
  obtain ⟨⟨a, cap, hv, hc, hm, hs⟩, h2, h3⟩ := h
  refine ⟨⟨a, cap, hv, hc, hm, ?_⟩, h2, h3⟩
  rcases hs with hs | ⟨b, off, ha, hi⟩
  · exact .inl hs
  · exact .inr ⟨b, off, ha, hi.ext e⟩

/-- A resource's four cells. -/
structure ResV (w : World) (c2 c3 : Value) (x : Resd) : Prop where
  id : okI x.id
  attrs : AttrsV w c2 x.attrs
  after : IDsV w c3 x.after
theorem ResV.ext {w w' : World} {c2 c3 : Value} {x : Resd} (h : ResV w c2 c3 x) (e : Ext w w') : ResV w' c2 c3 x := ⟨h.id, h.attrs.ext e, h.after.ext e⟩
def RessIn (w : World) (b off : Nat) (l : List Resd) : Prop :=
  ∀ i x, l[i]? = some x → w.cell? ⟨b, off + i * 4, none⟩ = some (.string x.id.kind) ∧ w.cell? ⟨b, off + i * 4 + 1, none⟩ = some (.string x.id.name) ∧
    ∃ c2 c3, w.cell? ⟨b, off + i * 4 + 2, none⟩ = some c2 ∧ w.cell? ⟨b, off + i * 4 + 3, none⟩ = some c3 ∧ ResV w c2 c3 x
structure RessV (w : World) (v : Value) (l : List Resd) : Prop where
  shape : ∃ a cap, v = .slice a l.length cap ∧ l.length ≤ cap ∧ cap ≤ 9223372036854775807 ∧ (l = [] ∨ ∃ b off, a = some ⟨b, off, none⟩ ∧ RessIn w b off l)
  few : l.length ≤ 9223372036854775807
theorem RessIn.ext {w w' : World} {b off : Nat} {l : List Resd} (h : RessIn w b off l) (e : Ext w w') : RessIn w' b off l := by
  intro i x hx
  obtain ⟨h0, h1, c2, c3, h2, h3, h4⟩ := h i x hx
  exact ⟨e.cells h0, e.cells h1, c2, c3, e.cells h2, e.cells h3, h4.ext e⟩
theorem RessV.ext {w w' : World} {v : Value} {l : List Resd} (h : RessV w v l) (e : Ext w w') : RessV w' v l := by
  obtain ⟨⟨a, cap, hv, hc, hm, hs⟩, h2⟩ := h
  refine ⟨⟨a, cap, hv, hc, hm, ?_⟩, h2⟩
  rcases hs with hs | ⟨b, off, ha, hi⟩
  · exact .inl hs
  · exact .inr ⟨b, off, ha, hi.ext e⟩

/-! Plain facts -/
theorem all_succ {α : Type} {l : List α} {p : α → Bool} {k : Nat} {x : α} (h : l[k]? = some x) (ha : (l.take k).all p = true) : (l.take (k + 1)).all p = p x := by
  have hk : k < l.length := (List.getElem?_eq_some_iff.1 h).1
  rw [List.take_succ_eq_append_getElem hk, List.all_append, ha]
  have : l[k] = x := (List.getElem?_eq_some_iff.1 h).2
  simp [this]
theorem all_no {α : Type} {l : List α} {p : α → Bool} {k : Nat} {x : α} (h : l[k]? = some x) (hp : p x = false) : l.all p = false := by
  rw [List.all_eq_false]; exact ⟨x, List.mem_of_getElem? h, by simpa using hp⟩
theorem rises_take {α : Type} {lt : α → α → Bool} : ∀ {l : List α} {k : Nat} {x y : α}, l[k]? = some x → l[k + 1]? = some y → risesB lt (l.take (k + 2)) = (risesB lt (l.take (k + 1)) && lt x y)
  | [], k, x, y, h, _ => by simp at h
  | [a], k, x, y, h, h' => by simp at h'
  | a :: b :: l, 0, x, y, h, h' => by
    simp at h h'
    subst h h'
    simp [risesB]
  | a :: b :: l, k + 1, x, y, h, h' => by
    have ih := rises_take (lt := lt) (l := b :: l) (k := k) (x := x) (y := y) (by simpa using h) (by simpa using h')
    have e1 : (a :: b :: l).take (k + 1 + 2) = a :: b :: (l.take (k + 1)) := by simp
    have e2 : (a :: b :: l).take (k + 1 + 1) = a :: b :: (l.take k) := by simp
    have e3 : (b :: l).take (k + 2) = b :: l.take (k + 1) := by simp
    have e4 : (b :: l).take (k + 1) = b :: l.take k := by simp
    rw [e3, e4] at ih
    rw [e1, e2]
    simp only [risesB]
    rw [ih, Bool.and_assoc]
theorem rises_no {α : Type} {lt : α → α → Bool} : ∀ {l : List α} {k : Nat} {x y : α}, l[k]? = some x → l[k + 1]? = some y → lt x y = false → risesB lt l = false
  | [], k, x, y, h, _, _ => by simp at h
  | [a], k, x, y, h, h', _ => by simp at h'
  | a :: b :: l, 0, x, y, h, h', hn => by
    simp at h h'
    subst h h'
    simp [risesB, hn]
  | a :: b :: l, k + 1, x, y, h, h', hn => by
    have ih := rises_no (lt := lt) (l := b :: l) (k := k) (x := x) (y := y) (by simpa using h) (by simpa using h') hn
    simp [risesB, ih]
theorem rises_one {α : Type} {lt : α → α → Bool} (l : List α) : risesB lt (l.take 1) = true := by
  match l with
  | [] => rfl
  | [_] => rfl
  | _ :: _ :: _ => rfl
theorem some_of_lt {α : Type} {l : List α} {k : Nat} (h : k < l.length) : ∃ x, l[k]? = some x := ⟨l[k], List.getElem?_eq_getElem h⟩
end Go.Proofs.YtfnbbohbicffpaaGreatDoor

namespace Go.Proofs.YtfnbbohbicffpaaGreatDoor
open Go.RowKit

/-- A token: its kind, its place, its text, its number. -/
structure Tok where
  kind : Nat
  place : Nat
  text : ByteArray
  value : Int
/-- The first place, from a given one on, whose byte does not fit. -/
def behindL (p : UInt8 → Bool) (l : List UInt8) (a : Nat) : Nat := a + ((l.drop a).takeWhile p).length
theorem behind_no {p : UInt8 → Bool} {l : List UInt8} {a : Nat} (h : ∀ c, l[a]? = some c → p c = false) : behindL p l a = a := by
  unfold behindL
  cases hd : l.drop a with
  | nil => simp
  | cons c t =>
    have : l[a]? = some c := by have := List.getElem?_drop (xs := l) (i := a) (j := 0); rw [hd] at this; simpa using this.symm
    simp [List.takeWhile, h c this]
theorem behind_yes {p : UInt8 → Bool} {l : List UInt8} {a : Nat} {c : UInt8} (h : l[a]? = some c) (hp : p c = true) : behindL p l a = behindL p l (a + 1) := by
  unfold behindL
  obtain ⟨hlt, rfl⟩ := List.getElem?_eq_some_iff.1 h
  rw [List.drop_eq_getElem_cons hlt]
  simp [List.takeWhile, hp]; omega
theorem behind_le {p : UInt8 → Bool} {l : List UInt8} {a : Nat} (h : a ≤ l.length) : a ≤ behindL p l a ∧ behindL p l a ≤ l.length := by
  unfold behindL
  have h1 : ((l.drop a).takeWhile p).length ≤ (l.drop a).length := (List.takeWhile_prefix p).length_le
  rw [List.length_drop] at h1
  omega
def isBlank (c : UInt8) : Bool := c == 32 || c == 9 || c == 10
def skipF (l : List UInt8) : Nat → Nat → Nat
  | 0, a => a
  | f + 1, a => match l[a]? with
    | none => a
    | some c => if isBlank c then skipF l f (a + 1) else if c = 35 then skipF l f (behindL (fun b => b != 10) l a) else a
/-- Where, from a place on, the next thing stands that counts. -/
def skipL (l : List UInt8) (a : Nat) : Nat := skipF l (l.length + 1 - a) a
theorem skipF_more (l : List UInt8) : ∀ (f g a : Nat), l.length + 1 - a ≤ f → l.length + 1 - a ≤ g → a ≤ l.length → skipF l f a = skipF l g a
  | 0, g, a, h, _, ha => by omega
  | f + 1, 0, a, _, h, ha => by omega
  | f + 1, g + 1, a, hf, hg, ha => by
    simp only [skipF]
    cases hc : l[a]? with
    | none => rfl
    | some c =>
      have hlt := (List.getElem?_eq_some_iff.1 hc).1
      dsimp only
      by_cases hb : isBlank c = true
      · rw [if_pos hb, if_pos hb]; exact skipF_more l f g (a + 1) (by omega) (by omega) (by omega)
      · rw [if_neg hb, if_neg hb]
        by_cases h35 : c = 35
        · rw [if_pos h35, if_pos h35]
          have h1 := behind_yes (p := fun b => b != 10) hc (by rw [h35]; decide)
          have h2 := behind_le (p := fun b => b != 10) (l := l) (a := a + 1) (by omega)
          rw [h1]
          exact skipF_more l f g _ (by omega) (by omega) (by omega)
        · rw [if_neg h35, if_neg h35]
theorem skip_end {l : List UInt8} {a : Nat} (h : l.length ≤ a) : skipL l a = a := by
  unfold skipL
  cases l.length + 1 - a with
  | zero => rfl
  | succ f => simp only [skipF]; rw [List.getElem?_eq_none h]
theorem skip_step {l : List UInt8} {a : Nat} {c : UInt8} (h : l[a]? = some c) : skipL l a = if isBlank c then skipL l (a + 1) else if c = 35 then skipL l (behindL (fun b => b != 10) l a) else a := by
  have hlt := (List.getElem?_eq_some_iff.1 h).1
  unfold skipL
  rw [show l.length + 1 - a = (l.length - a) + 1 by omega]
  simp only [skipF, h]
  by_cases hb : isBlank c = true
  · rw [if_pos hb, if_pos hb]; exact skipF_more l _ _ _ (by omega) (by omega) (by omega)
  · rw [if_neg hb, if_neg hb]
    by_cases h35 : c = 35
    · rw [if_pos h35, if_pos h35]
      have h1 := behind_yes (p := fun b => b != 10) h (by rw [h35]; decide)
      have h2 := behind_le (p := fun b => b != 10) (l := l) (a := a + 1) (by omega)
      rw [h1]
      exact skipF_more l _ _ _ (by omega) (by omega) (by omega)
    · rw [if_neg h35, if_neg h35]
theorem skip_le {l : List UInt8} {a : Nat} (h : a ≤ l.length) : a ≤ skipL l a ∧ skipL l a ≤ l.length := by
  have key : ∀ f a, a ≤ l.length → a ≤ skipF l f a ∧ skipF l f a ≤ l.length := fun f => by
    induction f with
    | zero => intro a h; exact ⟨Nat.le_refl _, h⟩
    | succ f ih =>
      intro a h
      simp only [skipF]
      cases hc : l[a]? with
      | none => exact ⟨Nat.le_refl _, h⟩
      | some c =>
        have hlt := (List.getElem?_eq_some_iff.1 hc).1
        dsimp only
        by_cases hb : isBlank c = true
        · rw [if_pos hb]; have := ih (a + 1) (by omega); exact ⟨by omega, this.2⟩
        · rw [if_neg hb]
          by_cases h35 : c = 35
          · rw [if_pos h35]
            have h2 := behind_le (p := fun b => b != 10) (l := l) (a := a) (by omega)
            have := ih _ h2.2
            exact ⟨by omega, this.2⟩
          · rw [if_neg h35]; exact ⟨Nat.le_refl _, h⟩
  exact key _ a h
/-- What a byte within a string stands for, and how many bytes say it: 0, if it must not stand there. -/
def signL : List UInt8 → UInt8 × Nat
  | [] => (0, 0)
  | c :: t => if c = 92 then (match t with
      | [] => (0, 0)
      | d :: _ => if d = 92 ∨ d = 34 then (d, 2) else if d = 110 then (10, 2) else (0, 0))
    else if isPlainB c.toNat then (c, 1) else (0, 0)
theorem sign_used (t : List UInt8) : (signL t).2 ≤ t.length := by
  unfold signL
  split
  · simp
  · split
    · split
      · simp
      · split
        · simp
        · split <;> simp
    · split <;> simp
def strF (l : List UInt8) : Nat → Nat → Option (List UInt8 × Nat)
  | 0, _ => none
  | f + 1, a => match l[a]? with
    | none => none
    | some c => if c = 34 then some ([], a) else if (signL (l.drop a)).2 = 0 then none else match strF l f (a + (signL (l.drop a)).2) with
      | none => none
      | some (m, e) => some ((signL (l.drop a)).1 :: m, e)
/-- The bytes that a string stands for, and the place of its end. -/
def strL (l : List UInt8) (a : Nat) : Option (List UInt8 × Nat) := strF l (l.length + 1 - a) a
theorem strF_more (l : List UInt8) : ∀ (f g a : Nat), l.length + 1 - a ≤ f → l.length + 1 - a ≤ g → a ≤ l.length → strF l f a = strF l g a
  | 0, g, a, h, _, ha => by omega
  | f + 1, 0, a, _, h, ha => by omega
  | f + 1, g + 1, a, hf, hg, ha => by
    simp only [strF]
    cases hc : l[a]? with
    | none => rfl
    | some c =>
      have hlt := (List.getElem?_eq_some_iff.1 hc).1
      dsimp only
      by_cases hb : c = 34
      · rw [if_pos hb, if_pos hb]
      · rw [if_neg hb, if_neg hb]
        by_cases hu : (signL (l.drop a)).2 = 0
        · rw [if_pos hu, if_pos hu]
        · rw [if_neg hu, if_neg hu]
          have h1 := sign_used (l.drop a)
          rw [List.length_drop] at h1
          rw [strF_more l f g _ (by omega) (by omega) (by omega)]
theorem str_step {l : List UInt8} {a : Nat} {c : UInt8} (h : l[a]? = some c) : strL l a = if c = 34 then some ([], a) else if (signL (l.drop a)).2 = 0 then none else match strL l (a + (signL (l.drop a)).2) with
    | none => none
    | some (m, e) => some ((signL (l.drop a)).1 :: m, e) := by
  have hlt := (List.getElem?_eq_some_iff.1 h).1
  unfold strL
  rw [show l.length + 1 - a = (l.length - a) + 1 by omega]
  simp only [strF, h]
  by_cases hb : c = 34
  · rw [if_pos hb, if_pos hb]
  · rw [if_neg hb, if_neg hb]
    by_cases hu : (signL (l.drop a)).2 = 0
    · rw [if_pos hu, if_pos hu]
    · rw [if_neg hu, if_neg hu]
      have h1 := sign_used (l.drop a)
      rw [List.length_drop] at h1
      rw [strF_more l (l.length - a) _ _ (by omega) (Nat.le_refl _) (by omega)]
theorem str_end {l : List UInt8} {a : Nat} (h : l.length ≤ a) : strL l a = none := by
  unfold strL
  cases l.length + 1 - a with
  | zero => rfl
  | succ f => simp only [strF]; rw [List.getElem?_eq_none h]
/-- What digits are worth. -/
def valN (d : List UInt8) : Nat := d.foldl (fun n c => n * 10 + (c.toNat - 48)) 0
def digitsOk (d : List UInt8) : Bool := !d.isEmpty && decide (valN d ≤ 1000000000)
def signKind (c : UInt8) : Nat := if c = 123 then 4 else if c = 125 then 5 else if c = 91 then 6 else if c = 93 then 7 else if c = 61 then 8 else if c = 44 then 9 else if c = 46 then 10 else 0
def baOf (l : List UInt8) : ByteArray := ⟨l.toArray⟩
/-- The token that begins at a place, and the place behind it; or an error. -/
def tokL (l : List UInt8) (a : Nat) (c : UInt8) : (Tok × Nat) ⊕ Int :=
  if isLetterB c.toNat then
    if behindL (fun b => isInnerB b.toNat) l a - a ≤ 12 then .inl (⟨1, a, baOf ((l.drop a).take (behindL (fun b => isInnerB b.toNat) l a - a)), 0⟩, behindL (fun b => isInnerB b.toNat) l a) else .inr 5
  else if isDigitB c.toNat || c == 45 then
    if digitsOk ((l.drop (if c = 45 then a + 1 else a)).takeWhile fun b => isDigitB b.toNat) then .inl (⟨2, a, ⟨#[]⟩, (if c = 45 then -1 else 1) * (valN ((l.drop (if c = 45 then a + 1 else a)).takeWhile fun b => isDigitB b.toNat) : Int)⟩, behindL (fun b => isDigitB b.toNat) l (if c = 45 then a + 1 else a)) else .inr 4
  else if c = 34 then
    match strL l (a + 1) with
    | none => .inr 3
    | some (m, e) => if m.length ≤ 20 then .inl (⟨3, a, baOf m, 0⟩, e + 1) else .inr 3
  else if signKind c = 0 then .inr 2 else .inl (⟨signKind c, a, ⟨#[]⟩, 0⟩, a + 1)
def endTok (n : Nat) : Tok := ⟨11, n, ⟨#[]⟩, 0⟩
def cutF (l : List UInt8) : Nat → Nat → List Tok × (Int × Nat)
  | 0, _ => ([], (0, 0))
  | f + 1, a => match l[skipL l a]? with
    | none => ([endTok l.length], (0, 0))
    | some c => match tokL l (skipL l a) c with
      | .inr e => ([], (e, skipL l a))
      | .inl (t, b) => if (cutF l f b).2.1 = 0 then (t :: (cutF l f b).1, (0, 0)) else ([], (cutF l f b).2)
end Go.Proofs.YtfnbbohbicffpaaGreatDoor
