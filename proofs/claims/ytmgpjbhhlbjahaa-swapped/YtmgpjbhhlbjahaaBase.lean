/-
  The words of the proofs: what bytes, words, strings, IDs, Attrs and resources may be, and how they are ordered, as functions of data; and the relation 'Ext' between two worlds: all that was there is there, as it was.
-/
import Derived.Test.YtmgpjbhhlbjahaaRows
import Derived.WalkKit
import Derived.WalkSpells
import Derived.WalkLawsBesides
import Derived.Lib.ConvBytes
import Derived.Lib.Bytealg
namespace Go.Proofs.Ytmgpjbhhlbjahaa
open Go.RowKit

/-- All that was there is there, as it was. -/
def Ext (w w' : World) : Prop := Below w.heap.size w w'
theorem Ext.refl (w : World) : Ext w w := Below.refl _ _
theorem Ext.size {w w' : World} (h : Ext w w') : w.heap.size ≤ w'.heap.size := Below.size h
theorem Ext.trans {a b c : World} (h : Ext a b) (k : Ext b c) : Ext a c := Below.trans h (Below.mono k h.size)
theorem Ext.cell {w w' : World} (h : Ext w w') {p : Addr} (hp : p.block < w.heap.size) : w'.cell? p = w.cell? p := Below.cell h hp
theorem Ext.cells {w w' : World} (h : Ext w w') {p : Addr} {v : Value} (hv : w.cell? p = some v) : w'.cell? p = some v := by
  rw [h.cell (World.block_lt_of_cell? w p hv)]; exact hv
theorem Ext.alloc {a w : World} (h : Ext a w) (o : Obj) : Ext a (w.alloc o) := Below.alloc h (Ext.size h) o
theorem Ext.drew {a w : World} (h : Ext a w) : Ext a w.drew := Below.drew h
theorem Ext.setCell {a w : World} (h : Ext a w) {p : Addr} (hp : a.heap.size ≤ p.block) (u : Value) : Ext a (w.setCell p u) := Below.setCell h hp u
theorem Ext.bytes (w : World) (e : TypeId) (s : ByteArray) : Ext w (Lib.bytesWorld w e s) :=
  ⟨rfl, rfl, rfl, by rw [Lib.bytesWorld_size]; omega, fun k hk => Lib.bytesWorld_at_old w e s k hk⟩

theorem retB {b c : Bool} (h : b = c) : Ending.returned (.bool b) = .returned (.bool c) := by rw [h]
theorem hide {p : Prop} (h : p) : Hid p := h
theorem unhide {p : Prop} (h : Hid p) : p := h

def isLetterB (c : Int) : Bool := decide (97 ≤ c ∧ c ≤ 122) || decide (65 ≤ c ∧ c ≤ 90)
def isDigitB (c : Int) : Bool := decide (48 ≤ c ∧ c ≤ 57)
def isInnerB (c : Int) : Bool := isLetterB c || isDigitB c || c == 95 || c == 45
/-- A word. -/
def wordB : List UInt8 → Bool
  | [] => false
  | c :: l => decide (l.length + 1 ≤ 12) && (isLetterB c.toNat && (c :: l).all fun x => isInnerB x.toNat)
theorem wordB_long {l : List UInt8} (h : 12 < l.length) : wordB l = false := by
  cases l with
  | nil => rfl
  | cons c l => simp only [List.length_cons] at h; simp [wordB]; omega

/-- An ID, an Attr, a resource. -/
structure IDd where
  kind : ByteArray
  name : ByteArray
structure Attrd where
  name : ByteArray
  isText : Bool
  text : ByteArray
  number : Int
structure Resd where
  id : IDd
  attrs : List Attrd
  after : List IDd

/-- The order of texts. -/
def cmpS (a b : ByteArray) : Int := Lib.compareBytes a.data.toList b.data.toList
/-- The order of IDs. -/
def cmpI (a b : IDd) : Int := if cmpS a.kind b.kind = 0 then cmpS a.name b.name else cmpS a.kind b.kind
end Go.Proofs.Ytmgpjbhhlbjahaa
