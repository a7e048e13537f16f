/-
  The words of the proofs: what bytes, words, strings, IDs, Attrs and resources may be, and how they are ordered, as functions of data; and the relation 'Ext' between two worlds: all that was there is there, as it was.
-/
/-
  How lists of IDs, Attrs and resources lie in memory; plain facts on lists that rise.
-/
/-
  Memory of our own: which blocks a part of the program may have turned; copy, and stores of four cells and of two into a row.
-/
/-
  A slice of bytes as a string; a new row of one cell and of two.
-/
/-
  Who waits for itself: plain facts on lists of resources.
-/
/-
  The plain plan: what makes the one list of the other, with no memory.
-/
/-
  Tokens: what a text is cut into, as functions of its bytes.
-/
/-
  Tokens: where they end; a text cut piece by piece.
-/
import Derived.Test.YtfmcgdglalljgaaGreatDoorRows
import Derived.WalkKit
import Derived.WalkSpells
import Derived.WalkLawsBesides
import Derived.Lib.ConvBytes
import Derived.Lib.Bytealg
import Derived.Laws.CopyRow
import Derived.Laws.MakeOwn
namespace Go.Proofs.YtfmcgdglalljgaaGreatDoor
open Go.RowKit

/-- All that was there is there, as it was. -/
def Ext (w w' : World) : Prop := Below w.heap.size w w'
theorem Ext.refl (w : World) : Ext w w := Below.refl _ _
theorem Ext.size {w w' : World} (h : Ext w w') : w.heap.size ≤ w'.heap.size := Below.size h
theorem Ext.trans {a b c : World} (h : Ext a b) (k : Ext b c) : Ext a c := Below.trans h (Below.mono k h.size)
theorem Ext.cell {w w' : World} (h : Ext w w') {p : Addr} (hp : p.block < w.heap.size) : w'.cell? p = w.cell? p := Below.cell h hp
theorem Ext.cells {w w' : World} (h : Ext w w') {p : Addr} {v : Value} (hv : w.cell? p = some v) : w'.cell? p = some v := by
  rw [h.cell (World.block_lt_of_cell? w p hv)]; exact hv
theorem Ext.alloc {a w : World} (h : Ext a w) (o : Obj) : Ext a (w.alloc o) := Below.alloc h (Ext.size h) o
theorem Ext.drew {a w : World} (h : Ext a w) : Ext a w.drew := Below.drew h
theorem Ext.drewN {a w : World} (h : Ext a w) (n : Nat) : Ext a (w.drewN n) := h.trans ⟨rfl, rfl, rfl, Nat.le_refl _, fun _ _ => rfl⟩
theorem Ext.setCell {a w : World} (h : Ext a w) {p : Addr} (hp : a.heap.size ≤ p.block) (u : Value) : Ext a (w.setCell p u) := Below.setCell h hp u
theorem Ext.bytes (w : World) (e : TypeId) (s : ByteArray) : Ext w (Lib.bytesWorld w e s) :=
  ⟨rfl, rfl, rfl, by rw [Lib.bytesWorld_size]; omega, fun k hk => Lib.bytesWorld_at_old w e s k hk⟩

theorem retB {b c : Bool} (h : b = c) : Ending.returned (.bool b) = .returned (.bool c) := by rw [h]
theorem retI {b c : Int} (h : b = c) : Ending.returned (.int .i64 b) = .returned (.int .i64 c) := by rw [h]
theorem retS {b c : ByteArray} (h : b = c) : Ending.returned (.string b) = .returned (.string c) := by rw [h]
theorem hide {p : Prop} (h : p) : Hid p := h
theorem unhide {p : Prop} (h : Hid p) : p := h

def isLetterB (c : Int) : Bool := decide (97 ≤ c ∧ c ≤ 122) || decide (65 ≤ c ∧ c ≤ 90)
def isDigitB (c : Int) : Bool := decide (48 ≤ c ∧ c ≤ 57)
def isInnerB (c : Int) : Bool := isLetterB c || isDigitB c || c == 95 || c == 45
def isPlainB (c : Int) : Bool := decide (32 ≤ c ∧ c ≤ 126)
def isTextB (c : Int) : Bool := isPlainB c || c == 10

/-- A word. -/
def wordB : List UInt8 → Bool
  | [] => false
  | c :: l => decide (l.length + 1 ≤ 12) && (isLetterB c.toNat && (c :: l).all fun x => isInnerB x.toNat)
/-- A string that may be. -/
def stringB (l : List UInt8) : Bool := decide (l.length ≤ 20) && l.all fun x => isTextB x.toNat

theorem wordB_long {l : List UInt8} (h : 12 < l.length) : wordB l = false := by
  cases l with
  | nil => rfl
  | cons c l => simp only [List.length_cons] at h; simp [wordB]; omega

/-- An ID, an Attr, a resource. -/
structure IDd where
  kind : ByteArray
  name : ByteArray
structure Attrd where
  name : ByteArray
  isText : Bool
  text : ByteArray
  number : Int
structure Resd where
  id : IDd
  attrs : List Attrd
  after : List IDd

def idB (x : IDd) : Bool := wordB x.kind.data.toList && wordB x.name.data.toList
/-- The order of texts. -/
def cmpS (a b : ByteArray) : Int := Lib.compareBytes a.data.toList b.data.toList
/-- The order of IDs. -/
def cmpI (a b : IDd) : Int := if cmpS a.kind b.kind = 0 then cmpS a.name b.name else cmpS a.kind b.kind
def lessI (a b : IDd) : Bool := decide (cmpI a b < 0)

def afterW : List UInt8 := [97, 102, 116, 101, 114]
def attrB (x : Attrd) : Bool :=
  wordB x.name.data.toList && !(x.name.data.toList == afterW) &&
    (if x.isText then stringB x.text.data.toList && x.number == 0 else x.text.data.toList.isEmpty && decide (-1000000000 ≤ x.number ∧ x.number ≤ 1000000000))
/-- Each is less than the next. -/
def risesB {α : Type} (lt : α → α → Bool) : List α → Bool
  | [] => true
  | [_] => true
  | a :: b :: l => lt a b && risesB lt (b :: l)
def lessA (a b : Attrd) : Bool := decide (cmpS a.name b.name < 0)
def lessR (a b : Resd) : Bool := lessI a.id b.id
def mayB (x : Resd) : Bool :=
  decide (x.attrs.length ≤ 6) && decide (x.after.length ≤ 6) && idB x.id && x.attrs.all attrB && risesB lessA x.attrs && x.after.all idB && risesB lessI x.after
def mayAllB (l : List Resd) : Bool := decide (l.length ≤ 12) && l.all mayB && risesB lessR l

end Go.Proofs.YtfmcgdglalljgaaGreatDoor

namespace Go.Proofs.YtfmcgdglalljgaaGreatDoor
open Go.RowKit

def okI (x : IDd) : Prop := x.kind.size ≤ 9223372036854775807 ∧ x.name.size ≤ 9223372036854775807
def okA (x : Attrd) : Prop := x.name.size ≤ 9223372036854775807 ∧ x.text.size ≤ 9223372036854775807 ∧ -9223372036854775808 ≤ x.number ∧ x.number ≤ 9223372036854775807

/-- IDs lie in a block, from a place on. -/
def IDsIn (w : World) (b off : Nat) (l : List IDd) : Prop :=
  ∀ i x, l[i]? = some x → w.cell? ⟨b, off + i * 2, none⟩ = some (.string x.kind) ∧ w.cell? ⟨b, off + i * 2 + 1, none⟩ = some (.string x.name)
def AttrsIn (w : World) (b off : Nat) (l : List Attrd) : Prop :=
  ∀ i x, l[i]? = some x → w.cell? ⟨b, off + i * 4, none⟩ = some (.string x.name) ∧ w.cell? ⟨b, off + i * 4 + 1, none⟩ = some (.bool x.isText) ∧ w.cell? ⟨b, off + i * 4 + 2, none⟩ = some (.string x.text) ∧ w.cell? ⟨b, off + i * 4 + 3, none⟩ = some (.int .i64 x.number)

/-- A slice leads to a list of IDs. -/
structure IDsV (w : World) (v : Value) (l : List IDd) : Prop where
  shape : ∃ a cap, v = .slice a l.length cap ∧ l.length ≤ cap ∧ cap ≤ 9223372036854775807 ∧ (l = [] ∨ ∃ b off, a = some ⟨b, off, none⟩ ∧ IDsIn w b off l)
  few : l.length ≤ 9223372036854775807
  ok : ∀ x ∈ l, okI x
structure AttrsV (w : World) (v : Value) (l : List Attrd) : Prop where
  shape : ∃ a cap, v = .slice a l.length cap ∧ l.length ≤ cap ∧ cap ≤ 9223372036854775807 ∧ (l = [] ∨ ∃ b off, a = some ⟨b, off, none⟩ ∧ AttrsIn w b off l)
  few : l.length ≤ 9223372036854775807
  ok : ∀ x ∈ l, okA x

theorem IDsIn.ext {w w' : World} {b off : Nat} {l : List IDd} (h : IDsIn w b off l) (e : Ext w w') : IDsIn w' b off l :=
  fun i x hx => ⟨e.cells (h i x hx).1, e.cells (h i x hx).2⟩
theorem AttrsIn.ext {w w' : World} {b off : Nat} {l : List Attrd} (h : AttrsIn w b off l) (e : Ext w w') : AttrsIn w' b off l :=
  fun i x hx => ⟨e.cells (h i x hx).1, e.cells (h i x hx).2.1, e.cells (h i x hx).2.2.1, e.cells (h i x hx).2.2.2⟩
theorem IDsV.ext {w w' : World} {v : Value} {l : List IDd} (h : IDsV w v l) (e : Ext w w') : IDsV w' v l := by
  obtain ⟨⟨a, cap, hv, hc, hm, hs⟩, h2, h3⟩ := h
  refine ⟨⟨a, cap, hv, hc, hm, ?_⟩, h2, h3⟩
  rcases hs with hs | ⟨b, off, ha, hi⟩
  · exact .inl hs
  · exact .inr ⟨b, off, ha, hi.ext e⟩
theorem AttrsV.ext {w w' : World} {v : Value} {l : List Attrd} (h : AttrsV w v l) (e : Ext w w') : AttrsV w' v l := by
  obtain ⟨⟨a, cap, hv, hc, hm, hs⟩, h2, h3⟩ := h
  refine ⟨⟨a, cap, hv, hc, hm, ?_⟩, h2, h3⟩
  rcases hs with hs | ⟨b, off, ha, hi⟩
  · exact .inl hs
  · exact .inr ⟨b, off, ha, hi.ext e⟩

/-- A resource's four cells. -/
structure ResV (w : World) (c2 c3 : Value) (x : Resd) : Prop where
  id : okI x.id
  attrs : AttrsV w c2 x.attrs
  after : IDsV w c3 x.after
theorem ResV.ext {w w' : World} {c2 c3 : Value} {x : Resd} (h : ResV w c2 c3 x) (e : Ext w w') : ResV w' c2 c3 x := ⟨h.id, h.attrs.ext e, h.after.ext e⟩
def RessIn (w : World) (b off : Nat) (l : List Resd) : Prop :=
  ∀ i x, l[i]? = some x → w.cell? ⟨b, off + i * 4, none⟩ = some (.string x.id.kind) ∧ w.cell? ⟨b, off + i * 4 + 1, none⟩ = some (.string x.id.name) ∧
    ∃ c2 c3, w.cell? ⟨b, off + i * 4 + 2, none⟩ = some c2 ∧ w.cell? ⟨b, off + i * 4 + 3, none⟩ = some c3 ∧ ResV w c2 c3 x
structure RessV (w : World) (v : Value) (l : List Resd) : Prop where
  shape : ∃ a cap, v = .slice a l.length cap ∧ l.length ≤ cap ∧ cap ≤ 9223372036854775807 ∧ (l = [] ∨ ∃ b off, a = some ⟨b, off, none⟩ ∧ RessIn w b off l)
  few : l.length ≤ 9223372036854775807
theorem RessIn.ext {w w' : World} {b off : Nat} {l : List Resd} (h : RessIn w b off l) (e : Ext w w') : RessIn w' b off l := by
  intro i x hx
  obtain ⟨h0, h1, c2, c3, h2, h3, h4⟩ := h i x hx
  exact ⟨e.cells h0, e.cells h1, c2, c3, e.cells h2, e.cells h3, h4.ext e⟩
theorem RessV.ext {w w' : World} {v : Value} {l : List Resd} (h : RessV w v l) (e : Ext w w') : RessV w' v l := by
  obtain ⟨⟨a, cap, hv, hc, hm, hs⟩, h2⟩ := h
  refine ⟨⟨a, cap, hv, hc, hm, ?_⟩, h2⟩
  rcases hs with hs | ⟨b, off, ha, hi⟩
  · exact .inl hs
  · exact .inr ⟨b, off, ha, hi.ext e⟩

/-! Plain facts -/
theorem all_succ {α : Type} {l : List α} {p : α → Bool} {k : Nat} {x : α} (h : l[k]? = some x) (ha : (l.take k).all p = true) : (l.take (k + 1)).all p = p x := by
  have hk : k < l.length := (List.getElem?_eq_some_iff.1 h).1
  rw [List.take_succ_eq_append_getElem hk, List.all_append, ha]
  have : l[k] = x := (List.getElem?_eq_some_iff.1 h).2
  simp [this]
theorem all_no {α : Type} {l : List α} {p : α → Bool} {k : Nat} {x : α} (h : l[k]? = some x) (hp : p x = false) : l.all p = false := by
  rw [List.all_eq_false]; exact ⟨x, List.mem_of_getElem? h, by simpa using hp⟩
theorem rises_take {α : Type} {lt : α → α → Bool} : ∀ {l : List α} {k : Nat} {x y : α}, l[k]? = some x → l[k + 1]? = some y → risesB lt (l.take (k + 2)) = (risesB lt (l.take (k + 1)) && lt x y)
  | [], k, x, y, h, _ => by simp at h
  | [a], k, x, y, h, h' => by simp at h'
  | a :: b :: l, 0, x, y, h, h' => by
    simp at h h'
    subst h h'
    simp [risesB]
  | a :: b :: l, k + 1, x, y, h, h' => by
    have ih := rises_take (lt := lt) (l := b :: l) (k := k) (x := x) (y := y) (by simpa using h) (by simpa using h')
    have e1 : (a :: b :: l).take (k + 1 + 2) = a :: b :: (l.take (k + 1)) := by simp
    have e2 : (a :: b :: l).take (k + 1 + 1) = a :: b :: (l.take k) := by simp
    have e3 : (b :: l).take (k + 2) = b :: l.take (k + 1) := by simp
    have e4 : (b :: l).take (k + 1) = b :: l.take k := by simp
    rw [e3, e4] at ih
    rw [e1, e2]
    simp only [risesB]
    rw [ih, Bool.and_assoc]
theorem rises_no {α : Type} {lt : α → α → Bool} : ∀ {l : List α} {k : Nat} {x y : α}, l[k]? = some x → l[k + 1]? = some y → lt x y = false → risesB lt l = false
  | [], k, x, y, h, _, _ => by simp at h
  | [a], k, x, y, h, h', _ => by simp at h'
  | a :: b :: l, 0, x, y, h, h', hn => by
    simp at h h'
    subst h h'
    simp [risesB, hn]
  | a :: b :: l, k + 1, x, y, h, h', hn => by
    have ih := rises_no (lt := lt) (l := b :: l) (k := k) (x := x) (y := y) (by simpa using h) (by simpa using h') hn
    simp [risesB, ih]
theorem rises_one {α : Type} {lt : α → α → Bool} (l : List α) : risesB lt (l.take 1) = true := by
  match l with
  | [] => rfl
  | [_] => rfl
  | _ :: _ :: _ => rfl
theorem some_of_lt {α : Type} {l : List α} {k : Nat} (h : k < l.length) : ∃ x, l[k]? = some x := ⟨l[k], List.getElem?_eq_getElem h⟩
end Go.Proofs.YtfmcgdglalljgaaGreatDoor

namespace Go.Proofs.YtfmcgdglalljgaaGreatDoor
open Go.RowKit

/-- Of the blocks that were there those alone may have turned of which D speaks. -/
structure Kept (D : Nat → Prop) (w w' : World) : Prop where
  os : w'.os = w.os
  tape : w'.tape = w.tape
  output : w'.output = w.output
  size : w.heap.size ≤ w'.heap.size
  block : ∀ k, k < w.heap.size → ¬ D k → w'.heap[k]? = w.heap[k]?
theorem Kept.refl (D : Nat → Prop) (w : World) : Kept D w w := ⟨rfl, rfl, rfl, Nat.le_refl _, fun _ _ _ => rfl⟩
theorem Kept.mono {D D' : Nat → Prop} {w w' : World} (h : Kept D w w') (hd : ∀ k, k < w.heap.size → D k → D' k) : Kept D' w w' :=
  ⟨h.os, h.tape, h.output, h.size, fun k hk hn => h.block k hk fun hD => hn (hd k hk hD)⟩
theorem Kept.trans {D D' : Nat → Prop} {a b c : World} (h : Kept D a b) (g : Kept D' b c) (hd : ∀ k, k < a.heap.size → D' k → D k) : Kept D a c :=
  ⟨g.os.trans h.os, g.tape.trans h.tape, g.output.trans h.output, Nat.le_trans h.size g.size, fun k hk hn => (g.block k (Nat.lt_of_lt_of_le hk h.size) fun hD => hn (hd k hk hD)).trans (h.block k hk hn)⟩
theorem Ext.kept {w w' : World} (h : Ext w w') (D : Nat → Prop) : Kept D w w' := ⟨Below.os h, Below.tape h, Below.output h, Ext.size h, fun k hk _ => Below.block h k hk⟩
theorem Kept.ext {D : Nat → Prop} {w w' : World} (h : Kept D w w') (hd : ∀ k, k < w.heap.size → ¬ D k) : Ext w w' := ⟨h.os, h.tape, h.output, h.size, fun k hk => h.block k hk (hd k hk)⟩
/-- What was there in w0 is as it was, if only what was made since has turned. -/
theorem Ext.since {D : Nat → Prop} {w0 w w' : World} (h : Ext w0 w) (k : Kept D w w') (hd : ∀ j, D j → w0.heap.size ≤ j) : Ext w0 w' :=
  ⟨k.os.trans (Below.os h), k.tape.trans (Below.tape h), k.output.trans (Below.output h), Nat.le_trans (Ext.size h) k.size, fun j hj => (k.block j (Nat.lt_of_lt_of_le hj (Ext.size h)) fun hD => by have := hd j hD; omega).trans (Below.block h j hj)⟩
theorem Kept.cell {D : Nat → Prop} {w w' : World} (h : Kept D w w') {p : Addr} {v : Value} (hv : w.cell? p = some v) (hn : ¬ D p.block) : w'.cell? p = some v := by
  rw [World.cell?_of_block (h.block _ (World.block_lt_of_cell? w p hv) hn)]; exact hv
theorem Kept.heap {D : Nat → Prop} {w w' : World} (h : Kept D w w') {k : Nat} {o : Obj} (hv : w.heap[k]? = some o) (hn : ¬ D k) : w'.heap[k]? = some o := by
  rw [h.block _ (Array.getElem?_eq_some_iff.1 hv).1 hn]; exact hv
theorem ext_heap {w w' : World} {k : Nat} {o : Obj} (h : Ext w w') (hk : w.heap[k]? = some o) : w'.heap[k]? = some o := by
  rw [Below.block h _ (Array.getElem?_eq_some_iff.1 hk).1]; exact hk
theorem kept_setCell (w : World) (p : Addr) (v : Value) : Kept (· = p.block) w (w.setCell p v) :=
  ⟨rfl, rfl, rfl, by simp [World.setCell], fun k _ hk => Below.heap_setCell _ _ _ _ hk⟩
theorem kept_setRow (w : World) (g : Nat) (cs : Array Value) : Kept (· = g) w (w.setRow g cs) :=
  ⟨rfl, rfl, rfl, by simp [World.setRow], fun k _ hk => setRow_other w g k cs hk⟩

/-! copy of elements of some cells -/
end Go.Proofs.YtfmcgdglalljgaaGreatDoor

namespace Go.Proofs.YtfmcgdglalljgaaGreatDoor
open Go.RowKit

theorem ba_app (a b : ByteArray) : a ++ b = ⟨(a.data.toList ++ b.data.toList).toArray⟩ := by
  apply ByteArray.ext; simp
theorem ba_app2 (a b : Array UInt8) : (⟨a⟩ : ByteArray) ++ ⟨b⟩ = ⟨(a.toList ++ b.toList).toArray⟩ := by
  apply ByteArray.ext; simp
theorem add_eq (b off j : Nat) : (⟨b, off, none⟩ : Addr).add j = ⟨b, off + j, none⟩ := by unfold Addr.add; split <;> simp_all
theorem push_fold : ∀ (l : List UInt8) (r : List UInt8), (l.map fun c => (c.toNat : Int)).foldl (fun r n => r.push (UInt8.ofNat n.toNat)) (⟨r.toArray⟩ : ByteArray) = ⟨(r ++ l).toArray⟩
  | [], r => by simp
  | c :: l, r => by
    have e : (⟨r.toArray⟩ : ByteArray).push (UInt8.ofNat ((c.toNat : Int).toNat)) = ⟨(r ++ [c]).toArray⟩ := by
      show (⟨r.toArray.push _⟩ : ByteArray) = _
      rw [Int.toNat_natCast, UInt8.ofNat_toNat]; simp
    rw [List.map_cons, List.foldl_cons, e, push_fold l (r ++ [c])]; simp
/-- string(bs): the bytes that lie there. -/
theorem conv_bytes (w : World) (b off n cap : Nat) (l : List UInt8) (hn : l.length = n) (h : ∀ j, j < l.length → w.cell? ⟨b, off + j, none⟩ = some (.int .u8 ((l[j]?.getD 0).toNat : Int))) :
    (convert 45 9 (.slice (some ⟨b, off, none⟩) n cap)).run Tryz.prog w = .ok (.string ⟨l.toArray⟩) w := by
  subst hn
  rw [run_convert_bytes_string w 45 9 5 _ _ _ Tryz.underlying45 Tryz.underlying5 Tryz.underlying9]
  have hl : (loadCells ⟨b, off, none⟩ l.length).run Tryz.prog w = .ok ((l.map fun c => (c.toNat : Int)).map (Value.int .u8)).toArray w := by
    have := run_loadCells_list (P := Tryz.prog) (w := w) ⟨b, off, none⟩ ((l.map fun c => (c.toNat : Int)).map (Value.int .u8)) (by
      intro j v hj
      rw [add_eq]
      have hlt : j < l.length := by
        have := (List.getElem?_eq_some_iff.1 hj).1; simpa using this
      rw [h j hlt]
      simp [hlt] at hj ⊢
      exact hj)
    simpa using this
  rw [run_bytesToString w _ _ _ _ hl]
  have := push_fold l []
  simp only [List.nil_append] at this
  exact congrArg (fun x => Result.ok (Value.string x) w) this
/-- .. of a row of one byte, just made. -/
theorem conv_one (w : World) (c : Int) (h0 : 0 ≤ c) (h1 : c ≤ 255) :
    (convert 45 9 (.slice (some ⟨w.heap.size, 0, none⟩) 1 1)).run Tryz.prog (w.alloc (.cells #[.int .u8 c] 5)) = .ok (.string ⟨#[UInt8.ofNat c.toNat]⟩) (w.alloc (.cells #[.int .u8 c] 5)) := by
  refine conv_bytes _ _ 0 1 1 [UInt8.ofNat c.toNat] rfl ?_
  intro j hj
  obtain rfl : j = 0 := by simpa using hj
  have : ((UInt8.ofNat c.toNat).toNat : Int) = c := by simp; omega
  simp [go_sem]; omega
end Go.Proofs.YtfmcgdglalljgaaGreatDoor

namespace Go.Proofs.YtfmcgdglalljgaaGreatDoor

/-- The place of the first resource with an ID. -/
def placeL (l : List Resd) (a : IDd) : Option Nat := l.findIdx? (fun x => decide (x.id.kind = a.kind ∧ x.id.name = a.name))
/-- The resource at k waits for the one at j. -/
def Edge (l : List Resd) (k j : Nat) : Prop := ∃ x a, l[k]? = some x ∧ a ∈ x.after ∧ placeL l a = some j
/-- From i one comes to j, by so many steps as it takes. -/
inductive Comes (l : List Resd) (i : Nat) : Nat → Prop
  | here : Comes l i i
  | step {k j : Nat} : Comes l i k → Edge l k j → Comes l i j
/-- The resource at i waits for itself. -/
def Circ (l : List Resd) (i : Nat) : Prop := ∃ k, Comes l i k ∧ Edge l k i

theorem place_id {l : List Resd} {a : IDd} {j : Nat} (h : placeL l a = some j) : ∃ x, l[j]? = some x ∧ x.id = a := by
  unfold placeL at h
  obtain ⟨h1, h2, _⟩ := List.findIdx?_eq_some_iff_getElem.1 h
  obtain ⟨h3, h4⟩ := of_decide_eq_true h2
  refine ⟨l[j], List.getElem?_eq_getElem h1, ?_⟩
  cases hx : l[j].id; cases a; simp_all
/-- What holds of i and goes over each step holds of all that one comes to. -/
theorem Comes.closed {l : List Resd} {i : Nat} {S : Nat → Prop} (h0 : S i) (hs : ∀ k j, S k → Edge l k j → S j) {j : Nat} (h : Comes l i j) : S j := by
  induction h with
  | here => exact h0
  | step _ e ih => exact hs _ _ ih e

/-- How many are marked. -/
def marks (r : List Bool) : Nat := r.countP (· == true)
theorem marks_le (r : List Bool) : marks r ≤ r.length := List.countP_le_length
theorem marks_set {r : List Bool} {j : Nat} (h : r[j]? = some false) : marks (r.set j true) = marks r + 1 := by
  induction r generalizing j with
  | nil => cases h
  | cons b r ih =>
    cases j with
    | zero =>
      obtain rfl : b = false := by simpa using h
      simp [marks]
    | succ j =>
      have := ih (j := j) (by simpa using h)
      simp only [List.set_cons_succ, marks, List.countP_cons] at *
      omega
/-- More marks than before, none lost. -/
def MoreM (r r' : List Bool) : Prop := r'.length = r.length ∧ ∀ k : Nat, r[k]? = some true → r'[k]? = some true
theorem MoreM.refl (r : List Bool) : MoreM r r := ⟨rfl, fun _ h => h⟩
theorem MoreM.trans {r r' r'' : List Bool} (h : MoreM r r') (h' : MoreM r' r'') : MoreM r r'' := ⟨h'.1.trans h.1, fun k hk => h'.2 k (h.2 k hk)⟩
theorem MoreM.set (r : List Bool) (j : Nat) : MoreM r (r.set j true) := by
  refine ⟨List.length_set .., fun k hk => ?_⟩
  have hlt := (List.getElem?_eq_some_iff.1 hk).1
  rw [List.getElem?_set]
  split
  · rename_i h; subst h; rw [if_pos hlt]
  · exact hk

theorem marks_cons (b : Bool) (r : List Bool) : marks (b :: r) = marks r + (if b = true then 1 else 0) := by
  simp [marks, List.countP_cons]
theorem MoreM.marks_le : ∀ {r r' : List Bool}, MoreM r r' → marks r ≤ marks r'
  | [], r', h => Nat.zero_le _
  | b :: r, [], h => by cases h.1
  | b :: r, b' :: r', h => by
    have h1 : MoreM r r' := ⟨by simpa using h.1, fun k hk => by simpa using h.2 (k + 1) (by simpa using hk)⟩
    have h2 : b = true → b' = true := fun hb => by simpa using h.2 0 (by simpa using hb)
    have := MoreM.marks_le h1
    rw [marks_cons, marks_cons]
    cases b <;> cases b' <;> simp_all <;> omega
theorem MoreM.same : ∀ {r r' : List Bool}, MoreM r r' → marks r' ≤ marks r → r' = r
  | [], r', h, _ => List.eq_nil_of_length_eq_zero h.1
  | b :: r, [], h, _ => by cases h.1
  | b :: r, b' :: r', h, hm => by
    have h1 : MoreM r r' := ⟨by simpa using h.1, fun k hk => by simpa using h.2 (k + 1) (by simpa using hk)⟩
    have h2 : b = true → b' = true := fun hb => by simpa using h.2 0 (by simpa using hb)
    have h3 := MoreM.marks_le h1
    rw [marks_cons, marks_cons] at hm
    have h4 : b' = b := by cases b <;> cases b' <;> simp_all <;> omega
    subst h4
    rw [MoreM.same h1 (by omega)]

/-- What is marked is closed, and the mark of i itself is seen. -/
def ClosedQ (l : List Resd) (i : Nat) (r : List Bool) (q : Bool) : Prop := ∀ k j, r[k]? = some true → Edge l k j → r[j]? = some true ∧ (j = i → q = true)
/-- Ahead of a round: what is marked one comes to; it is closed, or there are many marks. -/
structure Rounds (l : List Resd) (i n : Nat) (r : List Bool) (q : Bool) : Prop where
  len : r.length = l.length
  start : r[i]? = some true
  sound : ∀ k : Nat, r[k]? = some true → Comes l i k
  told : q = true → Circ l i
  grows : ClosedQ l i r q ∨ n + 1 ≤ marks r
theorem closed_comes {l : List Resd} {i : Nat} {r : List Bool} {q : Bool} (hs : r[i]? = some true) (hc : ClosedQ l i r q) {k : Nat} (h : Comes l i k) : r[k]? = some true :=
  h.closed (S := fun k => r[k]? = some true) hs fun k j hk he => (hc k j hk he).1
/-- A round: each step from what was marked ahead is taken. -/
theorem Rounds.step {l : List Resd} {i n : Nat} {r r' : List Bool} {q q' : Bool} (h : Rounds l i n r q) (hm : MoreM r r') (hs : ∀ k : Nat, r'[k]? = some true → Comes l i k) (ht : q' = true → Circ l i)
    (ha : ∀ k j : Nat, r[k]? = some true → Edge l k j → r'[j]? = some true ∧ (j = i → q' = true)) : Rounds l i (n + 1) r' q' := by
  have key : r' = r → ClosedQ l i r' q' := by rintro rfl; exact ha
  refine ⟨hm.1.trans h.len, hm.2 i h.start, hs, ht, ?_⟩
  rcases h.grows with hc | hn
  · refine .inl (key (hm.same (MoreM.marks_le ⟨hm.1.symm, fun k hk => closed_comes h.start hc (hs k hk)⟩)))
  · by_cases hmm : marks r' ≤ marks r
    · exact .inl (key (hm.same hmm))
    · exact .inr (by omega)
/-- Behind all rounds. -/
theorem Rounds.done {l : List Resd} {i : Nat} {r : List Bool} {q : Bool} (h : Rounds l i (l.length + 1) r q) : q = true ↔ Circ l i := by
  refine ⟨h.told, fun ⟨k, hk, he⟩ => ?_⟩
  have hc : ClosedQ l i r q := by
    rcases h.grows with hc | hn
    · exact hc
    · have := marks_le r; rw [h.len] at this; omega
  exact (hc k i (closed_comes h.start hc hk) he).2 rfl

/-- The same by IDs: who has the ID a waits for b. -/
def IdEdge (l : List Resd) (a b : IDd) : Prop := ∃ k y, placeL l a = some k ∧ l[k]? = some y ∧ b ∈ y.after
inductive IdComes (l : List Resd) (a : IDd) : IDd → Prop
  | here : IdComes l a a
  | step {b c : IDd} : IdComes l a b → IdEdge l b c → IdComes l a c
def IdCirc (l : List Resd) (a : IDd) : Prop := ∃ b, IdComes l a b ∧ IdEdge l b a
theorem IdComes.closed {l : List Resd} {a : IDd} {S : IDd → Prop} (h0 : S a) (hs : ∀ b c, S b → IdEdge l b c → S c) {b : IDd} (h : IdComes l a b) : S b := by
  induction h with
  | here => exact h0
  | step _ e ih => exact hs _ _ ih e
/-- No two have the same ID. -/
def Apart (l : List Resd) : Prop := ∀ (i j : Nat) x y, l[i]? = some x → l[j]? = some y → x.id = y.id → i = j
theorem place_self {l : List Resd} (hd : Apart l) {i : Nat} {x : Resd} (hx : l[i]? = some x) : placeL l x.id = some i := by
  obtain ⟨hi, hxi⟩ := List.getElem?_eq_some_iff.1 hx
  refine List.findIdx?_eq_some_iff_getElem.2 ⟨hi, by rw [hxi]; simp, fun j hj => ?_⟩
  simp only [decide_eq_true_eq, not_and]
  intro h1 h2
  have := hd j i l[j] x (List.getElem?_eq_getElem (by omega)) hx (by
    cases hl : l[j].id; cases hx2 : x.id; simp_all)
  omega
theorem circ_iff {l : List Resd} (hd : Apart l) {i : Nat} {x : Resd} (hx : l[i]? = some x) : IdCirc l x.id ↔ Circ l i := by
  constructor
  · rintro ⟨b, hb, k, y, h1, h2, h3⟩
    have key : ∀ c, IdComes l x.id c → ∀ k, placeL l c = some k → Comes l i k := by
      intro c hc
      induction hc with
      | here =>
        intro k hk
        obtain rfl : i = k := by simpa using (place_self hd hx).symm.trans hk
        exact .here
      | step _ e ih =>
        intro j hj
        obtain ⟨k, y, h1, h2, h3⟩ := e
        exact (ih k h1).step ⟨y, _, h2, h3, hj⟩
    exact ⟨k, key b hb k h1, y, x.id, h2, h3, place_self hd hx⟩
  · rintro ⟨k, hk, y, a, h1, h2, h3⟩
    have key : ∀ k, Comes l i k → ∀ y, l[k]? = some y → IdComes l x.id y.id := by
      intro k hk
      induction hk with
      | here =>
        intro y hy
        obtain rfl : x = y := by simpa using hx.symm.trans hy
        exact .here
      | step _ e ih =>
        intro z hz
        obtain ⟨y, a, h1, h2, h3⟩ := e
        obtain ⟨z', hz', rfl⟩ := place_id h3
        obtain rfl : z = z' := by simpa using hz.symm.trans hz'
        exact (ih y h1).step ⟨_, y, place_self hd h1, h1, h2⟩
    obtain ⟨x', hx', rfl⟩ := place_id h3
    obtain rfl : x = x' := by simpa using hx.symm.trans hx'
    exact ⟨y.id, key k hk y h1, _, y, place_self hd h1, h1, h2⟩
/-- What was met: each is met or is still to be done. -/
theorem waits_no {l : List Resd} {a : IDd} {M : IDd → Prop} (h0 : ∀ c, IdEdge l a c → M c) (hs : ∀ b c, M b → IdEdge l b c → M c) (hn : ¬ M a) : ¬ IdCirc l a := by
  rintro ⟨b, hb, he⟩
  have : b = a ∨ M b := hb.closed (S := fun b => b = a ∨ M b) (.inl rfl) (by
    rintro b c (rfl | h) he
    · exact .inr (h0 c he)
    · exact .inr (hs b c h he))
  rcases this with rfl | h
  · exact hn (h0 _ he)
  · exact hn (hs _ _ h he)
end Go.Proofs.YtfmcgdglalljgaaGreatDoor

namespace Go.Proofs.YtfmcgdglalljgaaGreatDoor
open Go.RowKit

/-- A step: what is done, and to which resource. -/
structure StepD where
  op : Nat
  x : Resd
/-- One waits, also through others, for one that fits. -/
def WaitsTo (l : List Resd) (a : IDd) (F : IDd → Prop) : Prop := ∃ b c, IdComes l a b ∧ IdEdge l b c ∧ F c
end Go.Proofs.YtfmcgdglalljgaaGreatDoor

namespace Go.Proofs.YtfmcgdglalljgaaGreatDoor
open Go.RowKit

/-- A token: its kind, its place, its text, its number. -/
structure Tok where
  kind : Nat
  place : Nat
  text : ByteArray
  value : Int
/-- The first place, from a given one on, whose byte does not fit. -/
def behindL (p : UInt8 → Bool) (l : List UInt8) (a : Nat) : Nat := a + ((l.drop a).takeWhile p).length
theorem behind_no {p : UInt8 → Bool} {l : List UInt8} {a : Nat} (h : ∀ c, l[a]? = some c → p c = false) : behindL p l a = a := by
  unfold behindL
  cases hd : l.drop a with
  | nil => simp
  | cons c t =>
    have : l[a]? = some c := by have := List.getElem?_drop (xs := l) (i := a) (j := 0); rw [hd] at this; simpa using this.symm
    simp [List.takeWhile, h c this]
theorem behind_yes {p : UInt8 → Bool} {l : List UInt8} {a : Nat} {c : UInt8} (h : l[a]? = some c) (hp : p c = true) : behindL p l a = behindL p l (a + 1) := by
  unfold behindL
  obtain ⟨hlt, rfl⟩ := List.getElem?_eq_some_iff.1 h
  rw [List.drop_eq_getElem_cons hlt]
  simp [List.takeWhile, hp]; omega
theorem behind_le {p : UInt8 → Bool} {l : List UInt8} {a : Nat} (h : a ≤ l.length) : a ≤ behindL p l a ∧ behindL p l a ≤ l.length := by
  unfold behindL
  have h1 : ((l.drop a).takeWhile p).length ≤ (l.drop a).length := (List.takeWhile_prefix p).length_le
  rw [List.length_drop] at h1
  omega
def isBlank (c : UInt8) : Bool := c == 32 || c == 9 || c == 10
def skipF (l : List UInt8) : Nat → Nat → Nat
  | 0, a => a
  | f + 1, a => match l[a]? with
    | none => a
    | some c => if isBlank c then skipF l f (a + 1) else if c = 35 then skipF l f (behindL (fun b => b != 10) l a) else a
/-- Where, from a place on, the next thing stands that counts. -/
def skipL (l : List UInt8) (a : Nat) : Nat := skipF l (l.length + 1 - a) a
theorem skipF_more (l : List UInt8) : ∀ (f g a : Nat), l.length + 1 - a ≤ f → l.length + 1 - a ≤ g → a ≤ l.length → skipF l f a = skipF l g a
  | 0, g, a, h, _, ha => by omega
  | f + 1, 0, a, _, h, ha => by omega
  | f + 1, g + 1, a, hf, hg, ha => by
    simp only [skipF]
    cases hc : l[a]? with
    | none => rfl
    | some c =>
      have hlt := (List.getElem?_eq_some_iff.1 hc).1
      dsimp only
      by_cases hb : isBlank c = true
      · rw [if_pos hb, if_pos hb]; exact skipF_more l f g (a + 1) (by omega) (by omega) (by omega)
      · rw [if_neg hb, if_neg hb]
        by_cases h35 : c = 35
        · rw [if_pos h35, if_pos h35]
          have h1 := behind_yes (p := fun b => b != 10) hc (by rw [h35]; decide)
          have h2 := behind_le (p := fun b => b != 10) (l := l) (a := a + 1) (by omega)
          rw [h1]
          exact skipF_more l f g _ (by omega) (by omega) (by omega)
        · rw [if_neg h35, if_neg h35]
theorem skip_end {l : List UInt8} {a : Nat} (h : l.length ≤ a) : skipL l a = a := by
  unfold skipL
  cases l.length + 1 - a with
  | zero => rfl
  | succ f => simp only [skipF]; rw [List.getElem?_eq_none h]
theorem skip_step {l : List UInt8} {a : Nat} {c : UInt8} (h : l[a]? = some c) : skipL l a = if isBlank c then skipL l (a + 1) else if c = 35 then skipL l (behindL (fun b => b != 10) l a) else a := by
  have hlt := (List.getElem?_eq_some_iff.1 h).1
  unfold skipL
  rw [show l.length + 1 - a = (l.length - a) + 1 by omega]
  simp only [skipF, h]
  by_cases hb : isBlank c = true
  · rw [if_pos hb, if_pos hb]; exact skipF_more l _ _ _ (by omega) (by omega) (by omega)
  · rw [if_neg hb, if_neg hb]
    by_cases h35 : c = 35
    · rw [if_pos h35, if_pos h35]
      have h1 := behind_yes (p := fun b => b != 10) h (by rw [h35]; decide)
      have h2 := behind_le (p := fun b => b != 10) (l := l) (a := a + 1) (by omega)
      rw [h1]
      exact skipF_more l _ _ _ (by omega) (by omega) (by omega)
    · rw [if_neg h35, if_neg h35]
theorem skip_le {l : List UInt8} {a : Nat} (h : a ≤ l.length) : a ≤ skipL l a ∧ skipL l a ≤ l.length := by
  have key : ∀ f a, a ≤ l.length → a ≤ skipF l f a ∧ skipF l f a ≤ l.length := fun f => by
    induction f with
    | zero => intro a h; exact ⟨Nat.le_refl _, h⟩
    | succ f ih =>
      intro a h
      simp only [skipF]
      cases hc : l[a]? with
      | none => exact ⟨Nat.le_refl _, h⟩
      | some c =>
        have hlt := (List.getElem?_eq_some_iff.1 hc).1
        dsimp only
        by_cases hb : isBlank c = true
        · rw [if_pos hb]; have := ih (a + 1) (by omega); exact ⟨by omega, this.2⟩
        · rw [if_neg hb]
          by_cases h35 : c = 35
          · rw [if_pos h35]
            have h2 := behind_le (p := fun b => b != 10) (l := l) (a := a) (by omega)
            have := ih _ h2.2
            exact ⟨by omega, this.2⟩
          · rw [if_neg h35]; exact ⟨Nat.le_refl _, h⟩
  exact key _ a h
/-- What a byte within a string stands for, and how many bytes say it: 0, if it must not stand there. -/
def signL : List UInt8 → UInt8 × Nat
  | [] => (0, 0)
  | c :: t => if c = 92 then (match t with
      | [] => (0, 0)
      | d :: _ => if d = 92 ∨ d = 34 then (d, 2) else if d = 110 then (10, 2) else (0, 0))
    else if isPlainB c.toNat then (c, 1) else (0, 0)
theorem sign_used (t : List UInt8) : (signL t).2 ≤ t.length := by
  unfold signL
  split
  · simp
  · split
    · split
      · simp
      · split
        · simp
        · split <;> simp
    · split <;> simp
def strF (l : List UInt8) : Nat → Nat → Option (List UInt8 × Nat)
  | 0, _ => none
  | f + 1, a => match l[a]? with
    | none => none
    | some c => if c = 34 then some ([], a) else if (signL (l.drop a)).2 = 0 then none else match strF l f (a + (signL (l.drop a)).2) with
      | none => none
      | some (m, e) => some ((signL (l.drop a)).1 :: m, e)
/-- The bytes that a string stands for, and the place of its end. -/
def strL (l : List UInt8) (a : Nat) : Option (List UInt8 × Nat) := strF l (l.length + 1 - a) a
theorem strF_more (l : List UInt8) : ∀ (f g a : Nat), l.length + 1 - a ≤ f → l.length + 1 - a ≤ g → a ≤ l.length → strF l f a = strF l g a
  | 0, g, a, h, _, ha => by omega
  | f + 1, 0, a, _, h, ha => by omega
  | f + 1, g + 1, a, hf, hg, ha => by
    simp only [strF]
    cases hc : l[a]? with
    | none => rfl
    | some c =>
      have hlt := (List.getElem?_eq_some_iff.1 hc).1
      dsimp only
      by_cases hb : c = 34
      · rw [if_pos hb, if_pos hb]
      · rw [if_neg hb, if_neg hb]
        by_cases hu : (signL (l.drop a)).2 = 0
        · rw [if_pos hu, if_pos hu]
        · rw [if_neg hu, if_neg hu]
          have h1 := sign_used (l.drop a)
          rw [List.length_drop] at h1
          rw [strF_more l f g _ (by omega) (by omega) (by omega)]
theorem str_step {l : List UInt8} {a : Nat} {c : UInt8} (h : l[a]? = some c) : strL l a = if c = 34 then some ([], a) else if (signL (l.drop a)).2 = 0 then none else match strL l (a + (signL (l.drop a)).2) with
    | none => none
    | some (m, e) => some ((signL (l.drop a)).1 :: m, e) := by
  have hlt := (List.getElem?_eq_some_iff.1 h).1
  unfold strL
  rw [show l.length + 1 - a = (l.length - a) + 1 by omega]
  simp only [strF, h]
  by_cases hb : c = 34
  · rw [if_pos hb, if_pos hb]
  · rw [if_neg hb, if_neg hb]
    by_cases hu : (signL (l.drop a)).2 = 0
    · rw [if_pos hu, if_pos hu]
    · rw [if_neg hu, if_neg hu]
      have h1 := sign_used (l.drop a)
      rw [List.length_drop] at h1
      rw [strF_more l (l.length - a) _ _ (by omega) (Nat.le_refl _) (by omega)]
theorem str_end {l : List UInt8} {a : Nat} (h : l.length ≤ a) : strL l a = none := by
  unfold strL
  cases l.length + 1 - a with
  | zero => rfl
  | succ f => simp only [strF]; rw [List.getElem?_eq_none h]
/-- What digits are worth. -/
def valN (d : List UInt8) : Nat := d.foldl (fun n c => n * 10 + (c.toNat - 48)) 0
def digitsOk (d : List UInt8) : Bool := !d.isEmpty && decide (valN d ≤ 1000000000)
def signKind (c : UInt8) : Nat := if c = 123 then 4 else if c = 125 then 5 else if c = 91 then 6 else if c = 93 then 7 else if c = 61 then 8 else if c = 44 then 9 else if c = 46 then 10 else 0
def baOf (l : List UInt8) : ByteArray := ⟨l.toArray⟩
/-- The token that begins at a place, and the place behind it; or an error. -/
def tokL (l : List UInt8) (a : Nat) (c : UInt8) : (Tok × Nat) ⊕ Int :=
  if isLetterB c.toNat then
    if behindL (fun b => isInnerB b.toNat) l a - a ≤ 12 then .inl (⟨1, a, baOf ((l.drop a).take (behindL (fun b => isInnerB b.toNat) l a - a)), 0⟩, behindL (fun b => isInnerB b.toNat) l a) else .inr 5
  else if isDigitB c.toNat || c == 45 then
    if digitsOk ((l.drop (if c = 45 then a + 1 else a)).takeWhile fun b => isDigitB b.toNat) then .inl (⟨2, a, ⟨#[]⟩, (if c = 45 then -1 else 1) * (valN ((l.drop (if c = 45 then a + 1 else a)).takeWhile fun b => isDigitB b.toNat) : Int)⟩, behindL (fun b => isDigitB b.toNat) l (if c = 45 then a + 1 else a)) else .inr 4
  else if c = 34 then
    match strL l (a + 1) with
    | none => .inr 3
    | some (m, e) => if m.length ≤ 20 then .inl (⟨3, a, baOf m, 0⟩, e + 1) else .inr 3
  else if signKind c = 0 then .inr 2 else .inl (⟨signKind c, a, ⟨#[]⟩, 0⟩, a + 1)
def endTok (n : Nat) : Tok := ⟨11, n, ⟨#[]⟩, 0⟩
def cutF (l : List UInt8) : Nat → Nat → List Tok × (Int × Nat)
  | 0, _ => ([], (0, 0))
  | f + 1, a => match l[skipL l a]? with
    | none => ([endTok l.length], (0, 0))
    | some c => match tokL l (skipL l a) c with
      | .inr e => ([], (e, skipL l a))
      | .inl (t, b) => if (cutF l f b).2.1 = 0 then (t :: (cutF l f b).1, (0, 0)) else ([], (cutF l f b).2)
end Go.Proofs.YtfmcgdglalljgaaGreatDoor

namespace Go.Proofs.YtfmcgdglalljgaaGreatDoor
open Go.RowKit

theorem strF_at (l : List UInt8) : ∀ (f a : Nat) (m : List UInt8) (e : Nat), strF l f a = some (m, e) → a ≤ e ∧ e < l.length
  | 0, a, m, e, h => by simp [strF] at h
  | f + 1, a, m, e, h => by
    simp only [strF] at h
    cases hc : l[a]? with
    | none => rw [hc] at h; simp at h
    | some c =>
      rw [hc] at h
      have hlt := (List.getElem?_eq_some_iff.1 hc).1
      dsimp only at h
      by_cases h34 : c = 34
      · rw [if_pos h34] at h; simp at h; omega
      · rw [if_neg h34] at h
        by_cases hu : (signL (l.drop a)).2 = 0
        · rw [if_pos hu] at h; simp at h
        · rw [if_neg hu] at h
          cases hr : strF l f (a + (signL (l.drop a)).2) with
          | none => rw [hr] at h; simp at h
          | some r =>
            obtain ⟨m', e'⟩ := r
            rw [hr] at h
            have := strF_at l f _ m' e' hr
            simp at h
            omega
theorem tok_at {l : List UInt8} {a : Nat} {c : UInt8} {t : Tok} {b : Nat} (hc : l[a]? = some c) (h : tokL l a c = .inl (t, b)) :
    t.place = a ∧ a < b ∧ b ≤ l.length ∧ 1 ≤ t.kind ∧ t.kind ≤ 10 := by
  have hlt := (List.getElem?_eq_some_iff.1 hc).1
  unfold tokL at h
  by_cases hl : isLetterB c.toNat = true
  · rw [if_pos hl] at h
    have hin : isInnerB c.toNat = true := by unfold isInnerB; rw [hl]; rfl
    have h1 := behind_yes (p := fun b => isInnerB b.toNat) hc hin
    have h2 := behind_le (p := fun b => isInnerB b.toNat) (l := l) (a := a + 1) (by omega)
    split at h
    · simp only [Sum.inl.injEq, Prod.mk.injEq] at h
      obtain ⟨rfl, rfl⟩ := h
      exact ⟨rfl, by omega, by omega, by simp, by simp⟩
    · simp at h
  · rw [if_neg hl] at h
    by_cases hd : (isDigitB c.toNat || c == 45) = true
    · rw [if_pos hd] at h
      generalize hg : (if c = 45 then a + 1 else a) = k at h
      generalize (if c = 45 then (-1 : Int) else 1) = sg at h
      split at h
      · rename_i hok
        simp only [Sum.inl.injEq, Prod.mk.injEq] at h
        obtain ⟨rfl, rfl⟩ := h
        refine ⟨rfl, ?_, ?_, by simp, by simp⟩
        · by_cases h45 : c = 45
          · rw [if_pos h45] at hg; subst hg
            have h2 := behind_le (p := fun b => isDigitB b.toNat) (l := l) (a := a + 1) (by omega)
            omega
          · rw [if_neg h45] at hg; subst hg
            have hd' : isDigitB c.toNat = true := by simpa [h45] using hd
            have h1 := behind_yes (p := fun b => isDigitB b.toNat) hc hd'
            have h2 := behind_le (p := fun b => isDigitB b.toNat) (l := l) (a := a + 1) (by omega)
            omega
        · exact (behind_le (p := fun b => isDigitB b.toNat) (l := l) (by rw [← hg]; split <;> omega)).2
      · simp at h
    · rw [if_neg hd] at h
      by_cases h34 : c = 34
      · rw [if_pos h34] at h
        split at h
        · simp at h
        · rename_i m e he
          have := strF_at l _ _ m e he
          split at h
          · simp only [Sum.inl.injEq, Prod.mk.injEq] at h
            obtain ⟨rfl, rfl⟩ := h
            exact ⟨rfl, by omega, by omega, by simp, by simp⟩
          · simp at h
      · rw [if_neg h34] at h
        split at h
        · simp at h
        · rename_i hk
          simp only [Sum.inl.injEq, Prod.mk.injEq] at h
          obtain ⟨rfl, rfl⟩ := h
          refine ⟨rfl, by omega, by omega, by show 1 ≤ signKind c; omega, ?_⟩
          show signKind c ≤ 10
          unfold signKind
          repeat (first | omega | split)
theorem tok_bad {l : List UInt8} {a : Nat} {c : UInt8} {e : Int} (h : tokL l a c = .inr e) : e ≠ 0 := by
  unfold tokL at h
  by_cases hl : isLetterB c.toNat = true
  · rw [if_pos hl] at h
    split at h
    · cases h
    · cases h; decide
  · rw [if_neg hl] at h
    by_cases hd : (isDigitB c.toNat || c == 45) = true
    · rw [if_pos hd] at h
      generalize (if c = 45 then a + 1 else a) = k at h
      generalize (if c = 45 then (-1 : Int) else 1) = sg at h
      split at h
      · cases h
      · cases h; decide
    · rw [if_neg hd] at h
      by_cases h34 : c = 34
      · rw [if_pos h34] at h
        split at h
        · cases h; decide
        · split at h
          · cases h
          · cases h; decide
      · rw [if_neg h34] at h
        split at h
        · cases h; decide
        · cases h
/-- What was cut so far, and the rest. -/
def comb (acc : List Tok) (r : List Tok × (Int × Nat)) : List Tok × (Int × Nat) := if r.2.1 = 0 then (acc ++ r.1, (0, 0)) else ([], r.2)
def cutL (l : List UInt8) : List Tok × (Int × Nat) := cutF l (l.length + 1) 0
theorem cutF_ok (l : List UInt8) (f a : Nat) : ∀ r, cutF l f a = r → r.2.1 = 0 → r.2 = (0, 0) := by
  intro r hr h0
  subst hr
  cases f with
  | zero => rfl
  | succ f =>
    revert h0
    simp only [cutF]
    split
    · intro _; rfl
    · split
      · intro h0
        rename_i e he
        exact absurd h0 (tok_bad he)
      · split
        · intro _; rfl
        · intro h0; rename_i hne; exact absurd h0 hne
theorem comb_nil (l : List UInt8) (f a : Nat) : comb [] (cutF l f a) = cutF l f a := by
  unfold comb
  split
  · rename_i h
    have := cutF_ok l f a _ rfl h
    rw [List.nil_append, ← this]
  · rename_i h
    cases hr : cutF l f a with
    | mk x y =>
      rw [hr] at h
      have : x = [] := by
        cases f with
        | zero => simp [cutF] at hr; exact hr.1
        | succ f =>
          simp only [cutF] at hr
          split at hr
          · simp at hr; obtain ⟨_, rfl⟩ := hr; exact absurd rfl h
          · split at hr
            · simp at hr; exact hr.1
            · split at hr
              · simp at hr; obtain ⟨_, rfl⟩ := hr; exact absurd rfl h
              · simp at hr; exact hr.1
      subst this; rfl
theorem comb_step {l : List UInt8} {f a b : Nat} {acc : List Tok} {c : UInt8} {t : Tok} (hc : l[skipL l a]? = some c) (ht : tokL l (skipL l a) c = .inl (t, b)) :
    comb acc (cutF l (f + 1) a) = comb (acc ++ [t]) (cutF l f b) := by
  simp only [cutF, hc, ht]
  unfold comb
  by_cases h : (cutF l f b).2.1 = 0
  · simp [h]
  · simp [h]
theorem comb_bad {l : List UInt8} {f a : Nat} {acc : List Tok} {c : UInt8} {e : Int} (hc : l[skipL l a]? = some c) (ht : tokL l (skipL l a) c = .inr e) (he : e ≠ 0) :
    comb acc (cutF l (f + 1) a) = ([], (e, skipL l a)) := by
  simp only [cutF, hc, ht]
  unfold comb
  simp [he]
theorem comb_end {l : List UInt8} {f a : Nat} {acc : List Tok} (hc : l.length ≤ skipL l a) :
    comb acc (cutF l (f + 1) a) = (acc ++ [endTok l.length], (0, 0)) := by
  simp only [cutF, List.getElem?_eq_none hc]
  simp [comb]
end Go.Proofs.YtfmcgdglalljgaaGreatDoor
