/-
  The words of the proofs: what bytes, words, strings, IDs, Attrs and resources may be, and how they are ordered, as functions of data; and the relation 'Ext' between two worlds: all that was there is there, as it was.
-/
/-
  How lists of IDs, Attrs and resources lie in memory; plain facts on lists that rise.
-/
/-
  Memory of our own: which blocks a part of the program may have turned; copy, and stores of four cells and of two into a row.
-/
/-
  Rows in the order of their keys: plain facts, for keys and rows of any kind.
-/
import Derived.Test.YtpkhmgonkbpjjaaRows
import Derived.WalkKit
import Derived.WalkSpells
import Derived.WalkLawsBesides
import Derived.Lib.ConvBytes
import Derived.Lib.Bytealg
import Derived.Laws.CopyRow
import Derived.Laws.MakeOwn
namespace Go.Proofs.Ytpkhmgonkbpjjaa
open Go.RowKit

/-- All that was there is there, as it was. -/
def Ext (w w' : World) : Prop := Below w.heap.size w w'
theorem Ext.refl (w : World) : Ext w w := Below.refl _ _
theorem Ext.size {w w' : World} (h : Ext w w') : w.heap.size ≤ w'.heap.size := Below.size h
theorem Ext.trans {a b c : World} (h : Ext a b) (k : Ext b c) : Ext a c := Below.trans h (Below.mono k h.size)
theorem Ext.cell {w w' : World} (h : Ext w w') {p : Addr} (hp : p.block < w.heap.size) : w'.cell? p = w.cell? p := Below.cell h hp
theorem Ext.cells {w w' : World} (h : Ext w w') {p : Addr} {v : Value} (hv : w.cell? p = some v) : w'.cell? p = some v := by
  rw [h.cell (World.block_lt_of_cell? w p hv)]; exact hv
theorem Ext.alloc {a w : World} (h : Ext a w) (o : Obj) : Ext a (w.alloc o) := Below.alloc h (Ext.size h) o
theorem Ext.drew {a w : World} (h : Ext a w) : Ext a w.drew := Below.drew h
theorem Ext.drewN {a w : World} (h : Ext a w) (n : Nat) : Ext a (w.drewN n) := h.trans ⟨rfl, rfl, rfl, Nat.le_refl _, fun _ _ => rfl⟩
theorem Ext.setCell {a w : World} (h : Ext a w) {p : Addr} (hp : a.heap.size ≤ p.block) (u : Value) : Ext a (w.setCell p u) := Below.setCell h hp u
theorem Ext.bytes (w : World) (e : TypeId) (s : ByteArray) : Ext w (Lib.bytesWorld w e s) :=
  ⟨rfl, rfl, rfl, by rw [Lib.bytesWorld_size]; omega, fun k hk => Lib.bytesWorld_at_old w e s k hk⟩

theorem retB {b c : Bool} (h : b = c) : Ending.returned (.bool b) = .returned (.bool c) := by rw [h]
theorem retS {b c : ByteArray} (h : b = c) : Ending.returned (.string b) = .returned (.string c) := by rw [h]
theorem hide {p : Prop} (h : p) : Hid p := h
theorem unhide {p : Prop} (h : Hid p) : p := h

def isLetterB (c : Int) : Bool := decide (97 ≤ c ∧ c ≤ 122) || decide (65 ≤ c ∧ c ≤ 90)
def isDigitB (c : Int) : Bool := decide (48 ≤ c ∧ c ≤ 57)
def isInnerB (c : Int) : Bool := isLetterB c || isDigitB c || c == 95 || c == 45
/-- A word. -/
def wordB : List UInt8 → Bool
  | [] => false
  | c :: l => decide (l.length + 1 ≤ 12) && (isLetterB c.toNat && (c :: l).all fun x => isInnerB x.toNat)
theorem wordB_long {l : List UInt8} (h : 12 < l.length) : wordB l = false := by
  cases l with
  | nil => rfl
  | cons c l => simp only [List.length_cons] at h; simp [wordB]; omega

/-- An ID, an Attr, a resource. -/
structure IDd where
  kind : ByteArray
  name : ByteArray
structure Attrd where
  name : ByteArray
  isText : Bool
  text : ByteArray
  number : Int
structure Resd where
  id : IDd
  attrs : List Attrd
  after : List IDd

/-- The order of texts. -/
def cmpS (a b : ByteArray) : Int := Lib.compareBytes a.data.toList b.data.toList
/-- The order of IDs. -/
def cmpI (a b : IDd) : Int := if cmpS a.kind b.kind = 0 then cmpS a.name b.name else cmpS a.kind b.kind
end Go.Proofs.Ytpkhmgonkbpjjaa

namespace Go.Proofs.Ytpkhmgonkbpjjaa
open Go.RowKit

def okI (x : IDd) : Prop := x.kind.size ≤ 140737488355328 ∧ x.name.size ≤ 140737488355328
def okA (x : Attrd) : Prop := x.name.size ≤ 140737488355328 ∧ x.text.size ≤ 140737488355328 ∧ -9223372036854775808 ≤ x.number ∧ x.number ≤ 9223372036854775807

/-- IDs lie in a block, from a place on. -/
def IDsIn (w : World) (b off : Nat) (l : List IDd) : Prop :=
  ∀ i x, l[i]? = some x → w.cell? ⟨b, off + i * 2, none⟩ = some (.string x.kind) ∧ w.cell? ⟨b, off + i * 2 + 1, none⟩ = some (.string x.name)
def AttrsIn (w : World) (b off : Nat) (l : List Attrd) : Prop :=
  ∀ i x, l[i]? = some x → w.cell? ⟨b, off + i * 4, none⟩ = some (.string x.name) ∧ w.cell? ⟨b, off + i * 4 + 1, none⟩ = some (.bool x.isText) ∧ w.cell? ⟨b, off + i * 4 + 2, none⟩ = some (.string x.text) ∧ w.cell? ⟨b, off + i * 4 + 3, none⟩ = some (.int .i64 x.number)

/-- A slice leads to a list of IDs. -/
structure IDsV (w : World) (v : Value) (l : List IDd) : Prop where
  shape : ∃ a cap, v = .slice a l.length cap ∧ l.length ≤ cap ∧ cap ≤ 9223372036854775807 ∧ (l = [] ∨ ∃ b off, a = some ⟨b, off, none⟩ ∧ IDsIn w b off l)
  few : l.length ≤ 4398046511200
  ok : ∀ x ∈ l, okI x
structure AttrsV (w : World) (v : Value) (l : List Attrd) : Prop where
  shape : ∃ a cap, v = .slice a l.length cap ∧ l.length ≤ cap ∧ cap ≤ 9223372036854775807 ∧ (l = [] ∨ ∃ b off, a = some ⟨b, off, none⟩ ∧ AttrsIn w b off l)
  few : l.length ≤ 4398046511200
  ok : ∀ x ∈ l, okA x

theorem IDsIn.ext {w w' : World} {b off : Nat} {l : List IDd} (h : IDsIn w b off l) (e : Ext w w') : IDsIn w' b off l :=
  fun i x hx => ⟨e.cells (h i x hx).1, e.cells (h i x hx).2⟩
theorem AttrsIn.ext {w w' : World} {b off : Nat} {l : List Attrd} (h : AttrsIn w b off l) (e : Ext w w') : AttrsIn w' b off l :=
  fun i x hx => ⟨e.cells (h i x hx).1, e.cells (h i x hx).2.1, e.cells (h i x hx).2.2.1, e.cells (h i x hx).2.2.2⟩
theorem IDsV.ext {w w' : World} {v : Value} {l : List IDd} (h : IDsV w v l) (e : Ext w w') : IDsV w' v l := by
  obtain ⟨⟨a, cap, hv, hc, hm, hs⟩, h2, h3⟩ := h
  refine ⟨⟨a, cap, hv, hc, hm, ?_⟩, h2, h3⟩
  rcases hs with hs | ⟨b, off, ha, hi⟩
  · exact .inl hs
  · exact .inr ⟨b, off, ha, hi.ext e⟩
theorem AttrsV.ext {w w' : World} {v : Value} {l : List Attrd} (h : AttrsV w v l) (e : Ext w w') : AttrsV w' v l := by
  obtain ⟨⟨a, cap, hv, hc, hm, hs⟩, h2, h3⟩ := h
  refine ⟨⟨a, cap, hv, hc, hm, ?_⟩, h2, h3⟩
  rcases hs with hs | ⟨b, off, ha, hi⟩
  · exact .inl hs
  · exact .inr ⟨b, off, ha, hi.ext e⟩

/-- A resource's four cells. -/
structure ResV (w : World) (c2 c3 : Value) (x : Resd) : Prop where
  id : okI x.id
  attrs : AttrsV w c2 x.attrs
  after : IDsV w c3 x.after
theorem ResV.ext {w w' : World} {c2 c3 : Value} {x : Resd} (h : ResV w c2 c3 x) (e : Ext w w') : ResV w' c2 c3 x := ⟨h.id, h.attrs.ext e, h.after.ext e⟩
def RessIn (w : World) (b off : Nat) (l : List Resd) : Prop :=
  ∀ i x, l[i]? = some x → w.cell? ⟨b, off + i * 4, none⟩ = some (.string x.id.kind) ∧ w.cell? ⟨b, off + i * 4 + 1, none⟩ = some (.string x.id.name) ∧
    ∃ c2 c3, w.cell? ⟨b, off + i * 4 + 2, none⟩ = some c2 ∧ w.cell? ⟨b, off + i * 4 + 3, none⟩ = some c3 ∧ ResV w c2 c3 x
structure RessV (w : World) (v : Value) (l : List Resd) : Prop where
  shape : ∃ a cap, v = .slice a l.length cap ∧ l.length ≤ cap ∧ cap ≤ 9223372036854775807 ∧ (l = [] ∨ ∃ b off, a = some ⟨b, off, none⟩ ∧ RessIn w b off l)
  few : l.length ≤ 4398046511200
theorem RessIn.ext {w w' : World} {b off : Nat} {l : List Resd} (h : RessIn w b off l) (e : Ext w w') : RessIn w' b off l := by
  intro i x hx
  obtain ⟨h0, h1, c2, c3, h2, h3, h4⟩ := h i x hx
  exact ⟨e.cells h0, e.cells h1, c2, c3, e.cells h2, e.cells h3, h4.ext e⟩
theorem RessV.ext {w w' : World} {v : Value} {l : List Resd} (h : RessV w v l) (e : Ext w w') : RessV w' v l := by
  obtain ⟨⟨a, cap, hv, hc, hm, hs⟩, h2⟩ := h
  refine ⟨⟨a, cap, hv, hc, hm, ?_⟩, h2⟩
  rcases hs with hs | ⟨b, off, ha, hi⟩
  · exact .inl hs
  · exact .inr ⟨b, off, ha, hi.ext e⟩

/-! Plain facts -/
theorem some_of_lt {α : Type} {l : List α} {k : Nat} (h : k < l.length) : ∃ x, l[k]? = some x := ⟨l[k], List.getElem?_eq_getElem h⟩
end Go.Proofs.Ytpkhmgonkbpjjaa

namespace Go.Proofs.Ytpkhmgonkbpjjaa
open Go.RowKit

/-- Of the blocks that were there those alone may have turned of which D speaks. -/
structure Kept (D : Nat → Prop) (w w' : World) : Prop where
  os : w'.os = w.os
  tape : w'.tape = w.tape
  output : w'.output = w.output
  size : w.heap.size ≤ w'.heap.size
  block : ∀ k, k < w.heap.size → ¬ D k → w'.heap[k]? = w.heap[k]?
theorem Kept.refl (D : Nat → Prop) (w : World) : Kept D w w := ⟨rfl, rfl, rfl, Nat.le_refl _, fun _ _ _ => rfl⟩
theorem Kept.mono {D D' : Nat → Prop} {w w' : World} (h : Kept D w w') (hd : ∀ k, k < w.heap.size → D k → D' k) : Kept D' w w' :=
  ⟨h.os, h.tape, h.output, h.size, fun k hk hn => h.block k hk fun hD => hn (hd k hk hD)⟩
theorem Kept.trans {D D' : Nat → Prop} {a b c : World} (h : Kept D a b) (g : Kept D' b c) (hd : ∀ k, k < a.heap.size → D' k → D k) : Kept D a c :=
  ⟨g.os.trans h.os, g.tape.trans h.tape, g.output.trans h.output, Nat.le_trans h.size g.size, fun k hk hn => (g.block k (Nat.lt_of_lt_of_le hk h.size) fun hD => hn (hd k hk hD)).trans (h.block k hk hn)⟩
theorem Ext.kept {w w' : World} (h : Ext w w') (D : Nat → Prop) : Kept D w w' := ⟨Below.os h, Below.tape h, Below.output h, Ext.size h, fun k hk _ => Below.block h k hk⟩
theorem Kept.ext {D : Nat → Prop} {w w' : World} (h : Kept D w w') (hd : ∀ k, k < w.heap.size → ¬ D k) : Ext w w' := ⟨h.os, h.tape, h.output, h.size, fun k hk => h.block k hk (hd k hk)⟩
/-- What was there in w0 is as it was, if only what was made since has turned. -/
theorem Ext.since {D : Nat → Prop} {w0 w w' : World} (h : Ext w0 w) (k : Kept D w w') (hd : ∀ j, D j → w0.heap.size ≤ j) : Ext w0 w' :=
  ⟨k.os.trans (Below.os h), k.tape.trans (Below.tape h), k.output.trans (Below.output h), Nat.le_trans (Ext.size h) k.size, fun j hj => (k.block j (Nat.lt_of_lt_of_le hj (Ext.size h)) fun hD => by have := hd j hD; omega).trans (Below.block h j hj)⟩
theorem Kept.cell {D : Nat → Prop} {w w' : World} (h : Kept D w w') {p : Addr} {v : Value} (hv : w.cell? p = some v) (hn : ¬ D p.block) : w'.cell? p = some v := by
  rw [World.cell?_of_block (h.block _ (World.block_lt_of_cell? w p hv) hn)]; exact hv
theorem Kept.heap {D : Nat → Prop} {w w' : World} (h : Kept D w w') {k : Nat} {o : Obj} (hv : w.heap[k]? = some o) (hn : ¬ D k) : w'.heap[k]? = some o := by
  rw [h.block _ (Array.getElem?_eq_some_iff.1 hv).1 hn]; exact hv
theorem ext_heap {w w' : World} {k : Nat} {o : Obj} (h : Ext w w') (hk : w.heap[k]? = some o) : w'.heap[k]? = some o := by
  rw [Below.block h _ (Array.getElem?_eq_some_iff.1 hk).1]; exact hk
theorem kept_setCell (w : World) (p : Addr) (v : Value) : Kept (· = p.block) w (w.setCell p v) :=
  ⟨rfl, rfl, rfl, by simp [World.setCell], fun k _ hk => Below.heap_setCell _ _ _ _ hk⟩
theorem kept_setRow (w : World) (g : Nat) (cs : Array Value) : Kept (· = g) w (w.setRow g cs) :=
  ⟨rfl, rfl, rfl, by simp [World.setRow], fun k _ hk => setRow_other w g k cs hk⟩

/-! copy of elements of some cells -/
end Go.Proofs.Ytpkhmgonkbpjjaa

namespace Go.Proofs.Ytpkhmgonkbpjjaa
open Go.RowKit

/-- An order of keys. -/
structure OrdK {κ : Type} (cmp : κ → κ → Int) : Prop where
  zero : ∀ {a b : κ}, cmp a b = 0 ↔ a = b
  flip : ∀ a b : κ, cmp a b = - cmp b a
  trans : ∀ {a b c : κ}, cmp a b < 0 → cmp b c < 0 → cmp a c < 0
section
variable {κ ρ : Type} {cmp : κ → κ → Int} {key : ρ → κ}
/-- Keys rise. -/
def UpG (cmp : κ → κ → Int) (key : ρ → κ) (rs : List ρ) : Prop := rs.Pairwise fun a b => cmp (key a) (key b) < 0
theorem UpG.at {rs : List ρ} (h : UpG cmp key rs) {i j : Nat} {x y : ρ} (hi : rs[i]? = some x) (hj : rs[j]? = some y) (hij : i < j) : cmp (key x) (key y) < 0 := by
  obtain ⟨h1, rfl⟩ := List.getElem?_eq_some_iff.1 hi
  obtain ⟨h2, rfl⟩ := List.getElem?_eq_some_iff.1 hj
  exact List.pairwise_iff_getElem.1 h i j h1 h2 hij
/-- The place where a key stands, or would stand. -/
structure StandsG (cmp : κ → κ → Int) (key : ρ → κ) (rs : List ρ) (a : κ) (i : Nat) : Prop where
  le : i ≤ rs.length
  ahead : ∀ (k : Nat) x, k < i → rs[k]? = some x → cmp (key x) a < 0
  behind : ∀ (k : Nat) x, i ≤ k → rs[k]? = some x → ¬ cmp (key x) a < 0
/-- A key is there. -/
def HasK (key : ρ → κ) (rs : List ρ) (a : κ) : Prop := ∃ x ∈ rs, key x = a
theorem StandsG.there {rs : List ρ} {a : κ} {i : Nat} {x : ρ} (ho : OrdK cmp) (hx : rs[i]? = some x) (h0 : cmp (key x) a = 0) : HasK key rs a := ⟨x, List.mem_of_getElem? hx, ho.zero.1 h0⟩
theorem StandsG.gone {rs : List ρ} {a : κ} {i : Nat} (ho : OrdK cmp) (h : StandsG cmp key rs a i) (hu : UpG cmp key rs) (hn : ∀ x, rs[i]? = some x → cmp (key x) a ≠ 0) : ¬ HasK key rs a := by
  rintro ⟨y, hm, rfl⟩
  obtain ⟨k, hk⟩ := List.mem_iff_getElem?.1 hm
  have h0 : cmp (key y) (key y) = 0 := ho.zero.2 rfl
  by_cases hki : k < i
  · have := h.ahead k y hki hk; omega
  · by_cases e : k = i
    · subst e; exact hn y hk h0
    · have hlt : i < rs.length := by have := (List.getElem?_eq_some_iff.1 hk).1; omega
      have := hu.at (List.getElem?_eq_getElem hlt) hk (by omega)
      exact h.behind i _ (Nat.le_refl _) (List.getElem?_eq_getElem hlt) this
theorem UpG.stands {rs : List ρ} {a : κ} {k : Nat} {x : ρ} (ho : OrdK cmp) (hu : UpG cmp key rs) (hx : rs[k]? = some x) (h : cmp (key x) a < 0) : ∀ (j : Nat) y, j < k + 1 → rs[j]? = some y → cmp (key y) a < 0 := fun j y hj hy => by
  by_cases e : j = k
  · subst e; rw [hx] at hy; cases hy; exact h
  · exact ho.trans (hu.at hy hx (by omega)) h
theorem UpG.stands' {rs : List ρ} {a : κ} {k : Nat} {x : ρ} (ho : OrdK cmp) (hu : UpG cmp key rs) (hx : rs[k]? = some x) (h : ¬ cmp (key x) a < 0) : ∀ (j : Nat) y, k ≤ j → rs[j]? = some y → 0 ≤ cmp (key y) a := fun j y hj hy => Int.not_lt.1 fun hn => by
  by_cases e : j = k
  · subst e; rw [hx] at hy; cases hy; exact h hn
  · exact h (ho.trans (hu.at hx hy (by omega)) hn)
/-- A row put into its place. -/
def insG (rs : List ρ) (i : Nat) (x : ρ) : List ρ := rs.take i ++ x :: rs.drop i
theorem insG_len {rs : List ρ} {i : Nat} {a : ρ} (h : i ≤ rs.length) : (insG rs i a).length = rs.length + 1 := by
  simp [insG]; omega
theorem UpG.insert {rs : List ρ} {x : ρ} {i : Nat} (ho : OrdK cmp) (hu : UpG cmp key rs) (h : StandsG cmp key rs (key x) i) (hn : ¬ HasK key rs (key x)) : UpG cmp key (insG rs i x) := by
  have hA : ∀ y ∈ rs.take i, cmp (key y) (key x) < 0 := fun y hy => by
    obtain ⟨k, hk⟩ := List.mem_iff_getElem?.1 hy
    rw [List.getElem?_take] at hk
    split at hk
    · rename_i hki; exact h.ahead k y hki hk
    · cases hk
  have hB : ∀ y ∈ rs.drop i, cmp (key x) (key y) < 0 := fun y hy => by
    obtain ⟨k, hk⟩ := List.mem_iff_getElem?.1 hy
    rw [List.getElem?_drop] at hk
    have h1 := h.behind (i + k) y (by omega) hk
    have h2 : cmp (key y) (key x) ≠ 0 := fun e => hn ⟨y, List.mem_of_getElem? hk, ho.zero.1 e⟩
    rw [ho.flip]; omega
  refine List.pairwise_append.2 ⟨List.Pairwise.sublist (List.take_sublist _ _) hu, List.pairwise_cons.2 ⟨hB, List.Pairwise.sublist (List.drop_sublist _ _) hu⟩, fun y hy z hz => ?_⟩
  rcases List.mem_cons.1 hz with rfl | hz
  · exact hA y hy
  · exact ho.trans (hA y hy) (hB z hz)
/-- No two rows have the same key. -/
theorem UpG.one {rs : List ρ} (ho : OrdK cmp) (hu : UpG cmp key rs) {i j : Nat} {x y : ρ} (hi : rs[i]? = some x) (hj : rs[j]? = some y) (he : key x = key y) : i = j := by
  rcases Nat.lt_trichotomy i j with h | h | h
  · have := hu.at hi hj h; rw [he, ho.zero.2 rfl] at this; omega
  · exact h
  · have := hu.at hj hi h; rw [he, ho.zero.2 rfl] at this; omega
end
/-- The cells of rows. -/
def cellsG {ρ : Type} (c : ρ → List Value) (rs : List ρ) : List Value := rs.flatMap c
theorem cellsG_len {ρ : Type} {c : ρ → List Value} {n : Nat} (hc : ∀ x, (c x).length = n) : ∀ rs : List ρ, (cellsG c rs).length = rs.length * n
  | [] => by simp [cellsG]
  | x :: rs => by
    have := cellsG_len hc rs
    simp only [cellsG, List.flatMap_cons, List.length_append, List.length_cons] at this ⊢
    rw [this, hc, Nat.succ_mul]; omega
theorem cellsG_take {ρ : Type} {c : ρ → List Value} {n : Nat} (hc : ∀ x, (c x).length = n) : ∀ (rs : List ρ) (i : Nat), (cellsG c rs).take (i * n) = cellsG c (rs.take i)
  | [], i => by simp [cellsG]
  | _ :: _, 0 => by simp [cellsG]
  | x :: rs, i + 1 => by
    have := cellsG_take hc rs i
    simp only [cellsG, List.flatMap_cons, List.take_succ_cons] at this ⊢
    rw [show (i + 1) * n = (c x).length + i * n by rw [hc, Nat.succ_mul]; omega, List.take_append, List.take_of_length_le (by omega), show (c x).length + i * n - (c x).length = i * n by omega, this]
theorem cellsG_drop {ρ : Type} {c : ρ → List Value} {n : Nat} (hc : ∀ x, (c x).length = n) : ∀ (rs : List ρ) (i : Nat), (cellsG c rs).drop (i * n) = cellsG c (rs.drop i)
  | [], i => by simp [cellsG]
  | _ :: _, 0 => by simp [cellsG]
  | x :: rs, i + 1 => by
    have := cellsG_drop hc rs i
    simp only [cellsG, List.flatMap_cons, List.drop_succ_cons] at this ⊢
    rw [show (i + 1) * n = (c x).length + i * n by rw [hc, Nat.succ_mul]; omega, List.drop_append, List.drop_of_length_le (by omega), show (c x).length + i * n - (c x).length = i * n by omega, this]; simp
theorem cellsG_ins {ρ : Type} {c : ρ → List Value} {n : Nat} (hc : ∀ x, (c x).length = n) (rs : List ρ) (i : Nat) (x : ρ) : (cellsG c rs).take (i * n) ++ c x ++ (cellsG c rs).drop (i * n) = cellsG c (insG rs i x) := by
  rw [cellsG_take hc, cellsG_drop hc]; simp [cellsG, insG, List.flatMap_append]
end Go.Proofs.Ytpkhmgonkbpjjaa
