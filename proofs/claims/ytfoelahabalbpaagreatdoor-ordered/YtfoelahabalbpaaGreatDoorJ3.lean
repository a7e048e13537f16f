/-
  Memory of our own: which blocks a part of the program may have turned; copy, and stores of four cells and of two into a row.
-/
/-
  The marks: what the functions that make them answer.
-/
/-
  Plain facts on the order of texts: Go's '<' and '==' on strings against strings.Compare's number.
-/
/-
  Words, strings, the order of IDs: what each function answers.
-/
/-
  Who waits for itself: plain facts on lists of resources.
-/
/-
  The plain plan: what makes the one list of the other, with no memory.
-/
/-
  Where nothing waits for itself, who waits for whom comes to an end: a rank.
-/
/-
  Keys in their order, and what was met while one looks who waits for itself: plain facts.
-/
/-
  Who waits for one that fits: plain facts, for any test.
-/
/-
  A cell far from one that is set.
-/
import Derived.Test.YtfoelahabalbpaaGreatDoorJ1
import Derived.Laws.CopyRow
import Derived.Laws.MakeOwn
namespace Go.Proofs.YtfoelahabalbpaaGreatDoor
open Go.RowKit

/-- Of the blocks that were there those alone may have turned of which D speaks. -/
structure Kept (D : Nat → Prop) (w w' : World) : Prop where
  os : w'.os = w.os
  tape : w'.tape = w.tape
  output : w'.output = w.output
  size : w.heap.size ≤ w'.heap.size
  block : ∀ k, k < w.heap.size → ¬ D k → w'.heap[k]? = w.heap[k]?
theorem Kept.refl (D : Nat → Prop) (w : World) : Kept D w w := ⟨rfl, rfl, rfl, Nat.le_refl _, fun _ _ _ => rfl⟩
theorem Kept.mono {D D' : Nat → Prop} {w w' : World} (h : Kept D w w') (hd : ∀ k, k < w.heap.size → D k → D' k) : Kept D' w w' :=
  ⟨h.os, h.tape, h.output, h.size, fun k hk hn => h.block k hk fun hD => hn (hd k hk hD)⟩
theorem Kept.trans {D D' : Nat → Prop} {a b c : World} (h : Kept D a b) (g : Kept D' b c) (hd : ∀ k, k < a.heap.size → D' k → D k) : Kept D a c :=
  ⟨g.os.trans h.os, g.tape.trans h.tape, g.output.trans h.output, Nat.le_trans h.size g.size, fun k hk hn => (g.block k (Nat.lt_of_lt_of_le hk h.size) fun hD => hn (hd k hk hD)).trans (h.block k hk hn)⟩
theorem Ext.kept {w w' : World} (h : Ext w w') (D : Nat → Prop) : Kept D w w' := ⟨Below.os h, Below.tape h, Below.output h, Ext.size h, fun k hk _ => Below.block h k hk⟩
theorem Kept.ext {D : Nat → Prop} {w w' : World} (h : Kept D w w') (hd : ∀ k, k < w.heap.size → ¬ D k) : Ext w w' := ⟨h.os, h.tape, h.output, h.size, fun k hk => h.block k hk (hd k hk)⟩
/-- What was there in w0 is as it was, if only what was made since has turned. -/
theorem Ext.since {D : Nat → Prop} {w0 w w' : World} (h : Ext w0 w) (k : Kept D w w') (hd : ∀ j, D j → w0.heap.size ≤ j) : Ext w0 w' :=
  ⟨k.os.trans (Below.os h), k.tape.trans (Below.tape h), k.output.trans (Below.output h), Nat.le_trans (Ext.size h) k.size, fun j hj => (k.block j (Nat.lt_of_lt_of_le hj (Ext.size h)) fun hD => by have := hd j hD; omega).trans (Below.block h j hj)⟩
theorem Kept.cell {D : Nat → Prop} {w w' : World} (h : Kept D w w') {p : Addr} {v : Value} (hv : w.cell? p = some v) (hn : ¬ D p.block) : w'.cell? p = some v := by
  rw [World.cell?_of_block (h.block _ (World.block_lt_of_cell? w p hv) hn)]; exact hv
theorem Kept.heap {D : Nat → Prop} {w w' : World} (h : Kept D w w') {k : Nat} {o : Obj} (hv : w.heap[k]? = some o) (hn : ¬ D k) : w'.heap[k]? = some o := by
  rw [h.block _ (Array.getElem?_eq_some_iff.1 hv).1 hn]; exact hv
theorem ext_heap {w w' : World} {k : Nat} {o : Obj} (h : Ext w w') (hk : w.heap[k]? = some o) : w'.heap[k]? = some o := by
  rw [Below.block h _ (Array.getElem?_eq_some_iff.1 hk).1]; exact hk
theorem kept_setCell (w : World) (p : Addr) (v : Value) : Kept (· = p.block) w (w.setCell p v) :=
  ⟨rfl, rfl, rfl, by simp [World.setCell], fun k _ hk => Below.heap_setCell _ _ _ _ hk⟩
theorem kept_setRow (w : World) (g : Nat) (cs : Array Value) : Kept (· = g) w (w.setRow g cs) :=
  ⟨rfl, rfl, rfl, by simp [World.setRow], fun k _ hk => setRow_other w g k cs hk⟩

/-! copy of elements of some cells -/
end Go.Proofs.YtfoelahabalbpaaGreatDoor

namespace Go.Proofs.YtfoelahabalbpaaGreatDoor
open Go.RowKit

/-- So many digits of a number, the last one first. -/
def digs : Nat → Int → List UInt8
  | 0, _ => []
  | n + 1, k => UInt8.ofNat (48 + k % 10).toNat :: digs n (k / 10)
def markL : List UInt8 := [109, 97, 114, 107]
/-- The k-th mark. -/
def textD (k : Int) : ByteArray := ⟨(markL ++ digs 8 k).toArray⟩

end Go.Proofs.YtfoelahabalbpaaGreatDoor

namespace Go.Proofs.YtfoelahabalbpaaGreatDoor
open Go.RowKit

theorem cmpB_self : ∀ a : List UInt8, Lib.compareBytes a a = 0
  | [] => rfl
  | a :: l => by simp [Lib.compareBytes, cmpB_self l]
theorem u8_lt_irrefl (a : UInt8) : ¬ a < a := by simp
theorem cmpB_lt : ∀ a b : List UInt8, Op.bytesLess a b = decide (Lib.compareBytes a b < 0)
  | [], [] => by simp [Op.bytesLess, Lib.compareBytes]
  | [], _ :: _ => by simp [Op.bytesLess, Lib.compareBytes]
  | _ :: _, [] => by simp [Op.bytesLess, Lib.compareBytes]
  | a :: x, b :: y => by
    have ih := cmpB_lt x y
    simp only [Op.bytesLess, Lib.compareBytes]
    by_cases h : a < b
    · simp [h]
    · by_cases h' : b < a
      · have : ¬ a = b := by rintro rfl; exact u8_lt_irrefl _ h'
        simp [h, h', this]
      · have : a = b := UInt8.le_antisymm (UInt8.not_lt.1 h') (UInt8.not_lt.1 h)
        subst this
        simp [h, ih]
theorem cmpB_eq : ∀ a b : List UInt8, (a == b) = decide (Lib.compareBytes a b = 0)
  | [], [] => by simp [Lib.compareBytes]
  | [], _ :: _ => by simp [Lib.compareBytes]
  | _ :: _, [] => by simp [Lib.compareBytes]
  | a :: x, b :: y => by
    have ih := cmpB_eq x y
    simp only [Lib.compareBytes, List.cons_beq_cons]
    by_cases h : a < b
    · have : ¬ a = b := by rintro rfl; exact u8_lt_irrefl _ h
      simp [h, this]
    · by_cases h' : b < a
      · have : ¬ a = b := by rintro rfl; exact u8_lt_irrefl _ h'
        simp [h, h', this]
      · have : a = b := UInt8.le_antisymm (UInt8.not_lt.1 h') (UInt8.not_lt.1 h)
        subst this
        simp [h, ih]
theorem lessS (a b : ByteArray) : Op.bytesLess a.toList b.toList = decide (cmpS a b < 0) := by rw [ByteArray.toList_eq, ByteArray.toList_eq]; exact cmpB_lt _ _
theorem eqS (a b : ByteArray) : (a.toList == b.toList) = decide (cmpS a b = 0) := by rw [ByteArray.toList_eq, ByteArray.toList_eq]; exact cmpB_eq _ _
theorem cmpS_zero {a b : ByteArray} : cmpS a b = 0 ↔ a = b := by
  have h := cmpB_eq a.data.toList b.data.toList
  constructor
  · intro hz
    unfold cmpS at hz
    rw [hz] at h
    have : a.data.toList = b.data.toList := by simpa using h
    cases a; cases b; simpa [Array.toList_inj] using this
  · rintro rfl; exact cmpB_self _
theorem lessI_eq (a b : IDd) : lessI a b = (Op.bytesLess a.kind.toList b.kind.toList || ((a.kind.toList == b.kind.toList) && Op.bytesLess a.name.toList b.name.toList)) := by
  rw [lessS, lessS, eqS]
  unfold lessI cmpI
  by_cases h : cmpS a.kind b.kind = 0
  · simp [h]
  · simp [h]
end Go.Proofs.YtfoelahabalbpaaGreatDoor

namespace Go.Proofs.YtfoelahabalbpaaGreatDoor
open Go.RowKit

theorem size_toList (s : ByteArray) : s.data.toList.length = s.size := Array.length_toList
theorem get_of_size {s : ByteArray} (h : 0 < s.size) : s.data.toList = s[0] :: s.data.toList.tail := by
  rcases s with ⟨⟨l⟩⟩
  cases l with
  | nil => simp [ByteArray.size] at h
  | cons a l => rfl
theorem wordB_of {s : ByteArray} (h : 0 < s.size) (h' : s.size ≤ 12) : wordB s.data.toList = (isLetterB (s[0].toNat : Int) && s.data.toList.all fun x => isInnerB x.toNat) := by
  have hl := size_toList s
  rw [get_of_size h] at hl ⊢
  simp only [List.length_cons] at hl
  simp only [wordB]
  rw [decide_eq_true (by omega), Bool.true_and]

set_option maxRecDepth 100000 in
set_option maxHeartbeats 400000 in
theorem isWord (s : ByteArray) (w : World) (hm : s.size ≤ 9223372036854775807) :
    Calls Tryz.prog 163 #[.string s] w fun e w' => e = .returned (.bool (wordB s.data.toList)) ∧ Ext w w' := by
  by_cases h0 : s.size = 0
  · have he : s.toList = [] := by rw [ByteArray.toList_eq]; exact List.eq_nil_of_length_eq_zero (by rw [size_toList]; exact h0)
    have H := hide (show wordB s.data.toList = false by rw [← ByteArray.toList_eq, he]; rfl)
    go_enter Tryz.func163, Tryz.ntmps163
    go_wp2
    go_ret
    exact ⟨retB (by rw [unhide H]), Ext.refl _⟩
  have h0 : 0 < s.size := by omega
  have he : ¬ s.toList = [] := by rw [ByteArray.toList_eq]; intro h; have := size_toList s; rw [h] at this; simp at this; omega
  have he' : s.toList.isEmpty = false := by simp [he]
  by_cases h12 : 12 < s.size
  · have H := hide (show wordB s.data.toList = false from wordB_long (by rw [size_toList]; exact h12))
    have h1 : (12:Int) < (s.size : Int) := by omega
    go_enter Tryz.func163, Tryz.ntmps163
    go_wp2
    go_ret
    exact ⟨retB (by rw [unhide H]), Ext.refl _⟩
  have h1 : decide ((12:Int) < (s.size : Int)) = false := by simp; omega
  have H := hide (wordB_of h0 (by omega))
  have hsz := size_toList s
  cases hl : isLetterB (s[0].toNat : Int)
  · go_enter Tryz.func163, Tryz.ntmps163
    go_wp2_with (go_at_call 115; refine (isLetter _ _).mono ?_; rintro e w' ⟨rfl, rfl⟩)
    go_ret
    exact ⟨retB (by rw [unhide H, hl]; rfl), Ext.refl _⟩
  · have hcv := fun (w : World) => Lib.run_convert_string_bytes (P := Tryz.prog) w 9 50 5 s Tryz.underlying9 Tryz.underlying50 Tryz.underlying5
    have Hz := hide hsz; clear hsz
    go_enter Tryz.func163, Tryz.ntmps163
    go_wp2_with (go_at_call 115; refine (isLetter _ _).mono ?_; rintro e w' ⟨rfl, rfl⟩)
    refine (everyWord _ 0 _ _ s.data.toList _ (unhide Hz) (by rw [unhide Hz]; omega) ?_).mono ?_
    · intro i hi
      rw [unhide Hz] at hi
      have := Lib.bytesWorld_cell w' 5 s i hi
      simpa using this
    rintro e w1 ⟨rfl, rfl⟩
    go_wp2
    go_ret
    exact ⟨retB (by rw [unhide H, hl]; simp), Ext.bytes _ _ _⟩

set_option maxRecDepth 100000 in
set_option maxHeartbeats 400000 in
theorem isString (s : ByteArray) (w : World) (hm : s.size ≤ 9223372036854775807) :
    Calls Tryz.prog 164 #[.string s] w fun e w' => e = .returned (.bool (stringB s.data.toList)) ∧ Ext w w' := by
  have Hz := hide (size_toList s)
  by_cases h12 : 20 < s.size
  · have H := hide (show stringB s.data.toList = false by simp only [stringB]; rw [unhide Hz]; simp; omega)
    have h1 : (20:Int) < (s.size : Int) := by omega
    go_enter Tryz.func164, Tryz.ntmps164
    go_wp2
    go_ret
    exact ⟨retB (by rw [unhide H]), Ext.refl _⟩
  have h1 : decide ((20:Int) < (s.size : Int)) = false := by simp; omega
  have H := hide (show stringB s.data.toList = s.data.toList.all fun x => isTextB x.toNat by simp only [stringB]; rw [unhide Hz]; simp; omega)
  have hcv := fun (w : World) => Lib.run_convert_string_bytes (P := Tryz.prog) w 9 50 5 s Tryz.underlying9 Tryz.underlying50 Tryz.underlying5
  go_enter Tryz.func164, Tryz.ntmps164
  go_wp2_with fail
  refine (everyText _ 0 _ _ s.data.toList _ (unhide Hz) (by rw [unhide Hz]; omega) ?_).mono ?_
  · intro i hi
    rw [unhide Hz] at hi
    have := Lib.bytesWorld_cell w 5 s i hi
    simpa using this
  rintro e w1 ⟨rfl, rfl⟩
  go_wp2
  go_ret
  exact ⟨retB (by rw [unhide H]; simp), Ext.bytes _ _ _⟩
end Go.Proofs.YtfoelahabalbpaaGreatDoor

namespace Go.Proofs.YtfoelahabalbpaaGreatDoor

/-- The place of the first resource with an ID. -/
def placeL (l : List Resd) (a : IDd) : Option Nat := l.findIdx? (fun x => decide (x.id.kind = a.kind ∧ x.id.name = a.name))
/-- The resource at k waits for the one at j. -/
def Edge (l : List Resd) (k j : Nat) : Prop := ∃ x a, l[k]? = some x ∧ a ∈ x.after ∧ placeL l a = some j
/-- From i one comes to j, by so many steps as it takes. -/
inductive Comes (l : List Resd) (i : Nat) : Nat → Prop
  | here : Comes l i i
  | step {k j : Nat} : Comes l i k → Edge l k j → Comes l i j
/-- The resource at i waits for itself. -/
def Circ (l : List Resd) (i : Nat) : Prop := ∃ k, Comes l i k ∧ Edge l k i

theorem place_lt {l : List Resd} {a : IDd} {j : Nat} (h : placeL l a = some j) : j < l.length := by
  unfold placeL at h
  exact (List.findIdx?_eq_some_iff_getElem.1 h).1
theorem place_id {l : List Resd} {a : IDd} {j : Nat} (h : placeL l a = some j) : ∃ x, l[j]? = some x ∧ x.id = a := by
  unfold placeL at h
  obtain ⟨h1, h2, _⟩ := List.findIdx?_eq_some_iff_getElem.1 h
  obtain ⟨h3, h4⟩ := of_decide_eq_true h2
  refine ⟨l[j], List.getElem?_eq_getElem h1, ?_⟩
  cases hx : l[j].id; cases a; simp_all
/-- What holds of i and goes over each step holds of all that one comes to. -/
theorem Comes.closed {l : List Resd} {i : Nat} {S : Nat → Prop} (h0 : S i) (hs : ∀ k j, S k → Edge l k j → S j) {j : Nat} (h : Comes l i j) : S j := by
  induction h with
  | here => exact h0
  | step _ e ih => exact hs _ _ ih e

/-- How many are marked. -/
def marks (r : List Bool) : Nat := r.countP (· == true)
theorem marks_le (r : List Bool) : marks r ≤ r.length := List.countP_le_length
/-- More marks than before, none lost. -/
def MoreM (r r' : List Bool) : Prop := r'.length = r.length ∧ ∀ k : Nat, r[k]? = some true → r'[k]? = some true
theorem MoreM.refl (r : List Bool) : MoreM r r := ⟨rfl, fun _ h => h⟩
theorem MoreM.trans {r r' r'' : List Bool} (h : MoreM r r') (h' : MoreM r' r'') : MoreM r r'' := ⟨h'.1.trans h.1, fun k hk => h'.2 k (h.2 k hk)⟩
theorem MoreM.set (r : List Bool) (j : Nat) : MoreM r (r.set j true) := by
  refine ⟨List.length_set .., fun k hk => ?_⟩
  have hlt := (List.getElem?_eq_some_iff.1 hk).1
  rw [List.getElem?_set]
  split
  · rename_i h; subst h; rw [if_pos hlt]
  · exact hk

theorem marks_cons (b : Bool) (r : List Bool) : marks (b :: r) = marks r + (if b = true then 1 else 0) := by
  simp [marks, List.countP_cons]
theorem MoreM.marks_le : ∀ {r r' : List Bool}, MoreM r r' → marks r ≤ marks r'
  | [], r', h => Nat.zero_le _
  | b :: r, [], h => by cases h.1
  | b :: r, b' :: r', h => by
    have h1 : MoreM r r' := ⟨by simpa using h.1, fun k hk => by simpa using h.2 (k + 1) (by simpa using hk)⟩
    have h2 : b = true → b' = true := fun hb => by simpa using h.2 0 (by simpa using hb)
    have := MoreM.marks_le h1
    rw [marks_cons, marks_cons]
    cases b <;> cases b' <;> simp_all <;> omega
theorem MoreM.same : ∀ {r r' : List Bool}, MoreM r r' → marks r' ≤ marks r → r' = r
  | [], r', h, _ => List.eq_nil_of_length_eq_zero h.1
  | b :: r, [], h, _ => by cases h.1
  | b :: r, b' :: r', h, hm => by
    have h1 : MoreM r r' := ⟨by simpa using h.1, fun k hk => by simpa using h.2 (k + 1) (by simpa using hk)⟩
    have h2 : b = true → b' = true := fun hb => by simpa using h.2 0 (by simpa using hb)
    have h3 := MoreM.marks_le h1
    rw [marks_cons, marks_cons] at hm
    have h4 : b' = b := by cases b <;> cases b' <;> simp_all <;> omega
    subst h4
    rw [MoreM.same h1 (by omega)]

/-- What is marked is closed, and the mark of i itself is seen. -/
def ClosedQ (l : List Resd) (i : Nat) (r : List Bool) (q : Bool) : Prop := ∀ k j, r[k]? = some true → Edge l k j → r[j]? = some true ∧ (j = i → q = true)
/-- Ahead of a round: what is marked one comes to; it is closed, or there are many marks. -/
structure Rounds (l : List Resd) (i n : Nat) (r : List Bool) (q : Bool) : Prop where
  len : r.length = l.length
  start : r[i]? = some true
  sound : ∀ k : Nat, r[k]? = some true → Comes l i k
  told : q = true → Circ l i
  grows : ClosedQ l i r q ∨ n + 1 ≤ marks r
theorem closed_comes {l : List Resd} {i : Nat} {r : List Bool} {q : Bool} (hs : r[i]? = some true) (hc : ClosedQ l i r q) {k : Nat} (h : Comes l i k) : r[k]? = some true :=
  h.closed (S := fun k => r[k]? = some true) hs fun k j hk he => (hc k j hk he).1
/-- A round: each step from what was marked ahead is taken. -/
theorem Rounds.step {l : List Resd} {i n : Nat} {r r' : List Bool} {q q' : Bool} (h : Rounds l i n r q) (hm : MoreM r r') (hs : ∀ k : Nat, r'[k]? = some true → Comes l i k) (ht : q' = true → Circ l i)
    (ha : ∀ k j : Nat, r[k]? = some true → Edge l k j → r'[j]? = some true ∧ (j = i → q' = true)) : Rounds l i (n + 1) r' q' := by
  have key : r' = r → ClosedQ l i r' q' := by rintro rfl; exact ha
  refine ⟨hm.1.trans h.len, hm.2 i h.start, hs, ht, ?_⟩
  rcases h.grows with hc | hn
  · refine .inl (key (hm.same (MoreM.marks_le ⟨hm.1.symm, fun k hk => closed_comes h.start hc (hs k hk)⟩)))
  · by_cases hmm : marks r' ≤ marks r
    · exact .inl (key (hm.same hmm))
    · exact .inr (by omega)
/-- Behind all rounds. -/
theorem Rounds.done {l : List Resd} {i : Nat} {r : List Bool} {q : Bool} (h : Rounds l i (l.length + 1) r q) : q = true ↔ Circ l i := by
  refine ⟨h.told, fun ⟨k, hk, he⟩ => ?_⟩
  have hc : ClosedQ l i r q := by
    rcases h.grows with hc | hn
    · exact hc
    · have := marks_le r; rw [h.len] at this; omega
  exact (hc k i (closed_comes h.start hc hk) he).2 rfl

/-- The same by IDs: who has the ID a waits for b. -/
def IdEdge (l : List Resd) (a b : IDd) : Prop := ∃ k y, placeL l a = some k ∧ l[k]? = some y ∧ b ∈ y.after
inductive IdComes (l : List Resd) (a : IDd) : IDd → Prop
  | here : IdComes l a a
  | step {b c : IDd} : IdComes l a b → IdEdge l b c → IdComes l a c
def IdCirc (l : List Resd) (a : IDd) : Prop := ∃ b, IdComes l a b ∧ IdEdge l b a
theorem IdComes.closed {l : List Resd} {a : IDd} {S : IDd → Prop} (h0 : S a) (hs : ∀ b c, S b → IdEdge l b c → S c) {b : IDd} (h : IdComes l a b) : S b := by
  induction h with
  | here => exact h0
  | step _ e ih => exact hs _ _ ih e
/-- No two have the same ID. -/
def Apart (l : List Resd) : Prop := ∀ (i j : Nat) x y, l[i]? = some x → l[j]? = some y → x.id = y.id → i = j
theorem place_self {l : List Resd} (hd : Apart l) {i : Nat} {x : Resd} (hx : l[i]? = some x) : placeL l x.id = some i := by
  obtain ⟨hi, hxi⟩ := List.getElem?_eq_some_iff.1 hx
  refine List.findIdx?_eq_some_iff_getElem.2 ⟨hi, by rw [hxi]; simp, fun j hj => ?_⟩
  simp only [decide_eq_true_eq, not_and]
  intro h1 h2
  have := hd j i l[j] x (List.getElem?_eq_getElem (by omega)) hx (by
    cases hl : l[j].id; cases hx2 : x.id; simp_all)
  omega
theorem circ_iff {l : List Resd} (hd : Apart l) {i : Nat} {x : Resd} (hx : l[i]? = some x) : IdCirc l x.id ↔ Circ l i := by
  constructor
  · rintro ⟨b, hb, k, y, h1, h2, h3⟩
    have key : ∀ c, IdComes l x.id c → ∀ k, placeL l c = some k → Comes l i k := by
      intro c hc
      induction hc with
      | here =>
        intro k hk
        obtain rfl : i = k := by simpa using (place_self hd hx).symm.trans hk
        exact .here
      | step _ e ih =>
        intro j hj
        obtain ⟨k, y, h1, h2, h3⟩ := e
        exact (ih k h1).step ⟨y, _, h2, h3, hj⟩
    exact ⟨k, key b hb k h1, y, x.id, h2, h3, place_self hd hx⟩
  · rintro ⟨k, hk, y, a, h1, h2, h3⟩
    have key : ∀ k, Comes l i k → ∀ y, l[k]? = some y → IdComes l x.id y.id := by
      intro k hk
      induction hk with
      | here =>
        intro y hy
        obtain rfl : x = y := by simpa using hx.symm.trans hy
        exact .here
      | step _ e ih =>
        intro z hz
        obtain ⟨y, a, h1, h2, h3⟩ := e
        obtain ⟨z', hz', rfl⟩ := place_id h3
        obtain rfl : z = z' := by simpa using hz.symm.trans hz'
        exact (ih y h1).step ⟨_, y, place_self hd h1, h1, h2⟩
    obtain ⟨x', hx', rfl⟩ := place_id h3
    obtain rfl : x = x' := by simpa using hx.symm.trans hx'
    exact ⟨y.id, key k hk y h1, _, y, place_self hd h1, h1, h2⟩
/-- What was met: each is met or is still to be done. -/
theorem waits_no {l : List Resd} {a : IDd} {M : IDd → Prop} (h0 : ∀ c, IdEdge l a c → M c) (hs : ∀ b c, M b → IdEdge l b c → M c) (hn : ¬ M a) : ¬ IdCirc l a := by
  rintro ⟨b, hb, he⟩
  have : b = a ∨ M b := hb.closed (S := fun b => b = a ∨ M b) (.inl rfl) (by
    rintro b c (rfl | h) he
    · exact .inr (h0 c he)
    · exact .inr (hs b c h he))
  rcases this with rfl | h
  · exact hn (h0 _ he)
  · exact hn (hs _ _ h he)
end Go.Proofs.YtfoelahabalbpaaGreatDoor

namespace Go.Proofs.YtfoelahabalbpaaGreatDoor
open Go.RowKit

/-- A step: what is done, and to which resource. -/
structure StepD where
  op : Nat
  x : Resd
/-- One waits, also through others, for one that fits. -/
def WaitsTo (l : List Resd) (a : IDd) (F : IDd → Prop) : Prop := ∃ b c, IdComes l a b ∧ IdEdge l b c ∧ F c
open Classical in
/-- The first that fits, and the others. -/
noncomputable def pickF {α : Type} (p : α → Prop) : List α → Option (α × List α)
  | [] => none
  | a :: l => if p a then some (a, l) else match pickF p l with
    | none => none
    | some (b, r) => some (b, a :: r)
/-- Again and again the first that may be next. -/
noncomputable def ordF (may : List StepD → StepD → Prop) : Nat → List StepD → List StepD
  | 0, _ => []
  | f + 1, t => match pickF (may t) t with
    | none => []
    | some (s, r) => s :: ordF may f r
def idsT (t : List StepD) : List IDd := t.map fun s => s.x.id
def mayMake (want : List Resd) (t : List StepD) (s : StepD) : Prop := ¬ WaitsTo want s.x.id (fun a => a ∈ idsT t)
def mayDel (t : List StepD) (s : StepD) : Prop := ¬ ∃ o ∈ t, s.x.id ∈ o.x.after
open Classical in
noncomputable def makeOf (old : List Resd) (r : Resd) : Option StepD := match old.find? (fun o => decide (o.id = r.id)) with
  | none => some ⟨1, r⟩
  | some o => if o = r then none else some ⟨2, r⟩
noncomputable def makesL (old want : List Resd) : List StepD := want.filterMap (makeOf old)
open Classical in
noncomputable def delsL (old want : List Resd) : List StepD := (old.filter fun r => decide (r.id ∉ want.map Resd.id)).map fun r => ⟨3, r⟩
/-- What Steps answers of lists that are whole. -/
noncomputable def stepsS (old want : List Resd) : List StepD := ordF (mayMake want) (makesL old want).length (makesL old want) ++ ordF mayDel (delsL old want).length (delsL old want)

/-- The steps that are still to come, by marks. -/
def flagT (op : Resd → Nat) : List Resd → List Bool → List StepD
  | x :: l, b :: fl => if b = true then ⟨op x, x⟩ :: flagT op l fl else flagT op l fl
  | _, _ => []
theorem pick_none {α : Type} {p : α → Prop} : ∀ {l : List α}, (∀ a ∈ l, ¬ p a) → pickF p l = none
  | [], _ => rfl
  | a :: l, h => by
    simp only [pickF]
    rw [if_neg (h a List.mem_cons_self), pick_none fun x hx => h x (List.mem_cons_of_mem _ hx)]
theorem flag_filter {op : Resd → Nat} {p : Resd → Bool} : ∀ (l : List Resd), (l.filter p).map (fun r => (⟨op r, r⟩ : StepD)) = flagT op l (l.map p)
  | [] => rfl
  | x :: l => by
    have ih := flag_filter (op := op) (p := p) l
    simp only [List.map_cons, flagT]
    by_cases hp : p x = true
    · rw [if_pos hp, List.filter_cons_of_pos hp, List.map_cons, ih]
    · rw [if_neg hp, List.filter_cons_of_neg hp, ih]
end Go.Proofs.YtfoelahabalbpaaGreatDoor

namespace Go.Proofs.YtfoelahabalbpaaGreatDoor
open Go.RowKit

theorem filter_lt {α : Type} {p q : α → Bool} : ∀ {l : List α}, (∀ x ∈ l, p x = true → q x = true) → (∃ x ∈ l, q x = true ∧ p x = false) → (l.filter p).length < (l.filter q).length
  | [], _, ⟨x, hx, _⟩ => by cases hx
  | a :: l, h, hx => by
    have hl : ∀ x ∈ l, p x = true → q x = true := fun x hx => h x (List.mem_cons_of_mem _ hx)
    have hle : ∀ {l : List α}, (∀ x ∈ l, p x = true → q x = true) → (l.filter p).length ≤ (l.filter q).length := by
      intro l
      induction l with
      | nil => intro _; simp
      | cons b l ih =>
        intro hb
        have := ih fun x hx => hb x (List.mem_cons_of_mem _ hx)
        by_cases hp : p b = true
        · rw [List.filter_cons_of_pos hp, List.filter_cons_of_pos (hb b List.mem_cons_self hp)]; simp; omega
        · rw [List.filter_cons_of_neg hp]
          by_cases hq : q b = true
          · rw [List.filter_cons_of_pos hq]; simp; omega
          · rw [List.filter_cons_of_neg hq]; exact this
    obtain ⟨x, hm, h1, h2⟩ := hx
    by_cases hp : p a = true
    · have hq := h a List.mem_cons_self hp
      rw [List.filter_cons_of_pos hp, List.filter_cons_of_pos hq]
      have hxl : x ∈ l := by
        rcases List.mem_cons.1 hm with rfl | hm
        · rw [hp] at h2; cases h2
        · exact hm
      have := filter_lt hl ⟨x, hxl, h1, h2⟩
      simp; omega
    · rw [List.filter_cons_of_neg hp]
      by_cases hq : q a = true
      · rw [List.filter_cons_of_pos hq]
        have := hle hl
        simp; omega
      · rw [List.filter_cons_of_neg hq]
        have hxl : x ∈ l := by
          rcases List.mem_cons.1 hm with rfl | hm
          · exact absurd h1 hq
          · exact hm
        exact filter_lt hl ⟨x, hxl, h1, h2⟩
/-- From i one comes to j by a step or more. -/
def Reach1 (l : List Resd) (i j : Nat) : Prop := ∃ k, Comes l i k ∧ Edge l k j
theorem Comes.trans {l : List Resd} {i j k : Nat} (h : Comes l i j) (h' : Comes l j k) : Comes l i k := by
  induction h' with
  | here => exact h
  | step _ e ih => exact ih.step e
theorem Edge.comes {l : List Resd} {i j k : Nat} (h : Edge l i j) (h' : Comes l j k) : Comes l i k := (Comes.here.step h).trans h'
theorem edgeIn {l : List Resd} {i j : Nat} (h : Edge l i j) : j < l.length := by
  obtain ⟨x, a, _, _, h3⟩ := h
  exact place_lt h3
open Classical in
noncomputable def rankI (l : List Resd) (i : Nat) : Nat := ((List.range l.length).filter fun k => decide (Reach1 l i k)).length
theorem rank_less {l : List Resd} {i j : Nat} (h : Edge l i j) (hn : ¬ Circ l j) : rankI l j < rankI l i := by
  classical
  unfold rankI
  refine filter_lt (fun k _ hk => ?_) ⟨j, List.mem_range.2 (edgeIn h), ?_, ?_⟩
  · simp only [decide_eq_true_eq] at hk ⊢
    obtain ⟨m, h1, h2⟩ := hk
    exact ⟨m, h.comes h1, h2⟩
  · exact decide_eq_true ⟨i, .here, h⟩
  · exact decide_eq_false hn
end Go.Proofs.YtfoelahabalbpaaGreatDoor

namespace Go.Proofs.YtfoelahabalbpaaGreatDoor
open Go.RowKit

theorem cmpB_trans : ∀ {a b c : List UInt8}, Lib.compareBytes a b < 0 → Lib.compareBytes b c < 0 → Lib.compareBytes a c < 0
  | [], [], _, _, h' => h'
  | [], _ :: _, [], _, h' => by simp [Lib.compareBytes] at h'
  | [], _ :: _, _ :: _, _, _ => by simp [Lib.compareBytes]
  | _ :: _, [], _, h, _ => by simp [Lib.compareBytes] at h
  | _ :: _, _ :: _, [], _, h' => by simp [Lib.compareBytes] at h'
  | a :: x, b :: y, c :: z, h, h' => by
    have ih := @cmpB_trans x y z
    simp only [Lib.compareBytes, UInt8.lt_iff_toNat_lt] at h h' ⊢
    by_cases h1 : a.toNat < b.toNat
    · have h2 : ¬ c.toNat < b.toNat := by
        intro hc
        rw [if_neg (by omega), if_pos hc] at h'
        omega
      rw [if_pos (by omega)]; decide
    · by_cases h2 : b.toNat < a.toNat
      · rw [if_neg h1, if_pos h2] at h
        omega
      · rw [if_neg h1, if_neg h2] at h
        by_cases h3 : b.toNat < c.toNat
        · rw [if_pos (by omega)]; decide
        · by_cases h4 : c.toNat < b.toNat
          · rw [if_neg h3, if_pos h4] at h'
            omega
          · rw [if_neg h3, if_neg h4] at h'
            rw [if_neg (by omega), if_neg (by omega)]
            exact ih h h'
theorem cmpB_flip : ∀ a b : List UInt8, Lib.compareBytes a b = - Lib.compareBytes b a
  | [], [] => rfl
  | [], _ :: _ => rfl
  | _ :: _, [] => rfl
  | a :: x, b :: y => by
    have ih := cmpB_flip x y
    simp only [Lib.compareBytes, UInt8.lt_iff_toNat_lt]
    by_cases h1 : a.toNat < b.toNat
    · rw [if_pos h1, if_neg (by omega), if_pos h1]
    · by_cases h2 : b.toNat < a.toNat
      · rw [if_neg h1, if_pos h2, if_pos h2]; rfl
      · rw [if_neg h1, if_neg h2, if_neg h2, if_neg h1]; exact ih
theorem cmpS_flip (a b : ByteArray) : cmpS a b = - cmpS b a := cmpB_flip _ _
theorem cmpS_trans {a b c : ByteArray} (h : cmpS a b < 0) (h' : cmpS b c < 0) : cmpS a c < 0 := cmpB_trans h h'
theorem cmpI_flip (a b : IDd) : cmpI a b = - cmpI b a := by
  unfold cmpI
  rw [cmpS_flip a.kind, cmpS_flip a.name]
  by_cases h : cmpS b.kind a.kind = 0 <;> simp [h]
theorem cmpI_zero {a b : IDd} : cmpI a b = 0 ↔ a = b := by
  unfold cmpI
  constructor
  · intro h
    by_cases e : cmpS a.kind b.kind = 0
    · rw [if_pos e] at h
      have e1 := cmpS_zero.1 e
      have e2 := cmpS_zero.1 h
      cases a; cases b; simp_all
    · rw [if_neg e] at h; exact absurd h e
  · rintro rfl
    rw [if_pos (cmpS_zero.2 rfl)]; exact cmpS_zero.2 rfl
theorem cmpI_trans {a b c : IDd} (h : cmpI a b < 0) (h' : cmpI b c < 0) : cmpI a c < 0 := by
  unfold cmpI at *
  by_cases e1 : cmpS a.kind b.kind = 0
  · rw [if_pos e1] at h
    by_cases e2 : cmpS b.kind c.kind = 0
    · rw [if_pos e2] at h'
      rw [if_pos (cmpS_zero.2 ((cmpS_zero.1 e1).trans (cmpS_zero.1 e2)))]
      exact cmpS_trans h h'
    · rw [if_neg e2] at h'
      rw [cmpS_zero.1 e1, if_neg e2]; exact h'
  · rw [if_neg e1] at h
    by_cases e2 : cmpS b.kind c.kind = 0
    · rw [← cmpS_zero.1 e2, if_neg e1]; exact h
    · rw [if_neg e2] at h'
      have := cmpS_trans h h'
      rw [if_neg (by omega)]; exact this

/-- Keys rise. -/
def Up (ks : List IDd) : Prop := ks.Pairwise fun a b => cmpI a b < 0
theorem Up.at {ks : List IDd} (h : Up ks) {i j : Nat} {x y : IDd} (hi : ks[i]? = some x) (hj : ks[j]? = some y) (hij : i < j) : cmpI x y < 0 := by
  obtain ⟨h1, rfl⟩ := List.getElem?_eq_some_iff.1 hi
  obtain ⟨h2, rfl⟩ := List.getElem?_eq_some_iff.1 hj
  exact List.pairwise_iff_getElem.1 h i j h1 h2 hij
/-- The place where a key stands, or would stand. -/
structure Stands (ks : List IDd) (a : IDd) (i : Nat) : Prop where
  le : i ≤ ks.length
  ahead : ∀ (k : Nat) x, k < i → ks[k]? = some x → cmpI x a < 0
  behind : ∀ (k : Nat) x, i ≤ k → ks[k]? = some x → ¬ cmpI x a < 0
theorem Stands.there {ks : List IDd} {a : IDd} {i : Nat} {x : IDd} (hx : ks[i]? = some x) (h0 : cmpI x a = 0) : a ∈ ks := by
  rw [← cmpI_zero.1 h0]; exact List.mem_of_getElem? hx
theorem Stands.gone {ks : List IDd} {a : IDd} {i : Nat} (h : Stands ks a i) (hu : Up ks) (hn : ∀ x, ks[i]? = some x → cmpI x a ≠ 0) : a ∉ ks := by
  intro hm
  obtain ⟨k, hk⟩ := List.mem_iff_getElem?.1 hm
  have h0 : cmpI a a = 0 := cmpI_zero.2 rfl
  by_cases hki : k < i
  · have := h.ahead k a hki hk; omega
  · by_cases e : k = i
    · subst e; exact hn a hk h0
    · have hlt : i < ks.length := by have := (List.getElem?_eq_some_iff.1 hk).1; omega
      have := hu.at (List.getElem?_eq_getElem hlt) hk (by omega)
      exact h.behind i _ (Nat.le_refl _) (List.getElem?_eq_getElem hlt) this
def insL (ks : List IDd) (i : Nat) (a : IDd) : List IDd := ks.take i ++ a :: ks.drop i
theorem ins_mem {ks : List IDd} {i : Nat} {a b : IDd} : b ∈ insL ks i a ↔ b = a ∨ b ∈ ks := by
  have : b ∈ ks ↔ b ∈ ks.take i ∨ b ∈ ks.drop i := by rw [← List.mem_append, List.take_append_drop]
  simp only [insL, List.mem_append, List.mem_cons, this]
  constructor
  · rintro (h | h | h)
    · exact .inr (.inl h)
    · exact .inl h
    · exact .inr (.inr h)
  · rintro (h | h | h)
    · exact .inr (.inl h)
    · exact .inl h
    · exact .inr (.inr h)
theorem ins_len {ks : List IDd} {i : Nat} {a : IDd} (h : i ≤ ks.length) : (insL ks i a).length = ks.length + 1 := by
  simp [insL]; omega
theorem Up.insert {ks : List IDd} {a : IDd} {i : Nat} (hu : Up ks) (h : Stands ks a i) (hn : a ∉ ks) : Up (insL ks i a) := by
  have hA : ∀ x ∈ ks.take i, cmpI x a < 0 := fun x hx => by
    obtain ⟨k, hk⟩ := List.mem_iff_getElem?.1 hx
    rw [List.getElem?_take] at hk
    split at hk
    · rename_i hki; exact h.ahead k x hki hk
    · cases hk
  have hB : ∀ x ∈ ks.drop i, cmpI a x < 0 := fun x hx => by
    obtain ⟨k, hk⟩ := List.mem_iff_getElem?.1 hx
    rw [List.getElem?_drop] at hk
    have h1 := h.behind (i + k) x (by omega) hk
    have h2 : cmpI x a ≠ 0 := fun e => hn (by rw [← cmpI_zero.1 e]; exact List.mem_of_getElem? hk)
    rw [cmpI_flip]; omega
  refine List.pairwise_append.2 ⟨List.Pairwise.sublist (List.take_sublist _ _) hu, List.pairwise_cons.2 ⟨hB, List.Pairwise.sublist (List.drop_sublist _ _) hu⟩, fun x hx y hy => ?_⟩
  rcases List.mem_cons.1 hy with rfl | hy
  · exact hA x hx
  · exact cmpI_trans (hA x hx) (hB y hy)
theorem len_le_of_sub : ∀ (ks U : List IDd), ks.Pairwise (fun a b => a ≠ b) → (∀ x ∈ ks, x ∈ U) → ks.length ≤ U.length
  | [], _, _, _ => Nat.zero_le _
  | x :: ks, U, hd, hs => by
    obtain ⟨s, t, rfl⟩ := List.append_of_mem (hs x (List.mem_cons_self ..))
    obtain ⟨h1, h2⟩ := List.pairwise_cons.1 hd
    have := len_le_of_sub ks (s ++ t) h2 fun y hy => by
      have := hs y (List.mem_cons_of_mem _ hy)
      rcases List.mem_append.1 this with h | h
      · exact List.mem_append.2 (.inl h)
      · rcases List.mem_cons.1 h with rfl | h
        · exact absurd rfl (h1 _ hy)
        · exact List.mem_append.2 (.inr h)
    simp only [List.length_append, List.length_cons] at *
    omega
theorem Up.few {ks U : List IDd} (hu : Up ks) (hs : ∀ x ∈ ks, x ∈ U) : ks.length ≤ U.length :=
  len_le_of_sub ks U (List.Pairwise.imp (fun {a b} h e => by subst e; rw [cmpI_zero.2 rfl] at h; omega) hu) hs

/-! What was met -/
/-- What the resource of an ID waits for. -/
def afterL (l : List Resd) (a : IDd) : List IDd := match placeL l a with
  | some k => (match l[k]? with
    | some y => y.after
    | none => [])
  | none => []
def allAfter (l : List Resd) : List IDd := l.flatMap (·.after)
theorem after_edge {l : List Resd} {a c : IDd} : c ∈ afterL l a ↔ IdEdge l a c := by
  unfold afterL IdEdge
  constructor
  · intro h
    split at h
    · rename_i k hk
      split at h
      · rename_i y hy; exact ⟨k, y, hk, hy, h⟩
      · simp at h
    · simp at h
  · rintro ⟨k, y, h1, h2, h3⟩
    rw [h1]; simp only [h2]; exact h3
theorem after_all {l : List Resd} {a c : IDd} (h : c ∈ afterL l a) : c ∈ allAfter l := by
  obtain ⟨k, y, _, h2, h3⟩ := after_edge.1 h
  exact List.mem_flatMap.2 ⟨y, List.mem_of_getElem? h2, h3⟩
/-- Between two that are looked at: keys met, and those still to be looked at. -/
structure Met (l : List Resd) (a : IDd) (ks td : List IDd) : Prop where
  up : Up ks
  sub : ∀ b ∈ ks, b ∈ allAfter l
  reach : ∀ b ∈ td, IdComes l a b
  done : ∀ b, b = a ∨ b ∈ ks → b ∈ td ∨ ∀ c ∈ afterL l b, c ∈ ks
  no : a ∉ ks
/-- While the first k of what x waits for were looked at. -/
structure MetI (l : List Resd) (a : IDd) (ks td : List IDd) (x : IDd) (k : Nat) : Prop where
  up : Up ks
  sub : ∀ b ∈ ks, b ∈ allAfter l
  reach : ∀ b ∈ td, IdComes l a b
  here : IdComes l a x
  done : ∀ b, b = a ∨ b ∈ ks → b ∈ td ∨ b = x ∨ ∀ c ∈ afterL l b, c ∈ ks
  got : ∀ (t : Nat) c, t < k → (afterL l x)[t]? = some c → c ∈ ks
  no : a ∉ ks
theorem Met.start (l : List Resd) (a : IDd) : Met l a [] [a] := by
  refine ⟨List.Pairwise.nil, fun b h => (by cases h), fun b h => ?_, fun b h => ?_, (by simp)⟩
  · rw [List.mem_singleton.1 h]; exact .here
  · rcases h with rfl | h
    · exact .inl (List.mem_singleton.2 rfl)
    · cases h
theorem Met.pop {l : List Resd} {a : IDd} {ks td : List IDd} {x : IDd} (h : Met l a ks (td ++ [x])) : MetI l a ks td x 0 := by
  refine ⟨h.up, h.sub, fun b hb => h.reach b (List.mem_append.2 (.inl hb)), h.reach x (List.mem_append.2 (.inr (List.mem_singleton.2 rfl))), fun b hb => ?_, fun t c ht => absurd ht (by omega), h.no⟩
  rcases h.done b hb with h | h
  · rcases List.mem_append.1 h with h | h
    · exact .inl h
    · exact .inr (.inl (List.mem_singleton.1 h))
  · exact .inr (.inr h)
theorem MetI.old {l : List Resd} {a : IDd} {ks td : List IDd} {x c : IDd} {k : Nat} (h : MetI l a ks td x k) (hc : (afterL l x)[k]? = some c) (hm : c ∈ ks) : MetI l a ks td x (k + 1) := by
  refine ⟨h.up, h.sub, h.reach, h.here, h.done, fun t d ht hd => ?_, h.no⟩
  by_cases e : t = k
  · subst e
    obtain rfl : c = d := by simpa using hc.symm.trans hd
    exact hm
  · exact h.got t d (by omega) hd
theorem MetI.new {l : List Resd} {a : IDd} {ks td : List IDd} {x c : IDd} {k i : Nat} (h : MetI l a ks td x k) (hc : (afterL l x)[k]? = some c) (hs : Stands ks c i) (hm : c ∉ ks) (hne : c ≠ a) : MetI l a (insL ks i c) (td ++ [c]) x (k + 1) := by
  have hcm := List.mem_of_getElem? hc
  refine ⟨h.up.insert hs hm, fun b hb => ?_, fun b hb => ?_, h.here, fun b hb => ?_, fun t d ht hd => ?_, fun hb => ?_⟩
  · rcases ins_mem.1 hb with rfl | hb
    · exact after_all hcm
    · exact h.sub b hb
  · rcases List.mem_append.1 hb with hb | hb
    · exact h.reach b hb
    · rw [List.mem_singleton.1 hb]; exact h.here.step (after_edge.1 hcm)
  · have key : b = a ∨ b ∈ ks → b ∈ td ++ [c] ∨ b = x ∨ ∀ d ∈ afterL l b, d ∈ insL ks i c := fun hb => by
      rcases h.done b hb with h | h | h
      · exact .inl (List.mem_append.2 (.inl h))
      · exact .inr (.inl h)
      · exact .inr (.inr fun d hd => ins_mem.2 (.inr (h d hd)))
    rcases hb with hb | hb
    · exact key (.inl hb)
    · rcases ins_mem.1 hb with rfl | hb
      · exact .inl (List.mem_append.2 (.inr (List.mem_singleton.2 rfl)))
      · exact key (.inr hb)
  · by_cases e : t = k
    · subst e
      obtain rfl : c = d := by simpa using hc.symm.trans hd
      exact ins_mem.2 (.inl rfl)
    · exact ins_mem.2 (.inr (h.got t d (by omega) hd))
  · rcases ins_mem.1 hb with rfl | hb
    · exact hne rfl
    · exact h.no hb
theorem MetI.finish {l : List Resd} {a : IDd} {ks td : List IDd} {x : IDd} {k : Nat} (h : MetI l a ks td x k) (hk : (afterL l x).length ≤ k) : Met l a ks td := by
  refine ⟨h.up, h.sub, h.reach, fun b hb => ?_, h.no⟩
  rcases h.done b hb with h1 | rfl | h1
  · exact .inl h1
  · refine .inr fun c hc => ?_
    obtain ⟨t, ht⟩ := List.mem_iff_getElem?.1 hc
    exact h.got t c (by have := (List.getElem?_eq_some_iff.1 ht).1; omega) ht
  · exact .inr h1
theorem MetI.hit {l : List Resd} {a : IDd} {ks td : List IDd} {x : IDd} {k : Nat} (h : MetI l a ks td x k) (hc : (afterL l x)[k]? = some a) : IdCirc l a :=
  ⟨x, h.here, after_edge.1 (List.mem_of_getElem? hc)⟩
theorem Met.finish {l : List Resd} {a : IDd} {ks : List IDd} (h : Met l a ks []) : ¬ IdCirc l a := by
  have hd : ∀ b, b = a ∨ b ∈ ks → ∀ c ∈ afterL l b, c ∈ ks := fun b hb => (h.done b hb).resolve_left (by simp)
  exact waits_no (M := (· ∈ ks)) (fun c hc => hd a (.inl rfl) c (after_edge.2 hc)) (fun b c hb hc => hd b (.inr hb) c (after_edge.2 hc)) h.no
end Go.Proofs.YtfoelahabalbpaaGreatDoor

namespace Go.Proofs.YtfoelahabalbpaaGreatDoor
open Go.RowKit

/-- Between two that are looked at: keys met, and those still to be looked at. -/
structure MetF (F : IDd → Prop) (l : List Resd) (a : IDd) (ks td : List IDd) : Prop where
  up : Up ks
  sub : ∀ b ∈ ks, b ∈ allAfter l
  reach : ∀ b ∈ td, IdComes l a b
  done : ∀ b, b = a ∨ b ∈ ks → b ∈ td ∨ ∀ c ∈ afterL l b, c ∈ ks
  no : ∀ b ∈ ks, ¬ F b
/-- While the first k of what x waits for were looked at. -/
structure MetJ (F : IDd → Prop) (l : List Resd) (a : IDd) (ks td : List IDd) (x : IDd) (k : Nat) : Prop where
  up : Up ks
  sub : ∀ b ∈ ks, b ∈ allAfter l
  reach : ∀ b ∈ td, IdComes l a b
  here : IdComes l a x
  done : ∀ b, b = a ∨ b ∈ ks → b ∈ td ∨ b = x ∨ ∀ c ∈ afterL l b, c ∈ ks
  got : ∀ (t : Nat) c, t < k → (afterL l x)[t]? = some c → c ∈ ks
  no : ∀ b ∈ ks, ¬ F b
theorem MetF.start (F : IDd → Prop) (l : List Resd) (a : IDd) : MetF F l a [] [a] := by
  refine ⟨List.Pairwise.nil, fun b h => (by cases h), fun b h => ?_, fun b h => ?_, (by simp)⟩
  · rw [List.mem_singleton.1 h]; exact .here
  · rcases h with rfl | h
    · exact .inl (List.mem_singleton.2 rfl)
    · cases h
theorem MetF.pop {F : IDd → Prop} {l : List Resd} {a : IDd} {ks td : List IDd} {x : IDd} (h : MetF F l a ks (td ++ [x])) : MetJ F l a ks td x 0 := by
  refine ⟨h.up, h.sub, fun b hb => h.reach b (List.mem_append.2 (.inl hb)), h.reach x (List.mem_append.2 (.inr (List.mem_singleton.2 rfl))), fun b hb => ?_, fun t c ht => absurd ht (by omega), h.no⟩
  rcases h.done b hb with h | h
  · rcases List.mem_append.1 h with h | h
    · exact .inl h
    · exact .inr (.inl (List.mem_singleton.1 h))
  · exact .inr (.inr h)
theorem MetJ.old {F : IDd → Prop} {l : List Resd} {a : IDd} {ks td : List IDd} {x c : IDd} {k : Nat} (h : MetJ F l a ks td x k) (hc : (afterL l x)[k]? = some c) (hm : c ∈ ks) : MetJ F l a ks td x (k + 1) := by
  refine ⟨h.up, h.sub, h.reach, h.here, h.done, fun t d ht hd => ?_, h.no⟩
  by_cases e : t = k
  · subst e
    obtain rfl : c = d := by simpa using hc.symm.trans hd
    exact hm
  · exact h.got t d (by omega) hd
theorem MetJ.new {F : IDd → Prop} {l : List Resd} {a : IDd} {ks td : List IDd} {x c : IDd} {k i : Nat} (h : MetJ F l a ks td x k) (hc : (afterL l x)[k]? = some c) (hs : Stands ks c i) (hm : c ∉ ks) (hne : ¬ F c) : MetJ F l a (insL ks i c) (td ++ [c]) x (k + 1) := by
  have hcm := List.mem_of_getElem? hc
  refine ⟨h.up.insert hs hm, fun b hb => ?_, fun b hb => ?_, h.here, fun b hb => ?_, fun t d ht hd => ?_, fun b hb => ?_⟩
  · rcases ins_mem.1 hb with rfl | hb
    · exact after_all hcm
    · exact h.sub b hb
  · rcases List.mem_append.1 hb with hb | hb
    · exact h.reach b hb
    · rw [List.mem_singleton.1 hb]; exact h.here.step (after_edge.1 hcm)
  · have key : b = a ∨ b ∈ ks → b ∈ td ++ [c] ∨ b = x ∨ ∀ d ∈ afterL l b, d ∈ insL ks i c := fun hb => by
      rcases h.done b hb with h | h | h
      · exact .inl (List.mem_append.2 (.inl h))
      · exact .inr (.inl h)
      · exact .inr (.inr fun d hd => ins_mem.2 (.inr (h d hd)))
    rcases hb with hb | hb
    · exact key (.inl hb)
    · rcases ins_mem.1 hb with rfl | hb
      · exact .inl (List.mem_append.2 (.inr (List.mem_singleton.2 rfl)))
      · exact key (.inr hb)
  · by_cases e : t = k
    · subst e
      obtain rfl : c = d := by simpa using hc.symm.trans hd
      exact ins_mem.2 (.inl rfl)
    · exact ins_mem.2 (.inr (h.got t d (by omega) hd))
  · rcases ins_mem.1 hb with rfl | hb
    · exact hne
    · exact h.no b hb
theorem MetJ.finish {F : IDd → Prop} {l : List Resd} {a : IDd} {ks td : List IDd} {x : IDd} {k : Nat} (h : MetJ F l a ks td x k) (hk : (afterL l x).length ≤ k) : MetF F l a ks td := by
  refine ⟨h.up, h.sub, h.reach, fun b hb => ?_, h.no⟩
  rcases h.done b hb with h1 | rfl | h1
  · exact .inl h1
  · refine .inr fun c hc => ?_
    obtain ⟨t, ht⟩ := List.mem_iff_getElem?.1 hc
    exact h.got t c (by have := (List.getElem?_eq_some_iff.1 ht).1; omega) ht
  · exact .inr h1
theorem MetJ.hit {F : IDd → Prop} {l : List Resd} {a : IDd} {ks td : List IDd} {x c : IDd} {k : Nat} (h : MetJ F l a ks td x k) (hc : (afterL l x)[k]? = some c) (hF : F c) : WaitsTo l a F :=
  ⟨x, c, h.here, after_edge.1 (List.mem_of_getElem? hc), hF⟩
theorem MetF.finish {F : IDd → Prop} {l : List Resd} {a : IDd} {ks : List IDd} (h : MetF F l a ks []) : ¬ WaitsTo l a F := by
  have hd : ∀ b, b = a ∨ b ∈ ks → ∀ c ∈ afterL l b, c ∈ ks := fun b hb => (h.done b hb).resolve_left (by simp)
  have hr : ∀ b, IdComes l a b → b = a ∨ b ∈ ks := by
    intro b hb
    induction hb with
    | here => exact .inl rfl
    | step _ e ih => exact .inr (hd _ ih _ (after_edge.2 e))
  rintro ⟨b, c, hb, hc, hF⟩
  exact h.no c (hd b (hr b hb) c (after_edge.2 hc)) hF
end Go.Proofs.YtfoelahabalbpaaGreatDoor

namespace Go.Proofs.YtfoelahabalbpaaGreatDoor
open Go.RowKit

theorem cell_set_far {w : World} {C i b o : Nat} {u : Value} (h : ¬ b = C) : (w.setCell ⟨C, i, none⟩ u).cell? ⟨b, o, none⟩ = w.cell? ⟨b, o, none⟩ := by
  simp [World.setCell, World.cell?, Array.getElem?_modify, show ¬ C = b from fun e => h e.symm]
end Go.Proofs.YtfoelahabalbpaaGreatDoor
