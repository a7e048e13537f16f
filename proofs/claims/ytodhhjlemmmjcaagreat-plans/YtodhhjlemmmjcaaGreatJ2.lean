/-
  How lists of IDs, Attrs and resources lie in memory; plain facts on lists that rise.
-/
/-
  Who waits for itself: plain facts on lists of resources.
-/
/-
  Rows in the order of their keys: plain facts, for keys and rows of any kind.
-/
import Derived.Test.YtodhhjlemmmjcaaGreatJ1
namespace Go.Proofs.YtodhhjlemmmjcaaGreat
open Go.RowKit

def okI (x : IDd) : Prop := x.kind.size ≤ 140737488355328 ∧ x.name.size ≤ 140737488355328
def okA (x : Attrd) : Prop := x.name.size ≤ 140737488355328 ∧ x.text.size ≤ 140737488355328 ∧ -9223372036854775808 ≤ x.number ∧ x.number ≤ 9223372036854775807

/-- IDs lie in a block, from a place on. -/
def IDsIn (w : World) (b off : Nat) (l : List IDd) : Prop :=
  ∀ i x, l[i]? = some x → w.cell? ⟨b, off + i * 2, none⟩ = some (.string x.kind) ∧ w.cell? ⟨b, off + i * 2 + 1, none⟩ = some (.string x.name)
def AttrsIn (w : World) (b off : Nat) (l : List Attrd) : Prop :=
  ∀ i x, l[i]? = some x → w.cell? ⟨b, off + i * 4, none⟩ = some (.string x.name) ∧ w.cell? ⟨b, off + i * 4 + 1, none⟩ = some (.bool x.isText) ∧ w.cell? ⟨b, off + i * 4 + 2, none⟩ = some (.string x.text) ∧ w.cell? ⟨b, off + i * 4 + 3, none⟩ = some (.int .i64 x.number)

/-- A slice leads to a list of IDs. -/
structure IDsV (w : World) (v : Value) (l : List IDd) : Prop where
  shape : ∃ a cap, v = .slice a l.length cap ∧ l.length ≤ cap ∧ cap ≤ 9223372036854775807 ∧ (l = [] ∨ ∃ b off, a = some ⟨b, off, none⟩ ∧ IDsIn w b off l)
  few : l.length ≤ 4398046511000
  ok : ∀ x ∈ l, okI x
structure AttrsV (w : World) (v : Value) (l : List Attrd) : Prop where
  shape : ∃ a cap, v = .slice a l.length cap ∧ l.length ≤ cap ∧ cap ≤ 9223372036854775807 ∧ (l = [] ∨ ∃ b off, a = some ⟨b, off, none⟩ ∧ AttrsIn w b off l)
  few : l.length ≤ 2932031007330
  ok : ∀ x ∈ l, okA x

theorem IDsIn.ext {w w' : World} {b off : Nat} {l : List IDd} (h : IDsIn w b off l) (e : Ext w w') : IDsIn w' b off l :=
  fun i x hx => ⟨e.cells (h i x hx).1, e.cells (h i x hx).2⟩
theorem AttrsIn.ext {w w' : World} {b off : Nat} {l : List Attrd} (h : AttrsIn w b off l) (e : Ext w w') : AttrsIn w' b off l :=
  fun i x hx => ⟨e.cells (h i x hx).1, e.cells (h i x hx).2.1, e.cells (h i x hx).2.2.1, e.cells (h i x hx).2.2.2⟩
theorem IDsV.ext {w w' : World} {v : Value} {l : List IDd} (h : IDsV w v l) (e : Ext w w') : IDsV w' v l := by
  obtain ⟨⟨a, cap, hv, hc, hm, hs⟩, h2, h3⟩ := h
  refine ⟨⟨a, cap, hv, hc, hm, ?_⟩, h2, h3⟩
  rcases hs with hs | ⟨b, off, ha, hi⟩
  · exact .inl hs
  · exact .inr ⟨b, off, ha, hi.ext e⟩
theorem AttrsV.ext {w w' : World} {v : Value} {l : List Attrd} (h : AttrsV w v l) (e : Ext w w') : AttrsV w' v l := by
  obtain ⟨⟨a, cap, hv, hc, hm, hs⟩, h2, h3⟩ := h
  refine ⟨⟨a, cap, hv, hc, hm, ?_⟩, h2, h3⟩
  rcases hs with hs | ⟨b, off, ha, hi⟩
  · exact .inl hs
  · exact .inr ⟨b, off, ha, hi.ext e⟩

/-- A resource's four cells. -/
structure ResV (w : World) (c2 c3 : Value) (x : Resd) : Prop where
  id : okI x.id
  attrs : AttrsV w c2 x.attrs
  after : IDsV w c3 x.after
theorem ResV.ext {w w' : World} {c2 c3 : Value} {x : Resd} (h : ResV w c2 c3 x) (e : Ext w w') : ResV w' c2 c3 x := ⟨h.id, h.attrs.ext e, h.after.ext e⟩
def RessIn (w : World) (b off : Nat) (l : List Resd) : Prop :=
  ∀ i x, l[i]? = some x → w.cell? ⟨b, off + i * 4, none⟩ = some (.string x.id.kind) ∧ w.cell? ⟨b, off + i * 4 + 1, none⟩ = some (.string x.id.name) ∧
    ∃ c2 c3, w.cell? ⟨b, off + i * 4 + 2, none⟩ = some c2 ∧ w.cell? ⟨b, off + i * 4 + 3, none⟩ = some c3 ∧ ResV w c2 c3 x
structure RessV (w : World) (v : Value) (l : List Resd) : Prop where
  shape : ∃ a cap, v = .slice a l.length cap ∧ l.length ≤ cap ∧ cap ≤ 9223372036854775807 ∧ (l = [] ∨ ∃ b off, a = some ⟨b, off, none⟩ ∧ RessIn w b off l)
  few : l.length ≤ 4398046511200
theorem RessIn.ext {w w' : World} {b off : Nat} {l : List Resd} (h : RessIn w b off l) (e : Ext w w') : RessIn w' b off l := by
  intro i x hx
  obtain ⟨h0, h1, c2, c3, h2, h3, h4⟩ := h i x hx
  exact ⟨e.cells h0, e.cells h1, c2, c3, e.cells h2, e.cells h3, h4.ext e⟩
theorem RessV.ext {w w' : World} {v : Value} {l : List Resd} (h : RessV w v l) (e : Ext w w') : RessV w' v l := by
  obtain ⟨⟨a, cap, hv, hc, hm, hs⟩, h2⟩ := h
  refine ⟨⟨a, cap, hv, hc, hm, ?_⟩, h2⟩
  rcases hs with hs | ⟨b, off, ha, hi⟩
  · exact .inl hs
  · exact .inr ⟨b, off, ha, hi.ext e⟩

/-! Plain facts -/
theorem all_succ {α : Type} {l : List α} {p : α → Bool} {k : Nat} {x : α} (h : l[k]? = some x) (ha : (l.take k).all p = true) : (l.take (k + 1)).all p = p x := by
  have hk : k < l.length := (List.getElem?_eq_some_iff.1 h).1
  rw [List.take_succ_eq_append_getElem hk, List.all_append, ha]
  have : l[k] = x := (List.getElem?_eq_some_iff.1 h).2
  simp [this]
theorem all_no {α : Type} {l : List α} {p : α → Bool} {k : Nat} {x : α} (h : l[k]? = some x) (hp : p x = false) : l.all p = false := by
  rw [List.all_eq_false]; exact ⟨x, List.mem_of_getElem? h, by simpa using hp⟩
theorem rises_take {α : Type} {lt : α → α → Bool} : ∀ {l : List α} {k : Nat} {x y : α}, l[k]? = some x → l[k + 1]? = some y → risesB lt (l.take (k + 2)) = (risesB lt (l.take (k + 1)) && lt x y)
  | [], k, x, y, h, _ => by simp at h
  | [a], k, x, y, h, h' => by simp at h'
  | a :: b :: l, 0, x, y, h, h' => by
    simp at h h'
    subst h h'
    simp [risesB]
  | a :: b :: l, k + 1, x, y, h, h' => by
    have ih := rises_take (lt := lt) (l := b :: l) (k := k) (x := x) (y := y) (by simpa using h) (by simpa using h')
    have e1 : (a :: b :: l).take (k + 1 + 2) = a :: b :: (l.take (k + 1)) := by simp
    have e2 : (a :: b :: l).take (k + 1 + 1) = a :: b :: (l.take k) := by simp
    have e3 : (b :: l).take (k + 2) = b :: l.take (k + 1) := by simp
    have e4 : (b :: l).take (k + 1) = b :: l.take k := by simp
    rw [e3, e4] at ih
    rw [e1, e2]
    simp only [risesB]
    rw [ih, Bool.and_assoc]
theorem rises_no {α : Type} {lt : α → α → Bool} : ∀ {l : List α} {k : Nat} {x y : α}, l[k]? = some x → l[k + 1]? = some y → lt x y = false → risesB lt l = false
  | [], k, x, y, h, _, _ => by simp at h
  | [a], k, x, y, h, h', _ => by simp at h'
  | a :: b :: l, 0, x, y, h, h', hn => by
    simp at h h'
    subst h h'
    simp [risesB, hn]
  | a :: b :: l, k + 1, x, y, h, h', hn => by
    have ih := rises_no (lt := lt) (l := b :: l) (k := k) (x := x) (y := y) (by simpa using h) (by simpa using h') hn
    simp [risesB, ih]
theorem rises_short {α : Type} {lt : α → α → Bool} {l : List α} {k : Nat} (h : l.length ≤ k + 1) : risesB lt (l.take (k + 1)) = risesB lt l := by
  rw [List.take_of_length_le h]
theorem rises_one {α : Type} {lt : α → α → Bool} (l : List α) : risesB lt (l.take 1) = true := by
  match l with
  | [] => rfl
  | [_] => rfl
  | _ :: _ :: _ => rfl
theorem some_of_lt {α : Type} {l : List α} {k : Nat} (h : k < l.length) : ∃ x, l[k]? = some x := ⟨l[k], List.getElem?_eq_getElem h⟩
end Go.Proofs.YtodhhjlemmmjcaaGreat

namespace Go.Proofs.YtodhhjlemmmjcaaGreat

/-- The place of the first resource with an ID. -/
def placeL (l : List Resd) (a : IDd) : Option Nat := l.findIdx? (fun x => decide (x.id.kind = a.kind ∧ x.id.name = a.name))
/-- The resource at k waits for the one at j. -/
def Edge (l : List Resd) (k j : Nat) : Prop := ∃ x a, l[k]? = some x ∧ a ∈ x.after ∧ placeL l a = some j
/-- From i one comes to j, by so many steps as it takes. -/
inductive Comes (l : List Resd) (i : Nat) : Nat → Prop
  | here : Comes l i i
  | step {k j : Nat} : Comes l i k → Edge l k j → Comes l i j
/-- The resource at i waits for itself. -/
def Circ (l : List Resd) (i : Nat) : Prop := ∃ k, Comes l i k ∧ Edge l k i

theorem place_lt {l : List Resd} {a : IDd} {j : Nat} (h : placeL l a = some j) : j < l.length := by
  unfold placeL at h
  exact (List.findIdx?_eq_some_iff_getElem.1 h).1
theorem place_id {l : List Resd} {a : IDd} {j : Nat} (h : placeL l a = some j) : ∃ x, l[j]? = some x ∧ x.id = a := by
  unfold placeL at h
  obtain ⟨h1, h2, _⟩ := List.findIdx?_eq_some_iff_getElem.1 h
  obtain ⟨h3, h4⟩ := of_decide_eq_true h2
  refine ⟨l[j], List.getElem?_eq_getElem h1, ?_⟩
  cases hx : l[j].id; cases a; simp_all
theorem edge_lt {l : List Resd} {k j : Nat} (h : Edge l k j) : j < l.length := by
  obtain ⟨_, _, _, _, h⟩ := h; exact place_lt h
theorem edge_lt' {l : List Resd} {k j : Nat} (h : Edge l k j) : k < l.length := by
  obtain ⟨_, _, h, _, _⟩ := h; exact (List.getElem?_eq_some_iff.1 h).1

/-- What holds of i and goes over each step holds of all that one comes to. -/
theorem Comes.closed {l : List Resd} {i : Nat} {S : Nat → Prop} (h0 : S i) (hs : ∀ k j, S k → Edge l k j → S j) {j : Nat} (h : Comes l i j) : S j := by
  induction h with
  | here => exact h0
  | step _ e ih => exact hs _ _ ih e

/-- How many are marked. -/
def marks (r : List Bool) : Nat := r.countP (· == true)
theorem marks_le (r : List Bool) : marks r ≤ r.length := List.countP_le_length
theorem marks_set {r : List Bool} {j : Nat} (h : r[j]? = some false) : marks (r.set j true) = marks r + 1 := by
  induction r generalizing j with
  | nil => cases h
  | cons b r ih =>
    cases j with
    | zero =>
      obtain rfl : b = false := by simpa using h
      simp [marks]
    | succ j =>
      have := ih (j := j) (by simpa using h)
      simp only [List.set_cons_succ, marks, List.countP_cons] at *
      omega
theorem marks_set_same {r : List Bool} {j : Nat} (h : r[j]? = some true) : r.set j true = r := by
  obtain ⟨hj, h⟩ := List.getElem?_eq_some_iff.1 h
  rw [← h]; exact List.set_getElem_self hj

/-- The marks are closed under the steps. -/
def ClosedM (l : List Resd) (r : List Bool) : Prop := ∀ k j, r[k]? = some true → Edge l k j → r[j]? = some true
/-- More marks than before, none lost. -/
def MoreM (r r' : List Bool) : Prop := r'.length = r.length ∧ ∀ k : Nat, r[k]? = some true → r'[k]? = some true
theorem MoreM.refl (r : List Bool) : MoreM r r := ⟨rfl, fun _ h => h⟩
theorem MoreM.trans {r r' r'' : List Bool} (h : MoreM r r') (h' : MoreM r' r'') : MoreM r r'' := ⟨h'.1.trans h.1, fun k hk => h'.2 k (h.2 k hk)⟩
theorem MoreM.set (r : List Bool) (j : Nat) : MoreM r (r.set j true) := by
  refine ⟨List.length_set .., fun k hk => ?_⟩
  have hlt := (List.getElem?_eq_some_iff.1 hk).1
  rw [List.getElem?_set]
  split
  · rename_i h; subst h; rw [if_pos hlt]
  · exact hk

theorem marks_cons (b : Bool) (r : List Bool) : marks (b :: r) = marks r + (if b = true then 1 else 0) := by
  simp [marks, List.countP_cons]
theorem MoreM.marks_le : ∀ {r r' : List Bool}, MoreM r r' → marks r ≤ marks r'
  | [], r', h => Nat.zero_le _
  | b :: r, [], h => by cases h.1
  | b :: r, b' :: r', h => by
    have h1 : MoreM r r' := ⟨by simpa using h.1, fun k hk => by simpa using h.2 (k + 1) (by simpa using hk)⟩
    have h2 : b = true → b' = true := fun hb => by simpa using h.2 0 (by simpa using hb)
    have := MoreM.marks_le h1
    rw [marks_cons, marks_cons]
    cases b <;> cases b' <;> simp_all <;> omega
theorem MoreM.same : ∀ {r r' : List Bool}, MoreM r r' → marks r' ≤ marks r → r' = r
  | [], r', h, _ => List.eq_nil_of_length_eq_zero h.1
  | b :: r, [], h, _ => by cases h.1
  | b :: r, b' :: r', h, hm => by
    have h1 : MoreM r r' := ⟨by simpa using h.1, fun k hk => by simpa using h.2 (k + 1) (by simpa using hk)⟩
    have h2 : b = true → b' = true := fun hb => by simpa using h.2 0 (by simpa using hb)
    have h3 := MoreM.marks_le h1
    rw [marks_cons, marks_cons] at hm
    have h4 : b' = b := by cases b <;> cases b' <;> simp_all <;> omega
    subst h4
    rw [MoreM.same h1 (by omega)]

/-- What is marked is closed, and the mark of i itself is seen. -/
def ClosedQ (l : List Resd) (i : Nat) (r : List Bool) (q : Bool) : Prop := ∀ k j, r[k]? = some true → Edge l k j → r[j]? = some true ∧ (j = i → q = true)
/-- Ahead of a round: what is marked one comes to; it is closed, or there are many marks. -/
structure Rounds (l : List Resd) (i n : Nat) (r : List Bool) (q : Bool) : Prop where
  len : r.length = l.length
  start : r[i]? = some true
  sound : ∀ k : Nat, r[k]? = some true → Comes l i k
  told : q = true → Circ l i
  grows : ClosedQ l i r q ∨ n + 1 ≤ marks r
theorem closed_comes {l : List Resd} {i : Nat} {r : List Bool} {q : Bool} (hs : r[i]? = some true) (hc : ClosedQ l i r q) {k : Nat} (h : Comes l i k) : r[k]? = some true :=
  h.closed (S := fun k => r[k]? = some true) hs fun k j hk he => (hc k j hk he).1
/-- A round: each step from what was marked ahead is taken. -/
theorem Rounds.step {l : List Resd} {i n : Nat} {r r' : List Bool} {q q' : Bool} (h : Rounds l i n r q) (hm : MoreM r r') (hs : ∀ k : Nat, r'[k]? = some true → Comes l i k) (ht : q' = true → Circ l i)
    (ha : ∀ k j : Nat, r[k]? = some true → Edge l k j → r'[j]? = some true ∧ (j = i → q' = true)) : Rounds l i (n + 1) r' q' := by
  have key : r' = r → ClosedQ l i r' q' := by rintro rfl; exact ha
  refine ⟨hm.1.trans h.len, hm.2 i h.start, hs, ht, ?_⟩
  rcases h.grows with hc | hn
  · refine .inl (key (hm.same (MoreM.marks_le ⟨hm.1.symm, fun k hk => closed_comes h.start hc (hs k hk)⟩)))
  · by_cases hmm : marks r' ≤ marks r
    · exact .inl (key (hm.same hmm))
    · exact .inr (by omega)
/-- Behind all rounds. -/
theorem Rounds.done {l : List Resd} {i : Nat} {r : List Bool} {q : Bool} (h : Rounds l i (l.length + 1) r q) : q = true ↔ Circ l i := by
  refine ⟨h.told, fun ⟨k, hk, he⟩ => ?_⟩
  have hc : ClosedQ l i r q := by
    rcases h.grows with hc | hn
    · exact hc
    · have := marks_le r; rw [h.len] at this; omega
  exact (hc k i (closed_comes h.start hc hk) he).2 rfl

/-- The same by IDs: who has the ID a waits for b. -/
def IdEdge (l : List Resd) (a b : IDd) : Prop := ∃ k y, placeL l a = some k ∧ l[k]? = some y ∧ b ∈ y.after
inductive IdComes (l : List Resd) (a : IDd) : IDd → Prop
  | here : IdComes l a a
  | step {b c : IDd} : IdComes l a b → IdEdge l b c → IdComes l a c
def IdCirc (l : List Resd) (a : IDd) : Prop := ∃ b, IdComes l a b ∧ IdEdge l b a
theorem IdComes.closed {l : List Resd} {a : IDd} {S : IDd → Prop} (h0 : S a) (hs : ∀ b c, S b → IdEdge l b c → S c) {b : IDd} (h : IdComes l a b) : S b := by
  induction h with
  | here => exact h0
  | step _ e ih => exact hs _ _ ih e
/-- No two have the same ID. -/
def Apart (l : List Resd) : Prop := ∀ (i j : Nat) x y, l[i]? = some x → l[j]? = some y → x.id = y.id → i = j
theorem place_self {l : List Resd} (hd : Apart l) {i : Nat} {x : Resd} (hx : l[i]? = some x) : placeL l x.id = some i := by
  obtain ⟨hi, hxi⟩ := List.getElem?_eq_some_iff.1 hx
  refine List.findIdx?_eq_some_iff_getElem.2 ⟨hi, by rw [hxi]; simp, fun j hj => ?_⟩
  simp only [decide_eq_true_eq, not_and]
  intro h1 h2
  have := hd j i l[j] x (List.getElem?_eq_getElem (by omega)) hx (by
    cases hl : l[j].id; cases hx2 : x.id; simp_all)
  omega
theorem circ_iff {l : List Resd} (hd : Apart l) {i : Nat} {x : Resd} (hx : l[i]? = some x) : IdCirc l x.id ↔ Circ l i := by
  constructor
  · rintro ⟨b, hb, k, y, h1, h2, h3⟩
    have key : ∀ c, IdComes l x.id c → ∀ k, placeL l c = some k → Comes l i k := by
      intro c hc
      induction hc with
      | here =>
        intro k hk
        obtain rfl : i = k := by simpa using (place_self hd hx).symm.trans hk
        exact .here
      | step _ e ih =>
        intro j hj
        obtain ⟨k, y, h1, h2, h3⟩ := e
        exact (ih k h1).step ⟨y, _, h2, h3, hj⟩
    exact ⟨k, key b hb k h1, y, x.id, h2, h3, place_self hd hx⟩
  · rintro ⟨k, hk, y, a, h1, h2, h3⟩
    have key : ∀ k, Comes l i k → ∀ y, l[k]? = some y → IdComes l x.id y.id := by
      intro k hk
      induction hk with
      | here =>
        intro y hy
        obtain rfl : x = y := by simpa using hx.symm.trans hy
        exact .here
      | step _ e ih =>
        intro z hz
        obtain ⟨y, a, h1, h2, h3⟩ := e
        obtain ⟨z', hz', rfl⟩ := place_id h3
        obtain rfl : z = z' := by simpa using hz.symm.trans hz'
        exact (ih y h1).step ⟨_, y, place_self hd h1, h1, h2⟩
    obtain ⟨x', hx', rfl⟩ := place_id h3
    obtain rfl : x = x' := by simpa using hx.symm.trans hx'
    exact ⟨y.id, key k hk y h1, _, y, place_self hd h1, h1, h2⟩
/-- What was met: each is met or is still to be done. -/
theorem waits_no {l : List Resd} {a : IDd} {M : IDd → Prop} (h0 : ∀ c, IdEdge l a c → M c) (hs : ∀ b c, M b → IdEdge l b c → M c) (hn : ¬ M a) : ¬ IdCirc l a := by
  rintro ⟨b, hb, he⟩
  have : b = a ∨ M b := hb.closed (S := fun b => b = a ∨ M b) (.inl rfl) (by
    rintro b c (rfl | h) he
    · exact .inr (h0 c he)
    · exact .inr (hs b c h he))
  rcases this with rfl | h
  · exact hn (h0 _ he)
  · exact hn (hs _ _ h he)
end Go.Proofs.YtodhhjlemmmjcaaGreat

namespace Go.Proofs.YtodhhjlemmmjcaaGreat
open Go.RowKit

/-- An order of keys. -/
structure OrdK {κ : Type} (cmp : κ → κ → Int) : Prop where
  zero : ∀ {a b : κ}, cmp a b = 0 ↔ a = b
  flip : ∀ a b : κ, cmp a b = - cmp b a
  trans : ∀ {a b c : κ}, cmp a b < 0 → cmp b c < 0 → cmp a c < 0
section
variable {κ ρ : Type} {cmp : κ → κ → Int} {key : ρ → κ}
/-- Keys rise. -/
def UpG (cmp : κ → κ → Int) (key : ρ → κ) (rs : List ρ) : Prop := rs.Pairwise fun a b => cmp (key a) (key b) < 0
theorem UpG.at {rs : List ρ} (h : UpG cmp key rs) {i j : Nat} {x y : ρ} (hi : rs[i]? = some x) (hj : rs[j]? = some y) (hij : i < j) : cmp (key x) (key y) < 0 := by
  obtain ⟨h1, rfl⟩ := List.getElem?_eq_some_iff.1 hi
  obtain ⟨h2, rfl⟩ := List.getElem?_eq_some_iff.1 hj
  exact List.pairwise_iff_getElem.1 h i j h1 h2 hij
/-- The place where a key stands, or would stand. -/
structure StandsG (cmp : κ → κ → Int) (key : ρ → κ) (rs : List ρ) (a : κ) (i : Nat) : Prop where
  le : i ≤ rs.length
  ahead : ∀ (k : Nat) x, k < i → rs[k]? = some x → cmp (key x) a < 0
  behind : ∀ (k : Nat) x, i ≤ k → rs[k]? = some x → ¬ cmp (key x) a < 0
/-- A key is there. -/
def HasK (key : ρ → κ) (rs : List ρ) (a : κ) : Prop := ∃ x ∈ rs, key x = a
theorem StandsG.there {rs : List ρ} {a : κ} {i : Nat} {x : ρ} (ho : OrdK cmp) (hx : rs[i]? = some x) (h0 : cmp (key x) a = 0) : HasK key rs a := ⟨x, List.mem_of_getElem? hx, ho.zero.1 h0⟩
theorem StandsG.gone {rs : List ρ} {a : κ} {i : Nat} (ho : OrdK cmp) (h : StandsG cmp key rs a i) (hu : UpG cmp key rs) (hn : ∀ x, rs[i]? = some x → cmp (key x) a ≠ 0) : ¬ HasK key rs a := by
  rintro ⟨y, hm, rfl⟩
  obtain ⟨k, hk⟩ := List.mem_iff_getElem?.1 hm
  have h0 : cmp (key y) (key y) = 0 := ho.zero.2 rfl
  by_cases hki : k < i
  · have := h.ahead k y hki hk; omega
  · by_cases e : k = i
    · subst e; exact hn y hk h0
    · have hlt : i < rs.length := by have := (List.getElem?_eq_some_iff.1 hk).1; omega
      have := hu.at (List.getElem?_eq_getElem hlt) hk (by omega)
      exact h.behind i _ (Nat.le_refl _) (List.getElem?_eq_getElem hlt) this
theorem UpG.stands {rs : List ρ} {a : κ} {k : Nat} {x : ρ} (ho : OrdK cmp) (hu : UpG cmp key rs) (hx : rs[k]? = some x) (h : cmp (key x) a < 0) : ∀ (j : Nat) y, j < k + 1 → rs[j]? = some y → cmp (key y) a < 0 := fun j y hj hy => by
  by_cases e : j = k
  · subst e; rw [hx] at hy; cases hy; exact h
  · exact ho.trans (hu.at hy hx (by omega)) h
theorem UpG.stands' {rs : List ρ} {a : κ} {k : Nat} {x : ρ} (ho : OrdK cmp) (hu : UpG cmp key rs) (hx : rs[k]? = some x) (h : ¬ cmp (key x) a < 0) : ∀ (j : Nat) y, k ≤ j → rs[j]? = some y → 0 ≤ cmp (key y) a := fun j y hj hy => Int.not_lt.1 fun hn => by
  by_cases e : j = k
  · subst e; rw [hx] at hy; cases hy; exact h hn
  · exact h (ho.trans (hu.at hx hy (by omega)) hn)
/-- A row put into its place. -/
def insG (rs : List ρ) (i : Nat) (x : ρ) : List ρ := rs.take i ++ x :: rs.drop i
theorem insG_mem {rs : List ρ} {i : Nat} {a b : ρ} : b ∈ insG rs i a ↔ b = a ∨ b ∈ rs := by
  have : b ∈ rs ↔ b ∈ rs.take i ∨ b ∈ rs.drop i := by rw [← List.mem_append, List.take_append_drop]
  simp only [insG, List.mem_append, List.mem_cons, this]
  constructor
  · rintro (h | h | h)
    · exact .inr (.inl h)
    · exact .inl h
    · exact .inr (.inr h)
  · rintro (h | h | h)
    · exact .inr (.inl h)
    · exact .inl h
    · exact .inr (.inr h)
theorem insG_len {rs : List ρ} {i : Nat} {a : ρ} (h : i ≤ rs.length) : (insG rs i a).length = rs.length + 1 := by
  simp [insG]; omega
theorem UpG.insert {rs : List ρ} {x : ρ} {i : Nat} (ho : OrdK cmp) (hu : UpG cmp key rs) (h : StandsG cmp key rs (key x) i) (hn : ¬ HasK key rs (key x)) : UpG cmp key (insG rs i x) := by
  have hA : ∀ y ∈ rs.take i, cmp (key y) (key x) < 0 := fun y hy => by
    obtain ⟨k, hk⟩ := List.mem_iff_getElem?.1 hy
    rw [List.getElem?_take] at hk
    split at hk
    · rename_i hki; exact h.ahead k y hki hk
    · cases hk
  have hB : ∀ y ∈ rs.drop i, cmp (key x) (key y) < 0 := fun y hy => by
    obtain ⟨k, hk⟩ := List.mem_iff_getElem?.1 hy
    rw [List.getElem?_drop] at hk
    have h1 := h.behind (i + k) y (by omega) hk
    have h2 : cmp (key y) (key x) ≠ 0 := fun e => hn ⟨y, List.mem_of_getElem? hk, ho.zero.1 e⟩
    rw [ho.flip]; omega
  refine List.pairwise_append.2 ⟨List.Pairwise.sublist (List.take_sublist _ _) hu, List.pairwise_cons.2 ⟨hB, List.Pairwise.sublist (List.drop_sublist _ _) hu⟩, fun y hy z hz => ?_⟩
  rcases List.mem_cons.1 hz with rfl | hz
  · exact hA y hy
  · exact ho.trans (hA y hy) (hB z hz)
/-- No two rows have the same key. -/
theorem UpG.one {rs : List ρ} (ho : OrdK cmp) (hu : UpG cmp key rs) {i j : Nat} {x y : ρ} (hi : rs[i]? = some x) (hj : rs[j]? = some y) (he : key x = key y) : i = j := by
  rcases Nat.lt_trichotomy i j with h | h | h
  · have := hu.at hi hj h; rw [he, ho.zero.2 rfl] at this; omega
  · exact h
  · have := hu.at hj hi h; rw [he, ho.zero.2 rfl] at this; omega
end
/-- The cells of rows. -/
def cellsG {ρ : Type} (c : ρ → List Value) (rs : List ρ) : List Value := rs.flatMap c
theorem cellsG_len {ρ : Type} {c : ρ → List Value} {n : Nat} (hc : ∀ x, (c x).length = n) : ∀ rs : List ρ, (cellsG c rs).length = rs.length * n
  | [] => by simp [cellsG]
  | x :: rs => by
    have := cellsG_len hc rs
    simp only [cellsG, List.flatMap_cons, List.length_append, List.length_cons] at this ⊢
    rw [this, hc, Nat.succ_mul]; omega
theorem cellsG_take {ρ : Type} {c : ρ → List Value} {n : Nat} (hc : ∀ x, (c x).length = n) : ∀ (rs : List ρ) (i : Nat), (cellsG c rs).take (i * n) = cellsG c (rs.take i)
  | [], i => by simp [cellsG]
  | _ :: _, 0 => by simp [cellsG]
  | x :: rs, i + 1 => by
    have := cellsG_take hc rs i
    simp only [cellsG, List.flatMap_cons, List.take_succ_cons] at this ⊢
    rw [show (i + 1) * n = (c x).length + i * n by rw [hc, Nat.succ_mul]; omega, List.take_append, List.take_of_length_le (by omega), show (c x).length + i * n - (c x).length = i * n by omega, this]
theorem cellsG_drop {ρ : Type} {c : ρ → List Value} {n : Nat} (hc : ∀ x, (c x).length = n) : ∀ (rs : List ρ) (i : Nat), (cellsG c rs).drop (i * n) = cellsG c (rs.drop i)
  | [], i => by simp [cellsG]
  | _ :: _, 0 => by simp [cellsG]
  | x :: rs, i + 1 => by
    have := cellsG_drop hc rs i
    simp only [cellsG, List.flatMap_cons, List.drop_succ_cons] at this ⊢
    rw [show (i + 1) * n = (c x).length + i * n by rw [hc, Nat.succ_mul]; omega, List.drop_append, List.drop_of_length_le (by omega), show (c x).length + i * n - (c x).length = i * n by omega, this]; simp
theorem cellsG_ins {ρ : Type} {c : ρ → List Value} {n : Nat} (hc : ∀ x, (c x).length = n) (rs : List ρ) (i : Nat) (x : ρ) : (cellsG c rs).take (i * n) ++ c x ++ (cellsG c rs).drop (i * n) = cellsG c (insG rs i x) := by
  rw [cellsG_take hc, cellsG_drop hc]; simp [cellsG, insG, List.flatMap_append]
end Go.Proofs.YtodhhjlemmmjcaaGreat
