/-
  Who waits for itself: plain facts on lists of resources.
-/
import Derived.Test.YtmgpjbhhlbjahaaMem
namespace Go.Proofs.Ytmgpjbhhlbjahaa

/-- The place of the first resource with an ID. -/
def placeL (l : List Resd) (a : IDd) : Option Nat := l.findIdx? (fun x => decide (x.id.kind = a.kind ∧ x.id.name = a.name))
/-- The resource at k waits for the one at j. -/
def Edge (l : List Resd) (k j : Nat) : Prop := ∃ x a, l[k]? = some x ∧ a ∈ x.after ∧ placeL l a = some j
/-- From i one comes to j, by so many steps as it takes. -/
inductive Comes (l : List Resd) (i : Nat) : Nat → Prop
  | here : Comes l i i
  | step {k j : Nat} : Comes l i k → Edge l k j → Comes l i j
/-- The resource at i waits for itself. -/
def Circ (l : List Resd) (i : Nat) : Prop := ∃ k, Comes l i k ∧ Edge l k i

/-- What holds of i and goes over each step holds of all that one comes to. -/
theorem Comes.closed {l : List Resd} {i : Nat} {S : Nat → Prop} (h0 : S i) (hs : ∀ k j, S k → Edge l k j → S j) {j : Nat} (h : Comes l i j) : S j := by
  induction h with
  | here => exact h0
  | step _ e ih => exact hs _ _ ih e

/-- How many are marked. -/
def marks (r : List Bool) : Nat := r.countP (· == true)
theorem marks_le (r : List Bool) : marks r ≤ r.length := List.countP_le_length
/-- More marks than before, none lost. -/
def MoreM (r r' : List Bool) : Prop := r'.length = r.length ∧ ∀ k : Nat, r[k]? = some true → r'[k]? = some true
theorem MoreM.refl (r : List Bool) : MoreM r r := ⟨rfl, fun _ h => h⟩
theorem MoreM.trans {r r' r'' : List Bool} (h : MoreM r r') (h' : MoreM r' r'') : MoreM r r'' := ⟨h'.1.trans h.1, fun k hk => h'.2 k (h.2 k hk)⟩
theorem MoreM.set (r : List Bool) (j : Nat) : MoreM r (r.set j true) := by
  refine ⟨List.length_set .., fun k hk => ?_⟩
  have hlt := (List.getElem?_eq_some_iff.1 hk).1
  rw [List.getElem?_set]
  split
  · rename_i h; subst h; rw [if_pos hlt]
  · exact hk

theorem marks_cons (b : Bool) (r : List Bool) : marks (b :: r) = marks r + (if b = true then 1 else 0) := by
  simp [marks, List.countP_cons]
theorem MoreM.marks_le : ∀ {r r' : List Bool}, MoreM r r' → marks r ≤ marks r'
  | [], r', h => Nat.zero_le _
  | b :: r, [], h => by cases h.1
  | b :: r, b' :: r', h => by
    have h1 : MoreM r r' := ⟨by simpa using h.1, fun k hk => by simpa using h.2 (k + 1) (by simpa using hk)⟩
    have h2 : b = true → b' = true := fun hb => by simpa using h.2 0 (by simpa using hb)
    have := MoreM.marks_le h1
    rw [marks_cons, marks_cons]
    cases b <;> cases b' <;> simp_all <;> omega
theorem MoreM.same : ∀ {r r' : List Bool}, MoreM r r' → marks r' ≤ marks r → r' = r
  | [], r', h, _ => List.eq_nil_of_length_eq_zero h.1
  | b :: r, [], h, _ => by cases h.1
  | b :: r, b' :: r', h, hm => by
    have h1 : MoreM r r' := ⟨by simpa using h.1, fun k hk => by simpa using h.2 (k + 1) (by simpa using hk)⟩
    have h2 : b = true → b' = true := fun hb => by simpa using h.2 0 (by simpa using hb)
    have h3 := MoreM.marks_le h1
    rw [marks_cons, marks_cons] at hm
    have h4 : b' = b := by cases b <;> cases b' <;> simp_all <;> omega
    subst h4
    rw [MoreM.same h1 (by omega)]

/-- What is marked is closed, and the mark of i itself is seen. -/
def ClosedQ (l : List Resd) (i : Nat) (r : List Bool) (q : Bool) : Prop := ∀ k j, r[k]? = some true → Edge l k j → r[j]? = some true ∧ (j = i → q = true)
/-- Ahead of a round: what is marked one comes to; it is closed, or there are many marks. -/
structure Rounds (l : List Resd) (i n : Nat) (r : List Bool) (q : Bool) : Prop where
  len : r.length = l.length
  start : r[i]? = some true
  sound : ∀ k : Nat, r[k]? = some true → Comes l i k
  told : q = true → Circ l i
  grows : ClosedQ l i r q ∨ n + 1 ≤ marks r
theorem closed_comes {l : List Resd} {i : Nat} {r : List Bool} {q : Bool} (hs : r[i]? = some true) (hc : ClosedQ l i r q) {k : Nat} (h : Comes l i k) : r[k]? = some true :=
  h.closed (S := fun k => r[k]? = some true) hs fun k j hk he => (hc k j hk he).1
/-- A round: each step from what was marked ahead is taken. -/
theorem Rounds.step {l : List Resd} {i n : Nat} {r r' : List Bool} {q q' : Bool} (h : Rounds l i n r q) (hm : MoreM r r') (hs : ∀ k : Nat, r'[k]? = some true → Comes l i k) (ht : q' = true → Circ l i)
    (ha : ∀ k j : Nat, r[k]? = some true → Edge l k j → r'[j]? = some true ∧ (j = i → q' = true)) : Rounds l i (n + 1) r' q' := by
  have key : r' = r → ClosedQ l i r' q' := by rintro rfl; exact ha
  refine ⟨hm.1.trans h.len, hm.2 i h.start, hs, ht, ?_⟩
  rcases h.grows with hc | hn
  · refine .inl (key (hm.same (MoreM.marks_le ⟨hm.1.symm, fun k hk => closed_comes h.start hc (hs k hk)⟩)))
  · by_cases hmm : marks r' ≤ marks r
    · exact .inl (key (hm.same hmm))
    · exact .inr (by omega)
/-- Behind all rounds. -/
theorem Rounds.done {l : List Resd} {i : Nat} {r : List Bool} {q : Bool} (h : Rounds l i (l.length + 1) r q) : q = true ↔ Circ l i := by
  refine ⟨h.told, fun ⟨k, hk, he⟩ => ?_⟩
  have hc : ClosedQ l i r q := by
    rcases h.grows with hc | hn
    · exact hc
    · have := marks_le r; rw [h.len] at this; omega
  exact (hc k i (closed_comes h.start hc hk) he).2 rfl

/-- The same by IDs: who has the ID a waits for b. -/
def IdEdge (l : List Resd) (a b : IDd) : Prop := ∃ k y, placeL l a = some k ∧ l[k]? = some y ∧ b ∈ y.after
inductive IdComes (l : List Resd) (a : IDd) : IDd → Prop
  | here : IdComes l a a
  | step {b c : IDd} : IdComes l a b → IdEdge l b c → IdComes l a c
theorem IdComes.closed {l : List Resd} {a : IDd} {S : IDd → Prop} (h0 : S a) (hs : ∀ b c, S b → IdEdge l b c → S c) {b : IDd} (h : IdComes l a b) : S b := by
  induction h with
  | here => exact h0
  | step _ e ih => exact hs _ _ ih e
end Go.Proofs.Ytmgpjbhhlbjahaa
