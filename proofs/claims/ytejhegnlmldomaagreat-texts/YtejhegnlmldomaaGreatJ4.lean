/-
  Memory of our own: which blocks a part of the program may have turned; copy, and stores of four cells and of two into a row.
-/
/-
  Who waits for itself: plain facts on lists of resources.
-/
/-
  Keys in their order, and what was met while one looks who waits for itself: plain facts.
-/
/-
  Rows in the order of their keys: plain facts, for keys and rows of any kind.
-/
import Derived.Test.YtejhegnlmldomaaGreatJ2
import Derived.Laws.CopyRow
import Derived.Laws.MakeOwn
import Derived.Test.YtejhegnlmldomaaGreatJ1
namespace Go.Proofs.YtejhegnlmldomaaGreat
open Go.RowKit

/-- Of the blocks that were there those alone may have turned of which D speaks. -/
structure Kept (D : Nat → Prop) (w w' : World) : Prop where
  os : w'.os = w.os
  tape : w'.tape = w.tape
  output : w'.output = w.output
  size : w.heap.size ≤ w'.heap.size
  block : ∀ k, k < w.heap.size → ¬ D k → w'.heap[k]? = w.heap[k]?
theorem Kept.refl (D : Nat → Prop) (w : World) : Kept D w w := ⟨rfl, rfl, rfl, Nat.le_refl _, fun _ _ _ => rfl⟩
theorem Kept.mono {D D' : Nat → Prop} {w w' : World} (h : Kept D w w') (hd : ∀ k, k < w.heap.size → D k → D' k) : Kept D' w w' :=
  ⟨h.os, h.tape, h.output, h.size, fun k hk hn => h.block k hk fun hD => hn (hd k hk hD)⟩
theorem Kept.trans {D D' : Nat → Prop} {a b c : World} (h : Kept D a b) (g : Kept D' b c) (hd : ∀ k, k < a.heap.size → D' k → D k) : Kept D a c :=
  ⟨g.os.trans h.os, g.tape.trans h.tape, g.output.trans h.output, Nat.le_trans h.size g.size, fun k hk hn => (g.block k (Nat.lt_of_lt_of_le hk h.size) fun hD => hn (hd k hk hD)).trans (h.block k hk hn)⟩
theorem Ext.kept {w w' : World} (h : Ext w w') (D : Nat → Prop) : Kept D w w' := ⟨Below.os h, Below.tape h, Below.output h, Ext.size h, fun k hk _ => Below.block h k hk⟩
theorem Kept.ext {D : Nat → Prop} {w w' : World} (h : Kept D w w') (hd : ∀ k, k < w.heap.size → ¬ D k) : Ext w w' := ⟨h.os, h.tape, h.output, h.size, fun k hk => h.block k hk (hd k hk)⟩
/-- What was there in w0 is as it was, if only what was made since has turned. -/
theorem Ext.since {D : Nat → Prop} {w0 w w' : World} (h : Ext w0 w) (k : Kept D w w') (hd : ∀ j, D j → w0.heap.size ≤ j) : Ext w0 w' :=
  ⟨k.os.trans (Below.os h), k.tape.trans (Below.tape h), k.output.trans (Below.output h), Nat.le_trans (Ext.size h) k.size, fun j hj => (k.block j (Nat.lt_of_lt_of_le hj (Ext.size h)) fun hD => by have := hd j hD; omega).trans (Below.block h j hj)⟩
theorem Kept.cell {D : Nat → Prop} {w w' : World} (h : Kept D w w') {p : Addr} {v : Value} (hv : w.cell? p = some v) (hn : ¬ D p.block) : w'.cell? p = some v := by
  rw [World.cell?_of_block (h.block _ (World.block_lt_of_cell? w p hv) hn)]; exact hv
theorem Kept.heap {D : Nat → Prop} {w w' : World} (h : Kept D w w') {k : Nat} {o : Obj} (hv : w.heap[k]? = some o) (hn : ¬ D k) : w'.heap[k]? = some o := by
  rw [h.block _ (Array.getElem?_eq_some_iff.1 hv).1 hn]; exact hv
theorem ext_heap {w w' : World} {k : Nat} {o : Obj} (h : Ext w w') (hk : w.heap[k]? = some o) : w'.heap[k]? = some o := by
  rw [Below.block h _ (Array.getElem?_eq_some_iff.1 hk).1]; exact hk
theorem kept_setCell (w : World) (p : Addr) (v : Value) : Kept (· = p.block) w (w.setCell p v) :=
  ⟨rfl, rfl, rfl, by simp [World.setCell], fun k _ hk => Below.heap_setCell _ _ _ _ hk⟩
theorem kept_setRow (w : World) (g : Nat) (cs : Array Value) : Kept (· = g) w (w.setRow g cs) :=
  ⟨rfl, rfl, rfl, by simp [World.setRow], fun k _ hk => setRow_other w g k cs hk⟩

/-! copy of elements of some cells -/
theorem run_copy_rows {P : Program} (w : World) (dT sT ty elem : TypeId) (g dLen dCap : Nat) (a : Addr) (sLen sCap sz : Nat) (cur : Array Value) (t : TypeId) (cs : List Value)
    (hu : P.underlying dT = some (.slice elem)) (hs : (P.info? elem).map (·.size) = some sz)
    (hg : w.heap[g]? = some (.cells cur t (0, 0))) (hn : cs.length = Nat.min sLen dLen * sz)
    (hsrc : ∀ j v, cs[j]? = some v → w.cell? (a.add j) = some v) (hfit : cs.length ≤ cur.size) (h1 : ∀ v ∈ cs, v.oneCell' = true) :
    (Builtin.copy_ #[dT, sT] ty #[.slice (some ⟨g, 0, none⟩) dLen dCap, .slice (some a) sLen sCap]).run P w =
      .ok (goInt (Nat.min sLen dLen)) (w.setRow g (cs ++ cur.toList.drop cs.length).toArray) := by
  have hl := run_loadCells_list (P := P) w a cs hsrc
  have hst := run_storeCells_at P g 0 t cs 0 cur w hg (by simpa using hfit) h1
  simp only [Nat.zero_add, List.take_zero, List.nil_append, Nat.add_zero] at hst
  cases hq : P.info? elem with
  | none => simp [hq] at hs
  | some i =>
    have hi : i.size = sz := by simpa [hq] using hs
    simp [Builtin.copy_, run_underlying hu, Builtin.lenOf, Builtin.firstCells, sizeOf, typeInfo, hq, hi, ← hn, hl, hst]
theorem run_copy_rows_none {P : Program} (w : World) (dT sT ty elem : TypeId) (g : Addr) (dLen dCap : Nat) (a : Option Addr) (sCap sz : Nat)
    (hu : P.underlying dT = some (.slice elem)) (hs : (P.info? elem).map (·.size) = some sz) :
    (Builtin.copy_ #[dT, sT] ty #[.slice (some g) dLen dCap, .slice a 0 sCap]).run P w = .ok (goInt 0) w := by
  cases hq : P.info? elem with
  | none => simp [hq] at hs
  | some i =>
    cases a with
    | none => simp [Builtin.copy_, run_underlying hu, Builtin.lenOf, Builtin.firstCells, sizeOf, typeInfo, hq, storeCells]
    | some a =>
      have h0 := run_loadCells_list (P := P) w a [] (by simp)
      simp at h0
      simp [Builtin.copy_, run_underlying hu, Builtin.lenOf, Builtin.firstCells, sizeOf, typeInfo, hq, storeCells, h0]

/-- copy, at an operation of a plain region: the row holds what was copied, then what it held; all else is as it was. -/
theorem wpList_copy_rows {P : Program} {w : World} {ops : Array Oper} {rest : List Oper} {o : Oper} {a : Act} {Q : Exit → Act → World → Prop} (hgd : o.guard = none) (d s : Operand) (dT sT : TypeId)
    (ho : o.op = .call { callee := .builtin .copy, args := #[d, s], argTypes := #[dT, sT] }) (elem : TypeId) (sz : Nat) (hu : P.underlying dT = some (.slice elem)) (hsz : (P.info? elem).map (·.size) = some sz)
    (g dLen dCap : Nat) (sp : Option Addr) (sLen sCap : Nat) (hd : a.eval d = .slice (some ⟨g, 0, none⟩) dLen dCap) (hs : a.eval s = .slice sp sLen sCap) (hle : sLen ≤ dLen)
    (cur : List Value) (t : TypeId) (hg : w.heap[g]? = some (.cells cur.toArray t (0, 0))) (cs : List Value) (hn : cs.length = sLen * sz)
    (hsrc : sLen = 0 ∨ ∃ b off, sp = some ⟨b, off, none⟩ ∧ ∀ j v, cs[j]? = some v → w.cell? ⟨b, off + j, none⟩ = some v) (hfit : cs.length ≤ cur.length) (h1 : ∀ v ∈ cs, v.oneCell' = true)
    (h : ∀ w', w'.heap[g]? = some (.cells (cs ++ cur.drop cs.length).toArray t (0, 0)) → Kept (· = g) w w' → w'.heap.size = w.heap.size → wpList P ops Q rest (a.put o.dst (goInt sLen)) w') :
    wpList P ops Q (o :: rest) a w := by
  refine wpList_plain hgd fun K hK => ?_
  by_cases h0 : sLen = 0
  · subst h0
    have hc : cs = [] := List.eq_nil_of_length_eq_zero (by simpa using hn)
    have hrun := run_copy_rows_none (P := P) w dT sT o.type elem ⟨g, 0, none⟩ dLen dCap sp sCap sz hu hsz
    unfold Oper.wp
    simp [execOp, ho, resolve, invoke, builtin, hd, hs, hrun, Result.andThen]
    exact hK _ _ (h w (by rw [hc]; simpa using hg) (Kept.refl _ _) rfl)
  · obtain ⟨b, off, rfl, hsr⟩ := hsrc.resolve_left h0
    have hmin : Nat.min sLen dLen = sLen := Nat.min_eq_left hle
    have hrun := run_copy_rows (P := P) w dT sT o.type elem g dLen dCap ⟨b, off, none⟩ sLen sCap sz cur.toArray t cs hu hsz hg (by rw [hmin]; exact hn) (by
      intro j v hj
      have e : (⟨b, off, none⟩ : Addr).add j = ⟨b, off + j, none⟩ := by unfold Addr.add; split <;> simp_all
      rw [e]; exact hsr j v hj) (by simpa using hfit) h1
    rw [hmin] at hrun
    unfold Oper.wp
    simp [execOp, ho, resolve, invoke, builtin, hd, hs, hrun, Result.andThen]
    refine hK _ _ (h _ ?_ (kept_setRow _ _ _) (by simp [World.setRow]))
    have := setRow_heap w g cur.toArray (cs ++ cur.drop cs.length).toArray t (0, 0) hg
    simpa using this
end Go.Proofs.YtejhegnlmldomaaGreat

namespace Go.Proofs.YtejhegnlmldomaaGreat

/-- The place of the first resource with an ID. -/
def placeL (l : List Resd) (a : IDd) : Option Nat := l.findIdx? (fun x => decide (x.id.kind = a.kind ∧ x.id.name = a.name))
/-- The resource at k waits for the one at j. -/
def Edge (l : List Resd) (k j : Nat) : Prop := ∃ x a, l[k]? = some x ∧ a ∈ x.after ∧ placeL l a = some j
/-- From i one comes to j, by so many steps as it takes. -/
inductive Comes (l : List Resd) (i : Nat) : Nat → Prop
  | here : Comes l i i
  | step {k j : Nat} : Comes l i k → Edge l k j → Comes l i j
/-- The resource at i waits for itself. -/
def Circ (l : List Resd) (i : Nat) : Prop := ∃ k, Comes l i k ∧ Edge l k i

theorem place_lt {l : List Resd} {a : IDd} {j : Nat} (h : placeL l a = some j) : j < l.length := by
  unfold placeL at h
  exact (List.findIdx?_eq_some_iff_getElem.1 h).1
theorem place_id {l : List Resd} {a : IDd} {j : Nat} (h : placeL l a = some j) : ∃ x, l[j]? = some x ∧ x.id = a := by
  unfold placeL at h
  obtain ⟨h1, h2, _⟩ := List.findIdx?_eq_some_iff_getElem.1 h
  obtain ⟨h3, h4⟩ := of_decide_eq_true h2
  refine ⟨l[j], List.getElem?_eq_getElem h1, ?_⟩
  cases hx : l[j].id; cases a; simp_all
theorem edge_lt {l : List Resd} {k j : Nat} (h : Edge l k j) : j < l.length := by
  obtain ⟨_, _, _, _, h⟩ := h; exact place_lt h
theorem edge_lt' {l : List Resd} {k j : Nat} (h : Edge l k j) : k < l.length := by
  obtain ⟨_, _, h, _, _⟩ := h; exact (List.getElem?_eq_some_iff.1 h).1

/-- What holds of i and goes over each step holds of all that one comes to. -/
theorem Comes.closed {l : List Resd} {i : Nat} {S : Nat → Prop} (h0 : S i) (hs : ∀ k j, S k → Edge l k j → S j) {j : Nat} (h : Comes l i j) : S j := by
  induction h with
  | here => exact h0
  | step _ e ih => exact hs _ _ ih e

/-- How many are marked. -/
def marks (r : List Bool) : Nat := r.countP (· == true)
theorem marks_le (r : List Bool) : marks r ≤ r.length := List.countP_le_length
theorem marks_set {r : List Bool} {j : Nat} (h : r[j]? = some false) : marks (r.set j true) = marks r + 1 := by
  induction r generalizing j with
  | nil => cases h
  | cons b r ih =>
    cases j with
    | zero =>
      obtain rfl : b = false := by simpa using h
      simp [marks]
    | succ j =>
      have := ih (j := j) (by simpa using h)
      simp only [List.set_cons_succ, marks, List.countP_cons] at *
      omega
theorem marks_set_same {r : List Bool} {j : Nat} (h : r[j]? = some true) : r.set j true = r := by
  obtain ⟨hj, h⟩ := List.getElem?_eq_some_iff.1 h
  rw [← h]; exact List.set_getElem_self hj

/-- The marks are closed under the steps. -/
def ClosedM (l : List Resd) (r : List Bool) : Prop := ∀ k j, r[k]? = some true → Edge l k j → r[j]? = some true
/-- More marks than before, none lost. -/
def MoreM (r r' : List Bool) : Prop := r'.length = r.length ∧ ∀ k : Nat, r[k]? = some true → r'[k]? = some true
theorem MoreM.refl (r : List Bool) : MoreM r r := ⟨rfl, fun _ h => h⟩
theorem MoreM.trans {r r' r'' : List Bool} (h : MoreM r r') (h' : MoreM r' r'') : MoreM r r'' := ⟨h'.1.trans h.1, fun k hk => h'.2 k (h.2 k hk)⟩
theorem MoreM.set (r : List Bool) (j : Nat) : MoreM r (r.set j true) := by
  refine ⟨List.length_set .., fun k hk => ?_⟩
  have hlt := (List.getElem?_eq_some_iff.1 hk).1
  rw [List.getElem?_set]
  split
  · rename_i h; subst h; rw [if_pos hlt]
  · exact hk

theorem marks_cons (b : Bool) (r : List Bool) : marks (b :: r) = marks r + (if b = true then 1 else 0) := by
  simp [marks, List.countP_cons]
theorem MoreM.marks_le : ∀ {r r' : List Bool}, MoreM r r' → marks r ≤ marks r'
  | [], r', h => Nat.zero_le _
  | b :: r, [], h => by cases h.1
  | b :: r, b' :: r', h => by
    have h1 : MoreM r r' := ⟨by simpa using h.1, fun k hk => by simpa using h.2 (k + 1) (by simpa using hk)⟩
    have h2 : b = true → b' = true := fun hb => by simpa using h.2 0 (by simpa using hb)
    have := MoreM.marks_le h1
    rw [marks_cons, marks_cons]
    cases b <;> cases b' <;> simp_all <;> omega
theorem MoreM.same : ∀ {r r' : List Bool}, MoreM r r' → marks r' ≤ marks r → r' = r
  | [], r', h, _ => List.eq_nil_of_length_eq_zero h.1
  | b :: r, [], h, _ => by cases h.1
  | b :: r, b' :: r', h, hm => by
    have h1 : MoreM r r' := ⟨by simpa using h.1, fun k hk => by simpa using h.2 (k + 1) (by simpa using hk)⟩
    have h2 : b = true → b' = true := fun hb => by simpa using h.2 0 (by simpa using hb)
    have h3 := MoreM.marks_le h1
    rw [marks_cons, marks_cons] at hm
    have h4 : b' = b := by cases b <;> cases b' <;> simp_all <;> omega
    subst h4
    rw [MoreM.same h1 (by omega)]

/-- What is marked is closed, and the mark of i itself is seen. -/
def ClosedQ (l : List Resd) (i : Nat) (r : List Bool) (q : Bool) : Prop := ∀ k j, r[k]? = some true → Edge l k j → r[j]? = some true ∧ (j = i → q = true)
/-- Ahead of a round: what is marked one comes to; it is closed, or there are many marks. -/
structure Rounds (l : List Resd) (i n : Nat) (r : List Bool) (q : Bool) : Prop where
  len : r.length = l.length
  start : r[i]? = some true
  sound : ∀ k : Nat, r[k]? = some true → Comes l i k
  told : q = true → Circ l i
  grows : ClosedQ l i r q ∨ n + 1 ≤ marks r
theorem closed_comes {l : List Resd} {i : Nat} {r : List Bool} {q : Bool} (hs : r[i]? = some true) (hc : ClosedQ l i r q) {k : Nat} (h : Comes l i k) : r[k]? = some true :=
  h.closed (S := fun k => r[k]? = some true) hs fun k j hk he => (hc k j hk he).1
/-- A round: each step from what was marked ahead is taken. -/
theorem Rounds.step {l : List Resd} {i n : Nat} {r r' : List Bool} {q q' : Bool} (h : Rounds l i n r q) (hm : MoreM r r') (hs : ∀ k : Nat, r'[k]? = some true → Comes l i k) (ht : q' = true → Circ l i)
    (ha : ∀ k j : Nat, r[k]? = some true → Edge l k j → r'[j]? = some true ∧ (j = i → q' = true)) : Rounds l i (n + 1) r' q' := by
  have key : r' = r → ClosedQ l i r' q' := by rintro rfl; exact ha
  refine ⟨hm.1.trans h.len, hm.2 i h.start, hs, ht, ?_⟩
  rcases h.grows with hc | hn
  · refine .inl (key (hm.same (MoreM.marks_le ⟨hm.1.symm, fun k hk => closed_comes h.start hc (hs k hk)⟩)))
  · by_cases hmm : marks r' ≤ marks r
    · exact .inl (key (hm.same hmm))
    · exact .inr (by omega)
/-- Behind all rounds. -/
theorem Rounds.done {l : List Resd} {i : Nat} {r : List Bool} {q : Bool} (h : Rounds l i (l.length + 1) r q) : q = true ↔ Circ l i := by
  refine ⟨h.told, fun ⟨k, hk, he⟩ => ?_⟩
  have hc : ClosedQ l i r q := by
    rcases h.grows with hc | hn
    · exact hc
    · have := marks_le r; rw [h.len] at this; omega
  exact (hc k i (closed_comes h.start hc hk) he).2 rfl

/-- The same by IDs: who has the ID a waits for b. -/
def IdEdge (l : List Resd) (a b : IDd) : Prop := ∃ k y, placeL l a = some k ∧ l[k]? = some y ∧ b ∈ y.after
inductive IdComes (l : List Resd) (a : IDd) : IDd → Prop
  | here : IdComes l a a
  | step {b c : IDd} : IdComes l a b → IdEdge l b c → IdComes l a c
def IdCirc (l : List Resd) (a : IDd) : Prop := ∃ b, IdComes l a b ∧ IdEdge l b a
theorem IdComes.closed {l : List Resd} {a : IDd} {S : IDd → Prop} (h0 : S a) (hs : ∀ b c, S b → IdEdge l b c → S c) {b : IDd} (h : IdComes l a b) : S b := by
  induction h with
  | here => exact h0
  | step _ e ih => exact hs _ _ ih e
/-- No two have the same ID. -/
def Apart (l : List Resd) : Prop := ∀ (i j : Nat) x y, l[i]? = some x → l[j]? = some y → x.id = y.id → i = j
theorem place_self {l : List Resd} (hd : Apart l) {i : Nat} {x : Resd} (hx : l[i]? = some x) : placeL l x.id = some i := by
  obtain ⟨hi, hxi⟩ := List.getElem?_eq_some_iff.1 hx
  refine List.findIdx?_eq_some_iff_getElem.2 ⟨hi, by rw [hxi]; simp, fun j hj => ?_⟩
  simp only [decide_eq_true_eq, not_and]
  intro h1 h2
  have := hd j i l[j] x (List.getElem?_eq_getElem (by omega)) hx (by
    cases hl : l[j].id; cases hx2 : x.id; simp_all)
  omega
theorem circ_iff {l : List Resd} (hd : Apart l) {i : Nat} {x : Resd} (hx : l[i]? = some x) : IdCirc l x.id ↔ Circ l i := by
  constructor
  · rintro ⟨b, hb, k, y, h1, h2, h3⟩
    have key : ∀ c, IdComes l x.id c → ∀ k, placeL l c = some k → Comes l i k := by
      intro c hc
      induction hc with
      | here =>
        intro k hk
        obtain rfl : i = k := by simpa using (place_self hd hx).symm.trans hk
        exact .here
      | step _ e ih =>
        intro j hj
        obtain ⟨k, y, h1, h2, h3⟩ := e
        exact (ih k h1).step ⟨y, _, h2, h3, hj⟩
    exact ⟨k, key b hb k h1, y, x.id, h2, h3, place_self hd hx⟩
  · rintro ⟨k, hk, y, a, h1, h2, h3⟩
    have key : ∀ k, Comes l i k → ∀ y, l[k]? = some y → IdComes l x.id y.id := by
      intro k hk
      induction hk with
      | here =>
        intro y hy
        obtain rfl : x = y := by simpa using hx.symm.trans hy
        exact .here
      | step _ e ih =>
        intro z hz
        obtain ⟨y, a, h1, h2, h3⟩ := e
        obtain ⟨z', hz', rfl⟩ := place_id h3
        obtain rfl : z = z' := by simpa using hz.symm.trans hz'
        exact (ih y h1).step ⟨_, y, place_self hd h1, h1, h2⟩
    obtain ⟨x', hx', rfl⟩ := place_id h3
    obtain rfl : x = x' := by simpa using hx.symm.trans hx'
    exact ⟨y.id, key k hk y h1, _, y, place_self hd h1, h1, h2⟩
/-- What was met: each is met or is still to be done. -/
theorem waits_no {l : List Resd} {a : IDd} {M : IDd → Prop} (h0 : ∀ c, IdEdge l a c → M c) (hs : ∀ b c, M b → IdEdge l b c → M c) (hn : ¬ M a) : ¬ IdCirc l a := by
  rintro ⟨b, hb, he⟩
  have : b = a ∨ M b := hb.closed (S := fun b => b = a ∨ M b) (.inl rfl) (by
    rintro b c (rfl | h) he
    · exact .inr (h0 c he)
    · exact .inr (hs b c h he))
  rcases this with rfl | h
  · exact hn (h0 _ he)
  · exact hn (hs _ _ h he)
end Go.Proofs.YtejhegnlmldomaaGreat

namespace Go.Proofs.YtejhegnlmldomaaGreat
open Go.RowKit

theorem cmpB_trans : ∀ {a b c : List UInt8}, Lib.compareBytes a b < 0 → Lib.compareBytes b c < 0 → Lib.compareBytes a c < 0
  | [], [], _, _, h' => h'
  | [], _ :: _, [], _, h' => by simp [Lib.compareBytes] at h'
  | [], _ :: _, _ :: _, _, _ => by simp [Lib.compareBytes]
  | _ :: _, [], _, h, _ => by simp [Lib.compareBytes] at h
  | _ :: _, _ :: _, [], _, h' => by simp [Lib.compareBytes] at h'
  | a :: x, b :: y, c :: z, h, h' => by
    have ih := @cmpB_trans x y z
    simp only [Lib.compareBytes, UInt8.lt_iff_toNat_lt] at h h' ⊢
    by_cases h1 : a.toNat < b.toNat
    · have h2 : ¬ c.toNat < b.toNat := by
        intro hc
        rw [if_neg (by omega), if_pos hc] at h'
        omega
      rw [if_pos (by omega)]; decide
    · by_cases h2 : b.toNat < a.toNat
      · rw [if_neg h1, if_pos h2] at h
        omega
      · rw [if_neg h1, if_neg h2] at h
        by_cases h3 : b.toNat < c.toNat
        · rw [if_pos (by omega)]; decide
        · by_cases h4 : c.toNat < b.toNat
          · rw [if_neg h3, if_pos h4] at h'
            omega
          · rw [if_neg h3, if_neg h4] at h'
            rw [if_neg (by omega), if_neg (by omega)]
            exact ih h h'
theorem cmpB_flip : ∀ a b : List UInt8, Lib.compareBytes a b = - Lib.compareBytes b a
  | [], [] => rfl
  | [], _ :: _ => rfl
  | _ :: _, [] => rfl
  | a :: x, b :: y => by
    have ih := cmpB_flip x y
    simp only [Lib.compareBytes, UInt8.lt_iff_toNat_lt]
    by_cases h1 : a.toNat < b.toNat
    · rw [if_pos h1, if_neg (by omega), if_pos h1]
    · by_cases h2 : b.toNat < a.toNat
      · rw [if_neg h1, if_pos h2, if_pos h2]; rfl
      · rw [if_neg h1, if_neg h2, if_neg h2, if_neg h1]; exact ih
theorem cmpS_flip (a b : ByteArray) : cmpS a b = - cmpS b a := cmpB_flip _ _
theorem cmpS_trans {a b c : ByteArray} (h : cmpS a b < 0) (h' : cmpS b c < 0) : cmpS a c < 0 := cmpB_trans h h'
theorem cmpI_flip (a b : IDd) : cmpI a b = - cmpI b a := by
  unfold cmpI
  rw [cmpS_flip a.kind, cmpS_flip a.name]
  by_cases h : cmpS b.kind a.kind = 0 <;> simp [h]
theorem cmpI_zero {a b : IDd} : cmpI a b = 0 ↔ a = b := by
  unfold cmpI
  constructor
  · intro h
    by_cases e : cmpS a.kind b.kind = 0
    · rw [if_pos e] at h
      have e1 := cmpS_zero.1 e
      have e2 := cmpS_zero.1 h
      cases a; cases b; simp_all
    · rw [if_neg e] at h; exact absurd h e
  · rintro rfl
    rw [if_pos (cmpS_zero.2 rfl)]; exact cmpS_zero.2 rfl
theorem cmpI_trans {a b c : IDd} (h : cmpI a b < 0) (h' : cmpI b c < 0) : cmpI a c < 0 := by
  unfold cmpI at *
  by_cases e1 : cmpS a.kind b.kind = 0
  · rw [if_pos e1] at h
    by_cases e2 : cmpS b.kind c.kind = 0
    · rw [if_pos e2] at h'
      rw [if_pos (cmpS_zero.2 ((cmpS_zero.1 e1).trans (cmpS_zero.1 e2)))]
      exact cmpS_trans h h'
    · rw [if_neg e2] at h'
      rw [cmpS_zero.1 e1, if_neg e2]; exact h'
  · rw [if_neg e1] at h
    by_cases e2 : cmpS b.kind c.kind = 0
    · rw [← cmpS_zero.1 e2, if_neg e1]; exact h
    · rw [if_neg e2] at h'
      have := cmpS_trans h h'
      rw [if_neg (by omega)]; exact this

/-- Keys rise. -/
def Up (ks : List IDd) : Prop := ks.Pairwise fun a b => cmpI a b < 0
theorem Up.at {ks : List IDd} (h : Up ks) {i j : Nat} {x y : IDd} (hi : ks[i]? = some x) (hj : ks[j]? = some y) (hij : i < j) : cmpI x y < 0 := by
  obtain ⟨h1, rfl⟩ := List.getElem?_eq_some_iff.1 hi
  obtain ⟨h2, rfl⟩ := List.getElem?_eq_some_iff.1 hj
  exact List.pairwise_iff_getElem.1 h i j h1 h2 hij
/-- The place where a key stands, or would stand. -/
structure Stands (ks : List IDd) (a : IDd) (i : Nat) : Prop where
  le : i ≤ ks.length
  ahead : ∀ (k : Nat) x, k < i → ks[k]? = some x → cmpI x a < 0
  behind : ∀ (k : Nat) x, i ≤ k → ks[k]? = some x → ¬ cmpI x a < 0
theorem Stands.there {ks : List IDd} {a : IDd} {i : Nat} {x : IDd} (hx : ks[i]? = some x) (h0 : cmpI x a = 0) : a ∈ ks := by
  rw [← cmpI_zero.1 h0]; exact List.mem_of_getElem? hx
theorem Stands.gone {ks : List IDd} {a : IDd} {i : Nat} (h : Stands ks a i) (hu : Up ks) (hn : ∀ x, ks[i]? = some x → cmpI x a ≠ 0) : a ∉ ks := by
  intro hm
  obtain ⟨k, hk⟩ := List.mem_iff_getElem?.1 hm
  have h0 : cmpI a a = 0 := cmpI_zero.2 rfl
  by_cases hki : k < i
  · have := h.ahead k a hki hk; omega
  · by_cases e : k = i
    · subst e; exact hn a hk h0
    · have hlt : i < ks.length := by have := (List.getElem?_eq_some_iff.1 hk).1; omega
      have := hu.at (List.getElem?_eq_getElem hlt) hk (by omega)
      exact h.behind i _ (Nat.le_refl _) (List.getElem?_eq_getElem hlt) this
def insL (ks : List IDd) (i : Nat) (a : IDd) : List IDd := ks.take i ++ a :: ks.drop i
theorem ins_mem {ks : List IDd} {i : Nat} {a b : IDd} : b ∈ insL ks i a ↔ b = a ∨ b ∈ ks := by
  have : b ∈ ks ↔ b ∈ ks.take i ∨ b ∈ ks.drop i := by rw [← List.mem_append, List.take_append_drop]
  simp only [insL, List.mem_append, List.mem_cons, this]
  constructor
  · rintro (h | h | h)
    · exact .inr (.inl h)
    · exact .inl h
    · exact .inr (.inr h)
  · rintro (h | h | h)
    · exact .inr (.inl h)
    · exact .inl h
    · exact .inr (.inr h)
theorem ins_len {ks : List IDd} {i : Nat} {a : IDd} (h : i ≤ ks.length) : (insL ks i a).length = ks.length + 1 := by
  simp [insL]; omega
theorem Up.insert {ks : List IDd} {a : IDd} {i : Nat} (hu : Up ks) (h : Stands ks a i) (hn : a ∉ ks) : Up (insL ks i a) := by
  have hA : ∀ x ∈ ks.take i, cmpI x a < 0 := fun x hx => by
    obtain ⟨k, hk⟩ := List.mem_iff_getElem?.1 hx
    rw [List.getElem?_take] at hk
    split at hk
    · rename_i hki; exact h.ahead k x hki hk
    · cases hk
  have hB : ∀ x ∈ ks.drop i, cmpI a x < 0 := fun x hx => by
    obtain ⟨k, hk⟩ := List.mem_iff_getElem?.1 hx
    rw [List.getElem?_drop] at hk
    have h1 := h.behind (i + k) x (by omega) hk
    have h2 : cmpI x a ≠ 0 := fun e => hn (by rw [← cmpI_zero.1 e]; exact List.mem_of_getElem? hk)
    rw [cmpI_flip]; omega
  refine List.pairwise_append.2 ⟨List.Pairwise.sublist (List.take_sublist _ _) hu, List.pairwise_cons.2 ⟨hB, List.Pairwise.sublist (List.drop_sublist _ _) hu⟩, fun x hx y hy => ?_⟩
  rcases List.mem_cons.1 hy with rfl | hy
  · exact hA x hx
  · exact cmpI_trans (hA x hx) (hB y hy)
theorem len_le_of_sub : ∀ (ks U : List IDd), ks.Pairwise (fun a b => a ≠ b) → (∀ x ∈ ks, x ∈ U) → ks.length ≤ U.length
  | [], _, _, _ => Nat.zero_le _
  | x :: ks, U, hd, hs => by
    obtain ⟨s, t, rfl⟩ := List.append_of_mem (hs x (List.mem_cons_self ..))
    obtain ⟨h1, h2⟩ := List.pairwise_cons.1 hd
    have := len_le_of_sub ks (s ++ t) h2 fun y hy => by
      have := hs y (List.mem_cons_of_mem _ hy)
      rcases List.mem_append.1 this with h | h
      · exact List.mem_append.2 (.inl h)
      · rcases List.mem_cons.1 h with rfl | h
        · exact absurd rfl (h1 _ hy)
        · exact List.mem_append.2 (.inr h)
    simp only [List.length_append, List.length_cons] at *
    omega
theorem Up.few {ks U : List IDd} (hu : Up ks) (hs : ∀ x ∈ ks, x ∈ U) : ks.length ≤ U.length :=
  len_le_of_sub ks U (List.Pairwise.imp (fun {a b} h e => by subst e; rw [cmpI_zero.2 rfl] at h; omega) hu) hs

/-! What was met -/
/-- What the resource of an ID waits for. -/
def afterL (l : List Resd) (a : IDd) : List IDd := match placeL l a with
  | some k => (match l[k]? with
    | some y => y.after
    | none => [])
  | none => []
def allAfter (l : List Resd) : List IDd := l.flatMap (·.after)
theorem after_edge {l : List Resd} {a c : IDd} : c ∈ afterL l a ↔ IdEdge l a c := by
  unfold afterL IdEdge
  constructor
  · intro h
    split at h
    · rename_i k hk
      split at h
      · rename_i y hy; exact ⟨k, y, hk, hy, h⟩
      · simp at h
    · simp at h
  · rintro ⟨k, y, h1, h2, h3⟩
    rw [h1]; simp only [h2]; exact h3
theorem after_all {l : List Resd} {a c : IDd} (h : c ∈ afterL l a) : c ∈ allAfter l := by
  obtain ⟨k, y, _, h2, h3⟩ := after_edge.1 h
  exact List.mem_flatMap.2 ⟨y, List.mem_of_getElem? h2, h3⟩
/-- Between two that are looked at: keys met, and those still to be looked at. -/
structure Met (l : List Resd) (a : IDd) (ks td : List IDd) : Prop where
  up : Up ks
  sub : ∀ b ∈ ks, b ∈ allAfter l
  reach : ∀ b ∈ td, IdComes l a b
  done : ∀ b, b = a ∨ b ∈ ks → b ∈ td ∨ ∀ c ∈ afterL l b, c ∈ ks
  no : a ∉ ks
/-- While the first k of what x waits for were looked at. -/
structure MetI (l : List Resd) (a : IDd) (ks td : List IDd) (x : IDd) (k : Nat) : Prop where
  up : Up ks
  sub : ∀ b ∈ ks, b ∈ allAfter l
  reach : ∀ b ∈ td, IdComes l a b
  here : IdComes l a x
  done : ∀ b, b = a ∨ b ∈ ks → b ∈ td ∨ b = x ∨ ∀ c ∈ afterL l b, c ∈ ks
  got : ∀ (t : Nat) c, t < k → (afterL l x)[t]? = some c → c ∈ ks
  no : a ∉ ks
theorem Met.start (l : List Resd) (a : IDd) : Met l a [] [a] := by
  refine ⟨List.Pairwise.nil, fun b h => (by cases h), fun b h => ?_, fun b h => ?_, (by simp)⟩
  · rw [List.mem_singleton.1 h]; exact .here
  · rcases h with rfl | h
    · exact .inl (List.mem_singleton.2 rfl)
    · cases h
theorem Met.pop {l : List Resd} {a : IDd} {ks td : List IDd} {x : IDd} (h : Met l a ks (td ++ [x])) : MetI l a ks td x 0 := by
  refine ⟨h.up, h.sub, fun b hb => h.reach b (List.mem_append.2 (.inl hb)), h.reach x (List.mem_append.2 (.inr (List.mem_singleton.2 rfl))), fun b hb => ?_, fun t c ht => absurd ht (by omega), h.no⟩
  rcases h.done b hb with h | h
  · rcases List.mem_append.1 h with h | h
    · exact .inl h
    · exact .inr (.inl (List.mem_singleton.1 h))
  · exact .inr (.inr h)
theorem MetI.old {l : List Resd} {a : IDd} {ks td : List IDd} {x c : IDd} {k : Nat} (h : MetI l a ks td x k) (hc : (afterL l x)[k]? = some c) (hm : c ∈ ks) : MetI l a ks td x (k + 1) := by
  refine ⟨h.up, h.sub, h.reach, h.here, h.done, fun t d ht hd => ?_, h.no⟩
  by_cases e : t = k
  · subst e
    obtain rfl : c = d := by simpa using hc.symm.trans hd
    exact hm
  · exact h.got t d (by omega) hd
theorem MetI.new {l : List Resd} {a : IDd} {ks td : List IDd} {x c : IDd} {k i : Nat} (h : MetI l a ks td x k) (hc : (afterL l x)[k]? = some c) (hs : Stands ks c i) (hm : c ∉ ks) (hne : c ≠ a) : MetI l a (insL ks i c) (td ++ [c]) x (k + 1) := by
  have hcm := List.mem_of_getElem? hc
  refine ⟨h.up.insert hs hm, fun b hb => ?_, fun b hb => ?_, h.here, fun b hb => ?_, fun t d ht hd => ?_, fun hb => ?_⟩
  · rcases ins_mem.1 hb with rfl | hb
    · exact after_all hcm
    · exact h.sub b hb
  · rcases List.mem_append.1 hb with hb | hb
    · exact h.reach b hb
    · rw [List.mem_singleton.1 hb]; exact h.here.step (after_edge.1 hcm)
  · have key : b = a ∨ b ∈ ks → b ∈ td ++ [c] ∨ b = x ∨ ∀ d ∈ afterL l b, d ∈ insL ks i c := fun hb => by
      rcases h.done b hb with h | h | h
      · exact .inl (List.mem_append.2 (.inl h))
      · exact .inr (.inl h)
      · exact .inr (.inr fun d hd => ins_mem.2 (.inr (h d hd)))
    rcases hb with hb | hb
    · exact key (.inl hb)
    · rcases ins_mem.1 hb with rfl | hb
      · exact .inl (List.mem_append.2 (.inr (List.mem_singleton.2 rfl)))
      · exact key (.inr hb)
  · by_cases e : t = k
    · subst e
      obtain rfl : c = d := by simpa using hc.symm.trans hd
      exact ins_mem.2 (.inl rfl)
    · exact ins_mem.2 (.inr (h.got t d (by omega) hd))
  · rcases ins_mem.1 hb with rfl | hb
    · exact hne rfl
    · exact h.no hb
theorem MetI.finish {l : List Resd} {a : IDd} {ks td : List IDd} {x : IDd} {k : Nat} (h : MetI l a ks td x k) (hk : (afterL l x).length ≤ k) : Met l a ks td := by
  refine ⟨h.up, h.sub, h.reach, fun b hb => ?_, h.no⟩
  rcases h.done b hb with h1 | rfl | h1
  · exact .inl h1
  · refine .inr fun c hc => ?_
    obtain ⟨t, ht⟩ := List.mem_iff_getElem?.1 hc
    exact h.got t c (by have := (List.getElem?_eq_some_iff.1 ht).1; omega) ht
  · exact .inr h1
theorem MetI.hit {l : List Resd} {a : IDd} {ks td : List IDd} {x : IDd} {k : Nat} (h : MetI l a ks td x k) (hc : (afterL l x)[k]? = some a) : IdCirc l a :=
  ⟨x, h.here, after_edge.1 (List.mem_of_getElem? hc)⟩
theorem Met.finish {l : List Resd} {a : IDd} {ks : List IDd} (h : Met l a ks []) : ¬ IdCirc l a := by
  have hd : ∀ b, b = a ∨ b ∈ ks → ∀ c ∈ afterL l b, c ∈ ks := fun b hb => (h.done b hb).resolve_left (by simp)
  exact waits_no (M := (· ∈ ks)) (fun c hc => hd a (.inl rfl) c (after_edge.2 hc)) (fun b c hb hc => hd b (.inr hb) c (after_edge.2 hc)) h.no
end Go.Proofs.YtejhegnlmldomaaGreat

namespace Go.Proofs.YtejhegnlmldomaaGreat
open Go.RowKit

/-- An order of keys. -/
structure OrdK {κ : Type} (cmp : κ → κ → Int) : Prop where
  zero : ∀ {a b : κ}, cmp a b = 0 ↔ a = b
  flip : ∀ a b : κ, cmp a b = - cmp b a
  trans : ∀ {a b c : κ}, cmp a b < 0 → cmp b c < 0 → cmp a c < 0
section
variable {κ ρ : Type} {cmp : κ → κ → Int} {key : ρ → κ}
/-- Keys rise. -/
def UpG (cmp : κ → κ → Int) (key : ρ → κ) (rs : List ρ) : Prop := rs.Pairwise fun a b => cmp (key a) (key b) < 0
theorem UpG.at {rs : List ρ} (h : UpG cmp key rs) {i j : Nat} {x y : ρ} (hi : rs[i]? = some x) (hj : rs[j]? = some y) (hij : i < j) : cmp (key x) (key y) < 0 := by
  obtain ⟨h1, rfl⟩ := List.getElem?_eq_some_iff.1 hi
  obtain ⟨h2, rfl⟩ := List.getElem?_eq_some_iff.1 hj
  exact List.pairwise_iff_getElem.1 h i j h1 h2 hij
/-- The place where a key stands, or would stand. -/
structure StandsG (cmp : κ → κ → Int) (key : ρ → κ) (rs : List ρ) (a : κ) (i : Nat) : Prop where
  le : i ≤ rs.length
  ahead : ∀ (k : Nat) x, k < i → rs[k]? = some x → cmp (key x) a < 0
  behind : ∀ (k : Nat) x, i ≤ k → rs[k]? = some x → ¬ cmp (key x) a < 0
/-- A key is there. -/
def HasK (key : ρ → κ) (rs : List ρ) (a : κ) : Prop := ∃ x ∈ rs, key x = a
theorem StandsG.there {rs : List ρ} {a : κ} {i : Nat} {x : ρ} (ho : OrdK cmp) (hx : rs[i]? = some x) (h0 : cmp (key x) a = 0) : HasK key rs a := ⟨x, List.mem_of_getElem? hx, ho.zero.1 h0⟩
theorem StandsG.gone {rs : List ρ} {a : κ} {i : Nat} (ho : OrdK cmp) (h : StandsG cmp key rs a i) (hu : UpG cmp key rs) (hn : ∀ x, rs[i]? = some x → cmp (key x) a ≠ 0) : ¬ HasK key rs a := by
  rintro ⟨y, hm, rfl⟩
  obtain ⟨k, hk⟩ := List.mem_iff_getElem?.1 hm
  have h0 : cmp (key y) (key y) = 0 := ho.zero.2 rfl
  by_cases hki : k < i
  · have := h.ahead k y hki hk; omega
  · by_cases e : k = i
    · subst e; exact hn y hk h0
    · have hlt : i < rs.length := by have := (List.getElem?_eq_some_iff.1 hk).1; omega
      have := hu.at (List.getElem?_eq_getElem hlt) hk (by omega)
      exact h.behind i _ (Nat.le_refl _) (List.getElem?_eq_getElem hlt) this
theorem UpG.stands {rs : List ρ} {a : κ} {k : Nat} {x : ρ} (ho : OrdK cmp) (hu : UpG cmp key rs) (hx : rs[k]? = some x) (h : cmp (key x) a < 0) : ∀ (j : Nat) y, j < k + 1 → rs[j]? = some y → cmp (key y) a < 0 := fun j y hj hy => by
  by_cases e : j = k
  · subst e; rw [hx] at hy; cases hy; exact h
  · exact ho.trans (hu.at hy hx (by omega)) h
theorem UpG.stands' {rs : List ρ} {a : κ} {k : Nat} {x : ρ} (ho : OrdK cmp) (hu : UpG cmp key rs) (hx : rs[k]? = some x) (h : ¬ cmp (key x) a < 0) : ∀ (j : Nat) y, k ≤ j → rs[j]? = some y → 0 ≤ cmp (key y) a := fun j y hj hy => Int.not_lt.1 fun hn => by
  by_cases e : j = k
  · subst e; rw [hx] at hy; cases hy; exact h hn
  · exact h (ho.trans (hu.at hx hy (by omega)) hn)
/-- A row put into its place. -/
def insG (rs : List ρ) (i : Nat) (x : ρ) : List ρ := rs.take i ++ x :: rs.drop i
theorem insG_mem {rs : List ρ} {i : Nat} {a b : ρ} : b ∈ insG rs i a ↔ b = a ∨ b ∈ rs := by
  have : b ∈ rs ↔ b ∈ rs.take i ∨ b ∈ rs.drop i := by rw [← List.mem_append, List.take_append_drop]
  simp only [insG, List.mem_append, List.mem_cons, this]
  constructor
  · rintro (h | h | h)
    · exact .inr (.inl h)
    · exact .inl h
    · exact .inr (.inr h)
  · rintro (h | h | h)
    · exact .inr (.inl h)
    · exact .inl h
    · exact .inr (.inr h)
theorem insG_len {rs : List ρ} {i : Nat} {a : ρ} (h : i ≤ rs.length) : (insG rs i a).length = rs.length + 1 := by
  simp [insG]; omega
theorem UpG.insert {rs : List ρ} {x : ρ} {i : Nat} (ho : OrdK cmp) (hu : UpG cmp key rs) (h : StandsG cmp key rs (key x) i) (hn : ¬ HasK key rs (key x)) : UpG cmp key (insG rs i x) := by
  have hA : ∀ y ∈ rs.take i, cmp (key y) (key x) < 0 := fun y hy => by
    obtain ⟨k, hk⟩ := List.mem_iff_getElem?.1 hy
    rw [List.getElem?_take] at hk
    split at hk
    · rename_i hki; exact h.ahead k y hki hk
    · cases hk
  have hB : ∀ y ∈ rs.drop i, cmp (key x) (key y) < 0 := fun y hy => by
    obtain ⟨k, hk⟩ := List.mem_iff_getElem?.1 hy
    rw [List.getElem?_drop] at hk
    have h1 := h.behind (i + k) y (by omega) hk
    have h2 : cmp (key y) (key x) ≠ 0 := fun e => hn ⟨y, List.mem_of_getElem? hk, ho.zero.1 e⟩
    rw [ho.flip]; omega
  refine List.pairwise_append.2 ⟨List.Pairwise.sublist (List.take_sublist _ _) hu, List.pairwise_cons.2 ⟨hB, List.Pairwise.sublist (List.drop_sublist _ _) hu⟩, fun y hy z hz => ?_⟩
  rcases List.mem_cons.1 hz with rfl | hz
  · exact hA y hy
  · exact ho.trans (hA y hy) (hB z hz)
/-- No two rows have the same key. -/
theorem UpG.one {rs : List ρ} (ho : OrdK cmp) (hu : UpG cmp key rs) {i j : Nat} {x y : ρ} (hi : rs[i]? = some x) (hj : rs[j]? = some y) (he : key x = key y) : i = j := by
  rcases Nat.lt_trichotomy i j with h | h | h
  · have := hu.at hi hj h; rw [he, ho.zero.2 rfl] at this; omega
  · exact h
  · have := hu.at hj hi h; rw [he, ho.zero.2 rfl] at this; omega
end
/-- The cells of rows. -/
def cellsG {ρ : Type} (c : ρ → List Value) (rs : List ρ) : List Value := rs.flatMap c
theorem cellsG_len {ρ : Type} {c : ρ → List Value} {n : Nat} (hc : ∀ x, (c x).length = n) : ∀ rs : List ρ, (cellsG c rs).length = rs.length * n
  | [] => by simp [cellsG]
  | x :: rs => by
    have := cellsG_len hc rs
    simp only [cellsG, List.flatMap_cons, List.length_append, List.length_cons] at this ⊢
    rw [this, hc, Nat.succ_mul]; omega
theorem cellsG_take {ρ : Type} {c : ρ → List Value} {n : Nat} (hc : ∀ x, (c x).length = n) : ∀ (rs : List ρ) (i : Nat), (cellsG c rs).take (i * n) = cellsG c (rs.take i)
  | [], i => by simp [cellsG]
  | _ :: _, 0 => by simp [cellsG]
  | x :: rs, i + 1 => by
    have := cellsG_take hc rs i
    simp only [cellsG, List.flatMap_cons, List.take_succ_cons] at this ⊢
    rw [show (i + 1) * n = (c x).length + i * n by rw [hc, Nat.succ_mul]; omega, List.take_append, List.take_of_length_le (by omega), show (c x).length + i * n - (c x).length = i * n by omega, this]
theorem cellsG_drop {ρ : Type} {c : ρ → List Value} {n : Nat} (hc : ∀ x, (c x).length = n) : ∀ (rs : List ρ) (i : Nat), (cellsG c rs).drop (i * n) = cellsG c (rs.drop i)
  | [], i => by simp [cellsG]
  | _ :: _, 0 => by simp [cellsG]
  | x :: rs, i + 1 => by
    have := cellsG_drop hc rs i
    simp only [cellsG, List.flatMap_cons, List.drop_succ_cons] at this ⊢
    rw [show (i + 1) * n = (c x).length + i * n by rw [hc, Nat.succ_mul]; omega, List.drop_append, List.drop_of_length_le (by omega), show (c x).length + i * n - (c x).length = i * n by omega, this]; simp
theorem cellsG_ins {ρ : Type} {c : ρ → List Value} {n : Nat} (hc : ∀ x, (c x).length = n) (rs : List ρ) (i : Nat) (x : ρ) : (cellsG c rs).take (i * n) ++ c x ++ (cellsG c rs).drop (i * n) = cellsG c (insG rs i x) := by
  rw [cellsG_take hc, cellsG_drop hc]; simp [cellsG, insG, List.flatMap_append]
end Go.Proofs.YtejhegnlmldomaaGreat
