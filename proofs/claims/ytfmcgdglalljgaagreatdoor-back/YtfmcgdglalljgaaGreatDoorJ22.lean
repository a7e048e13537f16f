/-
  A plan makes the one of the other: plain facts on lists.
-/
/-
  Resources made one behind the other, each behind some that were made ahead of it: they may be, and are whole.
-/
import Derived.Test.YtfmcgdglalljgaaGreatDoorJ4
import Derived.Test.YtfmcgdglalljgaaGreatDoorJ3
import Derived.Test.YtfmcgdglalljgaaGreatDoorJ21
import Derived.Test.YtfmcgdglalljgaaGreatDoorRfSpN
namespace Go.Proofs.YtfmcgdglalljgaaGreatDoor
open Go.RowKit

/-- IDs rise. -/
def UpR (l : List Resd) : Prop := l.Pairwise fun a b => cmpI a.id b.id < 0
def HasR (l : List Resd) (a : IDd) : Prop := ∃ x ∈ l, x.id = a
open Classical in
/-- One more, or another one of its ID, in its place. -/
noncomputable def putGo (r : Resd) : Bool → List Resd → List Resd
  | dn, [] => if dn = true then [] else [r]
  | dn, x :: l => (if lessI r.id x.id = true ∧ dn = false then [r] else []) ++ ((if x.id = r.id then [] else [x]) ++ putGo r (dn || lessI r.id x.id) l)
noncomputable def putS (l : List Resd) (r : Resd) : List Resd := putGo r false l
theorem cmp_self (a : IDd) : cmpI a a = 0 := cmpI_zero.2 rfl
theorem putGo_true (r : Resd) : ∀ {l : List Resd} {x : Resd}, x ∈ putGo r true l ↔ x ∈ l ∧ x.id ≠ r.id
  | [], x => by simp [putGo]
  | y :: l, x => by
    have ih := putGo_true r (l := l) (x := x)
    unfold putGo
    simp only [Bool.true_or, Bool.true_eq_false, and_false, if_false, List.nil_append, List.mem_append, ih, List.mem_cons]
    by_cases h : y.id = r.id
    · simp only [h, if_true, List.not_mem_nil, false_or]
      constructor
      · rintro ⟨h1, h2⟩; exact ⟨.inr h1, h2⟩
      · rintro ⟨rfl | h1, h2⟩
        · exact absurd h h2
        · exact ⟨h1, h2⟩
    · simp only [h, if_false, List.mem_singleton]
      constructor
      · rintro (rfl | ⟨h1, h2⟩)
        · exact ⟨.inl rfl, h⟩
        · exact ⟨.inr h1, h2⟩
      · rintro ⟨rfl | h1, h2⟩
        · exact .inl rfl
        · exact .inr ⟨h1, h2⟩
theorem putGo_false (r : Resd) : ∀ {l : List Resd} {x : Resd}, x ∈ putGo r false l ↔ x = r ∨ (x ∈ l ∧ x.id ≠ r.id)
  | [], x => by simp [putGo]
  | y :: l, x => by
    unfold putGo
    simp only [Bool.false_or, and_true, List.mem_append, List.mem_cons]
    by_cases hl : lessI r.id y.id = true
    · have hne : ¬ y.id = r.id := fun e => by
        rw [e] at hl; simp [lessI, cmp_self] at hl
      rw [if_pos hl, if_neg hne, hl, putGo_true r]
      simp only [List.mem_singleton]
      constructor
      · rintro (rfl | rfl | ⟨h1, h2⟩)
        · exact .inl rfl
        · exact .inr ⟨.inl rfl, hne⟩
        · exact .inr ⟨.inr h1, h2⟩
      · rintro (rfl | ⟨rfl | h1, h2⟩)
        · exact .inl rfl
        · exact .inr (.inl rfl)
        · exact .inr (.inr ⟨h1, h2⟩)
    · have hl' : lessI r.id y.id = false := by simpa using hl
      rw [if_neg hl, hl', putGo_false r]
      by_cases h : y.id = r.id
      · rw [if_pos h]
        simp only [List.not_mem_nil, false_or]
        constructor
        · rintro (rfl | ⟨h1, h2⟩)
          · exact .inl rfl
          · exact .inr ⟨.inr h1, h2⟩
        · rintro (rfl | ⟨rfl | h1, h2⟩)
          · exact .inl rfl
          · exact absurd h h2
          · exact .inr ⟨h1, h2⟩
      · rw [if_neg h]
        simp only [List.not_mem_nil, false_or, List.mem_singleton]
        constructor
        · rintro (rfl | rfl | ⟨h1, h2⟩)
          · exact .inr ⟨.inl rfl, h⟩
          · exact .inl rfl
          · exact .inr ⟨.inr h1, h2⟩
        · rintro (rfl | ⟨rfl | h1, h2⟩)
          · exact .inr (.inl rfl)
          · exact .inl rfl
          · exact .inr (.inr ⟨h1, h2⟩)
theorem put_mem {l : List Resd} {r x : Resd} : x ∈ putS l r ↔ x = r ∨ (x ∈ l ∧ x.id ≠ r.id) := putGo_false r
theorem putGo_up_true (r : Resd) : ∀ {l : List Resd}, UpR l → UpR (putGo r true l)
  | [], _ => by simp [putGo, UpR]
  | y :: l, h => by
    have h1 := List.pairwise_cons.1 h
    have ih := putGo_up_true r h1.2
    unfold putGo
    simp only [Bool.true_or, Bool.true_eq_false, and_false, if_false, List.nil_append]
    by_cases e : y.id = r.id
    · rw [if_pos e]; exact ih
    · rw [if_neg e]
      exact List.pairwise_cons.2 ⟨fun z hz => h1.1 z (putGo_true r |>.1 hz).1, ih⟩
theorem putGo_up (r : Resd) : ∀ {l : List Resd}, UpR l → UpR (putGo r false l)
  | [], _ => by simp [putGo, UpR]
  | y :: l, h => by
    have h1 := List.pairwise_cons.1 h
    unfold putGo
    simp only [Bool.false_or, and_true]
    by_cases hl : lessI r.id y.id = true
    · have hne : ¬ y.id = r.id := fun e => by
        rw [e] at hl; simp [lessI, cmp_self] at hl
      have hlt : cmpI r.id y.id < 0 := by simpa [lessI] using hl
      rw [if_pos hl, if_neg hne, hl]
      refine List.pairwise_cons.2 ⟨fun z hz => ?_, List.pairwise_cons.2 ⟨fun z hz => h1.1 z (putGo_true r |>.1 hz).1, putGo_up_true r h1.2⟩⟩
      rcases List.mem_cons.1 hz with rfl | hz
      · exact hlt
      · exact cmpI_trans hlt (h1.1 z (putGo_true r |>.1 hz).1)
    · have hl' : lessI r.id y.id = false := by simpa using hl
      have ih := putGo_up r h1.2
      rw [if_neg hl, hl', List.nil_append]
      by_cases e : y.id = r.id
      · rw [if_pos e]; exact ih
      · rw [if_neg e]
        refine List.pairwise_cons.2 ⟨fun z hz => ?_, ih⟩
        rcases putGo_false r |>.1 hz with rfl | ⟨hz, _⟩
        · have h2 : ¬ cmpI z.id y.id < 0 := by simpa [lessI] using hl
          have h3 : cmpI z.id y.id ≠ 0 := fun e' => e (cmpI_zero.1 e').symm
          rw [cmpI_flip]; omega
        · exact h1.1 z hz
theorem put_up {l : List Resd} {r : Resd} (h : UpR l) : UpR (putS l r) := putGo_up r h
theorem UpR.ids {l : List Resd} (h : UpR l) {x y : Resd} (hx : x ∈ l) (hy : y ∈ l) (e : x.id = y.id) : x = y := by
  obtain ⟨i, hi⟩ := List.mem_iff_getElem?.1 hx
  obtain ⟨j, hj⟩ := List.mem_iff_getElem?.1 hy
  obtain ⟨h1, rfl⟩ := List.getElem?_eq_some_iff.1 hi
  obtain ⟨h2, rfl⟩ := List.getElem?_eq_some_iff.1 hj
  have hp := List.pairwise_iff_getElem.1 h
  rcases Nat.lt_trichotomy i j with hij | hij | hij
  · have := hp i j h1 h2 hij; rw [e, cmp_self] at this; omega
  · subst hij; rfl
  · have := hp j i h2 h1 hij; rw [e, cmp_self] at this; omega
end Go.Proofs.YtfmcgdglalljgaaGreatDoor

namespace Go.Proofs.YtfmcgdglalljgaaGreatDoor
open Go.RowKit

/-- What was made, and in which order. -/
structure TamI (ids : List IDd) (l : List Resd) : Prop where
  up : UpR l
  may : ∀ x ∈ l, mayB x = true
  same : ∀ a, a ∈ ids ↔ HasR l a
  nod : ids.Nodup
  ahead : ∀ x ∈ l, ∀ k : Nat, ids[k]? = some x.id → ∀ a ∈ x.after, a ∈ ids.take k
theorem TamI.nil : TamI [] [] := ⟨List.Pairwise.nil, fun x h => (by cases h), fun a => ⟨fun h => (by cases h), fun ⟨x, h, _⟩ => (by cases h)⟩, List.nodup_nil, fun x h => (by cases h)⟩
theorem TamI.more {ids : List IDd} {l : List Resd} {r : Resd} (h : TamI ids l) (hn : r.id ∉ ids) (hm : mayB r = true) (ha : ∀ a ∈ r.after, a ∈ ids) : TamI (ids ++ [r.id]) (putS l r) := by
  have hne : ∀ x ∈ l, x.id ≠ r.id := fun x hx e => hn ((h.same r.id).2 ⟨x, hx, e⟩)
  refine ⟨put_up h.up, fun x hx => ?_, fun a => ?_, ?_, fun x hx k hk a haa => ?_⟩
  · rcases put_mem.1 hx with rfl | ⟨hx, _⟩
    · exact hm
    · exact h.may x hx
  · rw [List.mem_append, List.mem_singleton]
    constructor
    · rintro (h1 | rfl)
      · obtain ⟨x, hx, e⟩ := (h.same a).1 h1
        exact ⟨x, put_mem.2 (.inr ⟨hx, hne x hx⟩), e⟩
      · exact ⟨r, put_mem.2 (.inl rfl), rfl⟩
    · rintro ⟨x, hx, rfl⟩
      rcases put_mem.1 hx with rfl | ⟨hx, _⟩
      · exact .inr rfl
      · exact .inl ((h.same _).2 ⟨x, hx, rfl⟩)
  · refine List.nodup_append.2 ⟨h.nod, by simp, fun a ha b hb e => ?_⟩
    obtain rfl : b = r.id := by simpa using hb
    exact hn (e ▸ ha)
  · rcases put_mem.1 hx with rfl | ⟨hx, hxr⟩
    · have hk' : k = ids.length := by
        rw [List.getElem?_append] at hk
        split at hk
        · exact absurd (List.mem_of_getElem? hk) hn
        · rename_i hlt
          have := (List.getElem?_eq_some_iff.1 hk).1
          simp at this; omega
      subst hk'
      rw [List.take_left']
      · exact ha a haa
      · rfl
    · have hkl : k < ids.length := by
        rw [List.getElem?_append] at hk
        split at hk
        · rename_i hlt; exact hlt
        · rename_i hlt
          have hz := (List.getElem?_eq_some_iff.1 hk).1
          have : k - ids.length = 0 := by simp at hz; omega
          rw [this] at hk
          have e : r.id = x.id := by simpa using hk
          exact absurd e.symm hxr
      rw [List.getElem?_append_left hkl] at hk
      rw [List.take_append_of_le_length (by omega)]
      exact h.ahead x hx k hk a haa
theorem up_rises : ∀ {l : List Resd}, UpR l → risesB lessR l = true
  | [], _ => rfl
  | [_], _ => rfl
  | a :: b :: l, h => by
    have h1 := List.pairwise_cons.1 h
    have h2 := h1.1 b List.mem_cons_self
    simp only [risesB, Bool.and_eq_true]
    exact ⟨by simpa [lessR, lessI] using h2, up_rises h1.2⟩
theorem has_place {l : List Resd} {a : IDd} (h : HasR l a) : ∃ j, placeL l a = some j := by
  obtain ⟨x, hx, rfl⟩ := h
  cases hp : placeL l x.id with
  | some j => exact ⟨j, rfl⟩
  | none =>
    have := List.findIdx?_eq_none_iff.1 hp x hx
    simp at this
theorem nod_at {ids : List IDd} (h : ids.Nodup) {i j : Nat} {a : IDd} (hi : ids[i]? = some a) (hj : ids[j]? = some a) : i = j := by
  obtain ⟨h1, e1⟩ := List.getElem?_eq_some_iff.1 hi
  obtain ⟨h2, e2⟩ := List.getElem?_eq_some_iff.1 hj
  have hp := List.pairwise_iff_getElem.1 h
  rcases Nat.lt_trichotomy i j with hij | hij | hij
  · exact absurd (e1.trans e2.symm) (hp i j h1 h2 hij)
  · exact hij
  · exact absurd (e2.trans e1.symm) (hp j i h2 h1 hij)
theorem TamI.fine {ids : List IDd} {l : List Resd} (h : TamI ids l) (hn : ids.length ≤ 12) : FineP l := by
  have hlen : l.length ≤ 12 := by
    have h1 := len_le_of_sub (l.map Resd.id) ids (List.pairwise_map.2 (h.up.imp fun {a b} hab e => by rw [e, cmp_self] at hab; omega)) (fun a ha => by
      obtain ⟨x, hx, rfl⟩ := List.mem_map.1 ha
      exact (h.same _).2 ⟨x, hx, rfl⟩)
    rw [List.length_map] at h1; omega
  have hpos : ∀ x ∈ l, ∃ k : Nat, ids[k]? = some x.id := fun x hx => List.mem_iff_getElem?.1 ((h.same _).2 ⟨x, hx, rfl⟩)
  refine ⟨?_, fun i x hi k a hk => ?_, fun i hi hc => ?_⟩
  · simp only [mayAllB, Bool.and_eq_true, decide_eq_true_eq, List.all_eq_true]
    exact ⟨⟨hlen, h.may⟩, up_rises h.up⟩
  · have hx := List.mem_of_getElem? hi
    obtain ⟨n, hn⟩ := hpos x hx
    exact has_place ((h.same a).1 ((List.take_sublist _ _).subset (h.ahead x hx n hn a (List.mem_of_getElem? hk))))
  · have hedge : ∀ k j n : Nat, Edge l k j → (∃ x, l[k]? = some x ∧ ids[n]? = some x.id) → ∃ m : Nat, m < n ∧ ∃ y, l[j]? = some y ∧ ids[m]? = some y.id := by
      rintro k j n ⟨x, a, h1, h2, h3⟩ ⟨x', h4, h5⟩
      obtain rfl : x = x' := by simpa using h1.symm.trans h4
      have ht := h.ahead x (List.mem_of_getElem? h1) n h5 a h2
      obtain ⟨m, hm⟩ := List.mem_iff_getElem?.1 ht
      rw [List.getElem?_take] at hm
      split at hm
      · rename_i hlt
        obtain ⟨y, hy, rfl⟩ := place_id h3
        exact ⟨m, hlt, y, hy, hm⟩
      · cases hm
    have hcomes : ∀ k n : Nat, Comes l i k → (∃ x, l[i]? = some x ∧ ids[n]? = some x.id) → ∃ m : Nat, m ≤ n ∧ ∃ y, l[k]? = some y ∧ ids[m]? = some y.id := by
      intro k n hk hx
      induction hk with
      | here => exact ⟨n, Nat.le_refl _, hx⟩
      | step _ e ih =>
        obtain ⟨m, hm, hy⟩ := ih
        obtain ⟨m', hm', hy'⟩ := hedge _ _ m e hy
        exact ⟨m', by omega, hy'⟩
    obtain ⟨k, h1, h2⟩ := hc
    have hxi := List.getElem?_eq_getElem hi
    obtain ⟨n, hn'⟩ := hpos l[i] (List.getElem_mem hi)
    obtain ⟨m, hm, hy⟩ := hcomes k n h1 ⟨_, hxi, hn'⟩
    obtain ⟨m', hm', z, hz, hz'⟩ := hedge k i m h2 hy
    obtain rfl : l[i] = z := by simpa using hxi.symm.trans hz
    have := nod_at h.nod hn' hz'
    omega
/-- IDs with one more, in their order. -/
def laidGo (r : IDd) : Bool → List IDd → List IDd
  | dn, [] => if dn = true then [] else [r]
  | dn, x :: l => (if lessI r x = true ∧ dn = false then [r] else []) ++ (x :: laidGo r (dn || lessI r x) l)
def laidS (l : List IDd) (r : IDd) : List IDd := if l.length = 6 then l else laidGo r false l
theorem laidGo_true (r : IDd) : ∀ l : List IDd, laidGo r true l = l
  | [] => rfl
  | x :: l => by simp [laidGo, laidGo_true r l]
theorem laid_mem {r : IDd} : ∀ {l : List IDd} {a : IDd}, a ∈ laidGo r false l ↔ a = r ∨ a ∈ l
  | [], a => by simp [laidGo]
  | x :: l, a => by
    have ih := laid_mem (r := r) (l := l) (a := a)
    unfold laidGo
    by_cases hl : lessI r x = true
    · simp [hl, laidGo_true]
    · have hl' : lessI r x = false := by simpa using hl
      simp only [hl', Bool.false_eq_true, false_and, if_false, List.nil_append, Bool.false_or, List.mem_cons, ih]
      constructor
      · rintro (h | h | h)
        · exact .inr (.inl h)
        · exact .inl h
        · exact .inr (.inr h)
      · rintro (h | h | h)
        · exact .inr (.inl h)
        · exact .inl h
        · exact .inr (.inr h)
theorem laid_len {r : IDd} : ∀ l : List IDd, (laidGo r false l).length = l.length + 1
  | [] => rfl
  | x :: l => by
    have ih := laid_len (r := r) l
    unfold laidGo
    by_cases hl : lessI r x = true
    · simp [hl, laidGo_true]
    · have hl' : lessI r x = false := by simpa using hl
      simp [hl', ih]
theorem laid_up {r : IDd} : ∀ {l : List IDd}, Up l → r ∉ l → Up (laidGo r false l)
  | [], _, _ => by simp [laidGo, Up]
  | x :: l, h, hr => by
    have h1 := List.pairwise_cons.1 h
    have hr' : ¬ r = x ∧ r ∉ l := by simpa using hr
    unfold laidGo
    by_cases hl : lessI r x = true
    · have hlt : cmpI r x < 0 := by simpa [lessI] using hl
      simp only [hl, Bool.false_or, laidGo_true]
      refine List.pairwise_cons.2 ⟨fun z hz => ?_, h⟩
      rcases List.mem_cons.1 hz with rfl | hz
      · exact hlt
      · exact cmpI_trans hlt (h1.1 z hz)
    · have hl' : lessI r x = false := by simpa using hl
      have h2 : ¬ cmpI r x < 0 := by simpa [lessI] using hl
      have h3 : cmpI r x ≠ 0 := fun e => hr'.1 (cmpI_zero.1 e)
      simp only [hl', Bool.false_eq_true, false_and, if_false, List.nil_append, Bool.false_or]
      refine List.pairwise_cons.2 ⟨fun z hz => ?_, laid_up h1.2 hr'.2⟩
      rcases laid_mem.1 hz with rfl | hz
      · rw [cmpI_flip]; omega
      · exact h1.1 z hz
end Go.Proofs.YtfmcgdglalljgaaGreatDoor
