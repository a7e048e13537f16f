/-
  A plan makes the one of the other: plain facts on lists.
-/
/-
  A plan makes the one of the other, step by step.
-/
/-
  Resources made one behind the other, each behind some that were made ahead of it: they may be, and are whole.
-/
import Derived.Test.YtfoelahabalbpaaGreatDoorJ4
import Derived.Test.YtfoelahabalbpaaGreatDoorJ3
import Derived.Test.YtfoelahabalbpaaGreatDoorJ22
import Derived.Test.YtfoelahabalbpaaGreatDoorRfSpN
namespace Go.Proofs.YtfoelahabalbpaaGreatDoor
open Go.RowKit

/-- IDs rise. -/
def UpR (l : List Resd) : Prop := l.Pairwise fun a b => cmpI a.id b.id < 0
open Classical in
noncomputable def withoutS (l : List Resd) (a : IDd) : List Resd := l.filter fun x => decide (x.id ≠ a)
def HasR (l : List Resd) (a : IDd) : Prop := ∃ x ∈ l, x.id = a
open Classical in
/-- One more, or another one of its ID, in its place. -/
noncomputable def putGo (r : Resd) : Bool → List Resd → List Resd
  | dn, [] => if dn = true then [] else [r]
  | dn, x :: l => (if lessI r.id x.id = true ∧ dn = false then [r] else []) ++ ((if x.id = r.id then [] else [x]) ++ putGo r (dn || lessI r.id x.id) l)
noncomputable def putS (l : List Resd) (r : Resd) : List Resd := putGo r false l
theorem cmp_self (a : IDd) : cmpI a a = 0 := cmpI_zero.2 rfl
theorem putGo_true (r : Resd) : ∀ {l : List Resd} {x : Resd}, x ∈ putGo r true l ↔ x ∈ l ∧ x.id ≠ r.id
  | [], x => by simp [putGo]
  | y :: l, x => by
    have ih := putGo_true r (l := l) (x := x)
    unfold putGo
    simp only [Bool.true_or, Bool.true_eq_false, and_false, if_false, List.nil_append, List.mem_append, ih, List.mem_cons]
    by_cases h : y.id = r.id
    · simp only [h, if_true, List.not_mem_nil, false_or]
      constructor
      · rintro ⟨h1, h2⟩; exact ⟨.inr h1, h2⟩
      · rintro ⟨rfl | h1, h2⟩
        · exact absurd h h2
        · exact ⟨h1, h2⟩
    · simp only [h, if_false, List.mem_singleton]
      constructor
      · rintro (rfl | ⟨h1, h2⟩)
        · exact ⟨.inl rfl, h⟩
        · exact ⟨.inr h1, h2⟩
      · rintro ⟨rfl | h1, h2⟩
        · exact .inl rfl
        · exact .inr ⟨h1, h2⟩
theorem putGo_false (r : Resd) : ∀ {l : List Resd} {x : Resd}, x ∈ putGo r false l ↔ x = r ∨ (x ∈ l ∧ x.id ≠ r.id)
  | [], x => by simp [putGo]
  | y :: l, x => by
    unfold putGo
    simp only [Bool.false_or, and_true, List.mem_append, List.mem_cons]
    by_cases hl : lessI r.id y.id = true
    · have hne : ¬ y.id = r.id := fun e => by
        rw [e] at hl; simp [lessI, cmp_self] at hl
      rw [if_pos hl, if_neg hne, hl, putGo_true r]
      simp only [List.mem_singleton]
      constructor
      · rintro (rfl | rfl | ⟨h1, h2⟩)
        · exact .inl rfl
        · exact .inr ⟨.inl rfl, hne⟩
        · exact .inr ⟨.inr h1, h2⟩
      · rintro (rfl | ⟨rfl | h1, h2⟩)
        · exact .inl rfl
        · exact .inr (.inl rfl)
        · exact .inr (.inr ⟨h1, h2⟩)
    · have hl' : lessI r.id y.id = false := by simpa using hl
      rw [if_neg hl, hl', putGo_false r]
      by_cases h : y.id = r.id
      · rw [if_pos h]
        simp only [List.not_mem_nil, false_or]
        constructor
        · rintro (rfl | ⟨h1, h2⟩)
          · exact .inl rfl
          · exact .inr ⟨.inr h1, h2⟩
        · rintro (rfl | ⟨rfl | h1, h2⟩)
          · exact .inl rfl
          · exact absurd h h2
          · exact .inr ⟨h1, h2⟩
      · rw [if_neg h]
        simp only [List.not_mem_nil, false_or, List.mem_singleton]
        constructor
        · rintro (rfl | rfl | ⟨h1, h2⟩)
          · exact .inr ⟨.inl rfl, h⟩
          · exact .inl rfl
          · exact .inr ⟨.inr h1, h2⟩
        · rintro (rfl | ⟨rfl | h1, h2⟩)
          · exact .inr (.inl rfl)
          · exact .inl rfl
          · exact .inr (.inr ⟨h1, h2⟩)
theorem put_mem {l : List Resd} {r x : Resd} : x ∈ putS l r ↔ x = r ∨ (x ∈ l ∧ x.id ≠ r.id) := putGo_false r
theorem putGo_up_true (r : Resd) : ∀ {l : List Resd}, UpR l → UpR (putGo r true l)
  | [], _ => by simp [putGo, UpR]
  | y :: l, h => by
    have h1 := List.pairwise_cons.1 h
    have ih := putGo_up_true r h1.2
    unfold putGo
    simp only [Bool.true_or, Bool.true_eq_false, and_false, if_false, List.nil_append]
    by_cases e : y.id = r.id
    · rw [if_pos e]; exact ih
    · rw [if_neg e]
      exact List.pairwise_cons.2 ⟨fun z hz => h1.1 z (putGo_true r |>.1 hz).1, ih⟩
theorem putGo_up (r : Resd) : ∀ {l : List Resd}, UpR l → UpR (putGo r false l)
  | [], _ => by simp [putGo, UpR]
  | y :: l, h => by
    have h1 := List.pairwise_cons.1 h
    unfold putGo
    simp only [Bool.false_or, and_true]
    by_cases hl : lessI r.id y.id = true
    · have hne : ¬ y.id = r.id := fun e => by
        rw [e] at hl; simp [lessI, cmp_self] at hl
      have hlt : cmpI r.id y.id < 0 := by simpa [lessI] using hl
      rw [if_pos hl, if_neg hne, hl]
      refine List.pairwise_cons.2 ⟨fun z hz => ?_, List.pairwise_cons.2 ⟨fun z hz => h1.1 z (putGo_true r |>.1 hz).1, putGo_up_true r h1.2⟩⟩
      rcases List.mem_cons.1 hz with rfl | hz
      · exact hlt
      · exact cmpI_trans hlt (h1.1 z (putGo_true r |>.1 hz).1)
    · have hl' : lessI r.id y.id = false := by simpa using hl
      have ih := putGo_up r h1.2
      rw [if_neg hl, hl', List.nil_append]
      by_cases e : y.id = r.id
      · rw [if_pos e]; exact ih
      · rw [if_neg e]
        refine List.pairwise_cons.2 ⟨fun z hz => ?_, ih⟩
        rcases putGo_false r |>.1 hz with rfl | ⟨hz, _⟩
        · have h2 : ¬ cmpI z.id y.id < 0 := by simpa [lessI] using hl
          have h3 : cmpI z.id y.id ≠ 0 := fun e' => e (cmpI_zero.1 e').symm
          rw [cmpI_flip]; omega
        · exact h1.1 z hz
theorem put_up {l : List Resd} {r : Resd} (h : UpR l) : UpR (putS l r) := putGo_up r h
theorem without_mem {l : List Resd} {a : IDd} {x : Resd} : x ∈ withoutS l a ↔ x ∈ l ∧ x.id ≠ a := by
  unfold withoutS; rw [List.mem_filter]; simp
theorem without_up {l : List Resd} {a : IDd} (h : UpR l) : UpR (withoutS l a) := List.Pairwise.sublist List.filter_sublist h
theorem UpR.ids {l : List Resd} (h : UpR l) {x y : Resd} (hx : x ∈ l) (hy : y ∈ l) (e : x.id = y.id) : x = y := by
  obtain ⟨i, hi⟩ := List.mem_iff_getElem?.1 hx
  obtain ⟨j, hj⟩ := List.mem_iff_getElem?.1 hy
  obtain ⟨h1, rfl⟩ := List.getElem?_eq_some_iff.1 hi
  obtain ⟨h2, rfl⟩ := List.getElem?_eq_some_iff.1 hj
  have hp := List.pairwise_iff_getElem.1 h
  rcases Nat.lt_trichotomy i j with hij | hij | hij
  · have := hp i j h1 h2 hij; rw [e, cmp_self] at this; omega
  · subst hij; rfl
  · have := hp j i h2 h1 hij; rw [e, cmp_self] at this; omega
/-- Two lists that rise and hold the same are the same. -/
theorem up_ext : ∀ {l m : List Resd}, UpR l → UpR m → (∀ x, x ∈ l ↔ x ∈ m) → l = m
  | [], [], _, _, _ => rfl
  | [], y :: m, _, _, h => absurd ((h y).2 List.mem_cons_self) (by simp)
  | x :: l, [], _, _, h => absurd ((h x).1 List.mem_cons_self) (by simp)
  | x :: l, y :: m, hl, hm, h => by
    have h1 := List.pairwise_cons.1 hl
    have h2 := List.pairwise_cons.1 hm
    have hxy : x = y := by
      rcases List.mem_cons.1 ((h x).1 List.mem_cons_self) with e | hx
      · exact e
      · rcases List.mem_cons.1 ((h y).2 List.mem_cons_self) with e | hy
        · exact e.symm
        · have a := h2.1 x hx
          have b := h1.1 y hy
          have c := cmpI_trans a b
          rw [cmp_self] at c; omega
    subst hxy
    have hne : ∀ z, z ∈ l → z ≠ x := fun z hz e => by subst e; have := h1.1 z hz; rw [cmp_self] at this; omega
    have hne' : ∀ z, z ∈ m → z ≠ x := fun z hz e => by subst e; have := h2.1 z hz; rw [cmp_self] at this; omega
    rw [up_ext h1.2 h2.2 fun z => ⟨fun hz => ((List.mem_cons.1 ((h z).1 (List.mem_cons_of_mem _ hz))).resolve_left (hne z hz)), fun hz => ((List.mem_cons.1 ((h z).2 (List.mem_cons_of_mem _ hz))).resolve_left (hne' z hz))⟩]
open Classical in
/-- What a step leaves; none: it may not be done. -/
noncomputable def stepS (l : List Resd) (s : StepD) : Option (List Resd) :=
  if s.op = 3 then if HasR l s.x.id ∧ ∀ y ∈ withoutS l s.x.id, s.x.id ∉ y.after then some (withoutS l s.x.id) else none
  else if (∀ a ∈ s.x.after, HasR l a) ∧ (HasR l s.x.id ↔ s.op = 2) ∧ (s.op = 1 ∨ s.op = 2) then some (putS l s.x) else none
noncomputable def playS : List Resd → List StepD → Option (List Resd)
  | l, [] => some l
  | l, s :: ss => match stepS l s with
    | none => none
    | some l' => playS l' ss
theorem play_app : ∀ {l l' : List Resd} {a b : List StepD}, playS l a = some l' → playS l (a ++ b) = playS l' b
  | l, l', [], b, h => by simp [playS] at h; rw [h]; rfl
  | l, l', s :: a, b, h => by
    simp only [List.cons_append, playS] at h ⊢
    cases hs : stepS l s with
    | none => rw [hs] at h; cases h
    | some l1 => rw [hs] at h; exact play_app h
theorem pick_spec {α : Type} {p : α → Prop} : ∀ {l : List α} {a : α} {r : List α}, pickF p l = some (a, r) → p a ∧ ∃ l1 l2, l = l1 ++ a :: l2 ∧ r = l1 ++ l2
  | [], a, r, h => by simp [pickF] at h
  | x :: l, a, r, h => by
    simp only [pickF] at h
    by_cases hp : p x
    · rw [if_pos hp] at h
      obtain ⟨rfl, rfl⟩ : x = a ∧ l = r := by simpa using h
      exact ⟨hp, [], l, rfl, rfl⟩
    · rw [if_neg hp] at h
      cases hq : pickF p l with
      | none => rw [hq] at h; cases h
      | some q =>
        obtain ⟨b, r'⟩ := q
        rw [hq] at h
        obtain ⟨rfl, rfl⟩ : b = a ∧ x :: r' = r := by simpa using h
        obtain ⟨h1, l1, l2, rfl, rfl⟩ := pick_spec hq
        exact ⟨h1, x :: l1, l2, rfl, rfl⟩
theorem pick_some {α : Type} {p : α → Prop} : ∀ {l : List α}, (∃ a ∈ l, p a) → ∃ q, pickF p l = some q
  | [], h => by obtain ⟨a, ha, _⟩ := h; cases ha
  | x :: l, ⟨a, ha, hp⟩ => by
    simp only [pickF]
    by_cases hx : p x
    · rw [if_pos hx]; exact ⟨_, rfl⟩
    · rw [if_neg hx]
      rcases List.mem_cons.1 ha with rfl | ha
      · exact absurd hp hx
      · obtain ⟨q, hq⟩ := pick_some ⟨a, ha, hp⟩
        rw [hq]; exact ⟨_, rfl⟩
theorem fine_up {l : List Resd} (h : FineP l) : UpR l := by
  have h1 := h.1
  simp only [mayAllB, Bool.and_eq_true] at h1
  exact rises_pair h1.2
theorem rank_comes {l : List Resd} (hc : ∀ i, i < l.length → ¬ Circ l i) {i k : Nat} (h : Comes l i k) : rankI l k ≤ rankI l i := by
  induction h with
  | here => exact Nat.le_refl _
  | step _ e ih => exact Nat.le_trans (Nat.le_of_lt (rank_less e (hc _ (edgeIn e)))) ih
/-- The rank of an ID. -/
noncomputable def rankA (l : List Resd) (a : IDd) : Nat := match placeL l a with
  | some i => rankI l i
  | none => 0
theorem rank_edge {l : List Resd} (hf : FineP l) {a b : IDd} (ha : ∃ i, placeL l a = some i) (h : ∃ c, IdComes l a c ∧ IdEdge l c b) : rankA l b < rankA l a := by
  obtain ⟨i, hi⟩ := ha
  obtain ⟨x, hx, rfl⟩ := place_id hi
  have hd := may_apart hf.1
  have hto : ∀ c, IdComes l x.id c → ∀ k, placeL l c = some k → Comes l i k := by
    intro c hc
    induction hc with
    | here =>
      intro k hk
      obtain rfl : i = k := by simpa using hi.symm.trans hk
      exact .here
    | step _ e ih =>
      intro j hj
      obtain ⟨k, y, h1, h2, h3⟩ := e
      exact (ih k h1).step ⟨y, _, h2, h3, hj⟩
  obtain ⟨c, hc, k, y, h1, h2, h3⟩ := h
  obtain ⟨t, ht⟩ := List.mem_iff_getElem?.1 h3
  obtain ⟨j, hj⟩ := hf.2.1 k y h2 t b ht
  have he : Edge l k j := ⟨y, b, h2, h3, hj⟩
  unfold rankA
  rw [hi, hj]
  exact Nat.lt_of_lt_of_le (rank_less he (hf.2.2 j (place_lt hj))) (rank_comes hf.2.2 (hto c hc k h1))
theorem place_of_mem {l : List Resd} (hf : FineP l) {x : Resd} (hx : x ∈ l) : ∃ i, placeL l x.id = some i := by
  obtain ⟨i, hi⟩ := List.mem_iff_getElem?.1 hx
  exact ⟨i, place_self (may_apart hf.1) hi⟩
end Go.Proofs.YtfoelahabalbpaaGreatDoor

namespace Go.Proofs.YtfoelahabalbpaaGreatDoor
open Go.RowKit

theorem op_two {old : List Resd} {r : Resd} : opOf old r = 2 ↔ HasR old r.id := by
  unfold opOf
  cases hp : placeL old r.id with
  | some j =>
    obtain ⟨y, hy, e⟩ := place_id hp
    exact ⟨fun _ => ⟨y, List.mem_of_getElem? hy, e⟩, fun _ => rfl⟩
  | none =>
    refine ⟨fun h => (by cases h), ?_⟩
    rintro ⟨y, hy, e⟩
    have := List.findIdx?_eq_none_iff.1 hp y hy
    rw [e] at this
    simp at this
theorem op_some (old : List Resd) (r : Resd) : opOf old r = 1 ∨ opOf old r = 2 := by
  unfold opOf; split <;> simp
theorem ids_cut {l1 l2 : List StepD} {s : StepD} (h : (idsT (l1 ++ s :: l2)).Nodup) {a : IDd} : a ∈ idsT (l1 ++ l2) ↔ a ∈ idsT (l1 ++ s :: l2) ∧ a ≠ s.x.id := by
  have h' : (l1.map (fun s : StepD => s.x.id) ++ s.x.id :: l2.map fun s : StepD => s.x.id).Nodup := by simpa [idsT] using h
  simp only [idsT, List.map_append, List.map_cons, List.mem_append, List.mem_cons]
  have hn := List.nodup_append.1 h'
  have hn2 := List.nodup_cons.1 hn.2.1
  constructor
  · rintro (h1 | h1)
    · exact ⟨.inl h1, fun e => hn.2.2 a h1 s.x.id List.mem_cons_self e⟩
    · exact ⟨.inr (.inr h1), fun e => hn2.1 (e ▸ h1)⟩
  · rintro ⟨h1 | h1 | h1, h2⟩
    · exact .inl h1
    · exact absurd h1 h2
    · exact .inr h1
theorem nod_cut {l1 l2 : List StepD} {s : StepD} (h : (idsT (l1 ++ s :: l2)).Nodup) : (idsT (l1 ++ l2)).Nodup := by
  have : (l1 ++ l2).Sublist (l1 ++ s :: l2) := List.Sublist.append_left (List.sublist_cons_self _ _) _
  exact List.Nodup.sublist (this.map _) h
/-- What is there while the steps T are still to be made. -/
structure NowM (old want : List Resd) (T : List StepD) (now : List Resd) : Prop where
  up : UpR now
  mem : ∀ x, x ∈ now ↔ (x ∈ want ∧ x.id ∉ idsT T) ∨ (x ∈ old ∧ (x.id ∈ idsT T ∨ x.id ∉ want.map Resd.id))
structure OkM (old want : List Resd) (T : List StepD) : Prop where
  each : ∀ s ∈ T, s.x ∈ want ∧ s.op = opOf old s.x
  nod : (idsT T).Nodup
theorem mem_ids {T : List StepD} {s : StepD} (h : s ∈ T) : s.x.id ∈ idsT T := List.mem_map.2 ⟨s, h, rfl⟩
theorem step_make {old want now : List Resd} {l1 l2 : List StepD} {s : StepD} (hw : FineP want) (hk : OkM old want (l1 ++ s :: l2)) (hn : NowM old want (l1 ++ s :: l2) now) (hm : mayMake want (l1 ++ s :: l2) s) :
    stepS now s = some (putS now s.x) ∧ NowM old want (l1 ++ l2) (putS now s.x) ∧ OkM old want (l1 ++ l2) := by
  have hsT : s ∈ l1 ++ s :: l2 := List.mem_append.2 (.inr List.mem_cons_self)
  obtain ⟨hsw, hop⟩ := hk.each s hsT
  have hid := mem_ids hsT
  have hopv := op_some old s.x
  have hup := fine_up hw
  refine ⟨?_, ⟨put_up hn.up, fun x => ?_⟩, ⟨fun t ht => hk.each t ?_, nod_cut hk.nod⟩⟩
  · unfold stepS
    rw [if_neg (by omega), if_pos]
    refine ⟨fun a ha => ?_, ?_, by omega⟩
    · obtain ⟨i, hi⟩ := List.mem_iff_getElem?.1 hsw
      obtain ⟨k, hka⟩ := List.mem_iff_getElem?.1 ha
      obtain ⟨j, hj⟩ := hw.2.1 i s.x hi k a hka
      obtain ⟨y, hy, e⟩ := place_id hj
      refine ⟨y, (hn.mem y).2 (.inl ⟨List.mem_of_getElem? hy, fun hT => hm ⟨s.x.id, a, .here, ⟨i, s.x, place_self (may_apart hw.1) hi, hi, ha⟩, ?_⟩⟩), e⟩
      rw [e] at hT; exact hT
    · rw [hop, op_two]
      constructor
      · rintro ⟨x, hx, e⟩
        rcases (hn.mem x).1 hx with ⟨_, h⟩ | ⟨h, _⟩
        · rw [e] at h; exact absurd hid h
        · exact ⟨x, h, e⟩
      · rintro ⟨x, hx, e⟩
        exact ⟨x, (hn.mem x).2 (.inr ⟨hx, .inl (by rw [e]; exact hid)⟩), e⟩
  · rw [put_mem, hn.mem, ids_cut hk.nod]
    constructor
    · rintro (rfl | ⟨⟨h1, h2⟩ | ⟨h1, h2 | h2⟩, h3⟩)
      · exact .inl ⟨hsw, fun h => h.2 rfl⟩
      · exact .inl ⟨h1, fun h => h2 h.1⟩
      · exact .inr ⟨h1, .inl ⟨h2, h3⟩⟩
      · exact .inr ⟨h1, .inr h2⟩
    · rintro (⟨h1, h2⟩ | ⟨h1, ⟨h2, h3⟩ | h2⟩)
      · by_cases e : x.id = s.x.id
        · exact .inl (hup.ids h1 hsw e)
        · exact .inr ⟨.inl ⟨h1, fun h => h2 ⟨h, e⟩⟩, e⟩
      · exact .inr ⟨.inr ⟨h1, .inl h2⟩, h3⟩
      · exact .inr ⟨.inr ⟨h1, .inr h2⟩, fun e => h2 (by rw [e]; exact List.mem_map.2 ⟨s.x, hsw, rfl⟩)⟩
  · rcases List.mem_append.1 ht with h | h
    · exact List.mem_append.2 (.inl h)
    · exact List.mem_append.2 (.inr (List.mem_cons_of_mem _ h))
theorem free_make {old want : List Resd} {T : List StepD} (hw : FineP want) (hk : OkM old want T) : ∀ (n : Nat) (s : StepD), s ∈ T → rankA want s.x.id ≤ n → ∃ t ∈ T, mayMake want T t := by
  intro n
  induction n using Nat.strongRecOn with
  | ind n ih =>
    intro s hs hr
    by_cases hm : mayMake want T s
    · exact ⟨s, hs, hm⟩
    · obtain ⟨b, c, h1, h2, h3⟩ := Classical.not_not.1 hm
      obtain ⟨t, ht, rfl⟩ := List.mem_map.1 h3
      have := rank_edge hw (place_of_mem hw (hk.each s hs).1) ⟨b, h1, h2⟩
      exact ih (rankA want t.x.id) (by omega) t ht (Nat.le_refl _)
theorem play_make {old want : List Resd} (hw : FineP want) : ∀ (n : Nat) (T : List StepD) (now : List Resd), T.length = n → OkM old want T → NowM old want T now → ∃ now', playS now (ordF (mayMake want) n T) = some now' ∧ NowM old want [] now'
  | 0, T, now, hl, _, hn => by
    obtain rfl : T = [] := List.eq_nil_of_length_eq_zero hl
    exact ⟨now, rfl, hn⟩
  | n + 1, T, now, hl, hk, hn => by
    obtain ⟨s0, hs0⟩ : ∃ s, s ∈ T := by
      cases T with
      | nil => simp at hl
      | cons s T => exact ⟨s, List.mem_cons_self⟩
    obtain ⟨⟨s, r⟩, hq⟩ := pick_some (p := mayMake want T) (free_make hw hk _ s0 hs0 (Nat.le_refl _))
    obtain ⟨hm, l1, l2, rfl, rfl⟩ := pick_spec hq
    obtain ⟨h1, h2, h3⟩ := step_make hw hk hn hm
    obtain ⟨now', h4, h5⟩ := play_make hw n (l1 ++ l2) (putS now s.x) (by simp at hl ⊢; omega) h3 h2
    refine ⟨now', ?_, h5⟩
    simp only [ordF]
    rw [hq]
    simp only [playS, h1]
    exact h4
/-- What is there while the steps D are still to be done. -/
structure NowD (old want : List Resd) (D : List StepD) (now : List Resd) : Prop where
  up : UpR now
  mem : ∀ x, x ∈ now ↔ x ∈ want ∨ (x ∈ old ∧ x.id ∈ idsT D)
structure OkD (old want : List Resd) (D : List StepD) : Prop where
  each : ∀ s ∈ D, s.x ∈ old ∧ s.op = 3 ∧ s.x.id ∉ want.map Resd.id
  nod : (idsT D).Nodup
theorem step_del {old want now : List Resd} {l1 l2 : List StepD} {s : StepD} (ho : FineP old) (hw : FineP want) (hk : OkD old want (l1 ++ s :: l2)) (hn : NowD old want (l1 ++ s :: l2) now) (hm : mayDel (l1 ++ s :: l2) s) :
    stepS now s = some (withoutS now s.x.id) ∧ NowD old want (l1 ++ l2) (withoutS now s.x.id) ∧ OkD old want (l1 ++ l2) := by
  have hsT : s ∈ l1 ++ s :: l2 := List.mem_append.2 (.inr List.mem_cons_self)
  obtain ⟨hso, hop, hsw⟩ := hk.each s hsT
  have hid := mem_ids hsT
  have hup := fine_up ho
  refine ⟨?_, ⟨without_up hn.up, fun x => ?_⟩, ⟨fun t ht => hk.each t ?_, nod_cut hk.nod⟩⟩
  · unfold stepS
    rw [if_pos hop, if_pos]
    refine ⟨⟨s.x, (hn.mem s.x).2 (.inr ⟨hso, hid⟩), rfl⟩, fun y hy ha => ?_⟩
    rcases (hn.mem y).1 (without_mem.1 hy).1 with h | ⟨h, h'⟩
    · obtain ⟨i, hi⟩ := List.mem_iff_getElem?.1 h
      obtain ⟨k, hka⟩ := List.mem_iff_getElem?.1 ha
      obtain ⟨j, hj⟩ := hw.2.1 i y hi k _ hka
      obtain ⟨z, hz, e⟩ := place_id hj
      exact hsw (List.mem_map.2 ⟨z, List.mem_of_getElem? hz, e⟩)
    · obtain ⟨o, ho', e⟩ := List.mem_map.1 h'
      have : o.x = y := hup.ids (hk.each o ho').1 h e
      exact hm ⟨o, ho', by rw [this]; exact ha⟩
  · rw [without_mem, hn.mem, ids_cut hk.nod]
    constructor
    · rintro ⟨h1 | ⟨h1, h2⟩, h3⟩
      · exact .inl h1
      · exact .inr ⟨h1, h2, h3⟩
    · rintro (h1 | ⟨h1, h2, h3⟩)
      · exact ⟨.inl h1, fun e => hsw (by rw [← e]; exact List.mem_map.2 ⟨x, h1, rfl⟩)⟩
      · exact ⟨.inr ⟨h1, h2⟩, h3⟩
  · rcases List.mem_append.1 ht with h | h
    · exact List.mem_append.2 (.inl h)
    · exact List.mem_append.2 (.inr (List.mem_cons_of_mem _ h))
theorem rank_le (l : List Resd) (a : IDd) : rankA l a ≤ l.length := by
  unfold rankA
  split
  · unfold rankI
    exact Nat.le_trans (List.length_filter_le _ _) (by simp)
  · exact Nat.zero_le _
theorem free_del {old want : List Resd} {D : List StepD} (ho : FineP old) (hk : OkD old want D) : ∀ (n : Nat) (s : StepD), s ∈ D → old.length - rankA old s.x.id ≤ n → ∃ t ∈ D, mayDel D t := by
  intro n
  induction n using Nat.strongRecOn with
  | ind n ih =>
    intro s hs hr
    by_cases hm : mayDel D s
    · exact ⟨s, hs, hm⟩
    · obtain ⟨o, ho', ha⟩ := Classical.not_not.1 hm
      have hom := (hk.each o ho').1
      obtain ⟨i, hi⟩ := List.mem_iff_getElem?.1 hom
      have hpl := place_self (may_apart ho.1) hi
      have h1 := rank_edge ho ⟨i, hpl⟩ (b := s.x.id) ⟨o.x.id, .here, i, o.x, hpl, hi, ha⟩
      have h2 := rank_le old o.x.id
      exact ih (old.length - rankA old o.x.id) (by omega) o ho' (Nat.le_refl _)
theorem play_del {old want : List Resd} (ho : FineP old) (hw : FineP want) : ∀ (n : Nat) (D : List StepD) (now : List Resd), D.length = n → OkD old want D → NowD old want D now → ∃ now', playS now (ordF mayDel n D) = some now' ∧ NowD old want [] now'
  | 0, D, now, hl, _, hn => by
    obtain rfl : D = [] := List.eq_nil_of_length_eq_zero hl
    exact ⟨now, rfl, hn⟩
  | n + 1, D, now, hl, hk, hn => by
    obtain ⟨s0, hs0⟩ : ∃ s, s ∈ D := by
      cases D with
      | nil => simp at hl
      | cons s D => exact ⟨s, List.mem_cons_self⟩
    obtain ⟨⟨s, r⟩, hq⟩ := pick_some (p := mayDel D) (free_del ho hk _ s0 hs0 (Nat.le_refl _))
    obtain ⟨hm, l1, l2, rfl, rfl⟩ := pick_spec hq
    obtain ⟨h1, h2, h3⟩ := step_del ho hw hk hn hm
    obtain ⟨now', h4, h5⟩ := play_del ho hw n (l1 ++ l2) (withoutS now s.x.id) (by simp at hl ⊢; omega) h3 h2
    refine ⟨now', ?_, h5⟩
    simp only [ordF]
    rw [hq]
    simp only [playS, h1]
    exact h4
theorem up_nodup {l : List Resd} (h : UpR l) : (l.map Resd.id).Nodup := by
  refine List.pairwise_map.2 (h.imp fun {a b} hab e => ?_)
  rw [e, cmp_self] at hab; omega
theorem makes_ok {old want : List Resd} (hw : FineP want) : OkM old want (makesL old want) := by
  constructor
  · intro s hs
    unfold makesL at hs
    obtain ⟨y, hy, he⟩ := List.mem_filterMap.1 hs
    rw [make_is] at he
    split at he
    · cases he; exact ⟨hy, rfl⟩
    · cases he
  · have hn := up_nodup (fine_up hw)
    unfold idsT makesL
    rw [List.map_filterMap]
    have key : ∀ l : List Resd, (l.map Resd.id).Nodup → (l.filterMap fun x => (makeOf old x).map fun s => s.x.id).Nodup := by
      intro l
      induction l with
      | nil => intro _; simp
      | cons x l ih =>
        intro hl
        have hl' : x.id ∉ l.map Resd.id ∧ (l.map Resd.id).Nodup := by simpa using hl
        rw [List.filterMap_cons]
        rw [make_is]
        split
        · exact ih hl'.2
        · rename_i b hb
          split at hb
          · obtain rfl : x.id = b := by simpa using hb
            refine List.nodup_cons.2 ⟨fun hm => ?_, ih hl'.2⟩
            obtain ⟨y, hy, he⟩ := List.mem_filterMap.1 hm
            rw [make_is] at he
            split at he
            · exact hl'.1 (List.mem_map.2 ⟨y, hy, by simpa using he⟩)
            · simp at he
          · simp at hb
    exact key want hn
theorem dels_ok {old want : List Resd} (ho : FineP old) : OkD old want (delsL old want) := by
  classical
  constructor
  · intro s hs
    unfold delsL at hs
    obtain ⟨y, hy, rfl⟩ := List.mem_map.1 hs
    have h := List.mem_filter.1 hy
    exact ⟨h.1, rfl, by simpa using h.2⟩
  · have hn : ∀ p : Resd → Bool, ((old.filter p).map Resd.id).Nodup := fun p => up_nodup (List.Pairwise.sublist (List.filter_sublist (p := p)) (fine_up ho))
    unfold idsT delsL
    rw [List.map_map]
    exact hn _
theorem makes_mem {old want : List Resd} (ho : FineP old) (hw : FineP want) {x : Resd} (hx : x ∈ want) : x.id ∉ idsT (makesL old want) ↔ x ∈ old := by
  have hmem : x.id ∈ idsT (makesL old want) ↔ isMake old x = true := by
    unfold idsT makesL
    constructor
    · intro h
      obtain ⟨s, hs, e⟩ := List.mem_map.1 h
      obtain ⟨y, hy, he⟩ := List.mem_filterMap.1 hs
      rw [make_is] at he
      split at he
      · rename_i hm
        cases he
        obtain rfl : y = x := (fine_up hw).ids hy hx e
        exact hm
      · cases he
    · intro h
      refine List.mem_map.2 ⟨⟨opOf old x, x⟩, List.mem_filterMap.2 ⟨x, hx, ?_⟩, rfl⟩
      rw [make_is, if_pos h]
  rw [hmem]
  unfold isMake
  cases hp : placeL old x.id with
  | none =>
    simp only [not_true_eq_false, false_iff]
    intro h
    obtain ⟨i, hi⟩ := place_of_mem ho h
    rw [hp] at hi; cases hi
  | some j =>
    obtain ⟨y, hy, e⟩ := place_id hp
    simp only [decide_eq_true_eq, ne_eq, Classical.not_not]
    constructor
    · intro h; exact List.mem_of_getElem? h
    · intro h
      rw [hy, (fine_up ho).ids (List.mem_of_getElem? hy) h e]
/-- Done step by step, the plan makes the one of the other. -/
theorem play_plan {old want : List Resd} (ho : FineP old) (hw : FineP want) : playS old (stepsS old want) = some want := by
  have hM : NowM old want (makesL old want) old := by
    refine ⟨fine_up ho, fun x => ⟨fun hx => ?_, ?_⟩⟩
    · by_cases h1 : x.id ∈ want.map Resd.id
      · by_cases h2 : x.id ∈ idsT (makesL old want)
        · exact .inr ⟨hx, .inl h2⟩
        · obtain ⟨y, hy, e⟩ := List.mem_map.1 h1
          have hyo : y ∈ old := (makes_mem ho hw hy).1 (by rw [e]; exact h2)
          obtain rfl : y = x := (fine_up ho).ids hyo hx e
          exact .inl ⟨hy, h2⟩
      · exact .inr ⟨hx, .inr h1⟩
    · rintro (⟨h1, h2⟩ | ⟨h1, _⟩)
      · exact (makes_mem ho hw h1).1 h2
      · exact h1
  obtain ⟨n1, h1, h2⟩ := play_make hw _ _ _ rfl (makes_ok hw) hM
  have hD : NowD old want (delsL old want) n1 := by
    refine ⟨h2.up, fun x => ?_⟩
    rw [h2.mem]
    have hd : x ∈ old → (x.id ∈ idsT (delsL old want) ↔ x.id ∉ want.map Resd.id) := fun hx => by
      classical
      unfold idsT delsL
      rw [List.map_map]
      constructor
      · intro h
        obtain ⟨y, hy, e⟩ := List.mem_map.1 h
        have h3 := List.mem_filter.1 hy
        have : y.id = x.id := e
        rw [← this]; simpa using h3.2
      · intro h
        exact List.mem_map.2 ⟨x, List.mem_filter.2 ⟨hx, by simpa using h⟩, rfl⟩
    constructor
    · rintro (⟨h3, _⟩ | ⟨h3, h4 | h4⟩)
      · exact .inl h3
      · simp [idsT] at h4
      · exact .inr ⟨h3, (hd h3).2 h4⟩
    · rintro (h3 | ⟨h3, h4⟩)
      · exact .inl ⟨h3, by simp [idsT]⟩
      · exact .inr ⟨h3, .inr ((hd h3).1 h4)⟩
  obtain ⟨n2, h3, h4⟩ := play_del ho hw _ _ _ rfl (dels_ok ho) hD
  have : n2 = want := up_ext h4.up (fine_up hw) fun x => by rw [h4.mem]; simp [idsT]
  unfold stepsS
  rw [play_app h1, h3, this]
theorem ord_sub {may : List StepD → StepD → Prop} : ∀ (n : Nat) (T : List StepD), (idsT T).Nodup → (∀ s ∈ ordF may n T, s ∈ T) ∧ (idsT (ordF may n T)).Nodup
  | 0, T, _ => ⟨fun s hs => (by cases hs), by simp [ordF, idsT]⟩
  | n + 1, T, h => by
    simp only [ordF]
    cases hq : pickF (may T) T with
    | none => exact ⟨fun s hs => (by cases hs), by simp [idsT]⟩
    | some q =>
      obtain ⟨s, r⟩ := q
      obtain ⟨_, l1, l2, rfl, rfl⟩ := pick_spec hq
      obtain ⟨h1, h2⟩ := ord_sub (may := may) n (l1 ++ l2) (nod_cut h)
      refine ⟨fun t ht => ?_, ?_⟩
      · rcases List.mem_cons.1 ht with rfl | ht
        · exact List.mem_append.2 (.inr List.mem_cons_self)
        · rcases List.mem_append.1 (h1 t ht) with h3 | h3
          · exact List.mem_append.2 (.inl h3)
          · exact List.mem_append.2 (.inr (List.mem_cons_of_mem _ h3))
      · refine List.nodup_cons.2 ⟨fun hm => ?_, h2⟩
        obtain ⟨t, ht, e⟩ := List.mem_map.1 hm
        have := (ids_cut h).1 (mem_ids (h1 t ht))
        exact this.2 e
/-- Nothing is done to a resource twice. -/
theorem plan_once {old want : List Resd} (ho : FineP old) (hw : FineP want) : (idsT (stepsS old want)).Nodup := by
  obtain ⟨h1, h2⟩ := ord_sub (may := mayMake want) (makesL old want).length _ (makes_ok (old := old) hw).nod
  obtain ⟨h3, h4⟩ := ord_sub (may := mayDel) (delsL old want).length _ (dels_ok (want := want) ho).nod
  unfold stepsS idsT
  rw [List.map_append]
  refine List.nodup_append.2 ⟨h2, h4, fun a ha b hb e => ?_⟩
  obtain ⟨s, hs, rfl⟩ := List.mem_map.1 ha
  obtain ⟨t, ht, rfl⟩ := List.mem_map.1 hb
  exact ((dels_ok (want := want) ho).each t (h3 t ht)).2.2 (by
    rw [← e]; exact List.mem_map.2 ⟨s.x, ((makes_ok (old := old) hw).each s (h1 s hs)).1, rfl⟩)
/-- Nor to one that is right already. -/
theorem plan_right {old want : List Resd} (ho : FineP old) (hw : FineP want) {x : Resd} (hx : x ∈ old) (hx' : x ∈ want) : x.id ∉ idsT (stepsS old want) := by
  obtain ⟨h1, _⟩ := ord_sub (may := mayMake want) (makesL old want).length _ (makes_ok (old := old) hw).nod
  obtain ⟨h3, _⟩ := ord_sub (may := mayDel) (delsL old want).length _ (dels_ok (want := want) ho).nod
  intro h
  unfold stepsS idsT at h
  rw [List.map_append] at h
  rcases List.mem_append.1 h with h | h
  · obtain ⟨s, hs, e⟩ := List.mem_map.1 h
    exact (makes_mem ho hw hx').2 hx (by rw [← e]; exact mem_ids (h1 s hs))
  · obtain ⟨s, hs, e⟩ := List.mem_map.1 h
    exact ((dels_ok (want := want) ho).each s (h3 s hs)).2.2 (by rw [e]; exact List.mem_map.2 ⟨x, hx', rfl⟩)
end Go.Proofs.YtfoelahabalbpaaGreatDoor

namespace Go.Proofs.YtfoelahabalbpaaGreatDoor
open Go.RowKit

/-- What was made, and in which order. -/
structure TamI (ids : List IDd) (l : List Resd) : Prop where
  up : UpR l
  may : ∀ x ∈ l, mayB x = true
  same : ∀ a, a ∈ ids ↔ HasR l a
  nod : ids.Nodup
  ahead : ∀ x ∈ l, ∀ k : Nat, ids[k]? = some x.id → ∀ a ∈ x.after, a ∈ ids.take k
theorem TamI.nil : TamI [] [] := ⟨List.Pairwise.nil, fun x h => (by cases h), fun a => ⟨fun h => (by cases h), fun ⟨x, h, _⟩ => (by cases h)⟩, List.nodup_nil, fun x h => (by cases h)⟩
theorem TamI.more {ids : List IDd} {l : List Resd} {r : Resd} (h : TamI ids l) (hn : r.id ∉ ids) (hm : mayB r = true) (ha : ∀ a ∈ r.after, a ∈ ids) : TamI (ids ++ [r.id]) (putS l r) := by
  have hne : ∀ x ∈ l, x.id ≠ r.id := fun x hx e => hn ((h.same r.id).2 ⟨x, hx, e⟩)
  refine ⟨put_up h.up, fun x hx => ?_, fun a => ?_, ?_, fun x hx k hk a haa => ?_⟩
  · rcases put_mem.1 hx with rfl | ⟨hx, _⟩
    · exact hm
    · exact h.may x hx
  · rw [List.mem_append, List.mem_singleton]
    constructor
    · rintro (h1 | rfl)
      · obtain ⟨x, hx, e⟩ := (h.same a).1 h1
        exact ⟨x, put_mem.2 (.inr ⟨hx, hne x hx⟩), e⟩
      · exact ⟨r, put_mem.2 (.inl rfl), rfl⟩
    · rintro ⟨x, hx, rfl⟩
      rcases put_mem.1 hx with rfl | ⟨hx, _⟩
      · exact .inr rfl
      · exact .inl ((h.same _).2 ⟨x, hx, rfl⟩)
  · refine List.nodup_append.2 ⟨h.nod, by simp, fun a ha b hb e => ?_⟩
    obtain rfl : b = r.id := by simpa using hb
    exact hn (e ▸ ha)
  · rcases put_mem.1 hx with rfl | ⟨hx, hxr⟩
    · have hk' : k = ids.length := by
        rw [List.getElem?_append] at hk
        split at hk
        · exact absurd (List.mem_of_getElem? hk) hn
        · rename_i hlt
          have := (List.getElem?_eq_some_iff.1 hk).1
          simp at this; omega
      subst hk'
      rw [List.take_left']
      · exact ha a haa
      · rfl
    · have hkl : k < ids.length := by
        rw [List.getElem?_append] at hk
        split at hk
        · rename_i hlt; exact hlt
        · rename_i hlt
          have hz := (List.getElem?_eq_some_iff.1 hk).1
          have : k - ids.length = 0 := by simp at hz; omega
          rw [this] at hk
          have e : r.id = x.id := by simpa using hk
          exact absurd e.symm hxr
      rw [List.getElem?_append_left hkl] at hk
      rw [List.take_append_of_le_length (by omega)]
      exact h.ahead x hx k hk a haa
theorem up_rises : ∀ {l : List Resd}, UpR l → risesB lessR l = true
  | [], _ => rfl
  | [_], _ => rfl
  | a :: b :: l, h => by
    have h1 := List.pairwise_cons.1 h
    have h2 := h1.1 b List.mem_cons_self
    simp only [risesB, Bool.and_eq_true]
    exact ⟨by simpa [lessR, lessI] using h2, up_rises h1.2⟩
theorem has_place {l : List Resd} {a : IDd} (h : HasR l a) : ∃ j, placeL l a = some j := by
  obtain ⟨x, hx, rfl⟩ := h
  cases hp : placeL l x.id with
  | some j => exact ⟨j, rfl⟩
  | none =>
    have := List.findIdx?_eq_none_iff.1 hp x hx
    simp at this
theorem nod_at {ids : List IDd} (h : ids.Nodup) {i j : Nat} {a : IDd} (hi : ids[i]? = some a) (hj : ids[j]? = some a) : i = j := by
  obtain ⟨h1, e1⟩ := List.getElem?_eq_some_iff.1 hi
  obtain ⟨h2, e2⟩ := List.getElem?_eq_some_iff.1 hj
  have hp := List.pairwise_iff_getElem.1 h
  rcases Nat.lt_trichotomy i j with hij | hij | hij
  · exact absurd (e1.trans e2.symm) (hp i j h1 h2 hij)
  · exact hij
  · exact absurd (e2.trans e1.symm) (hp j i h2 h1 hij)
theorem TamI.fine {ids : List IDd} {l : List Resd} (h : TamI ids l) (hn : ids.length ≤ 12) : FineP l := by
  have hlen : l.length ≤ 12 := by
    have h1 := len_le_of_sub (l.map Resd.id) ids (List.pairwise_map.2 (h.up.imp fun {a b} hab e => by rw [e, cmp_self] at hab; omega)) (fun a ha => by
      obtain ⟨x, hx, rfl⟩ := List.mem_map.1 ha
      exact (h.same _).2 ⟨x, hx, rfl⟩)
    rw [List.length_map] at h1; omega
  have hpos : ∀ x ∈ l, ∃ k : Nat, ids[k]? = some x.id := fun x hx => List.mem_iff_getElem?.1 ((h.same _).2 ⟨x, hx, rfl⟩)
  refine ⟨?_, fun i x hi k a hk => ?_, fun i hi hc => ?_⟩
  · simp only [mayAllB, Bool.and_eq_true, decide_eq_true_eq, List.all_eq_true]
    exact ⟨⟨hlen, h.may⟩, up_rises h.up⟩
  · have hx := List.mem_of_getElem? hi
    obtain ⟨n, hn⟩ := hpos x hx
    exact has_place ((h.same a).1 ((List.take_sublist _ _).subset (h.ahead x hx n hn a (List.mem_of_getElem? hk))))
  · have hedge : ∀ k j n : Nat, Edge l k j → (∃ x, l[k]? = some x ∧ ids[n]? = some x.id) → ∃ m : Nat, m < n ∧ ∃ y, l[j]? = some y ∧ ids[m]? = some y.id := by
      rintro k j n ⟨x, a, h1, h2, h3⟩ ⟨x', h4, h5⟩
      obtain rfl : x = x' := by simpa using h1.symm.trans h4
      have ht := h.ahead x (List.mem_of_getElem? h1) n h5 a h2
      obtain ⟨m, hm⟩ := List.mem_iff_getElem?.1 ht
      rw [List.getElem?_take] at hm
      split at hm
      · rename_i hlt
        obtain ⟨y, hy, rfl⟩ := place_id h3
        exact ⟨m, hlt, y, hy, hm⟩
      · cases hm
    have hcomes : ∀ k n : Nat, Comes l i k → (∃ x, l[i]? = some x ∧ ids[n]? = some x.id) → ∃ m : Nat, m ≤ n ∧ ∃ y, l[k]? = some y ∧ ids[m]? = some y.id := by
      intro k n hk hx
      induction hk with
      | here => exact ⟨n, Nat.le_refl _, hx⟩
      | step _ e ih =>
        obtain ⟨m, hm, hy⟩ := ih
        obtain ⟨m', hm', hy'⟩ := hedge _ _ m e hy
        exact ⟨m', by omega, hy'⟩
    obtain ⟨k, h1, h2⟩ := hc
    have hxi := List.getElem?_eq_getElem hi
    obtain ⟨n, hn'⟩ := hpos l[i] (List.getElem_mem hi)
    obtain ⟨m, hm, hy⟩ := hcomes k n h1 ⟨_, hxi, hn'⟩
    obtain ⟨m', hm', z, hz, hz'⟩ := hedge k i m h2 hy
    obtain rfl : l[i] = z := by simpa using hxi.symm.trans hz
    have := nod_at h.nod hn' hz'
    omega
/-- IDs with one more, in their order. -/
def laidGo (r : IDd) : Bool → List IDd → List IDd
  | dn, [] => if dn = true then [] else [r]
  | dn, x :: l => (if lessI r x = true ∧ dn = false then [r] else []) ++ (x :: laidGo r (dn || lessI r x) l)
def laidS (l : List IDd) (r : IDd) : List IDd := if l.length = 6 then l else laidGo r false l
theorem laidGo_true (r : IDd) : ∀ l : List IDd, laidGo r true l = l
  | [] => rfl
  | x :: l => by simp [laidGo, laidGo_true r l]
theorem laid_mem {r : IDd} : ∀ {l : List IDd} {a : IDd}, a ∈ laidGo r false l ↔ a = r ∨ a ∈ l
  | [], a => by simp [laidGo]
  | x :: l, a => by
    have ih := laid_mem (r := r) (l := l) (a := a)
    unfold laidGo
    by_cases hl : lessI r x = true
    · simp [hl, laidGo_true]
    · have hl' : lessI r x = false := by simpa using hl
      simp only [hl', Bool.false_eq_true, false_and, if_false, List.nil_append, Bool.false_or, List.mem_cons, ih]
      constructor
      · rintro (h | h | h)
        · exact .inr (.inl h)
        · exact .inl h
        · exact .inr (.inr h)
      · rintro (h | h | h)
        · exact .inr (.inl h)
        · exact .inl h
        · exact .inr (.inr h)
theorem laid_len {r : IDd} : ∀ l : List IDd, (laidGo r false l).length = l.length + 1
  | [] => rfl
  | x :: l => by
    have ih := laid_len (r := r) l
    unfold laidGo
    by_cases hl : lessI r x = true
    · simp [hl, laidGo_true]
    · have hl' : lessI r x = false := by simpa using hl
      simp [hl', ih]
theorem laid_up {r : IDd} : ∀ {l : List IDd}, Up l → r ∉ l → Up (laidGo r false l)
  | [], _, _ => by simp [laidGo, Up]
  | x :: l, h, hr => by
    have h1 := List.pairwise_cons.1 h
    have hr' : ¬ r = x ∧ r ∉ l := by simpa using hr
    unfold laidGo
    by_cases hl : lessI r x = true
    · have hlt : cmpI r x < 0 := by simpa [lessI] using hl
      simp only [hl, Bool.false_or, laidGo_true]
      refine List.pairwise_cons.2 ⟨fun z hz => ?_, h⟩
      rcases List.mem_cons.1 hz with rfl | hz
      · exact hlt
      · exact cmpI_trans hlt (h1.1 z hz)
    · have hl' : lessI r x = false := by simpa using hl
      have h2 : ¬ cmpI r x < 0 := by simpa [lessI] using hl
      have h3 : cmpI r x ≠ 0 := fun e => hr'.1 (cmpI_zero.1 e)
      simp only [hl', Bool.false_eq_true, false_and, if_false, List.nil_append, Bool.false_or]
      refine List.pairwise_cons.2 ⟨fun z hz => ?_, laid_up h1.2 hr'.2⟩
      rcases laid_mem.1 hz with rfl | hz
      · rw [cmpI_flip]; omega
      · exact h1.1 z hz
end Go.Proofs.YtfoelahabalbpaaGreatDoor
