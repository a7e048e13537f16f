/-
  A slice of bytes as a string; a new row of one cell and of two.
-/
/-
  The plain plan: what makes the one list of the other, with no memory.
-/
/-
  Where nothing waits for itself, who waits for whom comes to an end: a rank.
-/
import Derived.Test.YtodhhjlemmmjcaaGreatJ1
import Derived.Test.YtodhhjlemmmjcaaGreatJ2
namespace Go.Proofs.YtodhhjlemmmjcaaGreat
open Go.RowKit

theorem ba_app (a b : ByteArray) : a ++ b = ⟨(a.data.toList ++ b.data.toList).toArray⟩ := by
  apply ByteArray.ext; simp
theorem ba_app' (a b : List UInt8) : (⟨a.toArray⟩ : ByteArray) ++ ⟨b.toArray⟩ = ⟨(a ++ b).toArray⟩ := by
  apply ByteArray.ext; simp
theorem ba_app2 (a b : Array UInt8) : (⟨a⟩ : ByteArray) ++ ⟨b⟩ = ⟨(a.toList ++ b.toList).toArray⟩ := by
  apply ByteArray.ext; simp
theorem add_eq (b off j : Nat) : (⟨b, off, none⟩ : Addr).add j = ⟨b, off + j, none⟩ := by unfold Addr.add; split <;> simp_all
theorem push_fold : ∀ (l : List UInt8) (r : List UInt8), (l.map fun c => (c.toNat : Int)).foldl (fun r n => r.push (UInt8.ofNat n.toNat)) (⟨r.toArray⟩ : ByteArray) = ⟨(r ++ l).toArray⟩
  | [], r => by simp
  | c :: l, r => by
    have e : (⟨r.toArray⟩ : ByteArray).push (UInt8.ofNat ((c.toNat : Int).toNat)) = ⟨(r ++ [c]).toArray⟩ := by
      show (⟨r.toArray.push _⟩ : ByteArray) = _
      rw [Int.toNat_natCast, UInt8.ofNat_toNat]; simp
    rw [List.map_cons, List.foldl_cons, e, push_fold l (r ++ [c])]; simp
/-- string(bs): the bytes that lie there. -/
theorem conv_bytes (w : World) (b off n cap : Nat) (l : List UInt8) (hn : l.length = n) (h : ∀ j, j < l.length → w.cell? ⟨b, off + j, none⟩ = some (.int .u8 ((l[j]?.getD 0).toNat : Int))) :
    (convert 127 9 (.slice (some ⟨b, off, none⟩) n cap)).run Tryz.prog w = .ok (.string ⟨l.toArray⟩) w := by
  subst hn
  rw [run_convert_bytes_string w 127 9 5 _ _ _ Tryz.underlying127 Tryz.underlying5 Tryz.underlying9]
  have hl : (loadCells ⟨b, off, none⟩ l.length).run Tryz.prog w = .ok ((l.map fun c => (c.toNat : Int)).map (Value.int .u8)).toArray w := by
    have := run_loadCells_list (P := Tryz.prog) (w := w) ⟨b, off, none⟩ ((l.map fun c => (c.toNat : Int)).map (Value.int .u8)) (by
      intro j v hj
      rw [add_eq]
      have hlt : j < l.length := by
        have := (List.getElem?_eq_some_iff.1 hj).1; simpa using this
      rw [h j hlt]
      simp [hlt] at hj ⊢
      exact hj)
    simpa using this
  rw [run_bytesToString w _ _ _ _ hl]
  have := push_fold l []
  simp only [List.nil_append] at this
  exact congrArg (fun x => Result.ok (Value.string x) w) this
/-- .. of a row of one byte, just made. -/
theorem conv_one (w : World) (c : Int) (h0 : 0 ≤ c) (h1 : c ≤ 255) :
    (convert 127 9 (.slice (some ⟨w.heap.size, 0, none⟩) 1 1)).run Tryz.prog (w.alloc (.cells #[.int .u8 c] 5)) = .ok (.string ⟨#[UInt8.ofNat c.toNat]⟩) (w.alloc (.cells #[.int .u8 c] 5)) := by
  refine conv_bytes _ _ 0 1 1 [UInt8.ofNat c.toNat] rfl ?_
  intro j hj
  obtain rfl : j = 0 := by simpa using hj
  have : ((UInt8.ofNat c.toNat).toNat : Int) = c := by simp; omega
  simp [go_sem]; omega
theorem conv_at (w : World) (b : Nat) (c : Int) (h0 : 0 ≤ c) (h1 : c ≤ 255) (h : w.cell? ⟨b, 0, none⟩ = some (.int .u8 c)) :
    (convert 127 9 (.slice (some ⟨b, 0, none⟩) 1 1)).run Tryz.prog w = .ok (.string ⟨#[UInt8.ofNat c.toNat]⟩) w := by
  refine conv_bytes _ _ 0 1 1 [UInt8.ofNat c.toNat] rfl ?_
  intro j hj
  obtain rfl : j = 0 := by simpa using hj
  have e1 : ((UInt8.ofNat c.toNat).toNat : Int) = c := by simp; omega
  show w.cell? ⟨b, 0, none⟩ = some (.int .u8 ((UInt8.ofNat c.toNat).toNat : Int))
  rw [e1]; exact h
theorem conv_two (w : World) (c d : Int) (h0 : 0 ≤ c) (h1 : c ≤ 255) (h2 : 0 ≤ d) (h3 : d ≤ 255) :
    (convert 127 9 (.slice (some ⟨w.heap.size, 0, none⟩) 2 2)).run Tryz.prog (w.alloc (.cells #[.int .u8 c, .int .u8 d] 5)) = .ok (.string ⟨#[UInt8.ofNat c.toNat, UInt8.ofNat d.toNat]⟩) (w.alloc (.cells #[.int .u8 c, .int .u8 d] 5)) := by
  refine conv_bytes _ _ 0 2 2 [UInt8.ofNat c.toNat, UInt8.ofNat d.toNat] rfl ?_
  intro j hj
  have e1 : ((UInt8.ofNat c.toNat).toNat : Int) = c := by simp; omega
  have e2 : ((UInt8.ofNat d.toNat).toNat : Int) = d := by simp; omega
  have : j = 0 ∨ j = 1 := by simp at hj; omega
  rcases this with rfl | rfl
  · simp [go_sem]; omega
  · simp [go_sem]; omega
end Go.Proofs.YtodhhjlemmmjcaaGreat

namespace Go.Proofs.YtodhhjlemmmjcaaGreat
open Go.RowKit

/-- A step: what is done, and to which resource. -/
structure StepD where
  op : Nat
  x : Resd
/-- One waits, also through others, for one that fits. -/
def WaitsTo (l : List Resd) (a : IDd) (F : IDd → Prop) : Prop := ∃ b c, IdComes l a b ∧ IdEdge l b c ∧ F c
open Classical in
/-- The first that fits, and the others. -/
noncomputable def pickF {α : Type} (p : α → Prop) : List α → Option (α × List α)
  | [] => none
  | a :: l => if p a then some (a, l) else match pickF p l with
    | none => none
    | some (b, r) => some (b, a :: r)
/-- Again and again the first that may be next. -/
noncomputable def ordF (may : List StepD → StepD → Prop) : Nat → List StepD → List StepD
  | 0, _ => []
  | f + 1, t => match pickF (may t) t with
    | none => []
    | some (s, r) => s :: ordF may f r
def idsT (t : List StepD) : List IDd := t.map fun s => s.x.id
def mayMake (want : List Resd) (t : List StepD) (s : StepD) : Prop := ¬ WaitsTo want s.x.id (fun a => a ∈ idsT t)
def mayDel (t : List StepD) (s : StepD) : Prop := ¬ ∃ o ∈ t, s.x.id ∈ o.x.after
open Classical in
noncomputable def makeOf (old : List Resd) (r : Resd) : Option StepD := match old.find? (fun o => decide (o.id = r.id)) with
  | none => some ⟨1, r⟩
  | some o => if o = r then none else some ⟨2, r⟩
noncomputable def makesL (old want : List Resd) : List StepD := want.filterMap (makeOf old)
open Classical in
noncomputable def delsL (old want : List Resd) : List StepD := (old.filter fun r => decide (r.id ∉ want.map Resd.id)).map fun r => ⟨3, r⟩
/-- What Steps answers of lists that are whole. -/
noncomputable def stepsS (old want : List Resd) : List StepD := ordF (mayMake want) (makesL old want).length (makesL old want) ++ ordF mayDel (delsL old want).length (delsL old want)

/-- The steps that are still to come, by marks. -/
def flagT (op : Resd → Nat) : List Resd → List Bool → List StepD
  | x :: l, b :: fl => if b = true then ⟨op x, x⟩ :: flagT op l fl else flagT op l fl
  | _, _ => []
theorem flag_mem {op : Resd → Nat} : ∀ {l : List Resd} {fl : List Bool} {s : StepD}, s ∈ flagT op l fl ↔ ∃ (i : Nat) (x : Resd), l[i]? = some x ∧ fl[i]? = some true ∧ s = ⟨op x, x⟩
  | [], fl, s => by simp [flagT]
  | x :: l, [], s => by simp [flagT]
  | x :: l, b :: fl, s => by
    have ih := flag_mem (op := op) (l := l) (fl := fl) (s := s)
    unfold flagT
    constructor
    · intro h
      by_cases hb : b = true
      · rw [if_pos hb] at h
        rcases List.mem_cons.1 h with rfl | h
        · exact ⟨0, x, rfl, by simp [hb], rfl⟩
        · obtain ⟨i, y, h1, h2, h3⟩ := ih.1 h
          exact ⟨i + 1, y, by simpa using h1, by simpa using h2, h3⟩
      · rw [if_neg hb] at h
        obtain ⟨i, y, h1, h2, h3⟩ := ih.1 h
        exact ⟨i + 1, y, by simpa using h1, by simpa using h2, h3⟩
    · rintro ⟨i, y, h1, h2, h3⟩
      cases i with
      | zero =>
        simp at h1 h2
        subst h1
        rw [if_pos h2, h3]
        exact List.mem_cons_self
      | succ i =>
        have := ih.2 ⟨i, y, by simpa using h1, by simpa using h2, h3⟩
        split
        · exact List.mem_cons_of_mem _ this
        · exact this
/-- The least that is marked and fits is the first of the steps that fits. -/
theorem pick_flag {op : Resd → Nat} {p : StepD → Prop} : ∀ {l : List Resd} {fl : List Bool} {i : Nat} {x : Resd}, l[i]? = some x → fl[i]? = some true → p ⟨op x, x⟩ → (∀ (j : Nat) y, j < i → l[j]? = some y → fl[j]? = some true → ¬ p ⟨op y, y⟩) → pickF p (flagT op l fl) = some (⟨op x, x⟩, flagT op l (fl.set i false))
  | [], fl, i, x, h, _, _, _ => by simp at h
  | y :: l, [], i, x, _, h, _, _ => by simp at h
  | y :: l, b :: fl, 0, x, h1, h2, h3, _ => by
    simp at h1 h2
    subst h1
    simp only [flagT, List.set_cons_zero]
    rw [if_pos h2, if_neg (by decide)]
    simp only [pickF]
    rw [if_pos h3]
  | y :: l, b :: fl, i + 1, x, h1, h2, h3, h4 => by
    have ih := pick_flag (op := op) (p := p) (l := l) (fl := fl) (i := i) (x := x) (by simpa using h1) (by simpa using h2) h3 (fun j z hj hz hf => h4 (j + 1) z (by omega) (by simpa using hz) (by simpa using hf))
    simp only [flagT, List.set_cons_succ]
    by_cases hb : b = true
    · rw [if_pos hb, if_pos hb]
      have hn : ¬ p ⟨op y, y⟩ := h4 0 y (by omega) rfl (by simp [hb])
      simp only [pickF]
      rw [if_neg hn, ih]
    · rw [if_neg hb, if_neg hb]
      exact ih
theorem pick_none {α : Type} {p : α → Prop} : ∀ {l : List α}, (∀ a ∈ l, ¬ p a) → pickF p l = none
  | [], _ => rfl
  | a :: l, h => by
    simp only [pickF]
    rw [if_neg (h a List.mem_cons_self), pick_none fun x hx => h x (List.mem_cons_of_mem _ hx)]
theorem flag_len {op : Resd → Nat} : ∀ {l : List Resd} {fl : List Bool} {i : Nat} {x : Resd}, l[i]? = some x → fl[i]? = some true → (flagT op l fl).length = (flagT op l (fl.set i false)).length + 1
  | [], fl, i, x, h, _ => by simp at h
  | y :: l, [], i, x, _, h => by simp at h
  | y :: l, b :: fl, 0, x, h1, h2 => by
    simp at h2
    simp only [flagT, List.set_cons_zero]
    rw [if_pos h2, if_neg (by decide)]
    simp
  | y :: l, b :: fl, i + 1, x, h1, h2 => by
    have ih := flag_len (op := op) (l := l) (fl := fl) (i := i) (x := x) (by simpa using h1) (by simpa using h2)
    simp only [flagT, List.set_cons_succ]
    split
    · simp [ih]
    · exact ih
/-- The resource at a place waits, also through others, for one that is marked. -/
def HeldI (l : List Resd) (fl : List Bool) (i : Nat) : Prop := ∃ k j, Comes l i k ∧ Edge l k j ∧ fl[j]? = some true
theorem held_iff {l : List Resd} (hd : Apart l) {op : Resd → Nat} {fl : List Bool} {i : Nat} {x : Resd} (hx : l[i]? = some x) : WaitsTo l x.id (fun a => a ∈ idsT (flagT op l fl)) ↔ HeldI l fl i := by
  have hto : ∀ c, IdComes l x.id c → ∀ k, placeL l c = some k → Comes l i k := by
    intro c hc
    induction hc with
    | here =>
      intro k hk
      obtain rfl : i = k := by simpa using (place_self hd hx).symm.trans hk
      exact .here
    | step _ e ih =>
      intro j hj
      obtain ⟨k, y, h1, h2, h3⟩ := e
      exact (ih k h1).step ⟨y, _, h2, h3, hj⟩
  have hback : ∀ k, Comes l i k → ∀ y, l[k]? = some y → IdComes l x.id y.id := by
    intro k hk
    induction hk with
    | here =>
      intro y hy
      obtain rfl : x = y := by simpa using hx.symm.trans hy
      exact .here
    | step _ e ih =>
      intro z hz
      obtain ⟨y, a, h1, h2, h3⟩ := e
      obtain ⟨z', hz', rfl⟩ := place_id h3
      obtain rfl : z = z' := by simpa using hz.symm.trans hz'
      exact (ih y h1).step ⟨_, y, place_self hd h1, h1, h2⟩
  constructor
  · rintro ⟨b, c, hb, ⟨k, y, h1, h2, h3⟩, hF⟩
    obtain ⟨s, hs, rfl⟩ := List.mem_map.1 hF
    obtain ⟨j, z, h4, h5, rfl⟩ := flag_mem.1 hs
    exact ⟨k, j, hto b hb k h1, ⟨y, _, h2, h3, place_self hd h4⟩, h5⟩
  · rintro ⟨k, j, hk, ⟨y, a, h1, h2, h3⟩, hj⟩
    obtain ⟨z, hz, rfl⟩ := place_id h3
    exact ⟨y.id, z.id, hback k hk y h1, ⟨k, y, place_self hd h1, h1, h2⟩, List.mem_map.2 ⟨⟨op z, z⟩, flag_mem.2 ⟨j, z, hz, hj, rfl⟩, rfl⟩⟩
/-- Marks as the first look lays them: what is to be made. -/
theorem flag_map {op : Resd → Nat} {f : Resd → Option StepD} {p : Resd → Bool} : ∀ {l : List Resd}, (∀ x ∈ l, f x = if p x = true then some ⟨op x, x⟩ else none) → l.filterMap f = flagT op l (l.map p)
  | [], _ => rfl
  | x :: l, h => by
    have h1 := h x List.mem_cons_self
    have ih := flag_map (l := l) fun y hy => h y (List.mem_cons_of_mem _ hy)
    simp only [List.map_cons, flagT]
    by_cases hp : p x = true
    · rw [if_pos hp] at h1 ⊢
      rw [List.filterMap_cons_some h1, ih]
    · rw [if_neg hp] at h1 ⊢
      rw [List.filterMap_cons_none h1, ih]
theorem flag_filter {op : Resd → Nat} {p : Resd → Bool} : ∀ (l : List Resd), (l.filter p).map (fun r => (⟨op r, r⟩ : StepD)) = flagT op l (l.map p)
  | [] => rfl
  | x :: l => by
    have ih := flag_filter (op := op) (p := p) l
    simp only [List.map_cons, flagT]
    by_cases hp : p x = true
    · rw [if_pos hp, List.filter_cons_of_pos hp, List.map_cons, ih]
    · rw [if_neg hp, List.filter_cons_of_neg hp, ih]
end Go.Proofs.YtodhhjlemmmjcaaGreat

namespace Go.Proofs.YtodhhjlemmmjcaaGreat
open Go.RowKit

theorem filter_lt {α : Type} {p q : α → Bool} : ∀ {l : List α}, (∀ x ∈ l, p x = true → q x = true) → (∃ x ∈ l, q x = true ∧ p x = false) → (l.filter p).length < (l.filter q).length
  | [], _, ⟨x, hx, _⟩ => by cases hx
  | a :: l, h, hx => by
    have hl : ∀ x ∈ l, p x = true → q x = true := fun x hx => h x (List.mem_cons_of_mem _ hx)
    have hle : ∀ {l : List α}, (∀ x ∈ l, p x = true → q x = true) → (l.filter p).length ≤ (l.filter q).length := by
      intro l
      induction l with
      | nil => intro _; simp
      | cons b l ih =>
        intro hb
        have := ih fun x hx => hb x (List.mem_cons_of_mem _ hx)
        by_cases hp : p b = true
        · rw [List.filter_cons_of_pos hp, List.filter_cons_of_pos (hb b List.mem_cons_self hp)]; simp; omega
        · rw [List.filter_cons_of_neg hp]
          by_cases hq : q b = true
          · rw [List.filter_cons_of_pos hq]; simp; omega
          · rw [List.filter_cons_of_neg hq]; exact this
    obtain ⟨x, hm, h1, h2⟩ := hx
    by_cases hp : p a = true
    · have hq := h a List.mem_cons_self hp
      rw [List.filter_cons_of_pos hp, List.filter_cons_of_pos hq]
      have hxl : x ∈ l := by
        rcases List.mem_cons.1 hm with rfl | hm
        · rw [hp] at h2; cases h2
        · exact hm
      have := filter_lt hl ⟨x, hxl, h1, h2⟩
      simp; omega
    · rw [List.filter_cons_of_neg hp]
      by_cases hq : q a = true
      · rw [List.filter_cons_of_pos hq]
        have := hle hl
        simp; omega
      · rw [List.filter_cons_of_neg hq]
        have hxl : x ∈ l := by
          rcases List.mem_cons.1 hm with rfl | hm
          · exact absurd h1 hq
          · exact hm
        exact filter_lt hl ⟨x, hxl, h1, h2⟩
/-- From i one comes to j by a step or more. -/
def Reach1 (l : List Resd) (i j : Nat) : Prop := ∃ k, Comes l i k ∧ Edge l k j
theorem Comes.trans {l : List Resd} {i j k : Nat} (h : Comes l i j) (h' : Comes l j k) : Comes l i k := by
  induction h' with
  | here => exact h
  | step _ e ih => exact ih.step e
theorem Edge.comes {l : List Resd} {i j k : Nat} (h : Edge l i j) (h' : Comes l j k) : Comes l i k := (Comes.here.step h).trans h'
theorem edgeIn {l : List Resd} {i j : Nat} (h : Edge l i j) : j < l.length := by
  obtain ⟨x, a, _, _, h3⟩ := h
  exact place_lt h3
open Classical in
noncomputable def rankI (l : List Resd) (i : Nat) : Nat := ((List.range l.length).filter fun k => decide (Reach1 l i k)).length
theorem rank_less {l : List Resd} {i j : Nat} (h : Edge l i j) (hn : ¬ Circ l j) : rankI l j < rankI l i := by
  classical
  unfold rankI
  refine filter_lt (fun k _ hk => ?_) ⟨j, List.mem_range.2 (edgeIn h), ?_, ?_⟩
  · simp only [decide_eq_true_eq] at hk ⊢
    obtain ⟨m, h1, h2⟩ := hk
    exact ⟨m, h.comes h1, h2⟩
  · exact decide_eq_true ⟨i, .here, h⟩
  · exact decide_eq_false hn
/-- One is held if one that it waits for is marked, or held. -/
theorem held_step {l : List Resd} {fl : List Bool} {i : Nat} : HeldI l fl i ↔ ∃ j, Edge l i j ∧ (fl[j]? = some true ∨ HeldI l fl j) := by
  constructor
  · rintro ⟨k, j, hk, he, hj⟩
    have key : ∀ k, Comes l i k → k = i ∨ ∃ m, Edge l i m ∧ Comes l m k := by
      intro k hk
      induction hk with
      | here => exact .inl rfl
      | step h e ih =>
        rcases ih with rfl | ⟨m, h1, h2⟩
        · exact .inr ⟨_, e, .here⟩
        · exact .inr ⟨m, h1, h2.step e⟩
    rcases key k hk with rfl | ⟨m, h1, h2⟩
    · exact ⟨j, he, .inl hj⟩
    · exact ⟨m, h1, .inr ⟨k, j, h2, he, hj⟩⟩
  · rintro ⟨j, he, hj | ⟨k, m, h1, h2, h3⟩⟩
    · exact ⟨i, j, .here, he, hj⟩
    · exact ⟨k, m, he.comes h1, h2, h3⟩
end Go.Proofs.YtodhhjlemmmjcaaGreat
