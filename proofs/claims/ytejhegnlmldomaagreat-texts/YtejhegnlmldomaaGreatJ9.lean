/-
  IDs, Attrs and resources as bytes: what the program's functions that write them answer.
-/
/-
  IDs and Attrs out of bytes: what the program's functions that read them answer.
-/
/-
  Lists out of bytes: what the program's functions that read them answer.
-/
/-
  Resources out of bytes: what the program's function that reads them answers.
-/
/-
  Resources whose lists are our own: plain facts.
-/
/-
  A list of resources of our own, and theirs.
-/
/-
  Tokens: words, numbers, strings.
-/
import Derived.Test.YtejhegnlmldomaaGreatJ8
import Derived.Test.YtejhegnlmldomaaGreatJ6
import Derived.Deep.RegionHeld3
import Derived.Test.YtejhegnlmldomaaGreatShelf
import Derived.Test.YtejhegnlmldomaaGreatJ4
import Derived.Test.YtejhegnlmldomaaGreatJ3
import Derived.Deep.DeepMust
namespace Go.Proofs.YtejhegnlmldomaaGreat
open Go.RowKit

def idL (x : IDd) : List UInt8 := textL x.kind ++ textL x.name
def attrL (x : Attrd) : List UInt8 := textL x.name ++ (if x.isText then bigL 1 1 ++ textL x.text else bigL 1 0 ++ bigL 4 x.number)
def listL {α : Type} (f : α → List UInt8) (l : List α) : List UInt8 := bigL 1 l.length ++ l.flatMap f
/-- A resource as bytes. -/
def encR (x : Resd) : List UInt8 := idL x.id ++ listL attrL x.attrs ++ listL idL x.after
/-- Its texts are short. -/
def shI (x : IDd) : Prop := x.kind.size ≤ 255 ∧ x.name.size ≤ 255
def shA (x : Attrd) : Prop := x.name.size ≤ 255 ∧ x.text.size ≤ 255
def shR (x : Resd) : Prop := shI x.id ∧ (∀ a ∈ x.attrs, shA a) ∧ (∀ a ∈ x.after, shI a) ∧ x.attrs.length ≤ 255 ∧ x.after.length ≤ 255
theorem idL_len {x : IDd} (h : shI x) : (idL x).length ≤ 600 := by
  rw [idL, List.length_append, textL_len, textL_len]; have := h.1; have := h.2; omega
theorem attrL_len {x : Attrd} (h : shA x) : (attrL x).length ≤ 600 := by
  rw [attrL, List.length_append, textL_len]; have := h.1; have := h.2
  split
  · rw [List.length_append, bigL_len, textL_len]; omega
  · rw [List.length_append, bigL_len, bigL_len]; omega
theorem flat_le {α : Type} {f : α → List UInt8} {n : Nat} : ∀ {l : List α}, (∀ x ∈ l, (f x).length ≤ n) → (l.flatMap f).length ≤ l.length * n
  | [], _ => by simp
  | x :: l, h => by
    have h1 := h x (by simp)
    have h2 := flat_le (f := f) (n := n) (l := l) fun y hy => h y (by simp [hy])
    rw [List.flatMap_cons, List.length_append, List.length_cons, Nat.succ_mul]; omega
theorem flat_succ {α : Type} {f : α → List UInt8} {l : List α} {k : Nat} {x : α} (h : l[k]? = some x) : (l.take (k + 1)).flatMap f = (l.take k).flatMap f ++ f x := by
  obtain ⟨hk, rfl⟩ := List.getElem?_eq_some_iff.1 h
  rw [List.take_succ_eq_append_getElem hk, List.flatMap_append]; simp

theorem id_keeps {B : Nat} {w w' : World} (h : Wrote8 B w w') {k : Nat} {c : Array Value} {fz : Nat × Nat} (hk : w.heap[k]? = some (.cells c 53 fz)) : w'.heap[k]? = some (.cells c 53 fz) := h.keeps hk (by decide)
theorem id_c0 {w : World} {k : Nat} {a b : Value} {t : TypeId} {fz : Nat × Nat} (hk : w.heap[k]? = some (.cells #[a, b] t fz)) : w.cell? ⟨k, 0, none⟩ = some a := by simp [World.cell?, hk]
theorem id_c1 {w : World} {k : Nat} {a b : Value} {t : TypeId} {fz : Nat × Nat} (hk : w.heap[k]? = some (.cells #[a, b] t fz)) : w.cell? ⟨k, 1, none⟩ = some b := by simp [World.cell?, hk]

theorem bound1 {acc l : List UInt8} {s : ByteArray} (h : acc = l ++ textL s) (hl : l.length ≤ 800000) (hs : s.size ≤ 255) : acc.length ≤ 900000 := by
  rw [h, List.length_append, textL_len]; omega

theorem at_keeps {B : Nat} {w w' : World} (h : Wrote8 B w w') {k : Nat} {c : Array Value} {fz : Nat × Nat} (hk : w.heap[k]? = some (.cells c 129 fz)) : w'.heap[k]? = some (.cells c 129 fz) := h.keeps hk (by decide)
theorem at_c0 {w : World} {k : Nat} {a b c d : Value} {t : TypeId} {fz : Nat × Nat} (hk : w.heap[k]? = some (.cells #[a, b, c, d] t fz)) : w.cell? ⟨k, 0, none⟩ = some a := by simp [World.cell?, hk]
theorem at_c1 {w : World} {k : Nat} {a b c d : Value} {t : TypeId} {fz : Nat × Nat} (hk : w.heap[k]? = some (.cells #[a, b, c, d] t fz)) : w.cell? ⟨k, 1, none⟩ = some b := by simp [World.cell?, hk]
theorem at_c2 {w : World} {k : Nat} {a b c d : Value} {t : TypeId} {fz : Nat × Nat} (hk : w.heap[k]? = some (.cells #[a, b, c, d] t fz)) : w.cell? ⟨k, 2, none⟩ = some c := by simp [World.cell?, hk]
theorem at_c3 {w : World} {k : Nat} {a b c d : Value} {t : TypeId} {fz : Nat × Nat} (hk : w.heap[k]? = some (.cells #[a, b, c, d] t fz)) : w.cell? ⟨k, 3, none⟩ = some d := by simp [World.cell?, hk]
theorem bound2 {acc l : List UInt8} {n : Int} {k N : Nat} (h : acc = l ++ bigL k n) (hl : l.length + k ≤ N) : acc.length ≤ N := by
  rw [h, List.length_append, bigL_len]; omega
theorem bound3 {acc l : List UInt8} {s : ByteArray} {N : Nat} (h : acc = l ++ textL s) (hl : l.length + (s.size + 1) ≤ N) : acc.length ≤ N := by
  rw [h, List.length_append, textL_len]; omega

end Go.Proofs.YtejhegnlmldomaaGreat

namespace Go.Proofs.YtejhegnlmldomaaGreat
open Go.RowKit

def rdText (l : List UInt8) : ByteArray × List UInt8 := (⟨((l.drop 1).take (numN (l.take 1))).toArray⟩, (l.drop 1).drop (numN (l.take 1)))
def rdID (l : List UInt8) : IDd × List UInt8 := (⟨(rdText l).1, (rdText (rdText l).2).1⟩, (rdText (rdText l).2).2)
/-- 32 bits, with their sign. -/
def s32 (n : Nat) : Int := if n < 2147483648 then (n : Int) else (n : Int) - 4294967296
def rdAttr (l : List UInt8) : Attrd × List UInt8 :=
  if numN ((rdText l).2.take 1) = 1 then (⟨(rdText l).1, true, (rdText ((rdText l).2.drop 1)).1, 0⟩, (rdText ((rdText l).2.drop 1)).2)
  else (⟨(rdText l).1, false, ⟨#[]⟩, s32 (numN (((rdText l).2.drop 1).take 4))⟩, ((rdText l).2.drop 1).drop 4)

theorem Wrote.setNew {B : Nat} {T : TypeId → Prop} {w w1 : World} (h : Wrote B T w w1) {p : Addr} (hp : w.heap.size ≤ p.block) (u : Value) : Wrote B T w (w1.setCell p u) := by
  refine ⟨h.os, h.tape, h.output, by have := h.size; simp [World.setCell]; exact this, fun k hk hd => ?_⟩
  rw [← h.heap k hk hd]
  simp only [World.setCell, Array.getElem?_modify]
  rw [if_neg (by omega)]
theorem row_frozen {w : World} {b : Nat} {cs : Array Value} {t : TypeId} (h : w.heap[b]? = some (.cells cs t (0, 0))) (j : Nat) : w.frozen? ⟨b, j, none⟩ = false := by simp [World.frozen?, h]
theorem row_set {w : World} {b : Nat} {cs : Array Value} {t : TypeId} {fz : Nat × Nat} (h : w.heap[b]? = some (.cells cs t fz)) (j : Nat) (v : Value) : (w.setCell ⟨b, j, none⟩ v).heap[b]? = some (.cells (cs.setIfInBounds j v) t fz) := by
  simp [World.setCell, Array.getElem?_modify, h]
theorem World.setCell_other_row {w : World} {b c : Nat} {o : Obj} (h : w.heap[b]? = some o) (hne : c ≠ b) (j : Nat) (v : Value) : (w.setCell ⟨c, j, none⟩ v).heap[b]? = some o := by
  simp only [World.setCell, Array.getElem?_modify]
  rw [if_neg hne]; exact h
theorem two_lo (w : World) (o o' : Obj) : ((w.alloc o).alloc o').heap[w.heap.size]? = some o := by
  rw [Below.heap_alloc _ _ _ (by simp)]; exact heap_alloc_new w o
theorem two_hi (w : World) (o o' : Obj) : ((w.alloc o).alloc o').heap[w.heap.size + 1]? = some o' := by
  have := heap_alloc_new (w.alloc o) o'; simpa using this
theorem pair_set0 {w : World} {k : Nat} {a b : Value} {t : TypeId} {fz : Nat × Nat} (hk : w.heap[k]? = some (.cells #[a, b] t fz)) (v : Value) : (w.setCell ⟨k, 0, none⟩ v).heap[k]? = some (.cells #[v, b] t fz) := by
  have := row_set hk 0 v; simpa using this
theorem txt_eq {t : ByteArray} {l : List UInt8} (h : t.data.toList = (l.drop 1).take (numN (l.take 1))) : t = (rdText l).1 := by
  apply ByteArray.ext; apply Array.toList_inj.1; rw [h]; rfl
theorem wrap_s32 (m : Nat) (h : m < 4294967296) : IntKind.i32.wrap (m : Int) = s32 m := by
  have e1 : (m : Int) % 4294967296 = (m : Int) := by omega
  by_cases hh : m < 2147483648
  · have h2 : ¬ (2147483648 : Int) ≤ (m : Int) := by omega
    simp [IntKind.wrap, IntKind.signed, IntKind.bits, s32, hh, e1, h2]
  · have h2 : (2147483648 : Int) ≤ (m : Int) := by omega
    simp [IntKind.wrap, IntKind.signed, IntKind.bits, s32, hh, e1, h2]
theorem four_set0 {w : World} {k : Nat} {a b c d : Value} {t : TypeId} {fz : Nat × Nat} (hk : w.heap[k]? = some (.cells #[a, b, c, d] t fz)) (v : Value) : (w.setCell ⟨k, 0, none⟩ v).heap[k]? = some (.cells #[v, b, c, d] t fz) := by
  have := row_set hk 0 v; simpa using this
theorem four_set1 {w : World} {k : Nat} {a b c d : Value} {t : TypeId} {fz : Nat × Nat} (hk : w.heap[k]? = some (.cells #[a, b, c, d] t fz)) (v : Value) : (w.setCell ⟨k, 1, none⟩ v).heap[k]? = some (.cells #[a, v, c, d] t fz) := by
  have := row_set hk 1 v; simpa using this
theorem four_set2 {w : World} {k : Nat} {a b c d : Value} {t : TypeId} {fz : Nat × Nat} (hk : w.heap[k]? = some (.cells #[a, b, c, d] t fz)) (v : Value) : (w.setCell ⟨k, 2, none⟩ v).heap[k]? = some (.cells #[a, b, v, d] t fz) := by
  have := row_set hk 2 v; simpa using this
theorem four_set3 {w : World} {k : Nat} {a b c d : Value} {t : TypeId} {fz : Nat × Nat} (hk : w.heap[k]? = some (.cells #[a, b, c, d] t fz)) (v : Value) : (w.setCell ⟨k, 3, none⟩ v).heap[k]? = some (.cells #[a, b, c, v] t fz) := by
  have := row_set hk 3 v; simpa using this
theorem four_cells {w : World} {k : Nat} {a b c d : Value} {t : TypeId} {fz : Nat × Nat} (hk : w.heap[k]? = some (.cells #[a, b, c, d] t fz)) :
    w.cell? ⟨k, 0, none⟩ = some a ∧ w.cell? ⟨k, 1, none⟩ = some b ∧ w.cell? ⟨k, 2, none⟩ = some c ∧ w.cell? ⟨k, 3, none⟩ = some d := ⟨at_c0 hk, at_c1 hk, at_c2 hk, at_c3 hk⟩
/-- Four cells of a row are stored. -/
theorem Wrote.set4 {B : Nat} {T : TypeId → Prop} {w w1 : World} (h : Wrote B T w w1) {O : Nat} (hO : w.heap.size ≤ O) (v0 v1 v2 v3 : Value) :
    Wrote B T w ((((w1.setCell ⟨O, 0, none⟩ v0).setCell ⟨O, 1, none⟩ v1).setCell ⟨O, 2, none⟩ v2).setCell ⟨O, 3, none⟩ v3) :=
  (((h.setNew (p := ⟨O, 0, none⟩) hO v0).setNew (p := ⟨O, 1, none⟩) hO v1).setNew (p := ⟨O, 2, none⟩) hO v2).setNew (p := ⟨O, 3, none⟩) hO v3
end Go.Proofs.YtejhegnlmldomaaGreat

namespace Go.Proofs.YtejhegnlmldomaaGreat
open Go.RowKit

def rdMany {α : Type} (rd : List UInt8 → α × List UInt8) : Nat → List UInt8 → List α × List UInt8
  | 0, l => ([], l)
  | k + 1, l => ((rd l).1 :: (rdMany rd k (rd l).2).1, (rdMany rd k (rd l).2).2)
def rdList {α : Type} (rd : List UInt8 → α × List UInt8) (l : List UInt8) : List α × List UInt8 := rdMany rd (numN (l.take 1)) (l.drop 1)
def okN (x : Attrd) : Prop := shA x ∧ -2147483648 ≤ x.number ∧ x.number < 2147483648
theorem Wrote.grownNew {B : Nat} {T : TypeId → Prop} {w w1 w2 : World} {e : TypeId} {size : Nat} {v : Value} {n : Nat} {xs : List Value} (h : Wrote B T w w1) (hown : w1.ownsRow w.heap.size e size v n xs) {o : Obj} (hg : (w1.alloc o).grownBy w2 v.ownBlock) : Wrote B T w w2 := by
  have h' := h.alloc o
  refine ⟨hg.os.trans h'.os, hg.tape.trans h'.tape, hg.output.trans h'.output, Nat.le_trans h'.size hg.size, fun k hk hd => ?_⟩
  rw [← h'.heap k hk hd]
  refine hg.block k (Nat.lt_of_lt_of_le hk h'.size) ?_
  intro hv
  rcases hown.2 with ⟨rfl, _⟩ | ⟨g, cap, cur, rfl, hb, _⟩
  · simp [Value.ownBlock] at hv
  · simp [Value.ownBlock] at hv; omega
theorem cA_one (x : Attrd) : ∀ u ∈ cA x, u.oneCell' = true := by
  intro u hu
  simp [cA] at hu
  rcases hu with rfl | rfl | rfl | rfl <;> rfl
theorem cI_one (x : IDd) : ∀ u ∈ cI x, u.oneCell' = true := by
  intro u hu
  simp [cI] at hu
  rcases hu with rfl | rfl <;> rfl
theorem cellsA_app (l : List Attrd) (x : Attrd) : cellsA (l ++ [x]) = cellsA l ++ cA x := by simp [cellsA]
theorem cellsI_app (l : List IDd) (x : IDd) : cellsI (l ++ [x]) = cellsI l ++ cI x := by simp [cellsI]

end Go.Proofs.YtejhegnlmldomaaGreat

namespace Go.Proofs.YtejhegnlmldomaaGreat
open Go.RowKit

def rdRes (l : List UInt8) : Resd × List UInt8 :=
  (⟨(rdID l).1, (rdList rdAttr (rdID l).2).1, (rdList rdID (rdList rdAttr (rdID l).2).2).1⟩, (rdList rdID (rdList rdAttr (rdID l).2).2).2)
/-- A resource that was read: it is short. -/
def okS (x : Resd) : Prop := shI x.id ∧ (∀ a ∈ x.attrs, okN a) ∧ (∀ a ∈ x.after, shI a) ∧ x.attrs.length ≤ 255 ∧ x.after.length ≤ 255
/-- Its lists are our own. -/
structure OwnR (B : Nat) (w : World) (c2 c3 : Value) (x : Resd) : Prop where
  f2 : ∃ pa cap, c2 = .slice pa x.attrs.length cap
  f3 : ∃ pa cap, c3 = .slice pa x.after.length cap
  attrs : w.ownsRow B 129 4 c2 x.attrs.length (cellsA x.attrs)
  after : w.ownsRow B 53 2 c3 x.after.length (cellsI x.after)
theorem ownsRow_low {w : World} {base base' : Nat} {e : TypeId} {size : Nat} {v : Value} {n : Nat} {xs : List Value} (h : w.ownsRow base e size v n xs) (hb : base' ≤ base) : w.ownsRow base' e size v n xs := by
  obtain ⟨h1, h2⟩ := h
  refine ⟨h1, h2.imp id ?_⟩
  rintro ⟨g, cap, cur, hv, hg, r⟩
  exact ⟨g, cap, cur, hv, Nat.le_trans hb hg, r⟩
theorem ownsRow_set {w : World} {I j : Nat} {c : Array Value} {t : TypeId} {fz : Nat × Nat} {base : Nat} {e : TypeId} {size : Nat} {v : Value} {n : Nat} {xs : List Value} (h : w.ownsRow base e size v n xs) (hI : w.heap[I]? = some (.cells c t fz)) (hne : t ≠ e) (u : Value) : (w.setCell ⟨I, j, none⟩ u).ownsRow base e size v n xs :=
  ownsRow_wrote h ((Wrote.refl 0 (· = t) w).setCell (p := ⟨I, j, none⟩) (Nat.zero_le _) hI rfl u) (fun h => hne h.symm) rfl

end Go.Proofs.YtejhegnlmldomaaGreat

namespace Go.Proofs.YtejhegnlmldomaaGreat
open Go.RowKit

theorem take_split {cur : Array Value} {k : Nat} {xs : List Value} (h : cur.toList.take k = xs) : cur = (xs ++ cur.toList.drop k).toArray := by
  apply Array.toList_inj.1; rw [← h]; simp
theorem OwnR.resV {B : Nat} {w : World} {c2 c3 : Value} {x : Resd} (h : OwnR B w c2 c3 x) (hs : okS x) : ResV w c2 c3 x := by
  obtain ⟨_, _, h2, h3⟩ := h
  obtain ⟨s1, s2, s3, s4, s5⟩ := hs
  refine ⟨⟨by have := s1.1; omega, by have := s1.2; omega⟩, ⟨?_, by omega, fun a ha => ?_⟩, ⟨?_, by omega, fun a ha => ?_⟩⟩
  · rcases h2.2 with ⟨rfl, h0⟩ | ⟨g, cap, cur, rfl, _, hh, hc, hm, _, ht⟩
    · rw [List.eq_nil_of_length_eq_zero h0]; exact ⟨none, 0, rfl, Nat.le_refl _, by omega, .inl rfl⟩
    · rw [take_split ht] at hh
      exact ⟨some ⟨g, 0, none⟩, cap, rfl, hc, by unfold maxLen at hm; omega, .inr ⟨g, 0, rfl, attrsIn_of hh⟩⟩
  · obtain ⟨⟨k1, k2⟩, k3, k4⟩ := s2 a ha
    exact ⟨by omega, by omega, by omega, by omega⟩
  · rcases h3.2 with ⟨rfl, h0⟩ | ⟨g, cap, cur, rfl, _, hh, hc, hm, _, ht⟩
    · rw [List.eq_nil_of_length_eq_zero h0]; exact ⟨none, 0, rfl, Nat.le_refl _, by omega, .inl rfl⟩
    · rw [take_split ht] at hh
      exact ⟨some ⟨g, 0, none⟩, cap, rfl, hc, by unfold maxLen at hm; omega, .inr ⟨g, 0, rfl, idsIn_of hh⟩⟩
  · obtain ⟨k1, k2⟩ := s3 a ha
    exact ⟨by omega, by omega⟩
theorem OwnR.ext {B : Nat} {w w' : World} {c2 c3 : Value} {x : Resd} (h : OwnR B w c2 c3 x) (e : Ext w w') : OwnR B w' c2 c3 x :=
  ⟨h.f2, h.f3, ownsRow_wrote h.attrs (Wrote.ext (B := 0) (T := fun _ => False) e) id rfl, ownsRow_wrote h.after (Wrote.ext (B := 0) (T := fun _ => False) e) id rfl⟩
theorem OwnR.low {B B' : Nat} {w : World} {c2 c3 : Value} {x : Resd} (h : OwnR B w c2 c3 x) (hb : B' ≤ B) : OwnR B' w c2 c3 x := ⟨h.f2, h.f3, ownsRow_low h.attrs hb, ownsRow_low h.after hb⟩
def noRes : Resd := ⟨⟨⟨#[]⟩, ⟨#[]⟩⟩, [], []⟩
theorem OwnR.nil (B : Nat) (w : World) : OwnR B w (.slice none 0 0) (.slice none 0 0) noRes := ⟨⟨_, _, rfl⟩, ⟨_, _, rfl⟩, World.ownsRow_nil _ _ _ _, World.ownsRow_nil _ _ _ _⟩
theorem okS_nil : okS noRes := ⟨⟨Nat.zero_le _, Nat.zero_le _⟩, fun a h => (by cases h), fun a h => (by cases h), Nat.zero_le _, Nat.zero_le _⟩

end Go.Proofs.YtejhegnlmldomaaGreat

namespace Go.Proofs.YtejhegnlmldomaaGreat
open Go.RowKit

/-- A resource in memory. -/
structure ResP where
  x : Resd
  c2 : Value
  c3 : Value
def cRs (p : ResP) : List Value := [.string p.x.id.kind, .string p.x.id.name, p.c2, p.c3]
theorem cRs_len (p : ResP) : (cRs p).length = 4 := rfl
def cellsP (l : List ResP) : List Value := l.flatMap cRs
theorem cellsP_app (l : List ResP) (x : ResP) : cellsP (l ++ [x]) = cellsP l ++ cRs x := by simp [cellsP]
theorem cRs_one {x : Resd} {pa2 pa3 : Option Addr} {n2 n3 cap2 cap3 : Nat} : ∀ u ∈ cRs ⟨x, .slice pa2 n2 cap2, .slice pa3 n3 cap3⟩, u.oneCell' = true := by
  intro u hu
  simp [cRs] at hu
  rcases hu with rfl | rfl | rfl | rfl <;> rfl
/-- No list lies in two resources. -/
def ApartQ (p q : ResP) : Prop := (∀ g, p.c2.ownBlock = some g → q.c2.ownBlock ≠ some g) ∧ (∀ g, p.c3.ownBlock = some g → q.c3.ownBlock ≠ some g)
/-- A list of resources of our own, and theirs. -/
structure RessAt (B : Nat) (w : World) (v : Value) (ps : List ResP) : Prop where
  row : w.ownsRow B 74 4 v ps.length (cellsP ps)
  each : ∀ p ∈ ps, OwnR B w p.c2 p.c3 p.x ∧ okS p.x
  apart : ps.Pairwise ApartQ
theorem RessAt.ext {B : Nat} {w w' : World} {v : Value} {ps : List ResP} (h : RessAt B w v ps) (e : Ext w w') : RessAt B w' v ps :=
  ⟨ownsRow_wrote h.row (Wrote.ext (B := 0) (T := fun _ => False) e) id rfl, fun p hp => ⟨(h.each p hp).1.ext e, (h.each p hp).2⟩, h.apart⟩
theorem RessAt.low {B B' : Nat} {w : World} {v : Value} {ps : List ResP} (h : RessAt B w v ps) (hb : B' ≤ B) : RessAt B' w v ps :=
  ⟨ownsRow_low h.row hb, fun p hp => ⟨(h.each p hp).1.low hb, (h.each p hp).2⟩, h.apart⟩
theorem RessAt.nil (B : Nat) (w : World) : RessAt B w (.slice none 0 0) [] := ⟨World.ownsRow_nil _ _ _ _, fun p hp => (by cases hp), List.Pairwise.nil⟩
theorem RessAt.ressV {B : Nat} {w : World} {v : Value} {ps : List ResP} (h : RessAt B w v ps) (hn : ps.length ≤ 1000) : RessV w v (ps.map ResP.x) := by
  have hl : (ps.map ResP.x).length = ps.length := List.length_map ..
  refine ⟨?_, by rw [hl]; omega⟩
  rcases h.row.2 with ⟨rfl, h0⟩ | ⟨g, cap, cur, rfl, _, hg, hc, hm, hs, ht⟩
  · have : ps = [] := List.eq_nil_of_length_eq_zero h0
    subst this
    exact ⟨none, 0, rfl, Nat.le_refl _, by decide, .inl rfl⟩
  · refine ⟨some ⟨g, 0, none⟩, cap, by rw [hl], by rw [hl]; exact hc, by unfold maxLen at hm; omega, .inr ⟨g, 0, rfl, ?_⟩⟩
    intro i x hx
    rw [List.getElem?_map] at hx
    obtain ⟨p, hp, rfl⟩ := Option.map_eq_some_iff.1 hx
    have hlt : i < ps.length := (List.getElem?_eq_some_iff.1 hp).1
    have key : ∀ r, r < 4 → w.cell? ⟨g, 0 + i * 4 + r, none⟩ = (cRs p)[r]? := by
      intro r hr
      have h1 : (cellsP ps)[i * 4 + r]? = (cRs p)[r]? := flat_get cRs_len hp hr
      rw [← h1, ← ht, List.getElem?_take, if_pos (by omega), Nat.zero_add]
      simp [World.cell?, hg]
    obtain ⟨ho, hok⟩ := h.each p (List.mem_of_getElem? hp)
    exact ⟨key 0 (by omega), key 1 (by omega), p.c2, p.c3, key 2 (by omega), key 3 (by omega), ho.resV hok⟩
/-- One more. -/
theorem RessAt.snoc {B g3 c3 : Nat} {w1 w3 : World} {v : Value} {ps : List ResP} {x : Resd} {d2 d3 : Value} (h : RessAt B w1 v ps) (ho : OwnR B w1 d2 d3 x) (hok : okS x) (hnew : ∀ p ∈ ps, ApartQ p ⟨x, d2, d3⟩)
    {o : Obj} (hgrow : (w1.alloc o).grownBy w3 v.ownBlock) (hown : w3.ownsRow B 74 4 (.slice (some ⟨g3, 0, none⟩) (ps.length + 1) c3) (ps.length + 1) (cellsP ps ++ cRs ⟨x, d2, d3⟩)) :
    RessAt B w3 (.slice (some ⟨g3, 0, none⟩) (ps.length + 1) c3) (ps ++ [⟨x, d2, d3⟩]) := by
  have hl : (ps ++ [(⟨x, d2, d3⟩ : ResP)]).length = ps.length + 1 := by simp
  have keep : ∀ {e : TypeId} {size n : Nat} {u : Value} {xs : List Value}, e ≠ 74 → w1.ownsRow B e size u n xs → w3.ownsRow B e size u n xs := fun hne hh =>
    ownsRow_keep hh (grown_kept hgrow) fun g c hg => ownsRow_ne h.row hg hne
  refine ⟨by rw [hl, cellsP_app]; exact hown, ?_, ?_⟩
  · intro p hp
    rcases List.mem_append.1 hp with hp | hp
    · obtain ⟨h1, h2⟩ := h.each p hp
      exact ⟨⟨h1.f2, h1.f3, keep (by decide) h1.attrs, keep (by decide) h1.after⟩, h2⟩
    · obtain rfl : p = _ := by simpa using hp
      exact ⟨⟨ho.f2, ho.f3, keep (by decide) ho.attrs, keep (by decide) ho.after⟩, hok⟩
  · refine List.pairwise_append.2 ⟨h.apart, List.pairwise_singleton _ _, fun p hp p' hp' => ?_⟩
    obtain rfl : p' = _ := by simpa using hp'
    exact hnew p hp
/-- What is new lies apart. -/
theorem RessAt.fresh {B : Nat} {w w1 : World} {v : Value} {ps : List ResP} {x : Resd} {d2 d3 : Value} (h : RessAt B w v ps) (ho : OwnR w.heap.size w1 d2 d3 x) : ∀ p ∈ ps, ApartQ p ⟨x, d2, d3⟩ := fun p hp => by
  obtain ⟨h1, _⟩ := h.each p hp
  constructor
  · intro g hg hg'
    have k1 := (h1.attrs.lt g hg).2
    have k2 := (ho.attrs.lt g hg').1
    omega
  · intro g hg hg'
    have k1 := (h1.after.lt g hg).2
    have k2 := (ho.after.lt g hg').1
    omega
theorem OwnR.wrote {B B' : Nat} {T : TypeId → Prop} {w w' : World} {c2 c3 : Value} {x : Resd} (h : OwnR B w c2 c3 x) (k : Wrote B' T w w') (h2 : ¬ T 129) (h3 : ¬ T 53) : OwnR B w' c2 c3 x :=
  ⟨h.f2, h.f3, ownsRow_wrote h.attrs k h2 rfl, ownsRow_wrote h.after k h3 rfl⟩
theorem RessAt.wrote {B B' : Nat} {T : TypeId → Prop} {w w' : World} {v : Value} {ps : List ResP} (h : RessAt B w v ps) (k : Wrote B' T w w') (h1 : ¬ T 74) (h2 : ¬ T 129) (h3 : ¬ T 53) : RessAt B w' v ps :=
  ⟨ownsRow_wrote h.row k h1 rfl, fun p hp => ⟨(h.each p hp).1.wrote k h2 h3, (h.each p hp).2⟩, h.apart⟩
end Go.Proofs.YtejhegnlmldomaaGreat

namespace Go.Proofs.YtejhegnlmldomaaGreat
open Go.RowKit

/-- The value of a token. -/
def tokV (t : Tok) : Value := .agg #[.int .i64 t.kind, .int .i64 t.place, .string t.text, .int .i64 t.value]
def noTok : Tok := ⟨0, 0, ⟨#[]⟩, 0⟩
/-- What the reading of a token answers: its place is still 0. -/
def TkIs (w : World) (r : (Tok × Nat) ⊕ Int) (e : Ending) (w' : World) : Prop :=
  Hid (Ext w w') ∧ ((∃ t b, Hid (r = .inl (t, b)) ∧ e = .returned (.tuple #[.agg #[.int .i64 t.kind, .int .i64 0, .string t.text, .int .i64 t.value], .int .i64 b, .int .i64 0])) ∨
    ∃ en : Int, Hid (r = .inr en) ∧ en ≠ 0 ∧ e = .returned (.tuple #[.agg #[.int .i64 0, .int .i64 0, .string ⟨#[]⟩, .int .i64 0], .int .i64 0, .int .i64 en]))
theorem Ext.set4 {w w1 : World} (h : Ext w w1) (v0 v1 v2 v3 : Value) : Ext w ((((w1.setCell ⟨w.heap.size, 0, none⟩ v0).setCell ⟨w.heap.size, 1, none⟩ v1).setCell ⟨w.heap.size, 2, none⟩ v2).setCell ⟨w.heap.size, 3, none⟩ v3) :=
  (((h.setCell (p := ⟨w.heap.size, 0, none⟩) (Nat.le_refl _) _).setCell (p := ⟨w.heap.size, 1, none⟩) (Nat.le_refl _) _).setCell (p := ⟨w.heap.size, 2, none⟩) (Nat.le_refl _) _).setCell (p := ⟨w.heap.size, 3, none⟩) (Nat.le_refl _) _
theorem ex_size (s : ByteArray) {a b : Nat} (h : a ≤ b) (hb : b ≤ s.size) : (s.extract a b).size = b - a := by
  simp [ByteArray.size_extract]; omega
theorem ex_midT (s : ByteArray) (a b : Nat) (h : a ≤ b) : (s.extract a b).data.toList = (s.data.toList.drop a).take (b - a) := by
  rw [ByteArray.data_extract]; simp [List.take_drop, Nat.add_sub_cancel' h]

set_option maxRecDepth 100000 in
set_option maxHeartbeats 800000 in
theorem cloneP (s : ByteArray) (w : World) (hs : s.size ≤ 1000000) :
    Calls Tryz.prog 78 #[.string s] w fun e w' => e = .returned (.string s) ∧ Ext w w' := by
  have hc := hide (Tryz.stringslite_Clone s w (by omega))
  go_enter Tryz.func78, Tryz.ntmps78
  go_wp2_with fail
  refine hc.out.mono ?_
  rintro e w1 ⟨rfl, he⟩
  replace he := hide he
  go_wp2
  go_ret
  exact ⟨rfl, he.out⟩

set_option maxRecDepth 100000 in
set_option maxHeartbeats 1600000 in
theorem readWord (s : ByteArray) (a : Nat) (c : UInt8) (w : World) (hs : s.size ≤ 1000000) (ha : a < s.size) (hl : isLetterB c.toNat = true) :
    Calls Tryz.prog 60 #[.string s, .int .i64 a] w (TkIs w (tokL s.data.toList a c)) := by
  have hlen : s.data.toList.length = s.size := Array.length_toList
  have hbl := behind_le (p := fun b => isInnerB b.toNat) (l := s.data.toList) (a := a) (by omega)
  have hT : Hid (tokL s.data.toList a c = if behindL (fun b => isInnerB b.toNat) s.data.toList a - a ≤ 12 then .inl (⟨1, a, baOf ((s.data.toList.drop a).take (behindL (fun b => isInnerB b.toNat) s.data.toList a - a)), 0⟩, behindL (fun b => isInnerB b.toNat) s.data.toList a) else .inr 5) := by show _ = _; unfold tokL; rw [if_pos hl]
  have hcall := hide (behindWord s a (w.alloc (.cells #[.int .i64 0, .int .i64 0, .string ⟨#[]⟩, .int .i64 0] 102)) hs (by omega))
  rw [hlen] at hbl
  generalize behindL (fun b => isInnerB b.toNat) s.data.toList a = m at *
  obtain ⟨m1, m2⟩ := hbl
  replace hlen := hide hlen
  go_enter Tryz.func60, Tryz.ntmps60
  go_wp2_with fail
  refine hcall.out.mono ?_
  rintro e w' ⟨rfl, rfl⟩
  by_cases h12 : m - a ≤ 12
  · have h12' : ¬ (12 : Int) < (m : Int) - (a : Int) := by omega
    have hx : Hid ((s.extract a m) = baOf ((s.data.toList.drop a).take (m - a))) := by
      show _ = _
      apply ByteArray.ext; apply Array.toList_inj.1
      rw [ex_midT s a m m1]; rfl
    have hz : (s.extract a m).size ≤ 1000000 := by rw [ex_size s m1 m2]; omega
    have hcl := hide (cloneP (s.extract a m) (w.alloc (.cells #[.int .i64 0, .int .i64 0, .string ⟨#[]⟩, .int .i64 0] 102)) hz)
    have hT2 : Hid (tokL s.data.toList a c = .inl (⟨1, a, s.extract a m, 0⟩, m)) := by show _ = _; rw [hT.out, if_pos h12, hx.out]
    have j1 : (a : Int) ≤ (m : Int) := by omega
    have j2 : (m : Int) ≤ (s.size : Int) := by omega
    have j3 : (0 : Int) ≤ (a : Int) := by omega
    go_wp2_with fail
    refine hcl.out.mono ?_
    rintro e w1 ⟨rfl, he1⟩
    have hO := ext_heap he1 (heap_alloc_new w _)
    obtain ⟨o0, o1, o2, o3⟩ := four_cells hO
    have fO := row_frozen hO
    replace hO := hide hO
    have X1 := hide (((Ext.refl w).alloc _).trans he1)
    replace he1 := hide he1
    go_wp2_with fail
    refine bodyPost_ret (v := .tuple #[.agg #[.int .i64 1, .int .i64 0, .string (s.extract a m), .int .i64 0], .int .i64 m, .int .i64 0]) (by simp [results, Tryz.results60, go_sem, o0, o1, o2, o3]) rfl ?_
    exact ⟨X1.out.set4 _ _ _ _, .inl ⟨_, _, hT2, rfl⟩⟩
  · have h12' : (12 : Int) < (m : Int) - (a : Int) := by omega
    have hT2 : Hid (tokL s.data.toList a c = .inr 5) := by show _ = _; rw [hT.out, if_neg h12]
    go_wp2_with fail
    refine bodyPost_ret (v := .tuple #[.agg #[.int .i64 0, .int .i64 0, .string ⟨#[]⟩, .int .i64 0], .int .i64 0, .int .i64 5]) (by simp [results, Tryz.results60, go_sem]) rfl ?_
    exact ⟨(Ext.refl w).alloc _, .inr ⟨5, hT2, by decide, rfl⟩⟩

theorem take_while (p : UInt8 → Bool) (l : List UInt8) : l.take (l.takeWhile p).length = l.takeWhile p := by
  have := List.takeWhile_append_dropWhile (p := p) (l := l)
  conv => lhs; rw [← this]
  exact List.take_left' (by rw [this])
theorem while_all (p : UInt8 → Bool) : ∀ (l : List UInt8), ∀ c ∈ l.takeWhile p, p c = true := fun l c h => by
  have := List.all_takeWhile (p := p) (l := l)
  exact List.all_eq_true.1 this c h

set_option maxRecDepth 100000 in
set_option maxHeartbeats 1600000 in
theorem readNumber (s : ByteArray) (a : Nat) (c : UInt8) (w : World) (hs : s.size ≤ 1000000) (ha : a < s.size) (hc : s.data.toList[a]? = some c) (hl : isLetterB c.toNat = false) (hd : (isDigitB c.toNat || c == 45) = true) :
    Calls Tryz.prog 62 #[.string s, .int .i64 a] w (TkIs w (tokL s.data.toList a c)) := by
  have hlen : s.data.toList.length = s.size := Array.length_toList
  obtain ⟨c', hc1, hc2⟩ := byteAt ha
  obtain rfl : c = c' := by rw [hc] at hc1; simpa using hc1
  have b45 : ((c.toNat : Int) == 45) = decide (c = 45) := by
    by_cases h : c = 45
    · subst h; rfl
    · rw [show (45 : Int) = ((45 : UInt8).toNat : Int) from rfl, byte_ne h]; simp [h]
  have key : ∀ (f : Nat) (sg : Int), (if c = 45 then a + 1 else a) = f → (if c = 45 then (-1 : Int) else 1) = sg → f ≤ s.size →
      Hid (tokL s.data.toList a c = if digitsOk ((s.data.toList.drop f).takeWhile fun b => isDigitB b.toNat) then .inl (⟨2, a, ⟨#[]⟩, sg * (valN ((s.data.toList.drop f).takeWhile fun b => isDigitB b.toNat) : Int)⟩, behindL (fun b => isDigitB b.toNat) s.data.toList f) else .inr 4) := by
    intro f sg h1 h2 _
    show _ = _
    unfold tokL
    rw [hl, if_neg (by decide), if_pos hd, h1, h2]
  obtain ⟨f, sg, hf, hsg, hfs, hfa, hs1⟩ : ∃ (f : Nat) (sg : Int), (if c = 45 then a + 1 else a) = f ∧ (if c = 45 then (-1 : Int) else 1) = sg ∧ f ≤ s.size ∧ (c = 45 ∧ f = a + 1 ∧ sg = -1 ∨ c ≠ 45 ∧ f = a ∧ sg = 1) ∧ (sg = -1 ∨ sg = 1) := by
    by_cases h : c = 45
    · exact ⟨a + 1, -1, if_pos h, if_pos h, by omega, .inl ⟨h, rfl, rfl⟩, .inl rfl⟩
    · exact ⟨a, 1, if_neg h, if_neg h, by omega, .inr ⟨h, rfl, rfl⟩, .inr rfl⟩
  have hT := key f sg hf hsg hfs
  clear key hf hsg
  have hbl := behind_le (p := fun b => isDigitB b.toNat) (l := s.data.toList) (a := f) (by omega)
  have hcall := hide (behindDigits s f (w.alloc (.cells #[.int .i64 0, .int .i64 0, .string ⟨#[]⟩, .int .i64 0] 102)) hs hfs)
  have hdig : Hid ((s.extract f (behindL (fun b => isDigitB b.toNat) s.data.toList f)).data.toList = (s.data.toList.drop f).takeWhile fun b => isDigitB b.toNat) := by
    show _ = _
    rw [ex_midT s f _ hbl.1]
    unfold behindL
    rw [Nat.add_sub_cancel_left]
    exact take_while _ _
  have hall := hide (while_all (fun b => isDigitB b.toNat) (s.data.toList.drop f))
  rw [← hdig.out] at hT hall
  rw [hlen] at hbl
  generalize behindL (fun b => isDigitB b.toNat) s.data.toList f = m at *
  obtain ⟨m1, m2⟩ := hbl
  have hz : (s.extract f m).size ≤ 1000000 := by rw [ex_size s m1 m2]; omega
  have hval := hide (valueOf (s.extract f m) (w.alloc (.cells #[.int .i64 0, .int .i64 0, .string ⟨#[]⟩, .int .i64 0] 102)) hz hall.out)
  have hdo : digitsOk (s.extract f m).data.toList = true → valN (s.extract f m).data.toList ≤ 1000000000 := by
    intro h; unfold digitsOk at h; rw [Bool.and_eq_true] at h; exact of_decide_eq_true h.2
  have hvo : valOf (s.extract f m).data.toList = if digitsOk (s.extract f m).data.toList then (valN (s.extract f m).data.toList : Int) else 0 := rfl
  generalize valOf (s.extract f m).data.toList = vv at *
  generalize hvn : valN (s.extract f m).data.toList = vn at *
  generalize hdk : digitsOk (s.extract f m).data.toList = dk at *
  replace hlen := hide hlen; replace hdig := hide hdig; replace hvn := hide hvn; replace hdk := hide hdk
  replace hc := hide hc; replace hc1 := hide hc1; replace hl := hide hl; replace hd := hide hd
  have j1 : (f : Int) ≤ (m : Int) := by omega
  have j2 : (m : Int) ≤ (s.size : Int) := by omega
  have j3 : (0 : Int) ≤ (f : Int) := by omega
  have ka : (a : Int) < (s.size : Int) := by omega
  have fin : ∀ w1 : World, Ext (w.alloc (.cells #[.int .i64 0, .int .i64 0, .string ⟨#[]⟩, .int .i64 0] 102)) w1 → ∀ dk', dk' = dk → dk' = true → TkIs w (tokL s.data.toList a c) (.returned (.tuple #[.agg #[.int .i64 2, .int .i64 0, .string ⟨#[]⟩, .int .i64 (sg * (vn : Int))], .int .i64 m, .int .i64 0])) ((((w1.setCell ⟨w.heap.size, 0, none⟩ (.int .i64 2)).setCell ⟨w.heap.size, 1, none⟩ (.int .i64 0)).setCell ⟨w.heap.size, 2, none⟩ (.string ⟨#[]⟩)).setCell ⟨w.heap.size, 3, none⟩ (.int .i64 (sg * (vn : Int)))) := by
    intro w1 he1 dk' e1 e2
    refine ⟨(((Ext.refl w).alloc _).trans he1).set4 _ _ _ _, .inl ⟨⟨2, a, ⟨#[]⟩, sg * (vn : Int)⟩, m, ?_, rfl⟩⟩
    show _ = _
    rw [hT.out, ← e1, e2]; rfl
  replace fin := hide fin
  rcases hfa with ⟨h45, rfl, rfl⟩ | ⟨h45, rfl, rfl⟩
  · rw [decide_eq_true h45] at b45
    replace h45 := hide h45
    go_enter Tryz.func62, Tryz.ntmps62
    go_wp2_with fail
    refine hcall.out.mono ?_
    rintro e w' ⟨rfl, rfl⟩
    go_wp2_with fail
    refine hval.out.mono ?_
    rintro e w1 ⟨rfl, he1⟩
    have hO := ext_heap he1 (heap_alloc_new w _)
    obtain ⟨o0, o1, o2, o3⟩ := four_cells hO
    have fO := row_frozen hO
    replace hO := hide hO
    have X1 := hide (((Ext.refl w).alloc _).trans he1)
    replace he1 := hide he1
    cases dk
    · have hT2 : Hid (tokL s.data.toList a c = .inr 4) := by show _ = _; rw [hT.out]; rfl
      go_wp2_with fail
      refine bodyPost_ret (v := .tuple #[.agg #[.int .i64 0, .int .i64 0, .string ⟨#[]⟩, .int .i64 0], .int .i64 0, .int .i64 4]) (by simp [results, Tryz.results62, go_sem, o0, o1, o2, o3]) rfl ?_
      exact ⟨X1.out.set4 _ _ _ _, .inr ⟨4, hT2, by decide, rfl⟩⟩
    · have hvb := hdo rfl
      obtain rfl : vv = (vn : Int) := hvo
      go_wp2_with fail
      refine bodyPost_ret (v := .tuple #[.agg #[.int .i64 2, .int .i64 0, .string ⟨#[]⟩, .int .i64 (-1 * (vn : Int))], .int .i64 m, .int .i64 0]) (by simp [results, Tryz.results62, go_sem, o0, o1, o2, o3]) rfl ?_
      have := fin.out w1 he1.out true rfl rfl
      simpa using this
  · rw [decide_eq_false h45] at b45
    replace h45 := hide h45
    go_enter Tryz.func62, Tryz.ntmps62
    go_wp2_with fail
    refine hcall.out.mono ?_
    rintro e w' ⟨rfl, rfl⟩
    go_wp2_with fail
    refine hval.out.mono ?_
    rintro e w1 ⟨rfl, he1⟩
    have hO := ext_heap he1 (heap_alloc_new w _)
    obtain ⟨o0, o1, o2, o3⟩ := four_cells hO
    have fO := row_frozen hO
    replace hO := hide hO
    have X1 := hide (((Ext.refl w).alloc _).trans he1)
    replace he1 := hide he1
    cases dk
    · have hT2 : Hid (tokL s.data.toList f c = .inr 4) := by show _ = _; rw [hT.out]; rfl
      go_wp2_with fail
      refine bodyPost_ret (v := .tuple #[.agg #[.int .i64 0, .int .i64 0, .string ⟨#[]⟩, .int .i64 0], .int .i64 0, .int .i64 4]) (by simp [results, Tryz.results62, go_sem, o0, o1, o2, o3]) rfl ?_
      exact ⟨X1.out.set4 _ _ _ _, .inr ⟨4, hT2, by decide, rfl⟩⟩
    · have hvb := hdo rfl
      obtain rfl : vv = (vn : Int) := hvo
      go_wp2_with fail
      refine bodyPost_ret (v := .tuple #[.agg #[.int .i64 2, .int .i64 0, .string ⟨#[]⟩, .int .i64 (1 * (vn : Int))], .int .i64 m, .int .i64 0]) (by simp [results, Tryz.results62, go_sem, o0, o1, o2, o3]) rfl ?_
      have := fin.out w1 he1.out true rfl rfl
      simpa using this
end Go.Proofs.YtejhegnlmldomaaGreat
