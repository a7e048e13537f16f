/-
  How long the texts of resources that may be are.
-/
import Derived.Test.YtjebmabffocobaaDoorPrintRes
import Derived.Test.YtjebmabffocobaaDoorDec
namespace Go.Proofs.YtjebmabffocobaaDoor
open Go.RowKit

theorem word_len {l : List UInt8} (h : wordB l = true) : l.length ≤ 12 := by
  by_cases h' : 12 < l.length
  · rw [wordB_long h'] at h; cases h
  · omega
theorem word_size {s : ByteArray} (h : wordB s.data.toList = true) : s.size ≤ 12 := by rw [← size_toList]; exact word_len h
theorem string_len {l : List UInt8} (h : stringB l = true) : l.length ≤ 20 := by
  simp only [stringB, Bool.and_eq_true, decide_eq_true_eq] at h; exact h.1
theorem itoa_len {n : Int} (h0 : -1000000000 ≤ n) (h1 : n ≤ 1000000000) : (Lib.itoa n).length ≤ 14 := by
  unfold Lib.itoa
  split
  · have := decLen n.natAbs (by omega); simp only [List.length_cons]; omega
  · have := decLen n.toNat (by omega); omega
theorem value_len {a : Attrd} (h : attrB a = true) : (valueL a).length ≤ 60 := by
  obtain ⟨nm, t, tx, num⟩ := a
  cases t
  · simp [attrB] at h
    exact Nat.le_trans (itoa_len h.2.2.1 h.2.2.2) (by omega)
  · simp [attrB] at h
    have h1 := string_len h.2.1
    have h2 := escs_len tx.data.toList
    show (quoteL tx.data.toList).length ≤ 60
    unfold quoteL
    simp only [List.length_cons, List.length_append, List.length_nil]; omega
theorem attr_name {a : Attrd} (h : attrB a = true) : a.name.size ≤ 12 := by
  simp only [attrB, Bool.and_eq_true] at h; exact word_size h.1.1
theorem attr_text {a : Attrd} (h : attrB a = true) : a.text.size ≤ 20 := by
  have e : a.text.data.toList.length = a.text.size := Array.length_toList
  simp only [attrB, Bool.and_eq_true] at h
  have h2 := h.2
  split at h2
  · simp only [Bool.and_eq_true] at h2
    have := string_len h2.1
    omega
  · simp only [Bool.and_eq_true, List.isEmpty_iff] at h2
    rw [h2.1] at e
    simp at e
    omega
theorem attr_len {a : Attrd} (h : attrB a = true) : (attrP a).length ≤ 100 := by
  have h1 := attr_name h
  have h2 := value_len h
  simp only [attrP, List.length_append, List.length_cons, List.length_nil, size_toList]; omega
theorem lens_le {n : Nat} : ∀ {xs : List (List UInt8)}, (∀ x ∈ xs, x.length ≤ n) → Lib.lens xs ≤ n * xs.length
  | [], _ => by simp [Lib.lens]
  | x :: xs, h => by
    have h1 := h x (List.mem_cons_self)
    have h2 := lens_le (n := n) (xs := xs) fun y hy => h y (List.mem_cons_of_mem _ hy)
    simp only [Lib.lens, List.map_cons, List.sum_cons, List.length_cons] at h2 ⊢
    rw [Nat.mul_add, Nat.mul_one]; omega
theorem ref_len {x : IDd} (h : idB x = true) : (refL x).data.toList.length ≤ 25 := by
  simp only [idB, Bool.and_eq_true] at h
  have h1 := word_len h.1
  have h2 := word_len h.2
  show (x.kind.data.toList ++ 46 :: x.name.data.toList).length ≤ 25
  simp only [List.length_append, List.length_cons]; omega
theorem refs_len {l : List IDd} (h : l.all idB = true) (h6 : l.length ≤ 6) : (refsL l).length ≤ 400 := by
  match l, h, h6 with
  | [], _, _ => simp [refsL, Lib.join_nil]
  | x :: l, h, h6 =>
    have hl : Lib.lens ((x :: l).map fun x => (refL x).data.toList) ≤ 25 * (x :: l).length := by
      have := lens_le (n := 25) (xs := (x :: l).map fun x => (refL x).data.toList) (by
        intro y hy
        obtain ⟨z, hz, rfl⟩ := List.mem_map.1 hy
        exact ref_len (List.all_eq_true.1 h z hz))
      simpa using this
    unfold refsL
    rw [List.map_cons, Lib.join_length]
    rw [List.map_cons] at hl
    simp only [List.length_cons, List.length_map, List.length_nil] at hl h6 ⊢
    omega
theorem small_of_may {x : Resd} (h : mayB x = true) : Small x := by
  simp only [mayB, Bool.and_eq_true, decide_eq_true_eq] at h
  obtain ⟨⟨⟨⟨⟨⟨h1, h2⟩, h3⟩, h4⟩, h5⟩, h6⟩, h7⟩ := h
  simp only [idB, Bool.and_eq_true] at h3
  refine ⟨⟨word_size h3.1, word_size h3.2⟩, ⟨h1, h2⟩, fun a ha => ?_, refs_len h6 h2⟩
  have := List.all_eq_true.1 h4 a ha
  exact ⟨attr_len this, attr_name this, value_len this, attr_text this⟩
theorem flat_len {n : Nat} : ∀ {l : List Attrd}, (∀ a ∈ l, (attrP a).length ≤ n) → (l.flatMap attrP).length ≤ n * l.length
  | [], _ => by simp
  | a :: l, h => by
    have h1 := h a (List.mem_cons_self)
    have h2 := flat_len (n := n) (l := l) fun y hy => h y (List.mem_cons_of_mem _ hy)
    rw [List.flatMap_cons, List.length_append, List.length_cons, Nat.mul_add, Nat.mul_one]; omega
theorem res_len {x : Resd} (h : Small x) : (resL x).length ≤ 1500 := by
  obtain ⟨⟨s1, s2⟩, ⟨n1, n2⟩, hsa, hsf⟩ := h
  have h1 := flat_len (n := 100) (l := x.attrs) fun a ha => (hsa a ha).1
  have h2 : (afterP x.after).length ≤ 413 := by
    unfold afterP
    split
    · simp
    · simp only [List.length_append, List.length_cons, List.length_nil]; omega
  simp only [resL, headL, resW, List.length_append, List.length_cons, List.length_nil, size_toList]
  have : 100 * x.attrs.length ≤ 600 := by omega
  omega
theorem print_take {l : List Resd} {k : Nat} {x : Resd} (h : l[k]? = some x) : printL (l.take (k + 1)) = printL (l.take k) ++ resL x := by
  have hk : k < l.length := (List.getElem?_eq_some_iff.1 h).1
  have hx : l[k] = x := (List.getElem?_eq_some_iff.1 h).2
  unfold printL
  rw [List.take_succ_eq_append_getElem hk, List.flatMap_append, List.flatMap_cons, List.flatMap_nil, List.append_nil, hx]
/-- What Print answers. -/
def printS (l : List Resd) : ByteArray := if mayAllB l then ⟨(printL l).toArray⟩ else ⟨#[]⟩
def printE (l : List Resd) : Int := if mayAllB l then 0 else 11
theorem may_each {l : List Resd} (h : mayAllB l = true) : l.length ≤ 12 ∧ ∀ x ∈ l, mayB x = true := by
  simp only [mayAllB, Bool.and_eq_true, decide_eq_true_eq] at h
  exact ⟨h.1.1, fun x hx => List.all_eq_true.1 h.1.2 x hx⟩
end Go.Proofs.YtjebmabffocobaaDoor
