/-
  How long the texts of resources that may be are.
-/
/-
  The program's Print: what it answers.
-/
import Derived.Test.YtfmcgdglalljgaaGreatDoorJ8
import Derived.Test.YtfmcgdglalljgaaGreatDoorDec
import Derived.Test.YtfmcgdglalljgaaGreatDoorJ10
namespace Go.Proofs.YtfmcgdglalljgaaGreatDoor
open Go.RowKit

theorem word_len {l : List UInt8} (h : wordB l = true) : l.length ≤ 12 := by
  by_cases h' : 12 < l.length
  · rw [wordB_long h'] at h; cases h
  · omega
theorem word_size {s : ByteArray} (h : wordB s.data.toList = true) : s.size ≤ 12 := by rw [← size_toList]; exact word_len h
theorem string_len {l : List UInt8} (h : stringB l = true) : l.length ≤ 20 := by
  simp only [stringB, Bool.and_eq_true, decide_eq_true_eq] at h; exact h.1
theorem itoa_len {n : Int} (h0 : -1000000000 ≤ n) (h1 : n ≤ 1000000000) : (Lib.itoa n).length ≤ 14 := by
  unfold Lib.itoa
  split
  · have := decLen n.natAbs (by omega); simp only [List.length_cons]; omega
  · have := decLen n.toNat (by omega); omega
theorem value_len {a : Attrd} (h : attrB a = true) : (valueL a).length ≤ 60 := by
  obtain ⟨nm, t, tx, num⟩ := a
  cases t
  · simp [attrB] at h
    exact Nat.le_trans (itoa_len h.2.2.1 h.2.2.2) (by omega)
  · simp [attrB] at h
    have h1 := string_len h.2.1
    have h2 := escs_len tx.data.toList
    show (quoteL tx.data.toList).length ≤ 60
    unfold quoteL
    simp only [List.length_cons, List.length_append, List.length_nil]; omega
theorem attr_name {a : Attrd} (h : attrB a = true) : a.name.size ≤ 12 := by
  simp only [attrB, Bool.and_eq_true] at h; exact word_size h.1.1
theorem attr_text {a : Attrd} (h : attrB a = true) : a.text.size ≤ 20 := by
  have e : a.text.data.toList.length = a.text.size := Array.length_toList
  simp only [attrB, Bool.and_eq_true] at h
  have h2 := h.2
  split at h2
  · simp only [Bool.and_eq_true] at h2
    have := string_len h2.1
    omega
  · simp only [Bool.and_eq_true, List.isEmpty_iff] at h2
    rw [h2.1] at e
    simp at e
    omega
theorem attr_len {a : Attrd} (h : attrB a = true) : (attrP a).length ≤ 100 := by
  have h1 := attr_name h
  have h2 := value_len h
  simp only [attrP, List.length_append, List.length_cons, List.length_nil, size_toList]; omega
theorem lens_le {n : Nat} : ∀ {xs : List (List UInt8)}, (∀ x ∈ xs, x.length ≤ n) → Lib.lens xs ≤ n * xs.length
  | [], _ => by simp [Lib.lens]
  | x :: xs, h => by
    have h1 := h x (List.mem_cons_self)
    have h2 := lens_le (n := n) (xs := xs) fun y hy => h y (List.mem_cons_of_mem _ hy)
    simp only [Lib.lens, List.map_cons, List.sum_cons, List.length_cons] at h2 ⊢
    rw [Nat.mul_add, Nat.mul_one]; omega
theorem ref_len {x : IDd} (h : idB x = true) : (refL x).data.toList.length ≤ 25 := by
  simp only [idB, Bool.and_eq_true] at h
  have h1 := word_len h.1
  have h2 := word_len h.2
  show (x.kind.data.toList ++ 46 :: x.name.data.toList).length ≤ 25
  simp only [List.length_append, List.length_cons]; omega
theorem refs_len {l : List IDd} (h : l.all idB = true) (h6 : l.length ≤ 6) : (refsL l).length ≤ 400 := by
  match l, h, h6 with
  | [], _, _ => simp [refsL, Lib.join_nil]
  | x :: l, h, h6 =>
    have hl : Lib.lens ((x :: l).map fun x => (refL x).data.toList) ≤ 25 * (x :: l).length := by
      have := lens_le (n := 25) (xs := (x :: l).map fun x => (refL x).data.toList) (by
        intro y hy
        obtain ⟨z, hz, rfl⟩ := List.mem_map.1 hy
        exact ref_len (List.all_eq_true.1 h z hz))
      simpa using this
    unfold refsL
    rw [List.map_cons, Lib.join_length]
    rw [List.map_cons] at hl
    simp only [List.length_cons, List.length_map, List.length_nil] at hl h6 ⊢
    omega
theorem small_of_may {x : Resd} (h : mayB x = true) : Small x := by
  simp only [mayB, Bool.and_eq_true, decide_eq_true_eq] at h
  obtain ⟨⟨⟨⟨⟨⟨h1, h2⟩, h3⟩, h4⟩, h5⟩, h6⟩, h7⟩ := h
  simp only [idB, Bool.and_eq_true] at h3
  refine ⟨⟨word_size h3.1, word_size h3.2⟩, ⟨h1, h2⟩, fun a ha => ?_, refs_len h6 h2⟩
  have := List.all_eq_true.1 h4 a ha
  exact ⟨attr_len this, attr_name this, value_len this, attr_text this⟩
theorem flat_len {n : Nat} : ∀ {l : List Attrd}, (∀ a ∈ l, (attrP a).length ≤ n) → (l.flatMap attrP).length ≤ n * l.length
  | [], _ => by simp
  | a :: l, h => by
    have h1 := h a (List.mem_cons_self)
    have h2 := flat_len (n := n) (l := l) fun y hy => h y (List.mem_cons_of_mem _ hy)
    rw [List.flatMap_cons, List.length_append, List.length_cons, Nat.mul_add, Nat.mul_one]; omega
theorem res_len {x : Resd} (h : Small x) : (resL x).length ≤ 1500 := by
  obtain ⟨⟨s1, s2⟩, ⟨n1, n2⟩, hsa, hsf⟩ := h
  have h1 := flat_len (n := 100) (l := x.attrs) fun a ha => (hsa a ha).1
  have h2 : (afterP x.after).length ≤ 413 := by
    unfold afterP
    split
    · simp
    · simp only [List.length_append, List.length_cons, List.length_nil]; omega
  simp only [resL, headL, resW, List.length_append, List.length_cons, List.length_nil, size_toList]
  have : 100 * x.attrs.length ≤ 600 := by omega
  omega
theorem print_take {l : List Resd} {k : Nat} {x : Resd} (h : l[k]? = some x) : printL (l.take (k + 1)) = printL (l.take k) ++ resL x := by
  have hk : k < l.length := (List.getElem?_eq_some_iff.1 h).1
  have hx : l[k] = x := (List.getElem?_eq_some_iff.1 h).2
  unfold printL
  rw [List.take_succ_eq_append_getElem hk, List.flatMap_append, List.flatMap_cons, List.flatMap_nil, List.append_nil, hx]
/-- What Print answers. -/
def printS (l : List Resd) : ByteArray := if mayAllB l then ⟨(printL l).toArray⟩ else ⟨#[]⟩
def printE (l : List Resd) : Int := if mayAllB l then 0 else 11
theorem may_each {l : List Resd} (h : mayAllB l = true) : l.length ≤ 12 ∧ ∀ x ∈ l, mayB x = true := by
  simp only [mayAllB, Bool.and_eq_true, decide_eq_true_eq] at h
  exact ⟨h.1.1, fun x hx => List.all_eq_true.1 h.1.2 x hx⟩
end Go.Proofs.YtfmcgdglalljgaaGreatDoor

namespace Go.Proofs.YtfmcgdglalljgaaGreatDoor
open Go.RowKit

set_option maxRecDepth 100000 in
set_option maxHeartbeats 1600000 in
theorem print (v : Value) (l : List Resd) (w : World) (hv : RessV w v l) (ht : TabP w) :
    Calls Tryz.prog 19 #[v] w fun e w' => e = .returned (.tuple #[.string (printS l), .int .i64 (printE l)]) ∧ Ext w w' := by
  have hv0 := hide hv
  obtain ⟨⟨a, cap, rfl, hcap, hmax, hs⟩, hfew⟩ := hv
  replace ht := hide ht
  cases hm : mayAllB l
  · have H1 : Hid (printS l = ⟨#[]⟩) := by unfold printS; rw [hm]; rfl
    have H2 : Hid (printE l = 11) := by unfold printE; rw [hm]; rfl
    clear hs
    go_enter Tryz.func19, Tryz.ntmps19
    go_wp2_with fail
    refine (allMayBe _ l _ hv0.out).mono ?_
    rintro e w1 ⟨rfl, he1⟩
    replace he1 := hide he1
    go_wp2
    go_ret2
    exact ⟨by rw [unhide H1, unhide H2]; rfl, he1.out⟩
  · obtain ⟨h12, hall⟩ := may_each hm
    have H1 : Hid (printS l = ⟨(printL l).toArray⟩) := by unfold printS; rw [hm]; rfl
    have H2 : Hid (printE l = 0) := by unfold printE; rw [hm]; rfl
    replace hall := hide hall
    go_enter Tryz.func19, Tryz.ntmps19
    go_wp2_with fail
    refine (allMayBe _ l _ hv0.out).mono ?_
    rintro e w1 ⟨rfl, he1⟩
    replace he1 := hide he1
    have hst := hide (Blds.start w1)
    go_wp2_with fail
    go_loopw [12] (fun i wr => ∃ (k : Nat) (ac : List UInt8), k ≤ l.length ∧ i = .int .i64 k ∧ ac.length ≤ 1500 * k ∧ Hid (ac = printL (l.take k)) ∧ Blds w1 ac wr) (fun i _ => l.length - (intOf i).toNat)
    case atStart => exact ⟨0, [], Nat.zero_le _, rfl, by simp, rfl, hst.out⟩
    case round =>
      obtain ⟨k, ac, hk, rfl, hal, hac, hbl⟩ := hrel
      by_cases hlt : k < l.length
      · rcases hs with rfl | ⟨b, off, rfl, hin⟩
        · simp at hlt
        obtain ⟨x, hx⟩ := some_of_lt hlt
        have hin1 := hin.ext he1.out
        obtain ⟨g0, g1, c2, c3, g2, g3, hres⟩ := (hin1.ext hbl.ext) k x hx
        obtain ⟨_, _, d2, d3, k2, k3, hres1⟩ := hin1 k x hx
        obtain ⟨rfl, rfl⟩ : d2 = c2 ∧ d3 = c3 := by
          have e2 := hbl.ext.cells k2; have e3 := hbl.ext.cells k3
          rw [g2] at e2; rw [g3] at e3
          exact ⟨(Option.some.inj e2).symm, (Option.some.inj e3).symm⟩
        have hres0 := hide hres1
        obtain ⟨a2, p2, rfl⟩ := hres.attrs.form
        obtain ⟨a3, p3, rfl⟩ := hres.after.form
        have hsm := hide (small_of_may (hall.out x (List.mem_of_getElem? hx)))
        have hrl := res_len hsm.out
        have Hp := hide (print_take hx)
        clear hres hres1 k2 k3 hin1
        replace hin := hide hin; replace hx := hide hx; replace hbl := hide hbl
        go_wp2_with fail
        refine (printRes w1 ac _ _ x _ (hbl.out.go ((Ext.refl _).alloc _)) hres0.out (ht.out.ext he1.out) hsm.out (by omega)).mono ?_
        rintro e w2 ⟨rfl, hb2⟩
        replace hb2 := hide hb2
        go_wp2
        go_roundw
        case rel => exact ⟨k + 1, ac ++ resL x, by omega, by go_num, by rw [List.length_append]; omega, by rw [unhide Hp, hac.out]; rfl, hb2.out⟩
        case measure => simp [intOf]; omega
      · have Hl : Hid (ac = printL l) := by rw [hac.out, List.take_of_length_le (by omega)]; rfl
        replace hbl := hide hbl; replace hs := hide hs
        go_wp2_with fail
        refine (told hbl.out).mono ?_
        rintro e w2 ⟨rfl, he2⟩
        replace he2 := hide he2
        go_wp2
        go_ret2
        exact ⟨by rw [unhide H1, unhide H2, unhide Hl]; rfl, he1.out.trans he2.out⟩
end Go.Proofs.YtfmcgdglalljgaaGreatDoor
