/-
  The books are looked at, where there are lists of Attrs and IDs alone.
-/
/-
  What may be is short.
-/
/-
  Resources whose lists are our own: plain facts.
-/
import Derived.Test.YtokogjhcgdhapaaLooks
import Derived.Test.YtokogjhcgdhapaaJ4
import Derived.Test.YtokogjhcgdhapaaJ6
import Derived.Test.YtokogjhcgdhapaaRead3
namespace Go.Proofs.Ytokogjhcgdhapaa
open Go.RowKit

set_option maxRecDepth 100000 in
set_option maxHeartbeats 3200000 in
theorem booksLook (B O : Nat) (w : World) (va vi : Value) (ea ei : List (Value × Nat)) (hb : BkAt B w O va vi (.slice none 0 0) (.slice none 0 0) (.slice none 0 0) (.slice none 0 0) ea ei) (he : ea.length ≤ 3000000) (hf : ei.length ≤ 3000000) (hA : ∀ x ∈ ea, MarkG 52 4 mkA w x) (hI : ∀ x ∈ ei, MarkG 25 2 mkI w x) :
    Calls Try.prog 25 #[.pointer (some ⟨O, 0, none⟩)] w fun e w' => e = .returned (.bool true) ∧ Ext w w' := by
  obtain ⟨o0, o1, o2, o3, o4, o5⟩ := six_celB hb.o
  replace hb := hide hb; replace hA := hide hA; replace hI := hide hI
  go_enter Try.func25, Try.ntmps25
  go_wp2_with fail
  go_loop [3] (fun i => i = .int .i64 0) (fun _ => 0)
  case atStart => rfl
  case round =>
    subst hrel
    go_wp2_with fail
    go_loop [7] (fun i => i = .int .i64 0) (fun _ => 0)
    case atStart => rfl
    case round =>
      subst hrel
      go_wp2_with fail
      go_loop [11] (fun i => i = .int .i64 0) (fun _ => 0)
      case atStart => rfl
      case round =>
        subst hrel
        go_wp2_with fail
        refine (bookLooks B O _ va vi _ _ _ ea ei hb.out he hf hA.out hI.out).mono ?_
        rintro e w1 ⟨rfl, he1⟩
        replace he1 := hide he1
        go_wp2_with fail
        go_ret
        exact ⟨rfl, he1.out⟩
end Go.Proofs.Ytokogjhcgdhapaa

namespace Go.Proofs.Ytokogjhcgdhapaa
open Go.RowKit

theorem word_sh {l : List UInt8} (h : wordB l = true) : l.length ≤ 12 := by
  rcases Nat.lt_or_ge 12 l.length with h1 | h1
  · rw [wordB_long h1] at h; cases h
  · exact h1
theorem size_dl (s : ByteArray) : s.data.toList.length = s.size := Array.length_toList
theorem id_sh {x : IDd} (h : idB x = true) : shI x := by
  simp only [idB, Bool.and_eq_true] at h
  have h1 := word_sh h.1; have h2 := word_sh h.2
  rw [size_dl] at h1 h2
  exact ⟨by omega, by omega⟩
theorem attr_sh {x : Attrd} (h : attrB x = true) : shA x := by
  simp only [attrB, Bool.and_eq_true] at h
  obtain ⟨⟨h1, _⟩, h2⟩ := h
  have h1 := word_sh h1
  rw [size_dl] at h1
  refine ⟨by omega, ?_⟩
  split at h2
  · simp only [stringB, Bool.and_eq_true, decide_eq_true_eq] at h2
    have := h2.1.1; rw [size_dl] at this; omega
  · simp only [Bool.and_eq_true, List.isEmpty_iff] at h2
    have := size_dl x.text; rw [h2.1] at this; simp at this; omega
theorem may_sh {x : Resd} (h : mayB x = true) : shR x := by
  simp only [mayB, Bool.and_eq_true, decide_eq_true_eq, List.all_eq_true] at h
  obtain ⟨⟨⟨⟨⟨⟨h1, h2⟩, h3⟩, h4⟩, _⟩, h5⟩, _⟩ := h
  exact ⟨id_sh h3, fun a ha => attr_sh (h4 a ha), fun a ha => id_sh (h5 a ha), by omega, by omega⟩
theorem ext_heap0 {w w' : World} (h : Ext w w') {k : Nat} {o : Obj} (hk : w.heap[k]? = some o) : w'.heap[k]? = some o := by
  obtain ⟨_, _, _, _, h5⟩ := h
  rw [h5 k (Array.getElem?_eq_some_iff.1 hk).1]; exact hk
end Go.Proofs.Ytokogjhcgdhapaa

namespace Go.Proofs.Ytokogjhcgdhapaa
open Go.RowKit

theorem take_split {cur : Array Value} {k : Nat} {xs : List Value} (h : cur.toList.take k = xs) : cur = (xs ++ cur.toList.drop k).toArray := by
  apply Array.toList_inj.1; rw [← h]; simp
theorem OwnR.resV {B : Nat} {w : World} {c2 c3 : Value} {x : Resd} (h : OwnR B w c2 c3 x) (hs : okS x) : ResV w c2 c3 x := by
  obtain ⟨_, _, h2, h3⟩ := h
  obtain ⟨s1, s2, s3, s4, s5⟩ := hs
  refine ⟨⟨by have := s1.1; omega, by have := s1.2; omega⟩, ⟨?_, by omega, fun a ha => ?_⟩, ⟨?_, by omega, fun a ha => ?_⟩⟩
  · rcases h2.2 with ⟨rfl, h0⟩ | ⟨g, cap, cur, rfl, _, hh, hc, hm, _, ht⟩
    · rw [List.eq_nil_of_length_eq_zero h0]; exact ⟨none, 0, rfl, Nat.le_refl _, by omega, .inl rfl⟩
    · rw [take_split ht] at hh
      exact ⟨some ⟨g, 0, none⟩, cap, rfl, hc, by unfold maxLen at hm; omega, .inr ⟨g, 0, rfl, attrsIn_of hh⟩⟩
  · obtain ⟨⟨k1, k2⟩, k3, k4⟩ := s2 a ha
    exact ⟨by omega, by omega, by omega, by omega⟩
  · rcases h3.2 with ⟨rfl, h0⟩ | ⟨g, cap, cur, rfl, _, hh, hc, hm, _, ht⟩
    · rw [List.eq_nil_of_length_eq_zero h0]; exact ⟨none, 0, rfl, Nat.le_refl _, by omega, .inl rfl⟩
    · rw [take_split ht] at hh
      exact ⟨some ⟨g, 0, none⟩, cap, rfl, hc, by unfold maxLen at hm; omega, .inr ⟨g, 0, rfl, idsIn_of hh⟩⟩
  · obtain ⟨k1, k2⟩ := s3 a ha
    exact ⟨by omega, by omega⟩
theorem OwnR.ext {B : Nat} {w w' : World} {c2 c3 : Value} {x : Resd} (h : OwnR B w c2 c3 x) (e : Ext w w') : OwnR B w' c2 c3 x :=
  ⟨h.f2, h.f3, ownsRow_wrote h.attrs (Wrote.ext (B := 0) (T := fun _ => False) e) id rfl, ownsRow_wrote h.after (Wrote.ext (B := 0) (T := fun _ => False) e) id rfl⟩
theorem OwnR.low {B B' : Nat} {w : World} {c2 c3 : Value} {x : Resd} (h : OwnR B w c2 c3 x) (hb : B' ≤ B) : OwnR B' w c2 c3 x := ⟨h.f2, h.f3, ownsRow_low h.attrs hb, ownsRow_low h.after hb⟩
def noRes : Resd := ⟨⟨⟨#[]⟩, ⟨#[]⟩⟩, [], []⟩
theorem OwnR.nil (B : Nat) (w : World) : OwnR B w (.slice none 0 0) (.slice none 0 0) noRes := ⟨⟨_, _, rfl⟩, ⟨_, _, rfl⟩, World.ownsRow_nil _ _ _ _, World.ownsRow_nil _ _ _ _⟩
theorem okS_nil : okS noRes := ⟨⟨Nat.zero_le _, Nat.zero_le _⟩, fun a h => (by cases h), fun a h => (by cases h), Nat.zero_le _, Nat.zero_le _⟩

set_option maxRecDepth 100000 in
set_option maxHeartbeats 1600000 in
theorem newReader (s : ByteArray) (w : World) :
    Calls Try.prog 40 #[.string s] w fun e w' => e = .returned (.pointer (some ⟨w.heap.size, 0, none⟩)) ∧ w' = w.alloc (.cells #[.string s] 111) := by
  go_enter Try.func40, Try.ntmps40
  go_wp2
  go_ret
  exact ⟨rfl, rfl⟩

end Go.Proofs.Ytokogjhcgdhapaa
