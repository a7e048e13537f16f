/-
  The order of IDs and the marks: what each function answers.
-/
/-
  Lists of IDs and Attrs: what the functions that look through them answer.
-/
/-
  Lists of Attrs: what the functions that look through them answer.
-/
/-
  Lists that rise: what the function that looks for it answers.
-/
/-
  Resources that may be: what the program's functions answer.
-/
/-
  Cells of IDs, Attrs and resources; rows that are kept.
-/
/-
  The two orders of keys.
-/
/-
  The reference's word, the order of IDs, the marks: what each function answers.
-/
import Derived.Test.YtpkhmgonkbpjjaaJ3
import Derived.Deep.QuietTactic
import Derived.BigQuiet
import Derived.Deep.RegionHeld3
import Derived.Test.YtpkhmgonkbpjjaaShelf
import Derived.Test.YtpkhmgonkbpjjaaJ1
namespace Go.Proofs.Ytpkhmgonkbpjjaa
open Go.RowKit

end Go.Proofs.Ytpkhmgonkbpjjaa

namespace Go.Proofs.Ytpkhmgonkbpjjaa
open Go.RowKit

end Go.Proofs.Ytpkhmgonkbpjjaa

namespace Go.Proofs.Ytpkhmgonkbpjjaa
open Go.RowKit

end Go.Proofs.Ytpkhmgonkbpjjaa

namespace Go.Proofs.Ytpkhmgonkbpjjaa
open Go.RowKit

end Go.Proofs.Ytpkhmgonkbpjjaa

namespace Go.Proofs.Ytpkhmgonkbpjjaa
open Go.RowKit

theorem AttrsV.form {w : World} {v : Value} {l : List Attrd} (h : AttrsV w v l) : ∃ a cap, v = .slice a l.length cap := by
  obtain ⟨⟨a, cap, hv, _⟩, _⟩ := h; exact ⟨a, cap, hv⟩
theorem IDsV.form {w : World} {v : Value} {l : List IDd} (h : IDsV w v l) : ∃ a cap, v = .slice a l.length cap := by
  obtain ⟨⟨a, cap, hv, _⟩, _⟩ := h; exact ⟨a, cap, hv⟩

end Go.Proofs.Ytpkhmgonkbpjjaa

namespace Go.Proofs.Ytpkhmgonkbpjjaa
open Go.RowKit

def cA (x : Attrd) : List Value := [.string x.name, .bool x.isText, .string x.text, .int .i64 x.number]
def cI (x : IDd) : List Value := [.string x.kind, .string x.name]
def cellsA (l : List Attrd) : List Value := l.flatMap cA
def cellsI (l : List IDd) : List Value := l.flatMap cI
def markA : Attrd := ⟨⟨#[]⟩, false, ⟨#[]⟩, -77⟩
def markI : IDd := ⟨⟨#[98, 101, 121, 111, 110, 100]⟩, ⟨#[]⟩⟩
def markR : Resd := ⟨⟨textD 77, ⟨#[]⟩⟩, [], []⟩

theorem flat_get {α β : Type} {f : α → List β} {n : Nat} (hf : ∀ x, (f x).length = n) : ∀ {l : List α} {i : Nat} {x : α} {r : Nat}, l[i]? = some x → r < n → (l.flatMap f)[i * n + r]? = (f x)[r]?
  | [], _, _, _, h, _ => by simp at h
  | y :: l, 0, x, r, h, hr => by
    simp at h; subst h
    rw [List.flatMap_cons, Nat.zero_mul, Nat.zero_add, List.getElem?_append_left (by rw [hf]; exact hr)]
  | y :: l, i + 1, x, r, h, hr => by
    have ih := flat_get hf (l := l) (i := i) (x := x) (r := r) (by simpa using h) hr
    rw [List.flatMap_cons, List.getElem?_append_right (by rw [hf, Nat.succ_mul]; omega), hf, ← ih]
    congr 1
    rw [Nat.succ_mul]; omega
theorem flat_length {α β : Type} {f : α → List β} {n : Nat} (hf : ∀ x, (f x).length = n) : ∀ l : List α, (l.flatMap f).length = l.length * n
  | [] => by simp
  | y :: l => by rw [List.flatMap_cons, List.length_append, hf, flat_length hf l, List.length_cons, Nat.succ_mul]; omega
theorem flat_mem {α β : Type} {f : α → List β} {n : Nat} (hf : ∀ x, (f x).length = n) (hn : 0 < n) {l : List α} {j : Nat} {v : β} (h : (l.flatMap f)[j]? = some v) : ∃ x, l[j / n]? = some x ∧ (f x)[j % n]? = some v := by
  have hlt : j < l.length * n := by rw [← flat_length hf l]; exact (List.getElem?_eq_some_iff.1 h).1
  have hi : j / n < l.length := Nat.div_lt_of_lt_mul (by rw [Nat.mul_comm]; exact hlt)
  refine ⟨l[j / n], List.getElem?_eq_getElem hi, ?_⟩
  rw [← flat_get hf (List.getElem?_eq_getElem hi) (Nat.mod_lt _ hn), Nat.div_add_mod']
  exact h
theorem cA_len (x : Attrd) : (cA x).length = 4 := rfl
theorem cI_len (x : IDd) : (cI x).length = 2 := rfl
/-- The cells of Attrs that lie there. -/
theorem AttrsIn.src {w : World} {b off : Nat} {l : List Attrd} (h : AttrsIn w b off l) : ∀ j v, (cellsA l)[j]? = some v → w.cell? ⟨b, off + j, none⟩ = some v := by
  intro j v hj
  obtain ⟨x, hx, hv⟩ := flat_mem cA_len (by omega) hj
  obtain ⟨h0, h1, h2, h3⟩ := h _ x hx
  have hr : j % 4 = 0 ∨ j % 4 = 1 ∨ j % 4 = 2 ∨ j % 4 = 3 := by omega
  have hj' : j = j / 4 * 4 + j % 4 := by omega
  rcases hr with e | e | e | e <;> rw [e] at hv <;> simp [cA] at hv <;> subst hv
  · rw [show off + j = off + j / 4 * 4 by omega]; exact h0
  · rw [show off + j = off + j / 4 * 4 + 1 by omega]; exact h1
  · rw [show off + j = off + j / 4 * 4 + 2 by omega]; exact h2
  · rw [show off + j = off + j / 4 * 4 + 3 by omega]; exact h3
theorem IDsIn.src {w : World} {b off : Nat} {l : List IDd} (h : IDsIn w b off l) : ∀ j v, (cellsI l)[j]? = some v → w.cell? ⟨b, off + j, none⟩ = some v := by
  intro j v hj
  obtain ⟨x, hx, hv⟩ := flat_mem cI_len (by omega) hj
  obtain ⟨h0, h1⟩ := h _ x hx
  have hr : j % 2 = 0 ∨ j % 2 = 1 := by omega
  rcases hr with e | e <;> rw [e] at hv <;> simp [cI] at hv <;> subst hv
  · rw [show off + j = off + j / 2 * 2 by omega]; exact h0
  · rw [show off + j = off + j / 2 * 2 + 1 by omega]; exact h1
theorem ownsRow_keep {D : Nat → Prop} {w w' : World} {base : Nat} {e : TypeId} {size : Nat} {v : Value} {n : Nat} {xs : List Value} (h : w.ownsRow base e size v n xs) (k : Kept D w w') (hd : ∀ g c, w.heap[g]? = some (.cells c e (0, 0)) → ¬ D g) : w'.ownsRow base e size v n xs := by
  obtain ⟨h1, h2⟩ := h
  refine ⟨h1, ?_⟩
  rcases h2 with h2 | ⟨g, cap, cur, hv, hg, hh, r⟩
  · exact .inl h2
  · exact .inr ⟨g, cap, cur, hv, hg, k.heap hh (hd g cur hh), r⟩
theorem ownsRow_form {w : World} {base : Nat} {e : TypeId} {size : Nat} {v : Value} {n : Nat} {xs : List Value} (h : w.ownsRow base e size v n xs) : ∃ pa cap, v = .slice pa n cap := by
  rcases h.2 with ⟨rfl, rfl⟩ | ⟨g, cap, cur, rfl, _⟩
  · exact ⟨none, 0, rfl⟩
  · exact ⟨_, cap, rfl⟩
theorem ownsRow_ne {w : World} {base : Nat} {e : TypeId} {size : Nat} {v : Value} {n : Nat} {xs : List Value} (h : w.ownsRow base e size v n xs) {k : Nat} {c : Array Value} {t : TypeId} {fz : Nat × Nat} (hk : w.heap[k]? = some (.cells c t fz)) (ht : t ≠ e) : some k ≠ v.ownBlock := by
  intro hv
  rcases h.2 with ⟨rfl, _⟩ | ⟨g, cap, cur, rfl, _, hg, _⟩
  · simp [Value.ownBlock] at hv
  · simp [Value.ownBlock] at hv
    subst hv
    rw [hg] at hk
    cases hk; exact ht rfl
theorem grown_kept {w w' : World} {o : Obj} {row : Option Nat} (h : (w.alloc o).grownBy w' row) : Kept (fun k => some k = row) w w' :=
  ⟨h.os, h.tape, h.output, by have := h.size; simp at this; omega, fun k hk hn => (h.block k (by simp; omega) hn).trans (Below.heap_alloc w o k hk)⟩
theorem tag_ne {w : World} {b b' : Nat} {c c' : Array Value} {t t' : TypeId} {f f' : Nat × Nat} (h : w.heap[b]? = some (.cells c t f)) (h' : w.heap[b']? = some (.cells c' t' f')) (ht : t ≠ t') : b ≠ b' := by
  rintro rfl; rw [h] at h'; cases h'; exact ht rfl
end Go.Proofs.Ytpkhmgonkbpjjaa

namespace Go.Proofs.Ytpkhmgonkbpjjaa
open Go.RowKit

theorem ordS : OrdK cmpS := ⟨cmpS_zero, cmpS_flip, cmpS_trans⟩
end Go.Proofs.Ytpkhmgonkbpjjaa

namespace Go.Proofs.Ytpkhmgonkbpjjaa
open Go.RowKit

theorem letter_of_inner {c : Int} (hi : isInnerB c = true) : isLetterB c = (!isDigitB c && !(c == 95) && !(c == 45)) := by
  by_cases h1 : isLetterB c = true
  · have : isDigitB c = false ∧ c ≠ 95 ∧ c ≠ 45 := by simp [isLetterB, isDigitB] at h1 ⊢; omega
    simp [h1, this]
  · simp only [Bool.not_eq_true] at h1
    simp only [isInnerB, h1, Bool.false_or] at hi
    rw [h1]
    by_cases h2 : isDigitB c = true
    · simp [h2]
    · simp only [Bool.not_eq_true] at h2
      rw [h2, Bool.false_or] at hi
      simp at hi
      rcases hi with rfl | rfl <;> simp

set_option maxRecDepth 100000 in
set_option maxHeartbeats 800000 in
theorem refWord (s : ByteArray) (w : World) (hm : s.size ≤ 9223372036854775807) :
    Calls Try.prog 42 #[.string s] w fun e w' => e = .returned (.bool (wordB s.data.toList)) ∧ w' = w := by
  by_cases h0 : s.size = 0
  · have he : s.toList = [] := by rw [ByteArray.toList_eq]; exact List.eq_nil_of_length_eq_zero (by rw [size_toList]; exact h0)
    have H := hide (show wordB s.data.toList = false by rw [← ByteArray.toList_eq, he]; rfl)
    have h1 : (s.size : Int) < 1 := by omega
    go_enter Try.func42, Try.ntmps42
    go_wp2
    go_ret
    exact ⟨retB (by rw [unhide H]), rfl⟩
  have h0 : 0 < s.size := by omega
  have h2 : decide ((s.size : Int) < 1) = false := by simp; omega
  by_cases h12 : 12 < s.size
  · have H := hide (show wordB s.data.toList = false from wordB_long (by rw [size_toList]; exact h12))
    have h1 : (12:Int) < (s.size : Int) := by omega
    go_enter Try.func42, Try.ntmps42
    go_wp2
    go_ret
    exact ⟨retB (by rw [unhide H]), rfl⟩
  have h1 : decide ((12:Int) < (s.size : Int)) = false := by simp; omega
  have H := hide (wordB_of h0 (by omega))
  have Hz := hide (size_toList s)
  have hhead := get_of_size h0
  have Hh := hide hhead; clear hhead
  have hin : isInnerB (s[0].toNat : Int) = false → wordB s.data.toList = false := by
    intro h; rw [unhide H, unhide Hh]; simp [h]
  have Hin := hide hin; clear hin
  have hlet := @letter_of_inner (s[0].toNat : Int)
  have Hlet := hide hlet; clear hlet
  by_cases hd : isDigitB (s[0].toNat : Int) = true
  · go_enter Try.func42, Try.ntmps42
    go_wp2_with (go_at_call 77; refine (refDigit _ _).mono ?_; rintro e w' ⟨rfl, rfl⟩)
    go_ret
    refine ⟨retB ?_, rfl⟩
    cases hi : isInnerB (s[0].toNat : Int)
    · rw [unhide Hin hi]
    · rw [unhide H, unhide Hlet hi, hd]; rfl
  have hd' : isDigitB (s[0].toNat : Int) = false := by simpa using hd
  by_cases hu : (s[0].toNat : Int) = 95
  · have hu' : ((s[0].toNat : Int) == 95) = true := by simpa using hu
    have Hu := hide hu; clear hu
    go_enter Try.func42, Try.ntmps42
    go_wp2_with (go_at_call 77; refine (refDigit _ _).mono ?_; rintro e w' ⟨rfl, rfl⟩)
    go_ret
    refine ⟨retB ?_, rfl⟩
    cases hi : isInnerB (s[0].toNat : Int)
    · rw [unhide Hin hi]
    · rw [unhide H, unhide Hlet hi, unhide Hu]; rfl
  have hu' : ((s[0].toNat : Int) == 95) = false := by simpa using hu
  by_cases hv : (s[0].toNat : Int) = 45
  · have hv' : ((s[0].toNat : Int) == 45) = true := by simpa using hv
    have Hu := hide hv; clear hv
    go_enter Try.func42, Try.ntmps42
    go_wp2_with (go_at_call 77; refine (refDigit _ _).mono ?_; rintro e w' ⟨rfl, rfl⟩)
    go_ret
    refine ⟨retB ?_, rfl⟩
    cases hi : isInnerB (s[0].toNat : Int)
    · rw [unhide Hin hi]
    · rw [unhide H, unhide Hlet hi, unhide Hu]; rfl
  have hv' : ((s[0].toNat : Int) == 45) = false := by simpa using hv
  have hfin : wordB s.data.toList = s.data.toList.all fun x => isInnerB x.toNat := by
    cases hi : isInnerB (s[0].toNat : Int)
    · rw [unhide Hin hi, unhide Hh]; simp [hi]
    · rw [unhide H, unhide Hlet hi, hd', hu', hv']; rfl
  have Hfin := hide hfin; clear hfin Hin Hlet H Hh
  go_enter Try.func42, Try.ntmps42
  go_wp2_with (go_at_call 77; refine (refDigit _ _).mono ?_; rintro e w' ⟨rfl, rfl⟩)
  go_loop [3] (fun i => ∃ k : Nat, k ≤ s.size ∧ i = .int .i64 k ∧ Hid ((s.data.toList.take k).all fun c => isInnerB (c.toNat : Int))) (fun i => s.size - (intOf i).toNat)
  case atStart => exact ⟨0, Nat.zero_le _, rfl, by simp [Hid]⟩
  case round =>
    obtain ⟨k, hk, rfl, hall⟩ := hrel
    by_cases hlt : k < s.size
    · have hlt' : k < s.data.toList.length := by rw [unhide Hz]; exact hlt
      have hs := all_take_succ (p := fun c => isInnerB (c.toNat : Int)) hlt' hall.out
      have hf := all_false_of (p := fun c => isInnerB (c.toNat : Int)) hlt'
      have hx : s.data.toList[k]?.getD 0 = s[k] := by rw [List.getElem?_eq_getElem hlt']; rfl
      rw [hx] at hs hf
      have Hs := hide hs; have Hf := hide hf; clear hs hf hx
      go_wp2_with (go_at_call 78; refine (refInner _ _).mono ?_; rintro e w' ⟨rfl, rfl⟩)
      · go_ret
        exact ⟨retB (by rw [unhide Hfin]; exact (unhide Hf (by simp_all)).symm), rfl⟩
      · go_round
        case rel => exact ⟨k + 1, by omega, by go_num, by rw [unhide Hs]; simp_all⟩
        case measure => simp [intOf]; omega
    · have Hl := hide (show s.data.toList.take k = s.data.toList from List.take_of_length_le (by rw [unhide Hz]; omega))
      go_wp2
      go_ret
      exact ⟨retB (by rw [unhide Hfin]; rw [unhide Hl] at hall; exact hall.out.symm), rfl⟩
end Go.Proofs.Ytpkhmgonkbpjjaa
