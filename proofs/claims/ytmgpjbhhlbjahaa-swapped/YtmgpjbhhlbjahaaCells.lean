/-
  Cells of IDs, Attrs and resources; rows that are kept.
-/
import Derived.Test.YtmgpjbhhlbjahaaRows2
import Derived.Test.YtmgpjbhhlbjahaaJ2
import Derived.Test.YtmgpjbhhlbjahaaJ3
namespace Go.Proofs.Ytmgpjbhhlbjahaa
open Go.RowKit

def cA (x : Attrd) : List Value := [.string x.name, .bool x.isText, .string x.text, .int .i64 x.number]
def cI (x : IDd) : List Value := [.string x.kind, .string x.name]
def cellsA (l : List Attrd) : List Value := l.flatMap cA
def cellsI (l : List IDd) : List Value := l.flatMap cI
def markA : Attrd := ⟨⟨#[]⟩, false, ⟨#[]⟩, -77⟩
def markI : IDd := ⟨⟨#[98, 101, 121, 111, 110, 100]⟩, ⟨#[]⟩⟩
def markR : Resd := ⟨⟨textD 77, ⟨#[]⟩⟩, [], []⟩

theorem flat_get {α β : Type} {f : α → List β} {n : Nat} (hf : ∀ x, (f x).length = n) : ∀ {l : List α} {i : Nat} {x : α} {r : Nat}, l[i]? = some x → r < n → (l.flatMap f)[i * n + r]? = (f x)[r]?
  | [], _, _, _, h, _ => by simp at h
  | y :: l, 0, x, r, h, hr => by
    simp at h; subst h
    rw [List.flatMap_cons, Nat.zero_mul, Nat.zero_add, List.getElem?_append_left (by rw [hf]; exact hr)]
  | y :: l, i + 1, x, r, h, hr => by
    have ih := flat_get hf (l := l) (i := i) (x := x) (r := r) (by simpa using h) hr
    rw [List.flatMap_cons, List.getElem?_append_right (by rw [hf, Nat.succ_mul]; omega), hf, ← ih]
    congr 1
    rw [Nat.succ_mul]; omega
theorem flat_length {α β : Type} {f : α → List β} {n : Nat} (hf : ∀ x, (f x).length = n) : ∀ l : List α, (l.flatMap f).length = l.length * n
  | [] => by simp
  | y :: l => by rw [List.flatMap_cons, List.length_append, hf, flat_length hf l, List.length_cons, Nat.succ_mul]; omega
theorem flat_mem {α β : Type} {f : α → List β} {n : Nat} (hf : ∀ x, (f x).length = n) (hn : 0 < n) {l : List α} {j : Nat} {v : β} (h : (l.flatMap f)[j]? = some v) : ∃ x, l[j / n]? = some x ∧ (f x)[j % n]? = some v := by
  have hlt : j < l.length * n := by rw [← flat_length hf l]; exact (List.getElem?_eq_some_iff.1 h).1
  have hi : j / n < l.length := Nat.div_lt_of_lt_mul (by rw [Nat.mul_comm]; exact hlt)
  refine ⟨l[j / n], List.getElem?_eq_getElem hi, ?_⟩
  rw [← flat_get hf (List.getElem?_eq_getElem hi) (Nat.mod_lt _ hn), Nat.div_add_mod']
  exact h
theorem cA_len (x : Attrd) : (cA x).length = 4 := rfl
theorem cI_len (x : IDd) : (cI x).length = 2 := rfl
/-- The cells of Attrs that lie there. -/
theorem AttrsIn.src {w : World} {b off : Nat} {l : List Attrd} (h : AttrsIn w b off l) : ∀ j v, (cellsA l)[j]? = some v → w.cell? ⟨b, off + j, none⟩ = some v := by
  intro j v hj
  obtain ⟨x, hx, hv⟩ := flat_mem cA_len (by omega) hj
  obtain ⟨h0, h1, h2, h3⟩ := h _ x hx
  have hr : j % 4 = 0 ∨ j % 4 = 1 ∨ j % 4 = 2 ∨ j % 4 = 3 := by omega
  have hj' : j = j / 4 * 4 + j % 4 := by omega
  rcases hr with e | e | e | e <;> rw [e] at hv <;> simp [cA] at hv <;> subst hv
  · rw [show off + j = off + j / 4 * 4 by omega]; exact h0
  · rw [show off + j = off + j / 4 * 4 + 1 by omega]; exact h1
  · rw [show off + j = off + j / 4 * 4 + 2 by omega]; exact h2
  · rw [show off + j = off + j / 4 * 4 + 3 by omega]; exact h3
theorem IDsIn.src {w : World} {b off : Nat} {l : List IDd} (h : IDsIn w b off l) : ∀ j v, (cellsI l)[j]? = some v → w.cell? ⟨b, off + j, none⟩ = some v := by
  intro j v hj
  obtain ⟨x, hx, hv⟩ := flat_mem cI_len (by omega) hj
  obtain ⟨h0, h1⟩ := h _ x hx
  have hr : j % 2 = 0 ∨ j % 2 = 1 := by omega
  rcases hr with e | e <;> rw [e] at hv <;> simp [cI] at hv <;> subst hv
  · rw [show off + j = off + j / 2 * 2 by omega]; exact h0
  · rw [show off + j = off + j / 2 * 2 + 1 by omega]; exact h1
theorem ownsRow_form {w : World} {base : Nat} {e : TypeId} {size : Nat} {v : Value} {n : Nat} {xs : List Value} (h : w.ownsRow base e size v n xs) : ∃ pa cap, v = .slice pa n cap := by
  rcases h.2 with ⟨rfl, rfl⟩ | ⟨g, cap, cur, rfl, _⟩
  · exact ⟨none, 0, rfl⟩
  · exact ⟨_, cap, rfl⟩
end Go.Proofs.Ytmgpjbhhlbjahaa
