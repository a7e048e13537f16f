/-
  Rows in the order of their keys: plain facts, for keys and rows of any kind.
-/
import Derived.Test.YtmgpjbhhlbjahaaBase
namespace Go.Proofs.Ytmgpjbhhlbjahaa
open Go.RowKit

/-- An order of keys. -/
structure OrdK {κ : Type} (cmp : κ → κ → Int) : Prop where
  zero : ∀ {a b : κ}, cmp a b = 0 ↔ a = b
  flip : ∀ a b : κ, cmp a b = - cmp b a
  trans : ∀ {a b c : κ}, cmp a b < 0 → cmp b c < 0 → cmp a c < 0
section
variable {κ ρ : Type} {cmp : κ → κ → Int} {key : ρ → κ}
/-- Keys rise. -/
def UpG (cmp : κ → κ → Int) (key : ρ → κ) (rs : List ρ) : Prop := rs.Pairwise fun a b => cmp (key a) (key b) < 0
theorem UpG.at {rs : List ρ} (h : UpG cmp key rs) {i j : Nat} {x y : ρ} (hi : rs[i]? = some x) (hj : rs[j]? = some y) (hij : i < j) : cmp (key x) (key y) < 0 := by
  obtain ⟨h1, rfl⟩ := List.getElem?_eq_some_iff.1 hi
  obtain ⟨h2, rfl⟩ := List.getElem?_eq_some_iff.1 hj
  exact List.pairwise_iff_getElem.1 h i j h1 h2 hij
/-- The place where a key stands, or would stand. -/
structure StandsG (cmp : κ → κ → Int) (key : ρ → κ) (rs : List ρ) (a : κ) (i : Nat) : Prop where
  le : i ≤ rs.length
  ahead : ∀ (k : Nat) x, k < i → rs[k]? = some x → cmp (key x) a < 0
  behind : ∀ (k : Nat) x, i ≤ k → rs[k]? = some x → ¬ cmp (key x) a < 0
/-- A key is there. -/
def HasK (key : ρ → κ) (rs : List ρ) (a : κ) : Prop := ∃ x ∈ rs, key x = a
theorem StandsG.there {rs : List ρ} {a : κ} {i : Nat} {x : ρ} (ho : OrdK cmp) (hx : rs[i]? = some x) (h0 : cmp (key x) a = 0) : HasK key rs a := ⟨x, List.mem_of_getElem? hx, ho.zero.1 h0⟩
theorem StandsG.gone {rs : List ρ} {a : κ} {i : Nat} (ho : OrdK cmp) (h : StandsG cmp key rs a i) (hu : UpG cmp key rs) (hn : ∀ x, rs[i]? = some x → cmp (key x) a ≠ 0) : ¬ HasK key rs a := by
  rintro ⟨y, hm, rfl⟩
  obtain ⟨k, hk⟩ := List.mem_iff_getElem?.1 hm
  have h0 : cmp (key y) (key y) = 0 := ho.zero.2 rfl
  by_cases hki : k < i
  · have := h.ahead k y hki hk; omega
  · by_cases e : k = i
    · subst e; exact hn y hk h0
    · have hlt : i < rs.length := by have := (List.getElem?_eq_some_iff.1 hk).1; omega
      have := hu.at (List.getElem?_eq_getElem hlt) hk (by omega)
      exact h.behind i _ (Nat.le_refl _) (List.getElem?_eq_getElem hlt) this
theorem UpG.stands {rs : List ρ} {a : κ} {k : Nat} {x : ρ} (ho : OrdK cmp) (hu : UpG cmp key rs) (hx : rs[k]? = some x) (h : cmp (key x) a < 0) : ∀ (j : Nat) y, j < k + 1 → rs[j]? = some y → cmp (key y) a < 0 := fun j y hj hy => by
  by_cases e : j = k
  · subst e; rw [hx] at hy; cases hy; exact h
  · exact ho.trans (hu.at hy hx (by omega)) h
theorem UpG.stands' {rs : List ρ} {a : κ} {k : Nat} {x : ρ} (ho : OrdK cmp) (hu : UpG cmp key rs) (hx : rs[k]? = some x) (h : ¬ cmp (key x) a < 0) : ∀ (j : Nat) y, k ≤ j → rs[j]? = some y → 0 ≤ cmp (key y) a := fun j y hj hy => Int.not_lt.1 fun hn => by
  by_cases e : j = k
  · subst e; rw [hx] at hy; cases hy; exact h hn
  · exact h (ho.trans (hu.at hx hy (by omega)) hn)
/-- A row put into its place. -/
def insG (rs : List ρ) (i : Nat) (x : ρ) : List ρ := rs.take i ++ x :: rs.drop i
theorem insG_len {rs : List ρ} {i : Nat} {a : ρ} (h : i ≤ rs.length) : (insG rs i a).length = rs.length + 1 := by
  simp [insG]; omega
theorem UpG.insert {rs : List ρ} {x : ρ} {i : Nat} (ho : OrdK cmp) (hu : UpG cmp key rs) (h : StandsG cmp key rs (key x) i) (hn : ¬ HasK key rs (key x)) : UpG cmp key (insG rs i x) := by
  have hA : ∀ y ∈ rs.take i, cmp (key y) (key x) < 0 := fun y hy => by
    obtain ⟨k, hk⟩ := List.mem_iff_getElem?.1 hy
    rw [List.getElem?_take] at hk
    split at hk
    · rename_i hki; exact h.ahead k y hki hk
    · cases hk
  have hB : ∀ y ∈ rs.drop i, cmp (key x) (key y) < 0 := fun y hy => by
    obtain ⟨k, hk⟩ := List.mem_iff_getElem?.1 hy
    rw [List.getElem?_drop] at hk
    have h1 := h.behind (i + k) y (by omega) hk
    have h2 : cmp (key y) (key x) ≠ 0 := fun e => hn ⟨y, List.mem_of_getElem? hk, ho.zero.1 e⟩
    rw [ho.flip]; omega
  refine List.pairwise_append.2 ⟨List.Pairwise.sublist (List.take_sublist _ _) hu, List.pairwise_cons.2 ⟨hB, List.Pairwise.sublist (List.drop_sublist _ _) hu⟩, fun y hy z hz => ?_⟩
  rcases List.mem_cons.1 hz with rfl | hz
  · exact hA y hy
  · exact ho.trans (hA y hy) (hB z hz)
/-- No two rows have the same key. -/
theorem UpG.one {rs : List ρ} (ho : OrdK cmp) (hu : UpG cmp key rs) {i j : Nat} {x y : ρ} (hi : rs[i]? = some x) (hj : rs[j]? = some y) (he : key x = key y) : i = j := by
  rcases Nat.lt_trichotomy i j with h | h | h
  · have := hu.at hi hj h; rw [he, ho.zero.2 rfl] at this; omega
  · exact h
  · have := hu.at hj hi h; rw [he, ho.zero.2 rfl] at this; omega
end
/-- The cells of rows. -/
def cellsG {ρ : Type} (c : ρ → List Value) (rs : List ρ) : List Value := rs.flatMap c
theorem cellsG_len {ρ : Type} {c : ρ → List Value} {n : Nat} (hc : ∀ x, (c x).length = n) : ∀ rs : List ρ, (cellsG c rs).length = rs.length * n
  | [] => by simp [cellsG]
  | x :: rs => by
    have := cellsG_len hc rs
    simp only [cellsG, List.flatMap_cons, List.length_append, List.length_cons] at this ⊢
    rw [this, hc, Nat.succ_mul]; omega
theorem cellsG_take {ρ : Type} {c : ρ → List Value} {n : Nat} (hc : ∀ x, (c x).length = n) : ∀ (rs : List ρ) (i : Nat), (cellsG c rs).take (i * n) = cellsG c (rs.take i)
  | [], i => by simp [cellsG]
  | _ :: _, 0 => by simp [cellsG]
  | x :: rs, i + 1 => by
    have := cellsG_take hc rs i
    simp only [cellsG, List.flatMap_cons, List.take_succ_cons] at this ⊢
    rw [show (i + 1) * n = (c x).length + i * n by rw [hc, Nat.succ_mul]; omega, List.take_append, List.take_of_length_le (by omega), show (c x).length + i * n - (c x).length = i * n by omega, this]
theorem cellsG_drop {ρ : Type} {c : ρ → List Value} {n : Nat} (hc : ∀ x, (c x).length = n) : ∀ (rs : List ρ) (i : Nat), (cellsG c rs).drop (i * n) = cellsG c (rs.drop i)
  | [], i => by simp [cellsG]
  | _ :: _, 0 => by simp [cellsG]
  | x :: rs, i + 1 => by
    have := cellsG_drop hc rs i
    simp only [cellsG, List.flatMap_cons, List.drop_succ_cons] at this ⊢
    rw [show (i + 1) * n = (c x).length + i * n by rw [hc, Nat.succ_mul]; omega, List.drop_append, List.drop_of_length_le (by omega), show (c x).length + i * n - (c x).length = i * n by omega, this]; simp
theorem cellsG_ins {ρ : Type} {c : ρ → List Value} {n : Nat} (hc : ∀ x, (c x).length = n) (rs : List ρ) (i : Nat) (x : ρ) : (cellsG c rs).take (i * n) ++ c x ++ (cellsG c rs).drop (i * n) = cellsG c (insG rs i x) := by
  rw [cellsG_take hc, cellsG_drop hc]; simp [cellsG, insG, List.flatMap_append]
end Go.Proofs.Ytmgpjbhhlbjahaa
