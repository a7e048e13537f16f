/-
  What is written is read again: resources.
-/
import Derived.Test.YtkjjfdejfihpfaaGreatRefRead2
import Derived.Test.YtkjjfdejfihpfaaGreatJ9
import Derived.Test.YtkjjfdejfihpfaaGreatJ5
namespace Go.Proofs.YtkjjfdejfihpfaaGreat
open Go.RowKit

theorem big_val (n : Int) (k : Nat) : ((UInt8.ofNat (n / 2 ^ (8 * k) % 256).toNat).toNat : Int) = n / 2 ^ (8 * k) % 256 := byte_val (by omega) (by omega)
theorem num1 (n : Int) : (numN (bigL 1 n) : Int) = n % 256 := by
  have h0 := big_val n 0
  have e : numN (bigL 1 n) = 0 * 256 + (UInt8.ofNat (n / 2 ^ (8 * 0) % 256).toNat).toNat := rfl
  rw [pow8.1] at h0 e
  omega
theorem num2 (n : Int) : (numN (bigL 2 n) : Int) = n % 65536 := by
  have h0 := big_val n 0
  have h1 := big_val n 1
  have e : numN (bigL 2 n) = (0 * 256 + (UInt8.ofNat (n / 2 ^ (8 * 1) % 256).toNat).toNat) * 256 + (UInt8.ofNat (n / 2 ^ (8 * 0) % 256).toNat).toNat := rfl
  rw [pow8.1] at h0 e
  rw [pow8.2.1] at h1 e
  omega
theorem num3 (n : Int) : (numN (bigL 3 n) : Int) = n % 16777216 := by
  have h0 := big_val n 0
  have h1 := big_val n 1
  have h2 := big_val n 2
  have e : numN (bigL 3 n) = ((0 * 256 + (UInt8.ofNat (n / 2 ^ (8 * 2) % 256).toNat).toNat) * 256 + (UInt8.ofNat (n / 2 ^ (8 * 1) % 256).toNat).toNat) * 256 + (UInt8.ofNat (n / 2 ^ (8 * 0) % 256).toNat).toNat := rfl
  rw [pow8.1] at h0 e
  rw [pow8.2.1] at h1 e
  rw [pow8.2.2.1] at h2 e
  omega
theorem num4 (n : Int) : (numN (bigL 4 n) : Int) = n % 4294967296 := by
  have h0 := big_val n 0
  have h1 := big_val n 1
  have h2 := big_val n 2
  have h3 := big_val n 3
  have e : numN (bigL 4 n) = (((0 * 256 + (UInt8.ofNat (n / 2 ^ (8 * 3) % 256).toNat).toNat) * 256 + (UInt8.ofNat (n / 2 ^ (8 * 2) % 256).toNat).toNat) * 256 + (UInt8.ofNat (n / 2 ^ (8 * 1) % 256).toNat).toNat) * 256 + (UInt8.ofNat (n / 2 ^ (8 * 0) % 256).toNat).toNat := rfl
  rw [pow8.1] at h0 e
  rw [pow8.2.1] at h1 e
  rw [pow8.2.2.1] at h2 e
  rw [pow8.2.2.2] at h3 e
  omega
theorem take_big (k : Nat) (n : Int) (t : List UInt8) : (bigL k n ++ t).take k = bigL k n := by
  have h := bigL_len k n
  rw [List.take_append_of_le_length (by omega), List.take_of_length_le (by omega)]
theorem drop_big (k : Nat) (n : Int) (t : List UInt8) : (bigL k n ++ t).drop k = t := by
  have h := bigL_len k n
  rw [List.drop_append_of_le_length (by omega), List.drop_of_length_le (by omega)]; rfl
theorem drop_len {α : Type} (a t : List α) : (a ++ t).drop a.length = t := List.drop_left
theorem take_len {α : Type} (a t : List α) : (a ++ t).take a.length = a := List.take_left
theorem ba_eta (s : ByteArray) : (⟨s.data.toList.toArray⟩ : ByteArray) = s := by apply ByteArray.ext; simp
theorem s32_inv {n : Int} (h0 : -2147483648 ≤ n) (h1 : n < 2147483648) : s32 (numN (bigL 4 n)) = n := by
  have h := num4 n
  unfold s32
  split <;> omega

/-! The program's reader. -/
theorem rdText_inv (s : ByteArray) (hs : s.size ≤ 255) (t : List UInt8) : rdText (textL s ++ t) = (s, t) := by
  have h1 := num1 (s.size : Int)
  have hn : numN (bigL 1 (s.size : Int)) = s.data.toList.length := by rw [ba_len]; omega
  unfold rdText
  rw [textL, List.append_assoc, take_big, drop_big, hn, take_len, drop_len, ba_eta]
theorem rdID_inv {x : IDd} (h : shI x) (t : List UInt8) : rdID (idL x ++ t) = (x, t) := by
  unfold rdID
  rw [idL, List.append_assoc, rdText_inv _ h.1]
  dsimp only
  rw [rdText_inv _ h.2]
theorem attr_nums {x : Attrd} (h : attrB x = true) : (x.isText = true ∧ x.number = 0) ∨ (x.isText = false ∧ x.text = ⟨#[]⟩ ∧ -2147483648 ≤ x.number ∧ x.number < 2147483648) := by
  cases hx : x.isText
  · right
    simp [attrB, hx] at h
    refine ⟨rfl, ?_, by omega, by omega⟩
    apply ByteArray.ext; apply Array.toList_inj.1; simpa using h.2.1
  · left
    simp [attrB, hx] at h
    exact ⟨rfl, h.2.2⟩
theorem rdAttr_inv {x : Attrd} (h : attrB x = true) (t : List UInt8) : rdAttr (attrL x ++ t) = (x, t) := by
  have hs := attr_sh h
  obtain ⟨nm, b, tx, num⟩ := x
  rcases attr_nums h with ⟨h1, h2⟩ | ⟨h1, h2, h3, h4⟩
  · dsimp only at h1 h2
    subst h1 h2
    have ea : attrL ⟨nm, true, tx, 0⟩ = textL nm ++ (bigL 1 1 ++ textL tx) := rfl
    unfold rdAttr
    rw [ea, List.append_assoc, List.append_assoc, rdText_inv _ hs.1]
    dsimp only
    have e : numN (bigL 1 1) = 1 := by decide
    rw [take_big, e, if_pos rfl, drop_big, rdText_inv _ hs.2]
  · dsimp only at h1 h2 h3 h4
    subst h1 h2
    have ea : attrL ⟨nm, false, ⟨#[]⟩, num⟩ = textL nm ++ (bigL 1 0 ++ bigL 4 num) := rfl
    unfold rdAttr
    rw [ea, List.append_assoc, List.append_assoc, rdText_inv _ hs.1]
    dsimp only
    have e : ¬ numN (bigL 1 0) = 1 := by decide
    rw [take_big, if_neg e, drop_big, take_big, drop_big, s32_inv h3 h4]
theorem rdMany_inv {α : Type} {rd : List UInt8 → α × List UInt8} {enc : α → List UInt8} : ∀ {l : List α}, (∀ x ∈ l, ∀ t, rd (enc x ++ t) = (x, t)) → ∀ t, rdMany rd l.length (l.flatMap enc ++ t) = (l, t)
  | [], _, t => rfl
  | x :: l, h, t => by
    rw [List.length_cons, rdMany, List.flatMap_cons, List.append_assoc, h x (by simp)]
    dsimp only
    rw [rdMany_inv (l := l) (fun y hy => h y (by simp [hy]))]
theorem len_num {α : Type} {l : List α} (hl : l.length ≤ 255) : numN (bigL 1 (l.length : Int)) = l.length := by
  have h1 := num1 (l.length : Int); omega
theorem rdList_inv {α : Type} {rd : List UInt8 → α × List UInt8} {enc : α → List UInt8} {l : List α} (hl : l.length ≤ 255) (h : ∀ x ∈ l, ∀ t, rd (enc x ++ t) = (x, t)) (t : List UInt8) : rdList rd (listL enc l ++ t) = (l, t) := by
  unfold rdList
  rw [listL, List.append_assoc, take_big, drop_big, len_num hl, rdMany_inv h]
theorem may_parts {x : Resd} (h : mayB x = true) : shI x.id ∧ (∀ a ∈ x.attrs, attrB a = true) ∧ (∀ a ∈ x.after, shI a) ∧ x.attrs.length ≤ 255 ∧ x.after.length ≤ 255 := by
  obtain ⟨h1, _, h3, h4, h5⟩ := may_sh h
  simp only [mayB, Bool.and_eq_true, List.all_eq_true] at h
  exact ⟨h1, fun a ha => h.1.1.1.2 a ha, h3, h4, h5⟩
theorem rdRes_inv {x : Resd} (h : mayB x = true) (t : List UInt8) : rdRes (encR x ++ t) = (x, t) := by
  obtain ⟨h1, h2, h3, h4, h5⟩ := may_parts h
  unfold rdRes
  rw [encR, List.append_assoc, List.append_assoc, rdID_inv h1]
  dsimp only
  rw [rdList_inv h4 (fun a ha t => rdAttr_inv (h2 a ha) t)]
  dsimp only
  rw [rdList_inv h5 (fun a ha t => rdID_inv (h3 a ha) t)]
theorem rfN_eq (l : List UInt8) (a : Nat) : ∀ k, a + k ≤ l.length → rfN l a k = numN ((l.drop a).take k)
  | 0, _ => rfl
  | k + 1, h => by
    have ih := rfN_eq l a k (by omega)
    have hk : k < (l.drop a).length := by rw [List.length_drop]; omega
    rw [rfN, ih, List.take_succ_eq_append_getElem hk]
    unfold numN
    rw [List.foldl_append]
    have e : (l.drop a)[k] = l[a + k]?.getD 0 := by
      rw [List.getElem_drop, List.getElem?_eq_getElem (by omega)]; rfl
    rw [e]; rfl
theorem drop_fits {l e t : List UInt8} {a : Nat} (h : l.drop a = e ++ t) (he : 0 < e.length) : a + e.length ≤ l.length ∧ l.drop (a + e.length) = t := by
  have hl := congrArg List.length h
  rw [List.length_drop, List.length_append] at hl
  refine ⟨by omega, ?_⟩
  rw [← List.drop_drop, h, drop_len]
theorem rfN_inv {l t : List UInt8} {a k : Nat} {n : Int} (h : l.drop a = bigL k n ++ t) (hk : 0 < k) : rfN l a k = numN (bigL k n) ∧ l.drop (a + k) = t := by
  have hb := bigL_len k n
  obtain ⟨h1, h2⟩ := drop_fits h (by omega)
  rw [hb] at h1 h2
  rw [rfN_eq l a k h1, h, take_big]
  exact ⟨rfl, h2⟩
theorem rfText_inv {l t : List UInt8} {a : Nat} {s : ByteArray} (hs : s.size ≤ 255) (h : l.drop a = textL s ++ t) : rfText l a = (s, a + (textL s).length) ∧ l.drop (a + (textL s).length) = t := by
  have hl := textL_len s
  obtain ⟨h1, h2⟩ := drop_fits h (by omega)
  have h' : l.drop a = bigL 1 (s.size : Int) ++ (s.data.toList ++ t) := by rw [h, textL, List.append_assoc]
  obtain ⟨k1, k2⟩ := rfN_inv h' (by omega)
  have n1 := num1 (s.size : Int)
  have hn : rfN l a 1 = s.size := by rw [k1]; omega
  refine ⟨?_, h2⟩
  unfold rfText
  rw [hn, if_neg (by omega), k2]
  have e : (s.data.toList ++ t).take s.size = s.data.toList := by rw [← ba_len]; exact take_len _ _
  rw [e, ba_eta, hl, show a + 1 + s.size = a + (s.size + 1) by omega]
theorem rfID_inv {l t : List UInt8} {a : Nat} {x : IDd} (hx : shI x) (h : l.drop a = idL x ++ t) : rfID l a = (x, a + (idL x).length) ∧ l.drop (a + (idL x).length) = t := by
  rw [idL, List.append_assoc] at h
  obtain ⟨h1, h2⟩ := rfText_inv hx.1 h
  obtain ⟨h3, h4⟩ := rfText_inv hx.2 h2
  unfold rfID
  rw [h1]
  dsimp only
  rw [h3, idL, List.length_append, ← Nat.add_assoc]
  exact ⟨rfl, h4⟩
theorem rfAttr_inv {l t : List UInt8} {a : Nat} {x : Attrd} (hx : attrB x = true) (h : l.drop a = attrL x ++ t) : rfAttr l a = (x, a + (attrL x).length) ∧ l.drop (a + (attrL x).length) = t := by
  have hs := attr_sh hx
  obtain ⟨nm, b, tx, num⟩ := x
  rcases attr_nums hx with ⟨h1, h2⟩ | ⟨h1, h2, h3, h4⟩
  · dsimp only at h1 h2
    subst h1 h2
    have ea : attrL ⟨nm, true, tx, 0⟩ = textL nm ++ (bigL 1 1 ++ textL tx) := rfl
    rw [ea, List.append_assoc, List.append_assoc] at h
    obtain ⟨k1, k2⟩ := rfText_inv hs.1 h
    obtain ⟨k3, k4⟩ := rfN_inv k2 (by omega)
    obtain ⟨k5, k6⟩ := rfText_inv hs.2 k4
    have e : numN (bigL 1 1) = 1 := by decide
    unfold rfAttr
    rw [k1]
    dsimp only
    dsimp only at k5 k6
    rw [k3, e, if_pos rfl, k5, ea, List.length_append, List.length_append, bigL_len]
    rw [show a + (textL nm).length + 1 + (textL tx).length = a + ((textL nm).length + (1 + (textL tx).length)) by omega] at k6 ⊢
    exact ⟨rfl, k6⟩
  · dsimp only at h1 h2 h3 h4
    subst h1 h2
    have ea : attrL ⟨nm, false, ⟨#[]⟩, num⟩ = textL nm ++ (bigL 1 0 ++ bigL 4 num) := rfl
    rw [ea, List.append_assoc, List.append_assoc] at h
    obtain ⟨k1, k2⟩ := rfText_inv hs.1 h
    obtain ⟨k3, k4⟩ := rfN_inv k2 (by omega)
    obtain ⟨k5, k6⟩ := rfN_inv k4 (by omega)
    have e : ¬ numN (bigL 1 0) = 1 := by decide
    unfold rfAttr
    rw [k1]
    dsimp only
    rw [k3, if_neg e, k5, s32_inv h3 h4, ea, List.length_append, List.length_append, bigL_len, bigL_len]
    rw [show a + (textL nm).length + 1 + 4 = a + ((textL nm).length + (1 + 4)) by omega] at k6 ⊢
    exact ⟨rfl, k6⟩
theorem rfMany_inv {α : Type} {rf : List UInt8 → Nat → α × Nat} {enc : α → List UInt8} {l : List UInt8} : ∀ {xs : List α}, (∀ x ∈ xs, ∀ a t, l.drop a = enc x ++ t → rf l a = (x, a + (enc x).length) ∧ l.drop (a + (enc x).length) = t) → ∀ {a : Nat} {t : List UInt8}, l.drop a = xs.flatMap enc ++ t → rfMany rf l xs.length a = (xs, a + (xs.flatMap enc).length) ∧ l.drop (a + (xs.flatMap enc).length) = t
  | [], _, a, t, h => ⟨rfl, h⟩
  | x :: xs, hx, a, t, h => by
    rw [List.flatMap_cons, List.append_assoc] at h
    obtain ⟨h1, h2⟩ := hx x (by simp) _ _ h
    obtain ⟨h3, h4⟩ := rfMany_inv (xs := xs) (fun y hy => hx y (by simp [hy])) h2
    rw [List.length_cons, rfMany, h1]
    dsimp only
    rw [h3, List.flatMap_cons, List.length_append, ← Nat.add_assoc]
    exact ⟨rfl, h4⟩
theorem rfList_inv {α : Type} {rf : List UInt8 → Nat → α × Nat} {enc : α → List UInt8} {l t : List UInt8} {xs : List α} {a : Nat} (hl : xs.length ≤ 255) (hx : ∀ x ∈ xs, ∀ a t, l.drop a = enc x ++ t → rf l a = (x, a + (enc x).length) ∧ l.drop (a + (enc x).length) = t) (h : l.drop a = listL enc xs ++ t) : rfList rf l a = (xs, a + (listL enc xs).length) ∧ l.drop (a + (listL enc xs).length) = t := by
  rw [listL, List.append_assoc] at h
  obtain ⟨h1, h2⟩ := rfN_inv h (by omega)
  obtain ⟨h3, h4⟩ := rfMany_inv hx h2
  unfold rfList
  rw [h1, len_num hl, h3, listL, List.length_append, bigL_len, ← Nat.add_assoc]
  exact ⟨rfl, h4⟩
theorem rfRes_inv2 {l t : List UInt8} {a : Nat} {x : Resd} (hm : mayB x = true) (h : l.drop a = encR x ++ t) : rfRes l a = (x, a + (encR x).length) ∧ l.drop (a + (encR x).length) = t := by
  obtain ⟨h1, h2, h3, h4, h5⟩ := may_parts hm
  rw [encR, List.append_assoc, List.append_assoc] at h
  obtain ⟨k1, k2⟩ := rfID_inv h1 h
  obtain ⟨k3, k4⟩ := rfList_inv h4 (fun x hx a t hh => rfAttr_inv (h2 x hx) hh) k2
  obtain ⟨k5, k6⟩ := rfList_inv h5 (fun x hx a t hh => rfID_inv (h3 x hx) hh) k4
  have hl : (encR x).length = (idL x.id).length + (listL attrL x.attrs).length + (listL idL x.after).length := by rw [encR, List.length_append, List.length_append]
  have hk : a + (encR x).length = a + (idL x.id).length + (listL attrL x.attrs).length + (listL idL x.after).length := by rw [hl]; omega
  refine ⟨?_, by rw [hk]; exact k6⟩
  unfold rfRes
  rw [k1]
  dsimp only
  rw [k3]
  dsimp only
  rw [k5, hk]
theorem rfRes_inv {l t : List UInt8} {a : Nat} {x : Resd} (hm : mayB x = true) (h : l.drop a = encR x ++ t) : (rfRes l a).1 = x := by rw [(rfRes_inv2 hm h).1]
end Go.Proofs.YtkjjfdejfihpfaaGreat
