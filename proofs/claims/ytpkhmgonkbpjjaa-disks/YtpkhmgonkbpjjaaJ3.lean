/-
  The marks: what the functions that make them answer.
-/
/-
  Plain facts on the order of texts: Go's '<' and '==' on strings against strings.Compare's number.
-/
/-
  Words, strings, the order of IDs: what each function answers.
-/
/-
  Keys in their order, and what was met while one looks who waits for itself: plain facts.
-/
/-
  The reference's disk as plain data: its rows of changes, files and names.
-/
import Derived.Test.YtpkhmgonkbpjjaaJ2
import Derived.Test.YtpkhmgonkbpjjaaJ1
import Derived.Test.YtpkhmgonkbpjjaaDkS
namespace Go.Proofs.Ytpkhmgonkbpjjaa
open Go.RowKit

/-- So many digits of a number, the last one first. -/
def digs : Nat → Int → List UInt8
  | 0, _ => []
  | n + 1, k => UInt8.ofNat (48 + k % 10).toNat :: digs n (k / 10)
def markL : List UInt8 := [109, 97, 114, 107]
/-- The k-th mark. -/
def textD (k : Int) : ByteArray := ⟨(markL ++ digs 8 k).toArray⟩

set_option maxRecDepth 100000 in
set_option maxHeartbeats 800000 in
theorem textOf (k : Int) (w : World) (h0 : 0 ≤ k) (h1 : k ≤ 1000000000000000000) :
    Calls Try.prog 60 #[.int .i64 k] w fun e w' => e = .returned (.string (textD k)) ∧ Ext w w' := by
  go_enter Try.func60, Try.ntmps60
  go_wp2
  go_loopw [0, 3, 4] (fun n s i wr => ∃ (j : Nat) (m : Int) (l : List UInt8), j ≤ 8 ∧ 0 ≤ m ∧ m ≤ 1000000000000000000 ∧ i = .int .i64 j ∧ n = .int .i64 m ∧ s = .string ⟨l.toArray⟩ ∧ l.length = 4 + j ∧ Hid (l ++ digs (8 - j) m = markL ++ digs 8 k) ∧ Ext w wr) (fun _ _ i _ => 8 - (intOf i).toNat)
  case atStart => exact ⟨0, k, markL, by omega, h0, h1, rfl, rfl, rfl, rfl, rfl, Ext.refl _⟩
  case round =>
    obtain ⟨j, m, l, hj, hm0, hm1, rfl, rfl, rfl, hl, hd, he⟩ := hrel
    replace he := hide he
    by_cases hlt : j < 8
    · have hcv := fun w => conv_one w (48 + m % 10) (by omega) (by omega)
      have hl' : l.length ≤ 100 := by omega
      replace hl := hide hl
      go_wp2
      go_roundw
      case rel =>
        refine ⟨j + 1, m / 10, l ++ [UInt8.ofNat (48 + m % 10).toNat], by omega, by omega, by omega, by go_num, rfl, ?_, ?_, ?_, he.out.alloc _⟩
        · rw [ba_app2]
        · rw [List.length_append, hl.out]; rfl
        · have := hd.out
          rw [show 8 - j = (8 - (j + 1)) + 1 by omega, digs] at this
          rw [List.append_assoc]; exact this
      case measure => simp [intOf]; omega
    · obtain rfl : j = 8 := by omega
      have hd' : l = markL ++ digs 8 k := by simpa [digs] using hd.out
      replace hd' := hide hd'
      go_wp2
      go_ret
      exact ⟨retS (by rw [unhide hd']; rfl), he.out⟩

end Go.Proofs.Ytpkhmgonkbpjjaa

namespace Go.Proofs.Ytpkhmgonkbpjjaa
open Go.RowKit

theorem cmpB_self : ∀ a : List UInt8, Lib.compareBytes a a = 0
  | [] => rfl
  | a :: l => by simp [Lib.compareBytes, cmpB_self l]
theorem u8_lt_irrefl (a : UInt8) : ¬ a < a := by simp
theorem cmpB_lt : ∀ a b : List UInt8, Op.bytesLess a b = decide (Lib.compareBytes a b < 0)
  | [], [] => by simp [Op.bytesLess, Lib.compareBytes]
  | [], _ :: _ => by simp [Op.bytesLess, Lib.compareBytes]
  | _ :: _, [] => by simp [Op.bytesLess, Lib.compareBytes]
  | a :: x, b :: y => by
    have ih := cmpB_lt x y
    simp only [Op.bytesLess, Lib.compareBytes]
    by_cases h : a < b
    · simp [h]
    · by_cases h' : b < a
      · have : ¬ a = b := by rintro rfl; exact u8_lt_irrefl _ h'
        simp [h, h', this]
      · have : a = b := UInt8.le_antisymm (UInt8.not_lt.1 h') (UInt8.not_lt.1 h)
        subst this
        simp [h, ih]
theorem cmpB_eq : ∀ a b : List UInt8, (a == b) = decide (Lib.compareBytes a b = 0)
  | [], [] => by simp [Lib.compareBytes]
  | [], _ :: _ => by simp [Lib.compareBytes]
  | _ :: _, [] => by simp [Lib.compareBytes]
  | a :: x, b :: y => by
    have ih := cmpB_eq x y
    simp only [Lib.compareBytes, List.cons_beq_cons]
    by_cases h : a < b
    · have : ¬ a = b := by rintro rfl; exact u8_lt_irrefl _ h
      simp [h, this]
    · by_cases h' : b < a
      · have : ¬ a = b := by rintro rfl; exact u8_lt_irrefl _ h'
        simp [h, h', this]
      · have : a = b := UInt8.le_antisymm (UInt8.not_lt.1 h') (UInt8.not_lt.1 h)
        subst this
        simp [h, ih]
theorem lessS (a b : ByteArray) : Op.bytesLess a.toList b.toList = decide (cmpS a b < 0) := by rw [ByteArray.toList_eq, ByteArray.toList_eq]; exact cmpB_lt _ _
theorem cmpS_zero {a b : ByteArray} : cmpS a b = 0 ↔ a = b := by
  have h := cmpB_eq a.data.toList b.data.toList
  constructor
  · intro hz
    unfold cmpS at hz
    rw [hz] at h
    have : a.data.toList = b.data.toList := by simpa using h
    cases a; cases b; simpa [Array.toList_inj] using this
  · rintro rfl; exact cmpB_self _
end Go.Proofs.Ytpkhmgonkbpjjaa

namespace Go.Proofs.Ytpkhmgonkbpjjaa
open Go.RowKit

theorem size_toList (s : ByteArray) : s.data.toList.length = s.size := Array.length_toList
theorem get_of_size {s : ByteArray} (h : 0 < s.size) : s.data.toList = s[0] :: s.data.toList.tail := by
  rcases s with ⟨⟨l⟩⟩
  cases l with
  | nil => simp [ByteArray.size] at h
  | cons a l => rfl
theorem wordB_of {s : ByteArray} (h : 0 < s.size) (h' : s.size ≤ 12) : wordB s.data.toList = (isLetterB (s[0].toNat : Int) && s.data.toList.all fun x => isInnerB x.toNat) := by
  have hl := size_toList s
  rw [get_of_size h] at hl ⊢
  simp only [List.length_cons] at hl
  simp only [wordB]
  rw [decide_eq_true (by omega), Bool.true_and]

set_option maxRecDepth 100000 in
set_option maxHeartbeats 400000 in
theorem isWord (s : ByteArray) (w : World) (hm : s.size ≤ 9223372036854775807) :
    Calls Try.prog 71 #[.string s] w fun e w' => e = .returned (.bool (wordB s.data.toList)) ∧ Ext w w' := by
  by_cases h0 : s.size = 0
  · have he : s.toList = [] := by rw [ByteArray.toList_eq]; exact List.eq_nil_of_length_eq_zero (by rw [size_toList]; exact h0)
    have H := hide (show wordB s.data.toList = false by rw [← ByteArray.toList_eq, he]; rfl)
    go_enter Try.func71, Try.ntmps71
    go_wp2
    go_ret
    exact ⟨retB (by rw [unhide H]), Ext.refl _⟩
  have h0 : 0 < s.size := by omega
  have he : ¬ s.toList = [] := by rw [ByteArray.toList_eq]; intro h; have := size_toList s; rw [h] at this; simp at this; omega
  have he' : s.toList.isEmpty = false := by simp [he]
  by_cases h12 : 12 < s.size
  · have H := hide (show wordB s.data.toList = false from wordB_long (by rw [size_toList]; exact h12))
    have h1 : (12:Int) < (s.size : Int) := by omega
    go_enter Try.func71, Try.ntmps71
    go_wp2
    go_ret
    exact ⟨retB (by rw [unhide H]), Ext.refl _⟩
  have h1 : decide ((12:Int) < (s.size : Int)) = false := by simp; omega
  have H := hide (wordB_of h0 (by omega))
  have hsz := size_toList s
  cases hl : isLetterB (s[0].toNat : Int)
  · go_enter Try.func71, Try.ntmps71
    go_wp2_with (go_at_call 84; refine (isLetter _ _).mono ?_; rintro e w' ⟨rfl, rfl⟩)
    go_ret
    exact ⟨retB (by rw [unhide H, hl]; rfl), Ext.refl _⟩
  · have hcv := fun (w : World) => Lib.run_convert_string_bytes (P := Try.prog) w 9 111 5 s Try.underlying9 Try.underlying111 Try.underlying5
    have Hz := hide hsz; clear hsz
    go_enter Try.func71, Try.ntmps71
    go_wp2_with (go_at_call 84; refine (isLetter _ _).mono ?_; rintro e w' ⟨rfl, rfl⟩)
    refine (everyWord _ 0 _ _ s.data.toList _ (unhide Hz) (by rw [unhide Hz]; omega) ?_).mono ?_
    · intro i hi
      rw [unhide Hz] at hi
      have := Lib.bytesWorld_cell w' 5 s i hi
      simpa using this
    rintro e w1 ⟨rfl, rfl⟩
    go_wp2
    go_ret
    exact ⟨retB (by rw [unhide H, hl]; simp), Ext.bytes _ _ _⟩

end Go.Proofs.Ytpkhmgonkbpjjaa

namespace Go.Proofs.Ytpkhmgonkbpjjaa
open Go.RowKit

theorem cmpB_trans : ∀ {a b c : List UInt8}, Lib.compareBytes a b < 0 → Lib.compareBytes b c < 0 → Lib.compareBytes a c < 0
  | [], [], _, _, h' => h'
  | [], _ :: _, [], _, h' => by simp [Lib.compareBytes] at h'
  | [], _ :: _, _ :: _, _, _ => by simp [Lib.compareBytes]
  | _ :: _, [], _, h, _ => by simp [Lib.compareBytes] at h
  | _ :: _, _ :: _, [], _, h' => by simp [Lib.compareBytes] at h'
  | a :: x, b :: y, c :: z, h, h' => by
    have ih := @cmpB_trans x y z
    simp only [Lib.compareBytes, UInt8.lt_iff_toNat_lt] at h h' ⊢
    by_cases h1 : a.toNat < b.toNat
    · have h2 : ¬ c.toNat < b.toNat := by
        intro hc
        rw [if_neg (by omega), if_pos hc] at h'
        omega
      rw [if_pos (by omega)]; decide
    · by_cases h2 : b.toNat < a.toNat
      · rw [if_neg h1, if_pos h2] at h
        omega
      · rw [if_neg h1, if_neg h2] at h
        by_cases h3 : b.toNat < c.toNat
        · rw [if_pos (by omega)]; decide
        · by_cases h4 : c.toNat < b.toNat
          · rw [if_neg h3, if_pos h4] at h'
            omega
          · rw [if_neg h3, if_neg h4] at h'
            rw [if_neg (by omega), if_neg (by omega)]
            exact ih h h'
theorem cmpB_flip : ∀ a b : List UInt8, Lib.compareBytes a b = - Lib.compareBytes b a
  | [], [] => rfl
  | [], _ :: _ => rfl
  | _ :: _, [] => rfl
  | a :: x, b :: y => by
    have ih := cmpB_flip x y
    simp only [Lib.compareBytes, UInt8.lt_iff_toNat_lt]
    by_cases h1 : a.toNat < b.toNat
    · rw [if_pos h1, if_neg (by omega), if_pos h1]
    · by_cases h2 : b.toNat < a.toNat
      · rw [if_neg h1, if_pos h2, if_pos h2]; rfl
      · rw [if_neg h1, if_neg h2, if_neg h2, if_neg h1]; exact ih
theorem cmpS_flip (a b : ByteArray) : cmpS a b = - cmpS b a := cmpB_flip _ _
theorem cmpS_trans {a b c : ByteArray} (h : cmpS a b < 0) (h' : cmpS b c < 0) : cmpS a c < 0 := cmpB_trans h h'
theorem cmpI_flip (a b : IDd) : cmpI a b = - cmpI b a := by
  unfold cmpI
  rw [cmpS_flip a.kind, cmpS_flip a.name]
  by_cases h : cmpS b.kind a.kind = 0 <;> simp [h]
theorem cmpI_zero {a b : IDd} : cmpI a b = 0 ↔ a = b := by
  unfold cmpI
  constructor
  · intro h
    by_cases e : cmpS a.kind b.kind = 0
    · rw [if_pos e] at h
      have e1 := cmpS_zero.1 e
      have e2 := cmpS_zero.1 h
      cases a; cases b; simp_all
    · rw [if_neg e] at h; exact absurd h e
  · rintro rfl
    rw [if_pos (cmpS_zero.2 rfl)]; exact cmpS_zero.2 rfl
theorem cmpI_trans {a b c : IDd} (h : cmpI a b < 0) (h' : cmpI b c < 0) : cmpI a c < 0 := by
  unfold cmpI at *
  by_cases e1 : cmpS a.kind b.kind = 0
  · rw [if_pos e1] at h
    by_cases e2 : cmpS b.kind c.kind = 0
    · rw [if_pos e2] at h'
      rw [if_pos (cmpS_zero.2 ((cmpS_zero.1 e1).trans (cmpS_zero.1 e2)))]
      exact cmpS_trans h h'
    · rw [if_neg e2] at h'
      rw [cmpS_zero.1 e1, if_neg e2]; exact h'
  · rw [if_neg e1] at h
    by_cases e2 : cmpS b.kind c.kind = 0
    · rw [← cmpS_zero.1 e2, if_neg e1]; exact h
    · rw [if_neg e2] at h'
      have := cmpS_trans h h'
      rw [if_neg (by omega)]; exact this

/-- Keys rise. -/
def Up (ks : List IDd) : Prop := ks.Pairwise fun a b => cmpI a b < 0
theorem Up.at {ks : List IDd} (h : Up ks) {i j : Nat} {x y : IDd} (hi : ks[i]? = some x) (hj : ks[j]? = some y) (hij : i < j) : cmpI x y < 0 := by
  obtain ⟨h1, rfl⟩ := List.getElem?_eq_some_iff.1 hi
  obtain ⟨h2, rfl⟩ := List.getElem?_eq_some_iff.1 hj
  exact List.pairwise_iff_getElem.1 h i j h1 h2 hij
/-- The place where a key stands, or would stand. -/
structure Stands (ks : List IDd) (a : IDd) (i : Nat) : Prop where
  le : i ≤ ks.length
  ahead : ∀ (k : Nat) x, k < i → ks[k]? = some x → cmpI x a < 0
  behind : ∀ (k : Nat) x, i ≤ k → ks[k]? = some x → ¬ cmpI x a < 0
theorem Stands.there {ks : List IDd} {a : IDd} {i : Nat} {x : IDd} (hx : ks[i]? = some x) (h0 : cmpI x a = 0) : a ∈ ks := by
  rw [← cmpI_zero.1 h0]; exact List.mem_of_getElem? hx
theorem Stands.gone {ks : List IDd} {a : IDd} {i : Nat} (h : Stands ks a i) (hu : Up ks) (hn : ∀ x, ks[i]? = some x → cmpI x a ≠ 0) : a ∉ ks := by
  intro hm
  obtain ⟨k, hk⟩ := List.mem_iff_getElem?.1 hm
  have h0 : cmpI a a = 0 := cmpI_zero.2 rfl
  by_cases hki : k < i
  · have := h.ahead k a hki hk; omega
  · by_cases e : k = i
    · subst e; exact hn a hk h0
    · have hlt : i < ks.length := by have := (List.getElem?_eq_some_iff.1 hk).1; omega
      have := hu.at (List.getElem?_eq_getElem hlt) hk (by omega)
      exact h.behind i _ (Nat.le_refl _) (List.getElem?_eq_getElem hlt) this
def insL (ks : List IDd) (i : Nat) (a : IDd) : List IDd := ks.take i ++ a :: ks.drop i
theorem ins_mem {ks : List IDd} {i : Nat} {a b : IDd} : b ∈ insL ks i a ↔ b = a ∨ b ∈ ks := by
  have : b ∈ ks ↔ b ∈ ks.take i ∨ b ∈ ks.drop i := by rw [← List.mem_append, List.take_append_drop]
  simp only [insL, List.mem_append, List.mem_cons, this]
  constructor
  · rintro (h | h | h)
    · exact .inr (.inl h)
    · exact .inl h
    · exact .inr (.inr h)
  · rintro (h | h | h)
    · exact .inr (.inl h)
    · exact .inl h
    · exact .inr (.inr h)
theorem Up.insert {ks : List IDd} {a : IDd} {i : Nat} (hu : Up ks) (h : Stands ks a i) (hn : a ∉ ks) : Up (insL ks i a) := by
  have hA : ∀ x ∈ ks.take i, cmpI x a < 0 := fun x hx => by
    obtain ⟨k, hk⟩ := List.mem_iff_getElem?.1 hx
    rw [List.getElem?_take] at hk
    split at hk
    · rename_i hki; exact h.ahead k x hki hk
    · cases hk
  have hB : ∀ x ∈ ks.drop i, cmpI a x < 0 := fun x hx => by
    obtain ⟨k, hk⟩ := List.mem_iff_getElem?.1 hx
    rw [List.getElem?_drop] at hk
    have h1 := h.behind (i + k) x (by omega) hk
    have h2 : cmpI x a ≠ 0 := fun e => hn (by rw [← cmpI_zero.1 e]; exact List.mem_of_getElem? hk)
    rw [cmpI_flip]; omega
  refine List.pairwise_append.2 ⟨List.Pairwise.sublist (List.take_sublist _ _) hu, List.pairwise_cons.2 ⟨hB, List.Pairwise.sublist (List.drop_sublist _ _) hu⟩, fun x hx y hy => ?_⟩
  rcases List.mem_cons.1 hy with rfl | hy
  · exact hA x hx
  · exact cmpI_trans (hA x hx) (hB y hy)
theorem len_le_of_sub : ∀ (ks U : List IDd), ks.Pairwise (fun a b => a ≠ b) → (∀ x ∈ ks, x ∈ U) → ks.length ≤ U.length
  | [], _, _, _ => Nat.zero_le _
  | x :: ks, U, hd, hs => by
    obtain ⟨s, t, rfl⟩ := List.append_of_mem (hs x (List.mem_cons_self ..))
    obtain ⟨h1, h2⟩ := List.pairwise_cons.1 hd
    have := len_le_of_sub ks (s ++ t) h2 fun y hy => by
      have := hs y (List.mem_cons_of_mem _ hy)
      rcases List.mem_append.1 this with h | h
      · exact List.mem_append.2 (.inl h)
      · rcases List.mem_cons.1 h with rfl | h
        · exact absurd rfl (h1 _ hy)
        · exact List.mem_append.2 (.inr h)
    simp only [List.length_append, List.length_cons] at *
    omega
theorem Up.few {ks U : List IDd} (hu : Up ks) (hs : ∀ x ∈ ks, x ∈ U) : ks.length ≤ U.length :=
  len_le_of_sub ks U (List.Pairwise.imp (fun {a b} h e => by subst e; rw [cmpI_zero.2 rfl] at h; omega) hu) hs

/-! What was met -/
/-- What the resource of an ID waits for. -/
def afterL (l : List Resd) (a : IDd) : List IDd := match placeL l a with
  | some k => (match l[k]? with
    | some y => y.after
    | none => [])
  | none => []
def allAfter (l : List Resd) : List IDd := l.flatMap (·.after)
theorem after_edge {l : List Resd} {a c : IDd} : c ∈ afterL l a ↔ IdEdge l a c := by
  unfold afterL IdEdge
  constructor
  · intro h
    split at h
    · rename_i k hk
      split at h
      · rename_i y hy; exact ⟨k, y, hk, hy, h⟩
      · simp at h
    · simp at h
  · rintro ⟨k, y, h1, h2, h3⟩
    rw [h1]; simp only [h2]; exact h3
theorem after_all {l : List Resd} {a c : IDd} (h : c ∈ afterL l a) : c ∈ allAfter l := by
  obtain ⟨k, y, _, h2, h3⟩ := after_edge.1 h
  exact List.mem_flatMap.2 ⟨y, List.mem_of_getElem? h2, h3⟩
/-- Between two that are looked at: keys met, and those still to be looked at. -/
structure Met (l : List Resd) (a : IDd) (ks td : List IDd) : Prop where
  up : Up ks
  sub : ∀ b ∈ ks, b ∈ allAfter l
  reach : ∀ b ∈ td, IdComes l a b
  done : ∀ b, b = a ∨ b ∈ ks → b ∈ td ∨ ∀ c ∈ afterL l b, c ∈ ks
  no : a ∉ ks
/-- While the first k of what x waits for were looked at. -/
structure MetI (l : List Resd) (a : IDd) (ks td : List IDd) (x : IDd) (k : Nat) : Prop where
  up : Up ks
  sub : ∀ b ∈ ks, b ∈ allAfter l
  reach : ∀ b ∈ td, IdComes l a b
  here : IdComes l a x
  done : ∀ b, b = a ∨ b ∈ ks → b ∈ td ∨ b = x ∨ ∀ c ∈ afterL l b, c ∈ ks
  got : ∀ (t : Nat) c, t < k → (afterL l x)[t]? = some c → c ∈ ks
  no : a ∉ ks
theorem Met.start (l : List Resd) (a : IDd) : Met l a [] [a] := by
  refine ⟨List.Pairwise.nil, fun b h => (by cases h), fun b h => ?_, fun b h => ?_, (by simp)⟩
  · rw [List.mem_singleton.1 h]; exact .here
  · rcases h with rfl | h
    · exact .inl (List.mem_singleton.2 rfl)
    · cases h
theorem MetI.old {l : List Resd} {a : IDd} {ks td : List IDd} {x c : IDd} {k : Nat} (h : MetI l a ks td x k) (hc : (afterL l x)[k]? = some c) (hm : c ∈ ks) : MetI l a ks td x (k + 1) := by
  refine ⟨h.up, h.sub, h.reach, h.here, h.done, fun t d ht hd => ?_, h.no⟩
  by_cases e : t = k
  · subst e
    obtain rfl : c = d := by simpa using hc.symm.trans hd
    exact hm
  · exact h.got t d (by omega) hd
theorem MetI.new {l : List Resd} {a : IDd} {ks td : List IDd} {x c : IDd} {k i : Nat} (h : MetI l a ks td x k) (hc : (afterL l x)[k]? = some c) (hs : Stands ks c i) (hm : c ∉ ks) (hne : c ≠ a) : MetI l a (insL ks i c) (td ++ [c]) x (k + 1) := by
  have hcm := List.mem_of_getElem? hc
  refine ⟨h.up.insert hs hm, fun b hb => ?_, fun b hb => ?_, h.here, fun b hb => ?_, fun t d ht hd => ?_, fun hb => ?_⟩
  · rcases ins_mem.1 hb with rfl | hb
    · exact after_all hcm
    · exact h.sub b hb
  · rcases List.mem_append.1 hb with hb | hb
    · exact h.reach b hb
    · rw [List.mem_singleton.1 hb]; exact h.here.step (after_edge.1 hcm)
  · have key : b = a ∨ b ∈ ks → b ∈ td ++ [c] ∨ b = x ∨ ∀ d ∈ afterL l b, d ∈ insL ks i c := fun hb => by
      rcases h.done b hb with h | h | h
      · exact .inl (List.mem_append.2 (.inl h))
      · exact .inr (.inl h)
      · exact .inr (.inr fun d hd => ins_mem.2 (.inr (h d hd)))
    rcases hb with hb | hb
    · exact key (.inl hb)
    · rcases ins_mem.1 hb with rfl | hb
      · exact .inl (List.mem_append.2 (.inr (List.mem_singleton.2 rfl)))
      · exact key (.inr hb)
  · by_cases e : t = k
    · subst e
      obtain rfl : c = d := by simpa using hc.symm.trans hd
      exact ins_mem.2 (.inl rfl)
    · exact ins_mem.2 (.inr (h.got t d (by omega) hd))
  · rcases ins_mem.1 hb with rfl | hb
    · exact hne rfl
    · exact h.no hb
end Go.Proofs.Ytpkhmgonkbpjjaa

namespace Go.Proofs.Ytpkhmgonkbpjjaa
open Go.RowKit

abbrev noName : ByteArray := ⟨#[]⟩
/-- A change as the reference keeps it. -/
def refC : ChgS → ByteArray × ByteArray × Nat
  | .wr n f => (noName, n, f)
  | .rn a b f => (a, b, f)
  | .rm a => (a, noName, 0)
def cRC (c : ChgS) : List Value := [.string (refC c).1, .string (refC c).2.1, .int .i64 ((refC c).2.2 : Int)]
theorem cRC_len (c : ChgS) : (cRC c).length = 3 := rfl
theorem cRC_one (c : ChgS) : ∀ u ∈ cRC c, u.oneCell' = true := by
  intro u hu
  simp [cRC] at hu
  rcases hu with rfl | rfl | rfl <;> rfl
def cNm (x : NmS) : List Value := [.string x.1, .int .i64 (x.2 : Int)]
theorem cNm_len (x : NmS) : (cNm x).length = 2 := rfl
theorem cNm_one (x : NmS) : ∀ u ∈ cNm x, u.oneCell' = true := by
  intro u hu
  simp [cNm] at hu
  rcases hu with rfl | rfl <;> rfl
def cFl (f : FileS) : List Value := [.string ⟨f.1.toArray⟩, .int .i64 (f.2 : Int)]
theorem cFl_len (f : FileS) : (cFl f).length = 2 := rfl
theorem cFl_one (f : FileS) : ∀ u ∈ cFl f, u.oneCell' = true := by
  intro u hu
  simp [cFl] at hu
  rcases hu with rfl | rfl <;> rfl
/-- A step as the reference does it. -/
noncomputable def refStep (l : List NmS) (c : ChgS) : List NmS :=
  if (refC c).2.1 = noName then dropN (refC c).2.1 (dropN (refC c).1 l) else dropN (refC c).2.1 (dropN (refC c).1 l) ++ [((refC c).2.1, (refC c).2.2)]
theorem word_some {a : ByteArray} (h : wordB a.data.toList = true) : a ≠ noName := by
  rintro rfl
  exact absurd h (by decide)
theorem drop_none {l : List NmS} (h : ∀ x ∈ l, x.1 ≠ noName) : dropN noName l = l := dropK_self (by rintro ⟨x, hx, e⟩; exact h x hx e)
theorem refStep_is {n : Nat} {l : List NmS} (h : ∀ x ∈ l, NmOk n x) {c : ChgS} (hc : c.okC n) : refStep l c = stepN l c := by
  have h0 : ∀ x ∈ l, x.1 ≠ noName := fun x hx => word_some (h x hx).1
  cases c with
  | wr a f =>
    have ha := word_some hc.1
    show (if a = noName then dropN a (dropN noName l) else dropN a (dropN noName l) ++ [(a, f)]) = _
    rw [if_neg ha, drop_none h0]; rfl
  | rn a b f =>
    have hb := word_some hc.2.1
    show (if b = noName then dropN b (dropN a l) else dropN b (dropN a l) ++ [(b, f)]) = _
    rw [if_neg hb]; rfl
  | rm a =>
    show (if noName = noName then dropN noName (dropN a l) else dropN noName (dropN a l) ++ [(noName, 0)]) = _
    rw [if_pos rfl]
    exact drop_none fun x hx => h0 x (dropK_mem.1 hx).1
/-- Two looks of a name at once, as the reference asks. -/
theorem drop_two (a b : ByteArray) (l : List NmS) (x : NmS) : dropN b (dropN a (l ++ [x])) = dropN b (dropN a l) ++ dropN b (dropN a [x]) := by
  unfold dropN
  rw [dropK_app, dropK_app]
end Go.Proofs.Ytpkhmgonkbpjjaa
