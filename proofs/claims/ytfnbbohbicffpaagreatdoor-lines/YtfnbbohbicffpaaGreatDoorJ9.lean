/-
  The text of resources, as a function of them.
-/
/-
  What a printed text is cut into.
-/
import Derived.Test.YtfnbbohbicffpaaGreatDoorJ1
import Derived.Lib.ItoaNum
import Derived.Lib.Join
import Derived.Test.YtfnbbohbicffpaaGreatDoorJ8
namespace Go.Proofs.YtfnbbohbicffpaaGreatDoor
open Go.RowKit

/-- A byte within quotes. -/
def escL (c : UInt8) : List UInt8 := if c = 92 ∨ c = 34 then [92, c] else if c = 10 then [92, 110] else [c]
def quoteL (l : List UInt8) : List UInt8 := 34 :: (l.flatMap escL ++ [34])
/-- A value as text. -/
def valueL (x : Attrd) : List UInt8 := if x.isText then quoteL x.text.data.toList else Lib.itoa x.number
/-- Refs, as they stand in brackets. -/
def refL (x : IDd) : ByteArray := ⟨(x.kind.data.toList ++ 46 :: x.name.data.toList).toArray⟩
def refsL (l : List IDd) : List UInt8 := Lib.join (l.map fun x => (refL x).data.toList) [44, 32]
def resW : List UInt8 := [114, 101, 115, 111, 117, 114, 99, 101, 32]
def attrP (a : Attrd) : List UInt8 := [32, 32] ++ a.name.data.toList ++ [32, 61, 32] ++ valueL a ++ [10]
def afterP (l : List IDd) : List UInt8 := if l.isEmpty then [] else [32, 32, 97, 102, 116, 101, 114, 32, 61, 32, 91] ++ refsL l ++ [93, 10]
def headL (x : IDd) : List UInt8 := resW ++ x.kind.data.toList ++ [32] ++ x.name.data.toList ++ [32, 123, 10]
def resL (x : Resd) : List UInt8 := headL x.id ++ x.attrs.flatMap attrP ++ afterP x.after ++ [125, 10]
def printL (l : List Resd) : List UInt8 := l.flatMap resL
end Go.Proofs.YtfnbbohbicffpaaGreatDoor

namespace Go.Proofs.YtfnbbohbicffpaaGreatDoor
open Go.RowKit

/-- A token without its place. -/
abbrev Bare := Nat × ByteArray × Int
def strip (t : Tok) : Bare := (t.kind, t.text, t.value)
/-- From a place on a text is cut into these. -/
def Lexes (l : List UInt8) (a : Nat) (ss : List Bare) : Prop := ∀ f, l.length + 1 ≤ f + a → (cutF l f a).2.1 = 0 ∧ (cutF l f a).1.map strip = ss
/-- What follows is cut into these. -/
def LexS (d : List UInt8) (ss : List Bare) : Prop := ∀ l a, l.drop a = d → a ≤ l.length → Lexes l a ss
theorem drop_at {l : List UInt8} {a : Nat} {c : UInt8} {r : List UInt8} (h : l.drop a = c :: r) : l[a]? = some c ∧ l.drop (a + 1) = r ∧ a < l.length := by
  have h1 : l[a]? = some c := by have := List.getElem?_drop (xs := l) (i := a) (j := 0); rw [h] at this; simpa using this.symm
  refine ⟨h1, ?_, (List.getElem?_eq_some_iff.1 h1).1⟩
  rw [← List.drop_drop, h]; rfl
theorem drop_past {l : List UInt8} {a : Nat} {w r : List UInt8} (h : l.drop a = w ++ r) (ha : a ≤ l.length) : l.drop (a + w.length) = r ∧ a + w.length ≤ l.length := by
  refine ⟨by rw [← List.drop_drop, h, List.drop_left], ?_⟩
  have := congrArg List.length h
  rw [List.length_drop, List.length_append] at this
  omega
theorem lexS_nil : LexS [] [(11, ⟨#[]⟩, 0)] := by
  intro l a h ha f hf
  have hal : l.length ≤ a := List.drop_eq_nil_iff.1 h
  obtain ⟨g, rfl⟩ : ∃ g, f = g + 1 := ⟨f - 1, by omega⟩
  simp only [cutF]
  rw [skip_end hal, List.getElem?_eq_none hal]
  exact ⟨rfl, rfl⟩
theorem cut_skip {l : List UInt8} {a b : Nat} (h : skipL l a = skipL l b) (f : Nat) : cutF l f a = cutF l f b := by
  cases f with
  | zero => rfl
  | succ f => simp only [cutF, h]
theorem lexS_blank {c : UInt8} {r : List UInt8} {ss : List Bare} (hc : isBlank c = true) (h : LexS r ss) : LexS (c :: r) ss := by
  intro l a hd ha f hf
  obtain ⟨h1, h2, h3⟩ := drop_at hd
  have hs : skipL l a = skipL l (a + 1) := by rw [skip_step h1, if_pos hc]
  rw [cut_skip hs]
  exact h l (a + 1) h2 h3 f (by omega)
theorem lex_tok {l : List UInt8} {a b : Nat} {c : UInt8} {t : Tok} {ss : List Bare} (hc : l[a]? = some c) (hb : isBlank c = false) (h35 : c ≠ 35) (ht : tokL l a c = .inl (t, b)) (h : Lexes l b ss) : Lexes l a (strip t :: ss) := by
  intro f hf
  have hlt := (List.getElem?_eq_some_iff.1 hc).1
  have hs : skipL l a = a := by rw [skip_step hc, if_neg (by rw [hb]; decide), if_neg h35]
  obtain ⟨g, rfl⟩ : ∃ g, f = g + 1 := ⟨f - 1, by omega⟩
  obtain ⟨_, g1, g2, _, _⟩ := tok_at hc ht
  obtain ⟨i1, i2⟩ := h g (by omega)
  simp only [cutF]
  rw [hs, hc]
  dsimp only
  rw [ht]
  dsimp only
  rw [if_pos i1]
  exact ⟨rfl, by rw [List.map_cons, i2]⟩
theorem tw_piece {p : UInt8 → Bool} {w r : List UInt8} (hw : ∀ c ∈ w, p c = true) (hr : ∀ c, r.head? = some c → p c = false) : (w ++ r).takeWhile p = w := by
  induction w with
  | nil =>
    cases r with
    | nil => rfl
    | cons c r => simp [hr c rfl]
  | cons x w ih =>
    have hx := hw x List.mem_cons_self
    simp only [List.cons_append, List.takeWhile, hx]
    rw [ih fun c hc => hw c (List.mem_cons_of_mem _ hc)]
theorem baOf_list (s : ByteArray) : baOf s.data.toList = s := by
  cases s with | mk x => simp [baOf]
theorem lexS_word {w : ByteArray} {r : List UInt8} {ss : List Bare} (hw : wordB w.data.toList = true) (hr : ∀ c, r.head? = some c → isInnerB c.toNat = false) (h : LexS r ss) : LexS (w.data.toList ++ r) ((1, w, 0) :: ss) := by
  intro l a hd ha
  have hwl : baOf w.data.toList = w := baOf_list w
  generalize w.data.toList = wl at *
  cases wl with
  | nil => simp [wordB] at hw
  | cons c t =>
    simp only [wordB, Bool.and_eq_true, decide_eq_true_eq] at hw
    obtain ⟨hn, hl, hall⟩ := hw
    have hd' : l.drop a = c :: (t ++ r) := hd
    obtain ⟨h1, h2, h3⟩ := drop_at hd'
    obtain ⟨p1, p2⟩ := drop_past hd ha
    have hbe : behindL (fun b => isInnerB b.toNat) l a = a + (c :: t).length := by
      unfold behindL
      rw [hd, tw_piece (fun x hx => List.all_eq_true.1 hall x hx) hr]
    have ht : tokL l a c = .inl (⟨1, a, w, 0⟩, a + (c :: t).length) := by
      unfold tokL
      rw [if_pos hl, hbe, if_pos (by simp; omega)]
      rw [show a + (c :: t).length - a = (c :: t).length by omega, hd, List.take_left, hwl]
    have hnb : isBlank c = false ∧ c ≠ 35 := by
      refine ⟨?_, fun h35 => by rw [h35] at hl; revert hl; decide⟩
      cases hb : isBlank c with
      | false => rfl
      | true =>
        exfalso
        simp only [isBlank, Bool.or_eq_true, beq_iff_eq] at hb
        rcases hb with (rfl | rfl) | rfl <;> (revert hl; decide)
    exact lex_tok h1 hnb.1 hnb.2 ht (h l _ p1 p2)
theorem lexS_sign {c : UInt8} {k : Nat} {r : List UInt8} {ss : List Bare} (hk : signKind c = k) (h0 : k ≠ 0) (h : LexS r ss) : LexS (c :: r) ((k, ⟨#[]⟩, 0) :: ss) := by
  intro l a hd ha
  obtain ⟨h1, h2, h3⟩ := drop_at hd
  have hcs : c = 123 ∨ c = 125 ∨ c = 91 ∨ c = 93 ∨ c = 61 ∨ c = 44 ∨ c = 46 := by
    unfold signKind at hk
    split at hk
    · exact .inl ‹_›
    · split at hk
      · exact .inr (.inl ‹_›)
      · split at hk
        · exact .inr (.inr (.inl ‹_›))
        · split at hk
          · exact .inr (.inr (.inr (.inl ‹_›)))
          · split at hk
            · exact .inr (.inr (.inr (.inr (.inl ‹_›))))
            · split at hk
              · exact .inr (.inr (.inr (.inr (.inr (.inl ‹_›)))))
              · split at hk
                · exact .inr (.inr (.inr (.inr (.inr (.inr ‹_›)))))
                · omega
  have hno : isLetterB c.toNat = false ∧ (isDigitB c.toNat || c == 45) = false ∧ c ≠ 34 ∧ isBlank c = false ∧ c ≠ 35 := by
    rcases hcs with rfl | rfl | rfl | rfl | rfl | rfl | rfl <;> decide
  have ht : tokL l a c = .inl (⟨k, a, ⟨#[]⟩, 0⟩, a + 1) := by
    unfold tokL
    rw [if_neg (by rw [hno.1]; decide), if_neg (by rw [hno.2.1]; decide), if_neg hno.2.2.1, if_neg (by rw [hk]; exact h0), hk]
  exact lex_tok h1 hno.2.2.2.1 hno.2.2.2.2 ht (h l _ h2 h3)
theorem dec_digits : ∀ (n : Nat), (∀ c ∈ Lib.decDigits n, isDigitB c.toNat = true) ∧ Lib.decDigits n ≠ [] ∧ valN (Lib.decDigits n) = n := by
  intro n
  induction n using Nat.strongRecOn with
  | ind n ih =>
    rw [Lib.decDigits]
    by_cases h : n < 10
    · rw [dif_pos h]
      have hd : ∀ m : Fin 10, isDigitB ((UInt8.ofNat (48 + m.val)).toNat : Int) = true ∧ (UInt8.ofNat (48 + m.val)).toNat - 48 = m.val := by decide
      obtain ⟨d1, d2⟩ := hd ⟨n, h⟩
      refine ⟨fun c hc => ?_, by simp, ?_⟩
      · obtain rfl := List.mem_singleton.1 hc; exact d1
      · simp only [valN, List.foldl_cons, List.foldl_nil]
        dsimp only at d2
        omega
    · rw [dif_neg h]
      obtain ⟨i1, i2, i3⟩ := ih (n / 10) (by omega)
      have hd : ∀ m : Fin 10, isDigitB ((UInt8.ofNat (48 + m.val)).toNat : Int) = true ∧ (UInt8.ofNat (48 + m.val)).toNat - 48 = m.val := by decide
      obtain ⟨d1, d2⟩ := hd ⟨n % 10, by omega⟩
      refine ⟨fun c hc => ?_, by simp, ?_⟩
      · rcases List.mem_append.1 hc with hc | hc
        · exact i1 c hc
        · obtain rfl := List.mem_singleton.1 hc; exact d1
      · have : valN (Lib.decDigits (n / 10) ++ [UInt8.ofNat (48 + n % 10)]) = valN (Lib.decDigits (n / 10)) * 10 + ((UInt8.ofNat (48 + n % 10)).toNat - 48) := by
          simp only [valN, List.foldl_append, List.foldl_cons, List.foldl_nil]
        rw [this, i3]
        dsimp only at d2
        omega
theorem digit_no {c : UInt8} (h : isDigitB c.toNat = true) : isLetterB c.toNat = false ∧ isBlank c = false ∧ c ≠ 35 ∧ c ≠ 45 := by
  simp only [isDigitB, decide_eq_true_eq] at h
  have hn : (48 : Int) ≤ (c.toNat : Int) ∧ (c.toNat : Int) ≤ 57 := h
  refine ⟨?_, ?_, ?_, ?_⟩
  · simp [isLetterB]; omega
  · cases hb : isBlank c with
    | false => rfl
    | true =>
      exfalso
      simp only [isBlank, Bool.or_eq_true, beq_iff_eq] at hb
      rcases hb with (rfl | rfl) | rfl <;> (revert hn; decide)
  · rintro rfl; revert hn; decide
  · rintro rfl; revert hn; decide
theorem lexS_num {n : Int} {r : List UInt8} {ss : List Bare} (h1 : -1000000000 ≤ n) (h2 : n ≤ 1000000000) (hr : ∀ c, r.head? = some c → isDigitB c.toNat = false) (h : LexS r ss) : LexS (Lib.itoa n ++ r) ((2, ⟨#[]⟩, n) :: ss) := by
  intro l a hd ha
  obtain ⟨p1, p2⟩ := drop_past hd ha
  unfold Lib.itoa at hd p1 p2
  by_cases hn : n < 0
  · rw [if_pos hn] at hd p1 p2
    obtain ⟨d1, d2, d3⟩ := dec_digits n.natAbs
    generalize Lib.decDigits n.natAbs = ds at *
    have hd' : l.drop a = 45 :: (ds ++ r) := hd
    obtain ⟨c1, c2, c3⟩ := drop_at hd'
    have htw : (l.drop (a + 1)).takeWhile (fun b => isDigitB b.toNat) = ds := by rw [c2]; exact tw_piece d1 hr
    have ht : tokL l a 45 = .inl (⟨2, a, ⟨#[]⟩, n⟩, a + (45 :: ds).length) := by
      unfold tokL
      rw [if_neg (by decide), if_pos (by decide)]
      rw [if_pos rfl, htw, if_pos (by
        simp only [digitsOk, Bool.and_eq_true, decide_eq_true_eq]
        refine ⟨by cases ds with | nil => exact absurd rfl d2 | cons _ _ => rfl, by rw [d3]; omega⟩)]
      have hb : behindL (fun b => isDigitB b.toNat) l (a + 1) = a + (45 :: ds).length := by
        unfold behindL; rw [htw]; simp; omega
      rw [hb, d3, if_pos rfl, show (-1 : Int) * (n.natAbs : Int) = n by omega]
    exact lex_tok c1 (by decide) (by decide) ht (h l _ p1 p2)
  · rw [if_neg hn] at hd p1 p2
    obtain ⟨d1, d2, d3⟩ := dec_digits n.toNat
    generalize Lib.decDigits n.toNat = ds at *
    cases ds with
    | nil => exact absurd rfl d2
    | cons c ds =>
      have hd' : l.drop a = c :: (ds ++ r) := hd
      obtain ⟨c1, c2, c3⟩ := drop_at hd'
      have hdg := d1 c List.mem_cons_self
      obtain ⟨n1, n2, n3, n4⟩ := digit_no hdg
      have htw : (l.drop a).takeWhile (fun b => isDigitB b.toNat) = c :: ds := by rw [hd]; exact tw_piece d1 hr
      have ht : tokL l a c = .inl (⟨2, a, ⟨#[]⟩, n⟩, a + (c :: ds).length) := by
        unfold tokL
        rw [if_neg (by rw [n1]; decide), if_pos (by rw [hdg]; rfl)]
        rw [if_neg n4, htw, if_pos (by
          simp only [digitsOk, Bool.and_eq_true, decide_eq_true_eq]
          exact ⟨rfl, by rw [d3]; omega⟩)]
        have hb : behindL (fun b => isDigitB b.toNat) l a = a + (c :: ds).length := by
          unfold behindL; rw [htw]
        rw [hb, d3, if_neg n4, show (1 : Int) * (n.toNat : Int) = n by omega]
      exact lex_tok c1 n2 n3 ht (h l _ p1 p2)
theorem str_piece {l : List UInt8} : ∀ (m : List UInt8) {a : Nat} {r : List UInt8}, (∀ x ∈ m, isTextB x.toNat = true) → l.drop a = m.flatMap escL ++ 34 :: r → strL l a = some (m, a + (m.flatMap escL).length)
  | [], a, r, _, hd => by
    obtain ⟨h1, _, _⟩ := drop_at (show l.drop a = 34 :: r from hd)
    rw [str_step h1, if_pos rfl]; rfl
  | x :: m, a, r, hm, hd => by
    have hx := hm x List.mem_cons_self
    have hm' : ∀ y ∈ m, isTextB y.toNat = true := fun y hy => hm y (List.mem_cons_of_mem _ hy)
    simp only [List.flatMap_cons, List.append_assoc] at hd
    unfold escL at hd
    by_cases h1 : x = 92 ∨ x = 34
    · rw [if_pos h1] at hd
      have hd' : l.drop a = 92 :: x :: (m.flatMap escL ++ 34 :: r) := hd
      obtain ⟨c1, c2, _⟩ := drop_at hd'
      obtain ⟨e1, e2, _⟩ := drop_at c2
      have hs : signL (l.drop a) = (x, 2) := by
        rw [hd']
        simp only [signL]
        rw [if_pos trivial, if_pos h1]
      rw [str_step c1, if_neg (by decide), hs]
      dsimp only
      rw [if_neg (by decide), str_piece m (a := a + 2) hm' e2]
      dsimp only
      have : (escL x).length = 2 := by unfold escL; rw [if_pos h1]; rfl
      rw [List.flatMap_cons, List.length_append, this]
      congr 2; omega
    · rw [if_neg h1] at hd
      by_cases h2 : x = 10
      · rw [if_pos h2] at hd
        have hd' : l.drop a = 92 :: 110 :: (m.flatMap escL ++ 34 :: r) := hd
        obtain ⟨c1, c2, _⟩ := drop_at hd'
        obtain ⟨e1, e2, _⟩ := drop_at c2
        have hs : signL (l.drop a) = (10, 2) := by
          rw [hd']
          simp only [signL]
          rw [if_pos trivial, if_neg (by decide), if_pos trivial]
        rw [str_step c1, if_neg (by decide), hs]
        dsimp only
        rw [if_neg (by decide), str_piece m (a := a + 2) hm' e2]
        dsimp only
        have : (escL x).length = 2 := by unfold escL; rw [if_neg h1, if_pos h2]; rfl
        rw [List.flatMap_cons, List.length_append, this, h2]
        congr 2; omega
      · rw [if_neg h2] at hd
        have hd' : l.drop a = x :: (m.flatMap escL ++ 34 :: r) := hd
        obtain ⟨c1, c2, _⟩ := drop_at hd'
        have hpl : isPlainB x.toNat = true := by
          unfold isTextB at hx
          rcases Bool.or_eq_true_iff.1 hx with hx | hx
          · exact hx
          · exfalso
            have h10 : (x.toNat : Int) = 10 := by simpa using hx
            exact h2 (UInt8.toNat_inj.1 (by show x.toNat = 10; omega))
        have hs : signL (l.drop a) = (x, 1) := by
          rw [hd']
          simp only [signL]
          rw [if_neg (fun h => h1 (.inl h)), if_pos hpl]
        rw [str_step c1, if_neg (fun h => h1 (.inr h)), hs]
        dsimp only
        rw [if_neg (by decide), str_piece m (a := a + 1) hm' c2]
        dsimp only
        have : (escL x).length = 1 := by unfold escL; rw [if_neg h1, if_neg h2]; rfl
        rw [List.flatMap_cons, List.length_append, this]
        congr 2; omega
theorem lexS_str {m : ByteArray} {r : List UInt8} {ss : List Bare} (hm : stringB m.data.toList = true) (h : LexS r ss) : LexS (quoteL m.data.toList ++ r) ((3, m, 0) :: ss) := by
  intro l a hd ha
  obtain ⟨p1, p2⟩ := drop_past hd ha
  have hwl : baOf m.data.toList = m := baOf_list m
  generalize m.data.toList = ml at *
  simp only [stringB, Bool.and_eq_true, decide_eq_true_eq] at hm
  have hd' : l.drop a = 34 :: (ml.flatMap escL ++ 34 :: r) := by rw [hd]; simp [quoteL]
  obtain ⟨c1, c2, c3⟩ := drop_at hd'
  have hs := str_piece ml (fun x hx => List.all_eq_true.1 hm.2 x hx) c2
  have hlen : (quoteL ml).length = 1 + (ml.flatMap escL).length + 1 := by simp [quoteL]; omega
  have ht : tokL l a 34 = .inl (⟨3, a, m, 0⟩, a + (quoteL ml).length) := by
    unfold tokL
    rw [if_neg (by decide), if_neg (by decide), if_pos rfl, hs]
    dsimp only
    rw [if_pos hm.1, hwl, hlen, show a + 1 + (ml.flatMap escL).length + 1 = a + (1 + (ml.flatMap escL).length + 1) by omega]
  exact lex_tok c1 (by decide) (by decide) ht (h l _ p1 p2)
end Go.Proofs.YtfnbbohbicffpaaGreatDoor
