/-
  The reference's reader on plain lists: what it takes, the error that sticks.
-/
/-
  The reference's reading on plain lists: lists of refs, lines, resources, a text.
-/
/-
  The reference's reading and the program's, on plain lists: refs, and lists of them, are the same.
-/
import Derived.Test.YtejhegnlmldomaaGreatJ23
import Derived.Test.YtejhegnlmldomaaGreatRfAtt
import Derived.Test.YtejhegnlmldomaaGreatJ24
namespace Go.Proofs.YtejhegnlmldomaaGreat
open Go.RowKit

/-- Where the reader is, an error, its place. -/
structure RSt where
  i : Nat
  en : Int
  pl : Nat
def wrongM (s : RSt) (e : Int) (p : Nat) : RSt := ⟨s.i, (stick s.en s.pl (e, p)).1, (stick s.en s.pl (e, p)).2⟩
def zTok : Tok := ⟨0, 0, ⟨#[]⟩, 0⟩
def noS : ByteArray := ⟨#[]⟩
open Classical in
noncomputable def nextM (ts : List Tok) (s : RSt) (k : Nat) (sg : ByteArray) : Tok × RSt :=
  match ts[s.i]? with
  | none => (zTok, s)
  | some t => if s.en = 0 ∧ fitsR t k sg then (rTok t, ⟨s.i + 1, 0, s.pl⟩) else (zTok, wrongM s 6 t.place)
open Classical in
noncomputable def seesM (ts : List Tok) (s : RSt) (sg : ByteArray) : Bool :=
  match ts[s.i]? with
  | none => false
  | some t => decide (s.en = 0 ∧ (rTok t).kind = 4 ∧ (rTok t).text = sg)
theorem wrongM_at (s : RSt) (e : Int) (p : Nat) : (wrongM s e p).i = s.i := rfl
theorem wrongM_bad {s : RSt} (h : s.en ≠ 0) (e : Int) (p : Nat) : wrongM s e p = s := by
  unfold wrongM stick; rw [if_neg h]
theorem wrongM_good {s : RSt} (h : s.en = 0) (e : Int) (p : Nat) : wrongM s e p = ⟨s.i, e, p⟩ := by
  unfold wrongM stick; rw [if_pos h]
theorem nextM_bad {ts : List Tok} {s : RSt} (h : s.en ≠ 0) (k : Nat) (sg : ByteArray) : nextM ts s k sg = (zTok, s) := by
  unfold nextM
  split
  · rfl
  · rw [if_neg (fun hh => h hh.1), wrongM_bad h]
theorem nextM_yes {ts : List Tok} {s : RSt} {t : Tok} (ht : ts[s.i]? = some t) (h : s.en = 0) {k : Nat} {sg : ByteArray} (hf : fitsR t k sg) : nextM ts s k sg = (rTok t, ⟨s.i + 1, 0, s.pl⟩) := by
  unfold nextM; rw [ht]; dsimp only; rw [if_pos ⟨h, hf⟩]
theorem nextM_no {ts : List Tok} {s : RSt} {t : Tok} (ht : ts[s.i]? = some t) (h : s.en = 0) {k : Nat} {sg : ByteArray} (hf : ¬ fitsR t k sg) : nextM ts s k sg = (zTok, ⟨s.i, 6, t.place⟩) := by
  unfold nextM; rw [ht]; dsimp only; rw [if_neg (fun hh => hf hh.2), wrongM_good h]
theorem seesM_bad {ts : List Tok} {s : RSt} (h : s.en ≠ 0) (sg : ByteArray) : seesM ts s sg = false := by
  unfold seesM
  split
  · rfl
  · simp [h]
theorem rTok_end {t : Tok} (h : t.kind = 11) : (rTok t).kind = 5 := by unfold rTok; rw [if_neg (by omega), if_pos h]
theorem nextM_in {ts : List Tok} (he : TsEnd ts) {s : RSt} (hi : s.i < ts.length) {k : Nat} (hk : k ≠ 5) (sg : ByteArray) {tk : Tok} {s' : RSt} (h : nextM ts s k sg = (tk, s')) : s'.i < ts.length ∧ s.i ≤ s'.i ∧ (s'.en = 0 → s.en = 0 ∧ s'.i = s.i + 1) := by
  obtain ⟨t, ht⟩ := TsEnd.there hi
  by_cases hz : s.en = 0
  · by_cases hf : fitsR t k sg
    · rw [nextM_yes ht hz hf] at h
      cases h
      have : t.kind ≠ 11 := fun h11 => hk (by rw [← hf.1, rTok_end h11])
      exact ⟨he.next ht this, Nat.le_succ _, fun _ => ⟨hz, rfl⟩⟩
    · rw [nextM_no ht hz hf] at h
      cases h
      exact ⟨hi, Nat.le_refl _, fun h6 => absurd h6 (by simp)⟩
  · rw [nextM_bad hz] at h
    cases h
    exact ⟨hi, Nat.le_refl _, fun h0 => absurd h0 hz⟩
theorem seesM_in {ts : List Tok} (he : TsEnd ts) {s : RSt} (hi : s.i < ts.length) {sg : ByteArray} (h : seesM ts s sg = true) : s.i + 1 < ts.length ∧ s.en = 0 := by
  obtain ⟨t, ht⟩ := TsEnd.there hi
  unfold seesM at h
  rw [ht] at h
  simp only [decide_eq_true_eq] at h
  exact ⟨he.next ht fun h11 => by have := rTok_end h11; omega, h.1⟩
def TokV (t : Tok) : Value := .agg #[.int .i64 t.kind, .int .i64 t.place, .string t.text, .int .i64 t.value]
/-- What the taking of a token answers, on plain lists. -/
def NextC (w : World) (R : Nat) (vL vO vA vF : Value) (ts : List Tok) (s : RSt) (k : Nat) (sg : ByteArray) (e : Ending) (w' : World) : Prop :=
  ∃ (tk : Tok) (s' : RSt), e = .returned (.agg #[.int .i64 tk.kind, .int .i64 tk.place, .string tk.text, .int .i64 tk.value]) ∧ Hid (nextM ts s k sg = (tk, s')) ∧ Hid (RdrIn w' R vL vO vA vF ts s'.i s'.en s'.pl) ∧ Hid (Wr (OnR R) w w')
theorem refNext {w : World} {R : Nat} {vL vO vA vF : Value} {ts : List Tok} {s : RSt} (h : RdrIn w R vL vO vA vF ts s.i s.en s.pl) (hi : s.i < ts.length) (hn : ts.length ≤ 1000000) (k : Nat) (sg : ByteArray) :
    Calls Tryz.prog 32 #[.pointer (some ⟨R, 0, none⟩), .int .i64 k, .string sg] w (NextC w R vL vO vA vF ts s k sg) := by
  obtain ⟨t, ht⟩ := TsEnd.there hi
  by_cases hz : s.en = 0
  · by_cases hf : fitsR t k sg
    · obtain ⟨i, en, pl⟩ := s
      dsimp only at hz h hi ht
      subst hz
      refine (refNextYes h ht hn k sg hf).mono ?_
      rintro e w1 ⟨hW, ⟨_, _, rfl, hR⟩ | ⟨hno, _⟩⟩
      · exact ⟨rTok t, ⟨i + 1, 0, pl⟩, rfl, nextM_yes (s := ⟨i, 0, pl⟩) ht rfl hf, hR, hW⟩
      · exact absurd ⟨rfl, hf⟩ hno
    · refine (refNextNo h ht k sg (fun hh => hf hh.2)).mono ?_
      rintro e w1 ⟨hW, ⟨_, hf', _⟩ | ⟨_, rfl, hR⟩⟩
      · exact absurd hf' hf
      · refine ⟨zTok, ⟨s.i, 6, t.place⟩, rfl, nextM_no ht hz hf, ?_, hW⟩
        have := hR.out
        unfold stick at this
        rw [if_pos hz] at this
        exact this
  · refine (refNextNo h ht k sg (fun hh => hz hh.1)).mono ?_
    rintro e w1 ⟨hW, ⟨hz', _⟩ | ⟨_, rfl, hR⟩⟩
    · exact absurd hz' hz
    · refine ⟨zTok, s, rfl, nextM_bad hz k sg, ?_, hW⟩
      have := hR.out
      unfold stick at this
      rw [if_neg hz] at this
      exact this
theorem refWrongM {w : World} {R : Nat} {vL vO vA vF : Value} {ts : List Tok} {s : RSt} (h : RdrIn w R vL vO vA vF ts s.i s.en s.pl) (e2 : Int) (p2 : Nat) :
    Calls Tryz.prog 12 #[.pointer (some ⟨R, 0, none⟩), .int .i64 e2, .int .i64 p2] w fun e w' => e = .returned (.tuple #[]) ∧ Hid (RdrIn w' R vL vO vA vF ts (wrongM s e2 p2).i (wrongM s e2 p2).en (wrongM s e2 p2).pl) ∧ Hid (Wr (OnR R) w w') := refWrong h e2 p2
theorem refSeesM {w : World} {R : Nat} {vL vO vA vF : Value} {ts : List Tok} {s : RSt} (h : RdrIn w R vL vO vA vF ts s.i s.en s.pl) (hi : s.i < ts.length) (sg : ByteArray) :
    Calls Tryz.prog 76 #[.pointer (some ⟨R, 0, none⟩), .string sg] w fun e w' => ∃ b : Bool, e = .returned (.bool b) ∧ Hid (seesM ts s sg = b) ∧ Hid (Ext w w') := by
  obtain ⟨t, ht⟩ := TsEnd.there hi
  refine (refSees h ht sg).mono ?_
  rintro e w1 ⟨b, rfl, hb, hE⟩
  refine ⟨b, rfl, ?_, hE⟩
  show seesM ts s sg = b
  unfold seesM; rw [ht]
  dsimp only
  have := hb.out
  cases b with
  | true => simpa using this.1 rfl
  | false => simpa using fun a1 a2 a3 => by have := this.2 ⟨a1, a2, a3⟩; cases this
/-- What is left to read while there is no error. -/
def leftOf (w : World) (R n : Nat) : Nat := match w.cell? ⟨R, 2, none⟩ with
  | some v => if intOf v = 0 then n + 1 - atOf w R else 0
  | none => 0
def leftM (s : RSt) (n : Nat) : Nat := if s.en = 0 then n + 1 - s.i else 0
theorem RdrIn.left {w : World} {R : Nat} {vL vO vA vF : Value} {ts : List Tok} {s : RSt} (h : RdrIn w R vL vO vA vF ts s.i s.en s.pl) (n : Nat) : leftOf w R n = leftM s n := by
  obtain ⟨_, c1, c2, _⟩ := seven_cells h.box
  unfold leftOf leftM atOf
  rw [c2, c1]
  by_cases hz : s.en = 0 <;> simp [intOf, hz]
end Go.Proofs.YtejhegnlmldomaaGreat

namespace Go.Proofs.YtejhegnlmldomaaGreat
open Go.RowKit

noncomputable def idM (ts : List Tok) (s : RSt) : Tok × Tok × RSt :=
  match nextM ts s 1 ⟨#[]⟩ with
  | (k, s1) => match nextM ts s1 4 ⟨#[46]⟩ with
    | (_, s2) => match nextM ts s2 1 ⟨#[]⟩ with
      | (n, s3) => (k, n, s3)
def manyM (n p : Nat) (s : RSt) : RSt := if n = 6 then wrongM s 7 p else s
/-- The one that stands where an ID would be put. -/
def headI (l : List IDd) (a : IDd) : Option IDd := (l.dropWhile (fun k => decide (cmpI k a < 0))).head?
open Classical in
noncomputable def twiceM (l : List IDd) (a : IDd) (p : Nat) (s : RSt) : RSt := if headI l a = some a then wrongM s 8 p else s
noncomputable def moreM (ts : List Tok) (s : RSt) : Bool × RSt := if seesM ts s ⟨#[44]⟩ = true then (true, ⟨s.i + 1, s.en, s.pl⟩) else (false, s)
open Classical in
noncomputable def lstM (ts : List Tok) : Nat → List IDd → Bool → RSt → List (IDd × Nat) → List IDd × RSt × List (IDd × Nat)
  | 0, l, _, s, rf => (l, s, rf)
  | f + 1, l, more, s, rf => if more = true ∧ s.en = 0 then
      match idM ts s with
      | (k, n, s3) => if s3.en ≠ 0 then ([], s3, rf)
        else match moreM ts (twiceM l ⟨k.text, n.text⟩ k.place (manyM l.length k.place s3)) with
          | (b, s5) => lstM ts f (insI l ⟨k.text, n.text⟩) b s5 (rf ++ [(⟨k.text, n.text⟩, k.place)])
    else (l, s, rf)
noncomputable def listM (ts : List Tok) (s : RSt) (rf : List (IDd × Nat)) : List IDd × RSt × List (IDd × Nat) :=
  match nextM ts s 4 ⟨#[91]⟩ with
  | (_, s1) => match lstM ts ts.length [] (!seesM ts s1 ⟨#[93]⟩) s1 rf with
    | (l, s2, rf2) => (l, (nextM ts s2 4 ⟨#[93]⟩).2, rf2)
/-- The kind of the token that comes, as the reference has it. -/
def rKind (ts : List Tok) (i : Nat) : Nat := match ts[i]? with
  | some t => (rTok t).kind
  | none => 5
open Classical in
noncomputable def valM (ts : List Tok) (s : RSt) (name : ByteArray) : Attrd × RSt :=
  if s.en = 0 ∧ rKind ts s.i = 3 then
    match nextM ts s 3 ⟨#[]⟩ with
    | (t, s1) => (⟨name, true, t.text, 0⟩, s1)
  else match nextM ts s 2 ⟨#[]⟩ with
    | (t, s1) => (⟨name, false, ⟨#[]⟩, t.value⟩, s1)
open Classical in
noncomputable def attM (l : List Attrd) (a : Attrd) : List Attrd :=
  if ∃ y ∈ l, y.name = a.name then l else l.takeWhile (fun y => decide (cmpS y.name a.name < 0)) ++ a :: l.dropWhile (fun y => decide (cmpS y.name a.name < 0))
open Classical in
noncomputable def freshM (l : List Attrd) (name : ByteArray) (p : Nat) (s : RSt) : RSt := if ∃ y ∈ l, y.name = name then wrongM s 8 p else s
def onceM (af : Bool) (p : Nat) (s : RSt) : RSt := if af = true then wrongM s 8 p else s
open Classical in
noncomputable def lnM (ts : List Tok) (x : Resd) (af : Bool) (s : RSt) (rf : List (IDd × Nat)) : Resd × Bool × RSt × List (IDd × Nat) :=
  match nextM ts s 1 ⟨#[]⟩ with
  | (n, s1) => if n.text = wAfter then
      match nextM ts (onceM af n.place s1) 4 ⟨#[61]⟩ with
      | (_, s2) => match listM ts s2 rf with
        | (l, s3, rf3) => (⟨x.id, x.attrs, l⟩, true, s3, rf3)
    else match nextM ts (freshM x.attrs n.text n.place (manyM x.attrs.length n.place s1)) 4 ⟨#[61]⟩ with
      | (_, s2) => match valM ts s2 n.text with
        | (a, s3) => (⟨x.id, attM x.attrs a, x.after⟩, af, s3, rf)
open Classical in
noncomputable def insM (ts : List Tok) : Nat → Resd → Bool → RSt → List (IDd × Nat) → Resd × Bool × RSt × List (IDd × Nat)
  | 0, x, af, s, rf => (x, af, s, rf)
  | f + 1, x, af, s, rf => if s.en = 0 ∧ rKind ts s.i = 1 then
      match lnM ts x af s rf with
      | (x, af, s, rf) => insM ts f x af s rf
    else (x, af, s, rf)
def fullM (n p : Nat) (s : RSt) : RSt := if n = 12 then wrongM s 7 p else s
open Classical in
noncomputable def againM (out : List Resd) (a : IDd) (p : Nat) (s : RSt) : RSt := if a ∈ out.map Resd.id then wrongM s 8 p else s
/-- What was read: resources, the places of their kinds, refs. -/
structure Got where
  out : List Resd
  ats : List Nat
  rf : List (IDd × Nat)
noncomputable def resM (ts : List Tok) (s : RSt) (g : Got) : RSt × Got :=
  match nextM ts s 1 wRes with
  | (t, s1) => match nextM ts (fullM g.out.length t.place s1) 1 ⟨#[]⟩ with
    | (k, s2) => match nextM ts s2 1 ⟨#[]⟩ with
      | (n, s3) => match nextM ts (againM g.out ⟨k.text, n.text⟩ k.place s3) 4 ⟨#[123]⟩ with
        | (_, s4) => match insM ts ts.length ⟨⟨k.text, n.text⟩, [], []⟩ false s4 g.rf with
          | (x, _, s5, rf) => match nextM ts s5 4 ⟨#[125]⟩ with
            | (_, s6) => (s6, ⟨g.out ++ [x], g.ats ++ [k.place], rf⟩)
open Classical in
noncomputable def txtM (ts : List Tok) : Nat → RSt → Got → RSt × Got
  | 0, s, g => (s, g)
  | f + 1, s, g => if s.en = 0 ∧ rKind ts s.i ≠ 5 then
      match resM ts s g with
      | (s, g) => txtM ts f s g
    else (s, g)
open Classical in
noncomputable def nonesM (out : List Resd) : List (IDd × Nat) → RSt → RSt
  | [], s => s
  | r :: rf, s => nonesM out rf (if r.1 ∈ out.map Resd.id then s else wrongM s 9 r.2)
def circsM : List Bool → List Nat → RSt → RSt
  | b :: q, p :: ats, s => circsM q ats (if b = true then wrongM s 10 p else s)
  | _, _, s => s
end Go.Proofs.YtejhegnlmldomaaGreat

namespace Go.Proofs.YtejhegnlmldomaaGreat
open Go.RowKit

/-- A token's kind, and what lies in it. -/
def TokK (t : Tok) : Prop := 1 ≤ t.kind ∧ t.kind ≤ 11 ∧ (t.kind = 3 → t.value = 0) ∧ (t.kind = 2 → t.text = ⟨#[]⟩)
theorem rTok_low {t : Tok} (h : t.kind ≤ 3) : rTok t = t := by unfold rTok; rw [if_pos h]
theorem rTok_sign {t : Tok} (h : 4 ≤ t.kind) (h2 : t.kind ≤ 10) : rTok t = ⟨4, t.place, ⟨#[signByte t.kind]⟩, 0⟩ := by
  unfold rTok; rw [if_neg (by omega), if_neg (by omega)]; rfl
theorem sign_inj : ∀ a b : Fin 7, signByte (a.val + 4) = signByte (b.val + 4) → a = b := by decide
theorem sign_one {a b : Nat} (ha : 4 ≤ a) (ha' : a ≤ 10) (hb : 4 ≤ b) (hb' : b ≤ 10) (h : signByte a = signByte b) : a = b := by
  have := sign_inj ⟨a - 4, by omega⟩ ⟨b - 4, by omega⟩ (by dsimp only; rw [show a - 4 + 4 = a by omega, show b - 4 + 4 = b by omega]; exact h)
  have := congrArg Fin.val this
  dsimp only at this
  omega
theorem rTok_kind {t : Tok} (hk : TokK t) : (t.kind ≤ 3 ∧ (rTok t).kind = t.kind) ∨ (4 ≤ t.kind ∧ t.kind ≤ 10 ∧ (rTok t).kind = 4) ∨ (t.kind = 11 ∧ (rTok t).kind = 5) := by
  obtain ⟨h1, h2, _⟩ := hk
  by_cases h3 : t.kind ≤ 3
  · exact .inl ⟨h3, by rw [rTok_low h3]⟩
  · by_cases h4 : t.kind ≤ 10
    · exact .inr (.inl ⟨by omega, h4, by rw [rTok_sign (by omega) h4]⟩)
    · exact .inr (.inr ⟨by omega, rTok_end (by omega)⟩)
theorem fits_low {t : Tok} (hk : TokK t) {k : Nat} (h : k ≤ 3) : fitsR t k ⟨#[]⟩ ↔ t.kind = k := by
  unfold fitsR
  rcases rTok_kind hk with ⟨h1, h2⟩ | ⟨h1, h2, h3⟩ | ⟨h1, h2⟩
  · rw [h2]; exact ⟨fun h => h.1, fun h => ⟨h, .inl rfl⟩⟩
  · rw [h3]; exact ⟨fun h => by omega, fun h => by omega⟩
  · rw [h2]; exact ⟨fun h => by omega, fun h => by omega⟩
theorem fits_sign {t : Tok} (hk : TokK t) {k : Nat} (h : 4 ≤ k) (h' : k ≤ 10) : fitsR t 4 ⟨#[signByte k]⟩ ↔ t.kind = k := by
  unfold fitsR
  rcases rTok_kind hk with ⟨h1, h2⟩ | ⟨h1, h2, h3⟩ | ⟨h1, h2⟩
  · rw [h2]; exact ⟨fun h => by omega, fun h => by omega⟩
  · rw [rTok_sign h1 h2]
    dsimp only
    constructor
    · rintro ⟨_, h4 | h4⟩
      · simp at h4
      · simp at h4; exact sign_one h1 h2 h h' h4
    · rintro rfl; exact ⟨rfl, .inr rfl⟩
  · rw [h2]; exact ⟨fun h => by omega, fun h => by omega⟩
/-- A token is taken by both, or by none. -/
theorem next_same {ts : List Tok} (hK : ∀ t ∈ ts, TokK t) {i : Nat} (hi : i < ts.length) (pl : Nat) {k kk : Nat} {sg : ByteArray} (hf : ∀ t, TokK t → (fitsR t k sg ↔ t.kind = kk)) :
    (∃ t, takeS ts i kk = .ok (t, i + 1) ∧ nextM ts ⟨i, 0, pl⟩ k sg = (rTok t, ⟨i + 1, 0, pl⟩) ∧ ts[i]? = some t ∧ t.kind = kk ∧ TokK t) ∨ (∃ p, takeS ts i kk = .error (6, p) ∧ nextM ts ⟨i, 0, pl⟩ k sg = (zTok, ⟨i, 6, p⟩)) := by
  obtain ⟨t, ht⟩ := TsEnd.there hi
  have htk := hK t (List.mem_of_getElem? ht)
  by_cases h : t.kind = kk
  · exact .inl ⟨t, take_ok ht h, nextM_yes (s := ⟨i, 0, pl⟩) ht rfl ((hf t htk).2 h), ht, h, htk⟩
  · exact .inr ⟨t.place, take_no ht h, nextM_no (s := ⟨i, 0, pl⟩) ht rfl (fun hh => h ((hf t htk).1 hh))⟩
theorem next_word {ts : List Tok} (hK : ∀ t ∈ ts, TokK t) {i : Nat} (hi : i < ts.length) (pl : Nat) {k : Nat} (h : k ≤ 3) :
    (∃ t, takeS ts i k = .ok (t, i + 1) ∧ nextM ts ⟨i, 0, pl⟩ k ⟨#[]⟩ = (t, ⟨i + 1, 0, pl⟩) ∧ ts[i]? = some t ∧ t.kind = k ∧ TokK t) ∨ (∃ p, takeS ts i k = .error (6, p) ∧ nextM ts ⟨i, 0, pl⟩ k ⟨#[]⟩ = (zTok, ⟨i, 6, p⟩)) := by
  rcases next_same hK hi pl (k := k) (kk := k) (sg := ⟨#[]⟩) (fun t ht => fits_low ht h) with ⟨t, h1, h2, h3, h4, h5⟩ | h
  · rw [rTok_low (by omega)] at h2
    exact .inl ⟨t, h1, h2, h3, h4, h5⟩
  · exact .inr h
theorem next_sign {ts : List Tok} (hK : ∀ t ∈ ts, TokK t) {i : Nat} (hi : i < ts.length) (pl : Nat) {k : Nat} (h : 4 ≤ k) (h' : k ≤ 10) {c : UInt8} (hc : signByte k = c) :
    (∃ t, takeS ts i k = .ok (t, i + 1) ∧ nextM ts ⟨i, 0, pl⟩ 4 ⟨#[c]⟩ = (rTok t, ⟨i + 1, 0, pl⟩) ∧ ts[i]? = some t ∧ t.kind = k ∧ TokK t) ∨ (∃ p, takeS ts i k = .error (6, p) ∧ nextM ts ⟨i, 0, pl⟩ 4 ⟨#[c]⟩ = (zTok, ⟨i, 6, p⟩)) := by
  subst hc
  exact next_same hK hi pl (fun t ht => fits_sign ht h h')
theorem sees_same {ts : List Tok} (hK : ∀ t ∈ ts, TokK t) {i : Nat} (hi : i < ts.length) (pl : Nat) {k : Nat} (h : 4 ≤ k) (h' : k ≤ 10) {c : UInt8} (hc : signByte k = c) : seesM ts ⟨i, 0, pl⟩ ⟨#[c]⟩ = true ↔ kindAt ts i = k := by
  subst hc
  obtain ⟨t, ht⟩ := TsEnd.there hi
  have htk := hK t (List.mem_of_getElem? ht)
  rw [kind_at ht, ← fits_sign htk h h']
  unfold seesM fitsR
  dsimp only
  rw [ht]
  simp
theorem UpG.ins {κ ρ : Type} {cmp : κ → κ → Int} {key : ρ → κ} (ho : OrdK cmp) (x : ρ) : ∀ {rs : List ρ}, UpG cmp key rs → ¬ HasK key rs (key x) → UpG cmp key (rs.takeWhile (fun r => decide (cmp (key r) (key x) < 0)) ++ x :: rs.dropWhile (fun r => decide (cmp (key r) (key x) < 0)))
  | [], _, _ => by simp [UpG]
  | r :: rs, hu, hn => by
    obtain ⟨h1, h2⟩ := List.pairwise_cons.1 hu
    have hn' : ¬ HasK key rs (key x) := fun ⟨y, hy, e⟩ => hn ⟨y, List.mem_cons_of_mem _ hy, e⟩
    have hne : cmp (key r) (key x) ≠ 0 := fun e => hn ⟨r, List.mem_cons_self, ho.zero.1 e⟩
    by_cases hp : cmp (key r) (key x) < 0
    · have ih := UpG.ins ho x h2 hn'
      simp only [List.takeWhile, List.dropWhile, hp, decide_true, List.cons_append]
      refine List.pairwise_cons.2 ⟨fun y hy => ?_, ih⟩
      rcases List.mem_append.1 hy with hy | hy
      · exact h1 y ((List.takeWhile_sublist _).subset hy)
      · rcases List.mem_cons.1 hy with rfl | hy
        · exact hp
        · exact h1 y ((List.dropWhile_sublist _).subset hy)
    · simp only [List.takeWhile, List.dropWhile, hp, decide_false, List.nil_append]
      have hx : cmp (key x) (key r) < 0 := by rw [ho.flip]; omega
      refine List.pairwise_cons.2 ⟨fun y hy => ?_, hu⟩
      rcases List.mem_cons.1 hy with rfl | hy
      · exact hx
      · exact ho.trans hx (h1 y hy)
theorem headI_iff {l : List IDd} {a : IDd} (hu : UpG cmpI id l) : headI l a = some a ↔ a ∈ l := by
  unfold headI
  induction l with
  | nil => simp
  | cons r l ih =>
    obtain ⟨h1, h2⟩ := List.pairwise_cons.1 hu
    by_cases hp : cmpI r a < 0
    · rw [List.dropWhile_cons_of_pos (by simpa using hp), ih h2]
      have : a ≠ r := by rintro rfl; rw [cmpI_zero.2 rfl] at hp; omega
      simp [this]
    · rw [List.dropWhile_cons_of_neg (by simpa using hp)]
      simp only [List.head?_cons, Option.some.injEq, List.mem_cons]
      constructor
      · exact fun h => .inl h.symm
      · rintro (h | h)
        · exact h.symm
        · exact absurd (h1 a h) hp
theorem insI_up {l : List IDd} {a : IDd} (hu : UpG cmpI id l) (hn : a ∉ l) : UpG cmpI id (insI l a) :=
  UpG.ins (key := id) ordI a hu (fun ⟨y, hy, e⟩ => hn (by have e' : y = a := e; rw [← e']; exact hy))
theorem many_no {n p : Nat} {s : RSt} (h : n ≠ 6) : manyM n p s = s := if_neg h
theorem many_yes {n p i pl : Nat} (h : n = 6) : manyM n p ⟨i, 0, pl⟩ = ⟨i, 7, p⟩ := by unfold manyM; rw [if_pos h]; rfl
/-- A ref is read alike. -/
theorem ref_same {ts : List Tok} (hK : ∀ t ∈ ts, TokK t) (he : TsEnd ts) {i : Nat} (hi : i < ts.length) (pl : Nat) {e : EntD} {rf : List (IDd × Nat)} (hu : UpG cmpI id e.after) :
    (∀ i' e' rf', refS ts i e rf = .ok (i', e', rf') → ∃ k n : Tok, idM ts ⟨i, 0, pl⟩ = (k, n, ⟨i', 0, pl⟩) ∧ twiceM e.after ⟨k.text, n.text⟩ k.place (manyM e.after.length k.place ⟨i', 0, pl⟩) = ⟨i', 0, pl⟩ ∧ e' = { e with after := insI e.after ⟨k.text, n.text⟩ } ∧ rf' = rf ++ [(⟨k.text, n.text⟩, k.place)] ∧ (⟨k.text, n.text⟩ : IDd) ∉ e.after) ∧
    (∀ f, refS ts i e rf = .error f → f.1 ≠ 0 ∧ ∃ (k n : Tok) (s3 : RSt), idM ts ⟨i, 0, pl⟩ = (k, n, s3) ∧ ((s3.en = f.1 ∧ s3.pl = f.2) ∨ (s3.en = 0 ∧ (twiceM e.after ⟨k.text, n.text⟩ k.place (manyM e.after.length k.place s3)).en = f.1 ∧ (twiceM e.after ⟨k.text, n.text⟩ k.place (manyM e.after.length k.place s3)).pl = f.2))) := by
  unfold refS idM
  rcases next_word hK hi pl (k := 1) (by omega) with ⟨t0, a1, a2, a3, a4, -⟩ | ⟨p, a1, a2⟩
  · rw [a1, a2]
    dsimp only
    have hi1 := he.next a3 (by omega)
    rcases next_sign hK hi1 pl (k := 10) (by omega) (by omega) (c := 46) rfl with ⟨t1, b1, b2, b3, b4, -⟩ | ⟨p, b1, b2⟩
    · rw [b1, b2]
      dsimp only
      have hi2 := he.next b3 (by omega)
      rcases next_word hK hi2 pl (k := 1) (by omega) with ⟨t2, c1, c2, c3, c4, -⟩ | ⟨p, c1, c2⟩
      · rw [c1, c2]
        dsimp only
        by_cases h6 : e.after.length = 6
        · rw [if_pos h6]
          refine ⟨fun _ _ _ h => (by cases h), fun f h => ?_⟩
          cases h
          refine ⟨by simp, t0, t2, _, rfl, .inr ⟨rfl, ?_⟩⟩
          rw [many_yes h6]
          unfold twiceM
          split
          · rw [wrongM_bad (by simp)]; exact ⟨rfl, rfl⟩
          · exact ⟨rfl, rfl⟩
        · rw [if_neg h6]
          by_cases hm : (⟨t0.text, t2.text⟩ : IDd) ∈ e.after
          · rw [if_pos hm]
            refine ⟨fun _ _ _ h => (by cases h), fun f h => ?_⟩
            cases h
            refine ⟨by simp, t0, t2, _, rfl, .inr ⟨rfl, ?_⟩⟩
            rw [many_no h6]
            unfold twiceM
            rw [if_pos ((headI_iff hu).2 hm), wrongM_good rfl]
            exact ⟨rfl, rfl⟩
          · rw [if_neg hm]
            refine ⟨fun _ _ _ h => ?_, fun f h => (by cases h)⟩
            cases h
            refine ⟨t0, t2, rfl, ?_, rfl, rfl, hm⟩
            rw [many_no h6]
            unfold twiceM
            rw [if_neg (fun h => hm ((headI_iff hu).1 h))]
      · rw [c1, c2]
        refine ⟨fun _ _ _ h => (by cases h), fun f h => ?_⟩
        cases h
        exact ⟨by simp, t0, zTok, _, rfl, .inl ⟨rfl, rfl⟩⟩
    · rw [b1, b2]
      dsimp only
      rw [nextM_bad (by simp)]
      refine ⟨fun _ _ _ h => (by cases h), fun f h => ?_⟩
      cases h
      exact ⟨by simp, t0, zTok, _, rfl, .inl ⟨rfl, rfl⟩⟩
  · rw [a1, a2]
    dsimp only
    rw [nextM_bad (s := ⟨i, 6, p⟩) (by simp)]
    dsimp only
    rw [nextM_bad (s := ⟨i, 6, p⟩) (by simp)]
    refine ⟨fun _ _ _ h => (by cases h), fun f h => ?_⟩
    cases h
    exact ⟨by simp, zTok, zTok, _, rfl, .inl ⟨rfl, rfl⟩⟩
theorem lstM_bad {ts : List Tok} {s : RSt} (h : s.en ≠ 0) (f : Nat) (l : List IDd) (b : Bool) (rf : List (IDd × Nat)) : lstM ts f l b s rf = (l, s, rf) := by
  cases f with
  | zero => rfl
  | succ f => unfold lstM; rw [if_neg (fun hh => h hh.2)]
theorem lstM_end {ts : List Tok} (f : Nat) (l : List IDd) (s : RSt) (rf : List (IDd × Nat)) : lstM ts f l false s rf = (l, s, rf) := by
  cases f with
  | zero => rfl
  | succ f => unfold lstM; rw [if_neg (fun hh => by cases hh.1)]
/-- Refs are read alike. -/
theorem refs_same {ts : List Tok} (hK : ∀ t ∈ ts, TokK t) (he : TsEnd ts) (pl : Nat) : ∀ (f : Nat) {i : Nat} {e : EntD} {rf : List (IDd × Nat)}, i < ts.length → ts.length ≤ f + i → UpG cmpI id e.after →
    (∀ i' e' rf', refsS ts f i e rf = .ok (i', e', rf') → lstM ts f e.after true ⟨i, 0, pl⟩ rf = (e'.after, ⟨i', 0, pl⟩, rf') ∧ e' = { e with after := e'.after } ∧ UpG cmpI id e'.after) ∧
    (∀ x, refsS ts f i e rf = .error x → x.1 ≠ 0 ∧ (lstM ts f e.after true ⟨i, 0, pl⟩ rf).2.1.en = x.1 ∧ (lstM ts f e.after true ⟨i, 0, pl⟩ rf).2.1.pl = x.2)
  | 0, i, e, rf, hi, hf, hu => by omega
  | f + 1, i, e, rf, hi, hf, hu => by
    obtain ⟨r1, r2⟩ := ref_same hK he hi pl (rf := rf) hu
    unfold refsS lstM
    rw [if_pos ⟨rfl, rfl⟩]
    cases hr : refS ts i e rf with
    | error x =>
      obtain ⟨hx, k, n, s3, h1, h2⟩ := r2 x hr
      rw [h1]
      dsimp only
      refine ⟨fun _ _ _ h => (by cases h), fun y h => ?_⟩
      cases h
      refine ⟨hx, ?_⟩
      rcases h2 with ⟨h2, h3⟩ | ⟨h0, h2, h3⟩
      · rw [if_pos (by rw [h2]; exact hx)]
        exact ⟨h2, h3⟩
      · rw [if_neg (by rw [h0]; exact fun h => h rfl)]
        generalize twiceM e.after ⟨k.text, n.text⟩ k.place (manyM e.after.length k.place s3) = s4 at *
        unfold moreM
        rw [seesM_bad (by rw [h2]; exact hx), if_neg (by simp)]
        dsimp only
        rw [lstM_end]
        exact ⟨h2, h3⟩
    | ok r =>
      obtain ⟨i1, e1, rf1⟩ := r
      obtain ⟨k, n, h1, h2, rfl, rfl, hno⟩ := r1 i1 e1 rf1 hr
      have hin := refS_in he hr
      rw [h1]
      dsimp only
      rw [if_neg (show ¬ ((0 : Int) ≠ 0) from fun h => h rfl), h2]
      have hu1 := insI_up hu hno
      unfold moreM
      by_cases hs : kindAt ts i1 = 9
      · rw [if_pos hs, if_pos ((sees_same hK hin.2 pl (k := 9) (by omega) (by omega) (c := 44) rfl).2 hs)]
        dsimp only
        obtain ⟨t, ht⟩ := TsEnd.there hin.2
        have hin2 := he.next ht (by rw [kind_at ht] at hs; omega)
        have ih := refs_same hK he pl f (i := i1 + 1) (e := { e with after := insI e.after ⟨k.text, n.text⟩ }) (rf := rf ++ [(⟨k.text, n.text⟩, k.place)]) hin2 (by omega) hu1
        exact ⟨fun i' e' rf' h => by
          obtain ⟨g1, g2, g3⟩ := ih.1 i' e' rf' h
          exact ⟨g1, g2, g3⟩, ih.2⟩
      · rw [if_neg hs, if_neg (fun h => hs ((sees_same hK hin.2 pl (k := 9) (by omega) (by omega) (c := 44) rfl).1 h))]
        dsimp only
        rw [lstM_end]
        refine ⟨fun i' e' rf' h => ?_, fun x h => (by cases h)⟩
        cases h
        exact ⟨rfl, rfl, hu1⟩
/-- A list is read alike. -/
theorem list_same {ts : List Tok} (hK : ∀ t ∈ ts, TokK t) (he : TsEnd ts) {i : Nat} (hi : i < ts.length) (pl : Nat) {e : EntD} {rf : List (IDd × Nat)} (h0 : e.after = []) :
    (∀ i' e' rf', listS ts i e rf = .ok (i', e', rf') → listM ts ⟨i, 0, pl⟩ rf = (e'.after, ⟨i', 0, pl⟩, rf') ∧ e' = { e with after := e'.after } ∧ UpG cmpI id e'.after) ∧
    (∀ x, listS ts i e rf = .error x → x.1 ≠ 0 ∧ (listM ts ⟨i, 0, pl⟩ rf).2.1.en = x.1 ∧ (listM ts ⟨i, 0, pl⟩ rf).2.1.pl = x.2) := by
  unfold listS listM
  rcases next_sign hK hi pl (k := 6) (by omega) (by omega) (c := 91) rfl with ⟨t0, a1, a2, a3, a4, -⟩ | ⟨p, a1, a2⟩
  · rw [a1, a2]
    dsimp only
    have hi1 := he.next a3 (by omega)
    have hu : UpG cmpI id e.after := by rw [h0]; exact List.Pairwise.nil
    by_cases hs : kindAt ts (i + 1) = 7
    · rw [if_pos hs, (sees_same hK hi1 pl (k := 7) (by omega) (by omega) (c := 93) rfl).2 hs]
      rw [show (!true) = false from rfl, lstM_end]
      dsimp only
      rcases next_sign hK hi1 pl (k := 7) (by omega) (by omega) (c := 93) rfl with ⟨t1, b1, b2, b3, b4, -⟩ | ⟨p, b1, b2⟩
      · rw [b1, b2]
        refine ⟨fun _ _ _ h => ?_, fun x h => (by cases h)⟩
        cases h
        exact ⟨by rw [h0], rfl, hu⟩
      · rw [b1, b2]
        refine ⟨fun _ _ _ h => (by cases h), fun x h => ?_⟩
        cases h
        exact ⟨by simp, rfl, rfl⟩
    · rw [if_neg hs]
      have hf : seesM ts ⟨i + 1, 0, pl⟩ ⟨#[93]⟩ = false := by
        cases hb : seesM ts ⟨i + 1, 0, pl⟩ ⟨#[93]⟩ with
        | false => rfl
        | true => exact absurd ((sees_same hK hi1 pl (k := 7) (by omega) (by omega) (c := 93) rfl).1 hb) hs
      rw [hf, show (!false) = true from rfl]
      obtain ⟨g1, g2⟩ := refs_same hK he pl ts.length (i := i + 1) (e := e) (rf := rf) hi1 (by omega) hu
      rw [h0] at g1 g2
      cases hr : refsS ts ts.length (i + 1) e rf with
      | error x =>
        obtain ⟨hx, h2, h3⟩ := g2 x hr
        dsimp only
        refine ⟨fun _ _ _ h => (by cases h), fun y h => ?_⟩
        cases h
        generalize lstM ts ts.length [] true ⟨i + 1, 0, pl⟩ rf = r at *
        obtain ⟨l, s2, rf2⟩ := r
        dsimp only at h2 h3 ⊢
        rw [nextM_bad (by rw [h2]; exact hx)]
        exact ⟨hx, h2, h3⟩
      | ok r =>
        obtain ⟨i2, e2, rf2⟩ := r
        obtain ⟨h1, h2, h3⟩ := g1 i2 e2 rf2 hr
        rw [h1]
        dsimp only
        have hi2 : i2 < ts.length := (refsS_in he _ hr).2
        rcases next_sign hK hi2 pl (k := 7) (by omega) (by omega) (c := 93) rfl with ⟨t1, b1, b2, b3, b4, -⟩ | ⟨p, b1, b2⟩
        · rw [b1, b2]
          refine ⟨fun _ _ _ h => ?_, fun x h => (by cases h)⟩
          cases h
          exact ⟨rfl, h2, h3⟩
        · rw [b1, b2]
          refine ⟨fun _ _ _ h => (by cases h), fun x h => ?_⟩
          cases h
          exact ⟨by simp, rfl, rfl⟩
  · rw [a1, a2]
    dsimp only
    rw [lstM_bad (by simp)]
    dsimp only
    rw [nextM_bad (by simp)]
    refine ⟨fun _ _ _ h => (by cases h), fun x h => ?_⟩
    cases h
    exact ⟨by simp, rfl, rfl⟩
end Go.Proofs.YtejhegnlmldomaaGreat
