/-
  The parser in memory: its box, its rows, its entries.
-/
/-
  The plain parser: what is read from a list of tokens, with no memory.
-/
/-
  The parser: the token that comes, and its taking.
-/
/-
  The parser: a ref is read.
-/
import Derived.Test.YtfmcgdglalljgaaGreatDoorJ15
import Derived.Test.YtfmcgdglalljgaaGreatDoorJ20
import Derived.Test.YtfmcgdglalljgaaGreatDoorJ19
import Derived.Test.YtfmcgdglalljgaaGreatDoorJ21
namespace Go.Proofs.YtfmcgdglalljgaaGreatDoor
open Go.RowKit

/-- Only blocks of some places and types are other than they were. -/
structure Wr (D : Nat → TypeId → Prop) (w w' : World) : Prop where
  os : w'.os = w.os
  tape : w'.tape = w.tape
  output : w'.output = w.output
  size : w.heap.size ≤ w'.heap.size
  heap : ∀ k, k < w.heap.size → (∀ c t fz, w.heap[k]? = some (.cells c t fz) → ¬ D k t) → w'.heap[k]? = w.heap[k]?
theorem Wr.refl (D : Nat → TypeId → Prop) (w : World) : Wr D w w := ⟨rfl, rfl, rfl, Nat.le_refl _, fun _ _ _ => rfl⟩
theorem Wr.trans {D : Nat → TypeId → Prop} {a b c : World} (h : Wr D a b) (k : Wr D b c) : Wr D a c :=
  ⟨k.os.trans h.os, k.tape.trans h.tape, k.output.trans h.output, Nat.le_trans h.size k.size, fun j hj hd => by
    have h1 := h.heap j hj hd
    rw [← h1]
    exact k.heap j (Nat.lt_of_lt_of_le hj h.size) (by rw [h1]; exact hd)⟩
theorem Wr.mono {D D' : Nat → TypeId → Prop} {w w' : World} (h : Wr D w w') (hd : ∀ k t, k < w.heap.size → D k t → D' k t) : Wr D' w w' :=
  ⟨h.os, h.tape, h.output, h.size, fun k hk hn => h.heap k hk fun c t fz hc hD => hn c t fz hc (hd k t hk hD)⟩
theorem Wr.ext {D : Nat → TypeId → Prop} {w w' : World} (h : Ext w w') : Wr D w w' := ⟨Below.os h, Below.tape h, Below.output h, Ext.size h, fun k hk _ => Below.block h k hk⟩
theorem Wr.wrote {D : Nat → TypeId → Prop} {B : Nat} {T : TypeId → Prop} {w w' : World} (h : Wrote B T w w') (hd : ∀ k t, k < w.heap.size → B ≤ k → T t → D k t) : Wr D w w' :=
  ⟨h.os, h.tape, h.output, h.size, fun k hk hn => h.heap k hk (by
    by_cases hb : k < B
    · exact .inl hb
    · exact .inr fun c t fz hc hT => hn c t fz hc (hd k t hk (by omega) hT))⟩
theorem Wr.keeps {D : Nat → TypeId → Prop} {w w' : World} (h : Wr D w w') {k : Nat} {c : Array Value} {t : TypeId} {fz : Nat × Nat} (hk : w.heap[k]? = some (.cells c t fz)) (hD : ¬ D k t) : w'.heap[k]? = some (.cells c t fz) := by
  rw [h.heap k (Array.getElem?_eq_some_iff.1 hk).1 (fun c' t' fz' h' => by rw [hk] at h'; cases h'; exact hD)]; exact hk
theorem Wr.toExt {w0 w w' : World} {D : Nat → TypeId → Prop} (h : Ext w0 w) (k : Wr D w w') (hD : ∀ j t, D j t → w0.heap.size ≤ j) : Ext w0 w' :=
  ⟨k.os.trans (Below.os h), k.tape.trans (Below.tape h), k.output.trans (Below.output h), Nat.le_trans (Ext.size h) k.size, fun j hj => by
    rw [k.heap j (Nat.lt_of_lt_of_le hj (Ext.size h)) (fun c t fz _ hd => by have := hD j t hd; omega)]
    exact Below.block h j hj⟩
theorem ownsRow_wr {D : Nat → TypeId → Prop} {w w' : World} {B : Nat} {e : TypeId} {size : Nat} {v : Value} {n : Nat} {xs : List Value} (h : w.ownsRow B e size v n xs) (k : Wr D w w') (hD : ∀ g, B ≤ g → g < w.heap.size → ¬ D g e) : w'.ownsRow B e size v n xs := by
  obtain ⟨h1, h2⟩ := h
  refine ⟨h1, ?_⟩
  rcases h2 with h2 | ⟨g, cap, cur, hv, hg, hh, r⟩
  · exact .inl h2
  · exact .inr ⟨g, cap, cur, hv, hg, k.keeps hh (hD g hg (Array.getElem?_eq_some_iff.1 hh).1), r⟩

/-- An entry: what is known of a resource while it is read. -/
structure EntD where
  id : IDd
  place : Nat
  attrs : List RowA
  hasAfter : Bool
  after : List IDd
/-- The types of the blocks of an entry. -/
def TyE (t : TypeId) : Prop := t = 144 ∨ t = 210 ∨ t = 212 ∨ t = 216 ∨ t = 218
structure EntIn (B : Nat) (w : World) (b tA tI : Nat) (vA vI : Value) (e : EntD) : Prop where
  base : B ≤ b
  box : w.heap[b]? = some (.cells #[.string e.id.kind, .string e.id.name, .int .i64 e.place, .pointer (some ⟨tA, 0, none⟩), .bool e.hasAfter, .pointer (some ⟨tI, 0, none⟩)] 144 (0, 0))
  attrs : TabAtA B w tA vA e.attrs
  after : TabAt B w tI vI e.after
/-- An entry lies in memory. -/
def EntAt (B : Nat) (w : World) (b : Nat) (e : EntD) : Prop := ∃ tA tI vA vI, EntIn B w b tA tI vA vI e
theorem EntAt.wr {D : Nat → TypeId → Prop} {B : Nat} {w w' : World} {b : Nat} {e : EntD} (h : EntAt B w b e) (k : Wr D w w') (hD : ∀ j t, B ≤ j → j < w.heap.size → TyE t → ¬ D j t) : EntAt B w' b e := by
  obtain ⟨tA, tI, vA, vI, h1, h2, h3, h4⟩ := h
  have hs : ∀ {j o}, w.heap[j]? = some o → j < w.heap.size := fun h => (Array.getElem?_eq_some_iff.1 h).1
  exact ⟨tA, tI, vA, vI, h1, k.keeps h2 (hD _ _ h1 (hs h2) (.inl rfl)),
    ⟨k.keeps h3.at_ (hD _ _ h3.base (hs h3.at_) (.inr (.inl rfl))), ownsRow_wr h3.rows k fun g hg hl => hD _ _ hg hl (.inr (.inr (.inl rfl))), h3.up, h3.few, h3.base⟩,
    ⟨k.keeps h4.at_ (hD _ _ h4.base (hs h4.at_) (.inr (.inr (.inr (.inl rfl))))), ownsRow_wr h4.keys k fun g hg hl => hD _ _ hg hl (.inr (.inr (.inr (.inr rfl)))), h4.up, h4.few, h4.base⟩⟩
theorem ownsRow_low' {w : World} {base base' : Nat} {e : TypeId} {size : Nat} {v : Value} {n : Nat} {xs : List Value} (h : w.ownsRow base e size v n xs) (hb : base' ≤ base) : w.ownsRow base' e size v n xs := by
  obtain ⟨h1, h2⟩ := h
  refine ⟨h1, h2.imp id ?_⟩
  rintro ⟨g, cap, cur, hv, hg, r⟩
  exact ⟨g, cap, cur, hv, Nat.le_trans hb hg, r⟩
theorem EntAt.low {B B' : Nat} {w : World} {b : Nat} {e : EntD} (h : EntAt B w b e) (hb : B' ≤ B) : EntAt B' w b e := by
  obtain ⟨tA, tI, vA, vI, h1, h2, h3, h4⟩ := h
  exact ⟨tA, tI, vA, vI, Nat.le_trans hb h1, h2, h3.low hb, ⟨h4.at_, ownsRow_low' h4.keys hb, h4.up, h4.few, Nat.le_trans hb h4.base⟩⟩
/-- What may change while the entries below a mark stay as they are. -/
def Past (M : Nat) (k : Nat) (t : TypeId) : Prop := M ≤ k ∨ ¬ TyE t
/-- An entry that stays as it is. -/
def EntOld (M : Nat) (w : World) (b : Nat) (e : EntD) : Prop := ∀ w', Wr (Past M) w w' → EntAt 0 w' b e
theorem EntAt.old {B : Nat} {w : World} {b : Nat} {e : EntD} (h : EntAt B w b e) : EntOld w.heap.size w b e := fun _ k =>
  (h.low (Nat.zero_le _)).wr k fun _ _ _ hj ht hp => hp.elim (fun h => by omega) (fun h => h ht)
theorem EntOld.wr {M : Nat} {w w' : World} {b : Nat} {e : EntD} (h : EntOld M w b e) (k : Wr (Past M) w w') : EntOld M w' b e := fun w2 k2 => h w2 (k.trans k2)
theorem EntOld.up {M M' : Nat} {w : World} {b : Nat} {e : EntD} (h : EntOld M w b e) (hm : M ≤ M') : EntOld M' w b e := fun w2 k2 => h w2 (k2.mono fun _ _ _ hd => hd.elim (fun h => .inl (by omega)) .inr)
theorem EntOld.now {M : Nat} {w : World} {b : Nat} {e : EntD} (h : EntOld M w b e) : EntAt 0 w b e := h w (Wr.refl _ _)
/-- Entries that stay as they are. -/
def Olds (M : Nat) (w : World) (bs : List Nat) (es : List EntD) : Prop := bs.length = es.length ∧ ∀ (i : Nat) b e, bs[i]? = some b → es[i]? = some e → EntOld M w b e
theorem Olds.wr {M : Nat} {w w' : World} {bs : List Nat} {es : List EntD} (h : Olds M w bs es) (k : Wr (Past M) w w') : Olds M w' bs es := ⟨h.1, fun i b e hb he => (h.2 i b e hb he).wr k⟩
theorem Olds.up {M M' : Nat} {w : World} {bs : List Nat} {es : List EntD} (h : Olds M w bs es) (hm : M ≤ M') : Olds M' w bs es := ⟨h.1, fun i b e hb he => (h.2 i b e hb he).up hm⟩
theorem Olds.snoc {M B : Nat} {w : World} {bs : List Nat} {es : List EntD} {b : Nat} {e : EntD} (h : Olds M w bs es) (hm : M ≤ w.heap.size) (he : EntAt B w b e) : Olds w.heap.size w (bs ++ [b]) (es ++ [e]) := by
  refine ⟨by simp [h.1], fun i x y hx hy => ?_⟩
  by_cases hi : i < bs.length
  · rw [List.getElem?_append_left hi] at hx
    rw [List.getElem?_append_left (by rw [← h.1]; exact hi)] at hy
    exact (h.2 i x y hx hy).up hm
  · rw [List.getElem?_append_right (by omega)] at hx
    rw [List.getElem?_append_right (by rw [← h.1]; omega)] at hy
    have h0 : i - bs.length = 0 := by
      have := (List.getElem?_eq_some_iff.1 hx).1
      simp at this; omega
    rw [h0] at hx
    rw [← h.1, h0] at hy
    simp at hx hy
    subst hx; subst hy
    exact he.old

def cRf (r : IDd × Nat) : List Value := [.string r.1.kind, .string r.1.name, .int .i64 r.2]
def cPt (b : Nat) : List Value := [.pointer (some ⟨b, 0, none⟩)]
structure ParIn (B : Nat) (w : World) (P tE : Nat) (vT vE vO vR : Value) (ts : List Tok) (i : Nat) (rs : List RowE) (bs : List Nat) (refs : List (IDd × Nat)) : Prop where
  base : B ≤ P
  box : w.heap[P]? = some (.cells #[vT, .int .i64 i, .pointer (some ⟨tE, 0, none⟩), vO, vR] 130 (0, 0))
  toks : w.ownsRow B 120 4 vT ts.length (cellsT ts)
  ents : TabAtE B w tE vE rs
  order : w.ownsRow B 125 1 vO bs.length (bs.flatMap cPt)
  refs : w.ownsRow B 133 3 vR refs.length (refs.flatMap cRf)
/-- The types of the blocks of a parser. -/
def TyP (t : TypeId) : Prop := t = 130 ∨ t = 120 ∨ t = 168 ∨ t = 180 ∨ t = 125 ∨ t = 133
theorem ParIn.wr {D : Nat → TypeId → Prop} {B : Nat} {w w' : World} {P tE : Nat} {vT vE vO vR : Value} {ts : List Tok} {i : Nat} {rs : List RowE} {bs : List Nat} {refs : List (IDd × Nat)} (h : ParIn B w P tE vT vE vO vR ts i rs bs refs) (k : Wr D w w') (hD : ∀ j t, B ≤ j → j < w.heap.size → TyP t → ¬ D j t) : ParIn B w' P tE vT vE vO vR ts i rs bs refs := by
  obtain ⟨h1, h2, h3, h4, h5, h6⟩ := h
  have hs : ∀ {j o}, w.heap[j]? = some o → j < w.heap.size := fun h => (Array.getElem?_eq_some_iff.1 h).1
  exact ⟨h1, k.keeps h2 (hD _ _ h1 (hs h2) (.inl rfl)), ownsRow_wr h3 k fun g hg hl => hD _ _ hg hl (.inr (.inl rfl)),
    ⟨k.keeps h4.at_ (hD _ _ h4.base (hs h4.at_) (.inr (.inr (.inl rfl)))), ownsRow_wr h4.rows k fun g hg hl => hD _ _ hg hl (.inr (.inr (.inr (.inl rfl)))), h4.up, h4.few, h4.base⟩,
    ownsRow_wr h5 k fun g hg hl => hD _ _ hg hl (.inr (.inr (.inr (.inr (.inl rfl))))), ownsRow_wr h6 k fun g hg hl => hD _ _ hg hl (.inr (.inr (.inr (.inr (.inr rfl)))))⟩
end Go.Proofs.YtfmcgdglalljgaaGreatDoor

namespace Go.Proofs.YtfmcgdglalljgaaGreatDoor
open Go.RowKit

/-- An error and its place. -/
abbrev Flt := Int × Nat
def wAfter : ByteArray := ⟨#[97, 102, 116, 101, 114]⟩
def wRes : ByteArray := ⟨#[114, 101, 115, 111, 117, 114, 99, 101]⟩
def kindAt (ts : List Tok) (i : Nat) : Nat := match ts[i]? with
  | some t => t.kind
  | none => 11
def takeS (ts : List Tok) (i k : Nat) : Except Flt (Tok × Nat) := match ts[i]? with
  | none => .error (6, 0)
  | some t => if t.kind = k then .ok (t, i + 1) else .error (6, t.place)
theorem take_ok {ts : List Tok} {i : Nat} {t : Tok} (h : ts[i]? = some t) {k : Nat} (hk : t.kind = k) : takeS ts i k = .ok (t, i + 1) := by
  unfold takeS; rw [h]; simp [hk]
theorem take_no {ts : List Tok} {i : Nat} {t : Tok} (h : ts[i]? = some t) {k : Nat} (hk : t.kind ≠ k) : takeS ts i k = .error (6, t.place) := by
  unfold takeS; rw [h]; simp [hk]
theorem kind_at {ts : List Tok} {i : Nat} {t : Tok} (h : ts[i]? = some t) : kindAt ts i = t.kind := by
  unfold kindAt; rw [h]
/-- The tokens of a text: the last is the end, and no other is. -/
structure TsEnd (ts : List Tok) : Prop where
  some_ : 0 < ts.length
  end_ : ∀ (i : Nat) t, ts[i]? = some t → (t.kind = 11 ↔ i + 1 = ts.length)
/-- What is no end is followed by one more. -/
theorem TsEnd.next {ts : List Tok} (h : TsEnd ts) {i : Nat} {t : Tok} (ht : ts[i]? = some t) (hk : t.kind ≠ 11) : i + 1 < ts.length := by
  have h1 := (List.getElem?_eq_some_iff.1 ht).1
  have h2 : ¬ i + 1 = ts.length := fun he => hk ((h.end_ i t ht).2 he)
  omega
theorem TsEnd.there {ts : List Tok} {i : Nat} (h : i < ts.length) : ∃ t, ts[i]? = some t := ⟨ts[i], List.getElem?_eq_getElem h⟩
/-- A key among others, by rising keys. -/
def insI (ks : List IDd) (a : IDd) : List IDd := ks.takeWhile (fun k => decide (cmpI k a < 0)) ++ a :: ks.dropWhile (fun k => decide (cmpI k a < 0))
def insA (rs : List RowA) (x : RowA) : List RowA := rs.takeWhile (fun r => decide (cmpS r.key x.key < 0)) ++ x :: rs.dropWhile (fun r => decide (cmpS r.key x.key < 0))
theorem cut_while {α : Type} (p : α → Bool) : ∀ (l : List α) (i : Nat), i ≤ l.length → (∀ (k : Nat) x, k < i → l[k]? = some x → p x = true) → (∀ (k : Nat) x, i ≤ k → l[k]? = some x → p x = false) → l.takeWhile p = l.take i ∧ l.dropWhile p = l.drop i
  | [], i, _, _, _ => by simp
  | x :: l, 0, _, _, h2 => by
    have := h2 0 x (Nat.le_refl _) rfl
    simp [List.takeWhile, List.dropWhile, this]
  | x :: l, i + 1, hi, h1, h2 => by
    have hx := h1 0 x (by omega) rfl
    have := cut_while p l i (by simpa using hi) (fun k y hk hy => h1 (k + 1) y (by omega) (by simpa using hy)) (fun k y hk hy => h2 (k + 1) y (by omega) (by simpa using hy))
    simp [List.takeWhile, List.dropWhile, hx, this.1, this.2]
theorem insI_at {ks : List IDd} {a : IDd} {i : Nat} (h : Stands ks a i) : insL ks i a = insI ks a := by
  obtain ⟨h1, h2⟩ := cut_while (fun k => decide (cmpI k a < 0)) ks i h.le (fun k x hk hx => by simpa using h.ahead k x hk hx) (fun k x hk hx => by simpa using h.behind k x hk hx)
  unfold insI insL
  rw [h1, h2]
theorem insA_at {rs : List RowA} {x : RowA} {i : Nat} (h : StandsG cmpS RowA.key rs x.key i) : insG rs i x = insA rs x := by
  obtain ⟨h1, h2⟩ := cut_while (fun r : RowA => decide (cmpS r.key x.key < 0)) rs i h.le (fun k y hk hy => by simpa using h.ahead k y hk hy) (fun k y hk hy => by simpa using h.behind k y hk hy)
  unfold insA insG
  rw [h1, h2]
open Classical in
noncomputable def refS (ts : List Tok) (i : Nat) (e : EntD) (rf : List (IDd × Nat)) : Except Flt (Nat × EntD × List (IDd × Nat)) :=
  match takeS ts i 1 with
  | .error x => .error x
  | .ok (k, i) => match takeS ts i 10 with
    | .error x => .error x
    | .ok (_, i) => match takeS ts i 1 with
      | .error x => .error x
      | .ok (n, i) => if e.after.length = 6 then .error (7, k.place) else if (⟨k.text, n.text⟩ : IDd) ∈ e.after then .error (8, k.place) else .ok (i, { e with after := insI e.after ⟨k.text, n.text⟩ }, rf ++ [(⟨k.text, n.text⟩, k.place)])
noncomputable def refsS (ts : List Tok) : Nat → Nat → EntD → List (IDd × Nat) → Except Flt (Nat × EntD × List (IDd × Nat))
  | 0, _, _, _ => .error (6, 0)
  | f + 1, i, e, rf => match refS ts i e rf with
    | .error x => .error x
    | .ok (i, e, rf) => if kindAt ts i = 9 then refsS ts f (i + 1) e rf else .ok (i, e, rf)
noncomputable def listS (ts : List Tok) (i : Nat) (e : EntD) (rf : List (IDd × Nat)) : Except Flt (Nat × EntD × List (IDd × Nat)) :=
  match takeS ts i 6 with
  | .error x => .error x
  | .ok (_, i) => match (if kindAt ts i = 7 then .ok (i, e, rf) else refsS ts ts.length i e rf : Except Flt (Nat × EntD × List (IDd × Nat))) with
    | .error x => .error x
    | .ok (i, e, rf) => match takeS ts i 7 with
      | .error x => .error x
      | .ok (_, i) => .ok (i, e, rf)
def valueS (ts : List Tok) (i : Nat) (e : EntD) (name : ByteArray) : Except Flt (Nat × EntD) :=
  match takeS ts i (if kindAt ts i = 3 then 3 else 2) with
  | .error x => .error x
  | .ok (t, j) => .ok (j, { e with attrs := insA e.attrs ⟨name, ⟨name, decide (kindAt ts i = 3), t.text, t.value⟩⟩ })
open Classical in
noncomputable def nameS (e : EntD) (name : ByteArray) : Int :=
  if name ≠ wAfter ∧ e.attrs.length = 6 then 7 else if (name = wAfter ∧ e.hasAfter = true) ∨ HasK RowA.key e.attrs name then 8 else 0
open Classical in
noncomputable def lineS (ts : List Tok) (i : Nat) (e : EntD) (rf : List (IDd × Nat)) : Except Flt (Nat × EntD × List (IDd × Nat)) :=
  match takeS ts i 1 with
  | .error x => .error x
  | .ok (n, i) => if nameS e n.text ≠ 0 then .error (nameS e n.text, n.place) else match takeS ts i 8 with
    | .error x => .error x
    | .ok (_, i) => if n.text = wAfter then listS ts i { e with hasAfter := true } rf else match valueS ts i e n.text with
      | .error x => .error x
      | .ok (i, e) => .ok (i, e, rf)
noncomputable def linesS (ts : List Tok) : Nat → Nat → EntD → List (IDd × Nat) → Except Flt (Nat × EntD × List (IDd × Nat))
  | 0, _, _, _ => .error (6, 0)
  | f + 1, i, e, rf => if kindAt ts i = 5 then .ok (i, e, rf) else match lineS ts i e rf with
    | .error x => .error x
    | .ok (i, e, rf) => linesS ts f i e rf
open Classical in
noncomputable def headS (ts : List Tok) (i : Nat) (es : List EntD) : Except Flt (Nat × EntD) :=
  match takeS ts i 1 with
  | .error x => .error x
  | .ok (b, i) => if b.text ≠ wRes then .error (6, b.place) else if es.length = 12 then .error (7, b.place) else match takeS ts i 1 with
    | .error x => .error x
    | .ok (k, i) => match takeS ts i 1 with
      | .error x => .error x
      | .ok (n, i) => if (⟨k.text, n.text⟩ : IDd) ∈ es.map EntD.id then .error (8, k.place) else .ok (i, ⟨⟨k.text, n.text⟩, k.place, [], false, []⟩)
noncomputable def resS (ts : List Tok) (i : Nat) (es : List EntD) (rf : List (IDd × Nat)) : Except Flt (Nat × List EntD × List (IDd × Nat)) :=
  match headS ts i es with
  | .error x => .error x
  | .ok (i, e) => match takeS ts i 4 with
    | .error x => .error x
    | .ok (_, i) => match linesS ts ts.length i e rf with
      | .error x => .error x
      | .ok (i, e, rf) => match takeS ts i 5 with
        | .error x => .error x
        | .ok (_, i) => .ok (i, es ++ [e], rf)
noncomputable def textS (ts : List Tok) : Nat → Nat → List EntD → List (IDd × Nat) → Except Flt (List EntD × List (IDd × Nat))
  | 0, _, _, _ => .error (6, 0)
  | f + 1, i, es, rf => if kindAt ts i = 11 then .ok (es, rf) else match resS ts i es rf with
    | .error x => .error x
    | .ok (i, es, rf) => textS ts f i es rf
end Go.Proofs.YtfmcgdglalljgaaGreatDoor

namespace Go.Proofs.YtfmcgdglalljgaaGreatDoor
open Go.RowKit

set_option maxRecDepth 100000 in
set_option maxHeartbeats 800000 in
theorem faultIs (en : Int) (p : Nat) (w : World) :
    Calls Tryz.prog 39 #[.agg #[.int .i64 en, .int .i64 p]] w fun e w' => e = .returned (.bool (en != 0)) ∧ w' = w.alloc (.cells #[.int .i64 en, .int .i64 p] 88) := by
  go_enter Tryz.func39, Tryz.ntmps39
  go_wp2_with fail
  go_ret
  exact ⟨rfl, rfl⟩

theorem five_cells {w : World} {k : Nat} {a b c d e : Value} {t : TypeId} {fz : Nat × Nat} (hk : w.heap[k]? = some (.cells #[a, b, c, d, e] t fz)) :
    w.cell? ⟨k, 0, none⟩ = some a ∧ w.cell? ⟨k, 1, none⟩ = some b ∧ w.cell? ⟨k, 2, none⟩ = some c ∧ w.cell? ⟨k, 3, none⟩ = some d ∧ w.cell? ⟨k, 4, none⟩ = some e := by
  refine ⟨?_, ?_, ?_, ?_, ?_⟩ <;> simp [World.cell?, hk]
theorem set_at {w : World} {k i : Nat} {a c d e : Value} {t : TypeId} {fz : Nat × Nat} (hk : w.heap[k]? = some (.cells #[a, .int .i64 i, c, d, e] t fz)) : Hid ((w.setCell ⟨k, 1, none⟩ (.int .i64 ((i + 1 : Nat) : Int))).heap[k]? = some (.cells #[a, .int .i64 ((i + 1 : Nat) : Int), c, d, e] t fz)) := by
  show _ = _
  rw [row_set hk]; rfl
/-- The tokens as cells. -/
theorem toks_in {B : Nat} {w : World} {v : Value} {ts : List Tok} (h : w.ownsRow B 120 4 v ts.length (cellsT ts)) {i : Nat} {t : Tok} (ht : ts[i]? = some t) :
    ∃ g cap, v = .slice (some ⟨g, 0, none⟩) ts.length cap ∧ g < w.heap.size ∧ w.cell? ⟨g, i * 4, none⟩ = some (.int .i64 t.kind) ∧ w.cell? ⟨g, i * 4 + 1, none⟩ = some (.int .i64 t.place) ∧ w.cell? ⟨g, i * 4 + 2, none⟩ = some (.string t.text) ∧ w.cell? ⟨g, i * 4 + 3, none⟩ = some (.int .i64 t.value) := by
  have hlt := (List.getElem?_eq_some_iff.1 ht).1
  rcases h.2 with ⟨_, h0⟩ | ⟨g, cap, cur, rfl, _, hg, hc, hm, hs, htk⟩
  · omega
  · have key : ∀ r, r < 4 → w.cell? ⟨g, i * 4 + r, none⟩ = (cTk t)[r]? := by
      intro r hr
      have h1 : (cellsT ts)[i * 4 + r]? = (cTk t)[r]? := flat_get cTk_len ht hr
      rw [← h1, ← htk, List.getElem?_take, if_pos (by omega)]
      simp [World.cell?, hg]
    exact ⟨g, cap, rfl, (Array.getElem?_eq_some_iff.1 hg).1, key 0 (by omega), key 1 (by omega), key 2 (by omega), key 3 (by omega)⟩

set_option maxRecDepth 100000 in
set_option maxHeartbeats 1600000 in
theorem peekP {B : Nat} {w : World} {P tE : Nat} {vT vE vO vR : Value} {ts : List Tok} {i : Nat} {rs : List RowE} {bs : List Nat} {refs : List (IDd × Nat)} (h : ParIn B w P tE vT vE vO vR ts i rs bs refs) {t : Tok} (ht : ts[i]? = some t) :
    Calls Tryz.prog 69 #[.pointer (some ⟨P, 0, none⟩)] w fun e w' => e = .returned (.int .i64 t.kind) ∧ Hid (Ext w w') := by
  obtain ⟨c0, c1, c2, c3, c4⟩ := five_cells h.box
  obtain ⟨g, cap, rfl, hg, k0, k1, k2, k3⟩ := toks_in h.toks ht
  have hi := (List.getElem?_eq_some_iff.1 ht).1
  have j1 : (i : Int) < (ts.length : Int) := by omega
  have j2 : (0 : Int) ≤ (i : Int) := by omega
  replace h := hide h; replace ht := hide ht; replace hg := hide hg
  go_enter Tryz.func69, Tryz.ntmps69
  go_wp2_with fail
  go_quiet (fail)
  go_wp2_with fail
  go_ret
  exact ⟨rfl, (Ext.refl w).drewN _⟩

theorem Wr.setNew {D : Nat → TypeId → Prop} {w w1 : World} (h : Wr D w w1) {p : Addr} (hp : w.heap.size ≤ p.block) (u : Value) : Wr D w (w1.setCell p u) :=
  ⟨h.os, h.tape, h.output, by simpa [World.setCell] using h.size, fun k hk hn => by rw [Below.heap_setCell _ _ _ _ (by omega)]; exact h.heap k hk hn⟩
theorem Wr.setOld {D : Nat → TypeId → Prop} {w w1 : World} (h : Wr D w w1) {p : Addr} {c : Array Value} {t : TypeId} {fz : Nat × Nat} (hp : w.heap[p.block]? = some (.cells c t fz)) (hd : D p.block t) (u : Value) : Wr D w (w1.setCell p u) :=
  ⟨h.os, h.tape, h.output, by simpa [World.setCell] using h.size, fun k hk hn => by
    by_cases he : k = p.block
    · subst he; exact absurd hd (hn _ _ _ hp)
    · rw [Below.heap_setCell _ _ _ _ he]; exact h.heap k hk hn⟩
/-- Only the parser's box. -/
def OnP (P : Nat) (j : Nat) (t : TypeId) : Prop := j = P ∧ t = 130
theorem onP_no {P g : Nat} {t : TypeId} (h : t ≠ 130) : ¬ OnP P g t := fun hd => h hd.2
theorem ParIn.took {B : Nat} {w w' : World} {P tE : Nat} {vT vE vO vR : Value} {ts : List Tok} {i : Nat} {rs : List RowE} {bs : List Nat} {refs : List (IDd × Nat)} (h : ParIn B w P tE vT vE vO vR ts i rs bs refs) {i' : Nat} (k : Wr (OnP P) w w') (hb : w'.heap[P]? = some (.cells #[vT, .int .i64 i', .pointer (some ⟨tE, 0, none⟩), vO, vR] 130 (0, 0))) : ParIn B w' P tE vT vE vO vR ts i' rs bs refs :=
  ⟨h.base, hb, ownsRow_wr h.toks k fun _ _ _ => onP_no (by decide),
    ⟨k.keeps h.ents.at_ (onP_no (by decide)), ownsRow_wr h.ents.rows k fun _ _ _ => onP_no (by decide), h.ents.up, h.ents.few, h.ents.base⟩,
    ownsRow_wr h.order k fun _ _ _ => onP_no (by decide), ownsRow_wr h.refs k fun _ _ _ => onP_no (by decide)⟩
theorem six_sets (x : World) {P O1 O2 : Nat} (h1 : P ≠ O1) (h2 : P ≠ O2) (a b c d e f : Value) :
    (((((((x.setCell ⟨O1, 0, none⟩ a).setCell ⟨O1, 1, none⟩ b).setCell ⟨O1, 2, none⟩ c).setCell ⟨O1, 3, none⟩ d).setCell ⟨O2, 0, none⟩ e).setCell ⟨O2, 1, none⟩ f).drew).heap[P]? = x.heap[P]? := by
  have hd : ∀ y : World, y.drew.heap = y.heap := fun _ => rfl
  rw [hd]
  rw [Below.heap_setCell _ ⟨O2, 1, none⟩ _ _ h2, Below.heap_setCell _ ⟨O2, 0, none⟩ _ _ h2, Below.heap_setCell _ ⟨O1, 3, none⟩ _ _ h1, Below.heap_setCell _ ⟨O1, 2, none⟩ _ _ h1, Below.heap_setCell _ ⟨O1, 1, none⟩ _ _ h1, Below.heap_setCell _ ⟨O1, 0, none⟩ _ _ h1]
/-- The taking of a token. -/
def TakeIs (B : Nat) (w : World) (P tE : Nat) (vT vE vO vR : Value) (ts : List Tok) (i : Nat) (rs : List RowE) (bs : List Nat) (refs : List (IDd × Nat)) (t : Tok) (k : Nat) (e : Ending) (w' : World) : Prop :=
  (t.kind ≠ k ∧ e = .returned (.tuple #[.agg #[.int .i64 0, .int .i64 0, .string ⟨#[]⟩, .int .i64 0], .agg #[.int .i64 6, .int .i64 t.place]]) ∧ Hid (Ext w w')) ∨
  (t.kind = k ∧ e = .returned (.tuple #[.agg #[.int .i64 t.kind, .int .i64 t.place, .string t.text, .int .i64 t.value], .agg #[.int .i64 0, .int .i64 0]]) ∧ Hid (ParIn B w' P tE vT vE vO vR ts (i + 1) rs bs refs) ∧ Hid (Wr (OnP P) w w'))

set_option maxRecDepth 100000 in
set_option maxHeartbeats 1600000 in
theorem takeP {B : Nat} {w : World} {P tE : Nat} {vT vE vO vR : Value} {ts : List Tok} {i : Nat} {rs : List RowE} {bs : List Nat} {refs : List (IDd × Nat)} (h : ParIn B w P tE vT vE vO vR ts i rs bs refs) {t : Tok} (ht : ts[i]? = some t) (hn : ts.length ≤ 1000000) (k : Nat) :
    Calls Tryz.prog 105 #[.pointer (some ⟨P, 0, none⟩), .int .i64 k] w (TakeIs B w P tE vT vE vO vR ts i rs bs refs t k) := by
  obtain ⟨c0, c1, c2, c3, c4⟩ := five_cells h.box
  obtain ⟨g, cap, rfl, hg, k0, k1, k2, k3⟩ := toks_in h.toks ht
  have hi := (List.getElem?_eq_some_iff.1 ht).1
  have j1 : (i : Int) < (ts.length : Int) := by omega
  have j2 : (0 : Int) ≤ (i : Int) := by omega
  replace h := hide h; replace ht := hide ht; replace hg := hide hg
  have mk : Hid (∀ w', Ext w w' → w'.cell? ⟨P, 0, none⟩ = some (.slice (some ⟨g, 0, none⟩) ts.length cap) ∧ w'.cell? ⟨P, 1, none⟩ = some (.int .i64 i) ∧ w'.cell? ⟨g, i * 4, none⟩ = some (.int .i64 t.kind) ∧ w'.cell? ⟨g, i * 4 + 1, none⟩ = some (.int .i64 t.place) ∧ w'.cell? ⟨g, i * 4 + 2, none⟩ = some (.string t.text) ∧ w'.cell? ⟨g, i * 4 + 3, none⟩ = some (.int .i64 t.value)) :=
    fun w' e => ⟨e.cells c0, e.cells c1, e.cells k0, e.cells k1, e.cells k2, e.cells k3⟩
  have X2 := ((Ext.refl w).alloc (.cells #[.int .i64 0, .int .i64 0, .string ⟨#[]⟩, .int .i64 0] 120)).alloc (.cells #[.int .i64 0, .int .i64 0] 88)
  have X3 := X2.alloc (.cells #[.int .i64 0, .int .i64 0, .string ⟨#[]⟩, .int .i64 0] 120)
  obtain ⟨a0, a1, a2, a3, a4, a5⟩ := mk.out _ X2
  obtain ⟨b0, b1, b2, b3, b4, b5⟩ := mk.out _ X3
  clear c0 c1 c2 c3 c4 k0 k1 k2 k3
  replace X2 := hide X2; replace X3 := hide X3
  have XZ : Ext w ((((w.alloc (.cells #[.int .i64 0, .int .i64 0, .string ⟨#[]⟩, .int .i64 0] 120)).alloc (.cells #[.int .i64 0, .int .i64 0] 88)).alloc (.cells #[.int .i64 t.kind, .int .i64 t.place, .string t.text, .int .i64 t.value] 120)).drew) := (X2.out.alloc _).drew
  have hZ := ext_heap XZ h.out.box
  obtain ⟨d0, d1, d2, d3, d4⟩ := five_cells hZ
  have fZ := row_frozen hZ
  have hZ' := set_at hZ (i := i)
  clear d2 d3 d4
  replace XZ := hide XZ; replace hZ := hide hZ
  have E1 := hide (ext_heap (((Ext.refl _).alloc (.cells #[.int .i64 0, .int .i64 0] 88)).alloc (.cells #[.int .i64 t.kind, .int .i64 t.place, .string t.text, .int .i64 t.value] 120)) (heap_alloc_new w (.cells #[.int .i64 0, .int .i64 0, .string ⟨#[]⟩, .int .i64 0] 120)))
  have E2 := hide (ext_heap ((Ext.refl _).alloc (.cells #[.int .i64 t.kind, .int .i64 t.place, .string t.text, .int .i64 t.value] 120)) (two_hi w (.cells #[.int .i64 0, .int .i64 0, .string ⟨#[]⟩, .int .i64 0] 120) (.cells #[.int .i64 0, .int .i64 0] 88)))
  have hPs := (Array.getElem?_eq_some_iff.1 h.out.box).1
  have n0 : ¬ P = w.heap.size := by omega
  have n1 : ¬ P = w.heap.size + 1 := by omega
  have n2 : ¬ P = w.heap.size + 1 + 1 := by omega
  have m0 : ¬ w.heap.size = P := by omega
  have m1 : ¬ w.heap.size + 1 = P := by omega
  have m2 : ¬ w.heap.size + 1 + 1 = P := by omega
  replace hPs := hide hPs
  go_enter Tryz.func105, Tryz.ntmps105
  go_wp2_with fail
  by_cases hk : t.kind = k
  · have hk1 : (((t.kind : Int) == (k : Int)) = true) := by simp [hk]
    have hk2 : (((t.kind : Int) != (k : Int)) = false) := by simp [hk]
    replace hk := hide hk
    go_region_with (fail)
    all_goals clear a0 a1 a2 a3 a4 a5 b0 b1 b2 b3 b4 b5
    all_goals go_wp2_with fail
    all_goals
      have x1 := (Below.heap_setCell _ ⟨P, 1, none⟩ (.int .i64 (i + 1)) _ m0).trans E1.out
      have x2 := (Below.heap_setCell _ ⟨P, 1, none⟩ (.int .i64 (i + 1)) _ m1).trans E2.out
      have W0 : Wr (OnP P) w _ := (Wr.ext (X2.out.alloc (.cells #[.int .i64 t.kind, .int .i64 t.place, .string t.text, .int .i64 t.value] 120))).setOld (p := ⟨P, 1, none⟩) h.out.box ⟨rfl, rfl⟩ (.int .i64 (i + 1))
      have hZ2 := hZ'.out
      rw [show ((i + 1 : Nat) : Int) = (i : Int) + 1 from rfl] at hZ2
      change (World.setCell (World.alloc _ _) _ _).heap[P]? = _ at hZ2
      generalize World.setCell (World.alloc _ _) ⟨P, 1, none⟩ (.int .i64 ((i : Int) + 1)) = x at *
      obtain ⟨o0, o1, o2, o3⟩ := four_cells x1
      have p0 := cell_of x2 0; have p1 := cell_of x2 1
      simp only [List.getElem?_toArray, List.getElem?_cons_zero, List.getElem?_cons_succ] at p0 p1
      refine bodyPost_ret (v := .tuple #[.agg #[.int .i64 t.kind, .int .i64 t.place, .string t.text, .int .i64 t.value], .agg #[.int .i64 0, .int .i64 0]]) (by simp [results, Tryz.results105, go_sem, o0, o1, o2, o3, p0, p1]) rfl ?_
      have W1 := (((((W0.setNew (p := ⟨w.heap.size, 0, none⟩) (Nat.le_refl _) (.int .i64 t.kind)).setNew (p := ⟨w.heap.size, 1, none⟩) (Nat.le_refl _) (.int .i64 t.place)).setNew (p := ⟨w.heap.size, 2, none⟩) (Nat.le_refl _) (.string t.text)).setNew (p := ⟨w.heap.size, 3, none⟩) (Nat.le_refl _) (.int .i64 t.value)).setNew (p := ⟨w.heap.size + 1, 0, none⟩) (Nat.le_succ _) (.int .i64 0)).setNew (p := ⟨w.heap.size + 1, 1, none⟩) (Nat.le_succ _) (.int .i64 0)
      have W2 := W1.trans (Wr.ext (Ext.refl _).drew)
      exact .inr ⟨hk.out, rfl, h.out.took (i' := i + 1) W2 ((six_sets x n0 n1 _ _ _ _ _ _).trans hZ2), W2⟩
  · have hk1 : (((t.kind : Int) == (k : Int)) = false) := by simp; omega
    have hk2 : (((t.kind : Int) != (k : Int)) = true) := by simp; omega
    replace hk := hide hk
    go_region_with (fail)
    all_goals clear a0 a1 a2 a3 a4 a5 b0 b1 b2 b3 b4 b5
    all_goals go_wp2_with fail
    all_goals go_region_with (fail)
    all_goals go_wp2_with fail
    all_goals
      refine bodyPost_ret (v := .tuple #[.agg #[.int .i64 0, .int .i64 0, .string ⟨#[]⟩, .int .i64 0], .agg #[.int .i64 6, .int .i64 t.place]]) (by simp [results, Tryz.results105, go_sem]) rfl ?_
      exact .inl ⟨hk.out, rfl, ((((Ext.refl w).alloc _).alloc _).alloc _).drew.drew⟩
end Go.Proofs.YtfmcgdglalljgaaGreatDoor

namespace Go.Proofs.YtfmcgdglalljgaaGreatDoor
open Go.RowKit

theorem takeYes {B : Nat} {w : World} {P tE : Nat} {vT vE vO vR : Value} {ts : List Tok} {i : Nat} {rs : List RowE} {bs : List Nat} {refs : List (IDd × Nat)} (h : ParIn B w P tE vT vE vO vR ts i rs bs refs) {t : Tok} (ht : ts[i]? = some t) (hn : ts.length ≤ 1000000) {k : Nat} (hk : t.kind = k) :
    Calls Tryz.prog 105 #[.pointer (some ⟨P, 0, none⟩), .int .i64 k] w fun e w' => e = .returned (.tuple #[.agg #[.int .i64 t.kind, .int .i64 t.place, .string t.text, .int .i64 t.value], .agg #[.int .i64 0, .int .i64 0]]) ∧ Hid (ParIn B w' P tE vT vE vO vR ts (i + 1) rs bs refs) ∧ Hid (Wr (OnP P) w w') :=
  (takeP h ht hn k).mono fun _ _ hh => hh.elim (fun h1 => absurd hk h1.1) (fun h1 => h1.2)
theorem takeNot {B : Nat} {w : World} {P tE : Nat} {vT vE vO vR : Value} {ts : List Tok} {i : Nat} {rs : List RowE} {bs : List Nat} {refs : List (IDd × Nat)} (h : ParIn B w P tE vT vE vO vR ts i rs bs refs) {t : Tok} (ht : ts[i]? = some t) (hn : ts.length ≤ 1000000) {k : Nat} (hk : t.kind ≠ k) :
    Calls Tryz.prog 105 #[.pointer (some ⟨P, 0, none⟩), .int .i64 k] w fun e w' => e = .returned (.tuple #[.agg #[.int .i64 0, .int .i64 0, .string ⟨#[]⟩, .int .i64 0], .agg #[.int .i64 6, .int .i64 t.place]]) ∧ Hid (Ext w w') :=
  (takeP h ht hn k).mono fun _ _ hh => hh.elim (fun h1 => h1.2) (fun h1 => absurd h1.1 hk)

theorem ParIn.ext {B : Nat} {w w' : World} {P tE : Nat} {vT vE vO vR : Value} {ts : List Tok} {i : Nat} {rs : List RowE} {bs : List Nat} {refs : List (IDd × Nat)} (h : ParIn B w P tE vT vE vO vR ts i rs bs refs) (e : Ext w w') : ParIn B w' P tE vT vE vO vR ts i rs bs refs :=
  h.wr (D := fun _ _ => False) (Wr.ext e) fun _ _ _ _ _ => id
theorem EntAt.ext {B : Nat} {w w' : World} {b : Nat} {e : EntD} (h : EntAt B w b e) (x : Ext w w') : EntAt B w' b e :=
  h.wr (D := fun _ _ => False) (Wr.ext x) fun _ _ _ _ _ => id
/-- What the reading within an entry may change. -/
def ChgE (B Be k : Nat) (t : TypeId) : Prop := (B ≤ k ∧ (t = 130 ∨ t = 133)) ∨ (Be ≤ k ∧ TyE t)
theorem onP_chg {B Be P k : Nat} {t : TypeId} (h : B ≤ P) (hd : OnP P k t) : ChgE B Be k t := .inl ⟨hd.1 ▸ h, .inl hd.2⟩
theorem two_sets {w : World} {k : Nat} {a b : Value} {t : TypeId} {fz : Nat × Nat} (hk : w.heap[k]? = some (.cells #[a, b] t fz)) (x y : Value) : ((w.setCell ⟨k, 0, none⟩ x).setCell ⟨k, 1, none⟩ y).heap[k]? = some (.cells #[x, y] t fz) := by
  rw [row_set (row_set hk 0 x) 1 y]; rfl
/-- The parser and the entry that is being read. -/
structure Fits (B Be : Nat) (w : World) (P b : Nat) (ts : List Tok) (i : Nat) (rs : List RowE) (bs : List Nat) (rf : List (IDd × Nat)) (e : EntD) : Prop where
  par : ∃ tE vT vE vO vR, ParIn B w P tE vT vE vO vR ts i rs bs rf
  ent : EntAt Be w b e
  base : B ≤ Be
  size : Be ≤ w.heap.size
  refsFew : rf.length ≤ i
  afterFew : e.after.length ≤ 6
  attrsFew : e.attrs.length ≤ 6
/-- What a reading within an entry answers. -/
def ReadIs (B Be : Nat) (w : World) (P b : Nat) (ts : List Tok) (rs : List RowE) (bs : List Nat) (r : Except Flt (Nat × EntD × List (IDd × Nat))) (e : Ending) (w' : World) : Prop :=
  Hid (Wr (ChgE B Be) w w') ∧ ((∃ en pl, Hid (r = .error (en, pl)) ∧ en ≠ 0 ∧ e = .returned (.agg #[.int .i64 en, .int .i64 pl])) ∨
    ∃ i' e' rf', Hid (r = .ok (i', e', rf')) ∧ e = .returned (.agg #[.int .i64 0, .int .i64 0]) ∧ Hid (Fits B Be w' P b ts i' rs bs rf' e'))

set_option maxRecDepth 100000 in
set_option maxHeartbeats 3200000 in
theorem readRefNo1 {B Be : Nat} {w : World} {P b : Nat} {ts : List Tok} {i : Nat} {rs : List RowE} {bs : List Nat} {rf : List (IDd × Nat)} {e : EntD} (h : Fits B Be w P b ts i rs bs rf e) (hn : ts.length ≤ 1000000) {t0 : Tok} (h0 : ts[i]? = some t0) (k0 : t0.kind ≠ 1) :
    Calls Tryz.prog 170 #[.pointer (some ⟨P, 0, none⟩), .pointer (some ⟨b, 0, none⟩)] w (ReadIs B Be w P b ts rs bs (refS ts i e rf)) := by
  obtain ⟨tE, vT, vE, vO, vR, hp⟩ := h.par
  replace hp := hide hp; replace h := hide h
  · have hfin : Hid (refS ts i e rf = .error (6, t0.place)) := by
      show _ = _
      unfold refS; rw [take_no h0 k0]
    have ht := hide (takeNot (hp.out.ext ((Ext.refl w).alloc (.cells #[.int .i64 0, .int .i64 0] 88))) h0 hn k0)
    replace h0 := hide h0; replace k0 := hide k0
    go_enter Tryz.func170, Tryz.ntmps170
    go_wp2_with (first
      | (go_at_call 105; refine ht.out.mono ?_; rintro e1 w1 ⟨rfl, he1⟩; go_must (have hO := ext_heap he1.out (heap_alloc_new w (.cells #[.int .i64 0, .int .i64 0] 88)); have o0 := two_c0 hO; have o1 := two_c1 hO; have fO := row_frozen hO; replace hO := hide hO))
      | (go_at_call 39; refine (faultIs _ _ _).mono ?_; rintro e2 w2 ⟨rfl, hw2⟩; go_must (have X2 : Hid (Ext w1 w2) := (by show Ext _ _; rw [hw2]; exact (((Ext.refl w1).alloc _).alloc _).alloc _); have G2 := (hw2 ▸ ext_heap ((Ext.refl _).alloc (.cells #[.int .i64 6, .int .i64 t0.place] 88)) (two_hi w1 (.cells #[.int .i64 0, .int .i64 0, .string ⟨#[]⟩, .int .i64 0] 120) (.cells #[.int .i64 6, .int .i64 t0.place] 88)) : w2.heap[w1.heap.size + 1]? = some (.cells #[.int .i64 6, .int .i64 t0.place] 88)); clear hw2; have hO2 := ext_heap X2.out hO.out; have q0 := two_c0 hO2; have q1 := two_c1 hO2; have fq := row_frozen hO2; have g0 := two_c0 G2; have g1 := two_c1 G2; replace G2 := hide G2; replace hO2 := hide hO2)))
    refine bodyPost_ret (v := .agg #[.int .i64 6, .int .i64 t0.place]) (by simp [results, Tryz.results170, go_sem, q0, q1]) rfl ?_
    have X : Ext w w2 := ((Ext.refl w).alloc _).trans (he1.out.trans X2.out)
    exact ⟨Wr.ext ((X.setCell (p := ⟨w.heap.size, 0, none⟩) (Nat.le_refl _) _).setCell (p := ⟨w.heap.size, 1, none⟩) (Nat.le_refl _) _), .inl ⟨6, t0.place, hfin, by decide, rfl⟩⟩

set_option maxRecDepth 100000 in
set_option maxHeartbeats 3200000 in
theorem readRefNo2 {B Be : Nat} {w : World} {P b : Nat} {ts : List Tok} {i : Nat} {rs : List RowE} {bs : List Nat} {rf : List (IDd × Nat)} {e : EntD} (h : Fits B Be w P b ts i rs bs rf e) (hn : ts.length ≤ 1000000) {t0 t1 : Tok} (h0 : ts[i]? = some t0) (k0 : t0.kind = 1) (h1 : ts[i + 1]? = some t1) (k1 : t1.kind ≠ 10) :
    Calls Tryz.prog 170 #[.pointer (some ⟨P, 0, none⟩), .pointer (some ⟨b, 0, none⟩)] w (ReadIs B Be w P b ts rs bs (refS ts i e rf)) := by
  obtain ⟨tE, vT, vE, vO, vR, hp⟩ := h.par
  have hfin : Hid (refS ts i e rf = .error (6, t1.place)) := by
    show _ = _
    unfold refS; rw [take_ok h0 k0]; dsimp only; rw [take_no h1 k1]
  have hPB := hide hp.base
  have ht := hide (takeYes (hp.ext ((Ext.refl w).alloc (.cells #[.int .i64 0, .int .i64 0] 88))) h0 hn k0)
  replace hp := hide hp; replace h := hide h
  replace h0 := hide h0; replace k0 := hide k0; replace h1 := hide h1; replace k1 := hide k1
  go_enter Tryz.func170, Tryz.ntmps170
  go_wp2_with (first
    | (go_at_call 105; refine (takeNot hp2.out h1.out hn k1.out).mono ?_; rintro e3 w3 ⟨rfl, he3⟩; go_must (have hO3 := ext_heap he3.out hO2.out; replace hO3 := hide hO3))
    | (go_at_call 105; refine ht.out.mono ?_; rintro e1 w1 ⟨rfl, hp1, hW1⟩; go_must (have hO := hide (Wr.keeps hW1.out (heap_alloc_new w (.cells #[.int .i64 0, .int .i64 0] 88)) (onP_no (by decide)))))
    | (go_at_call 39; have X3 := he3; refine (faultIs _ _ _).mono ?_; rintro e4 w4 ⟨rfl, hw4⟩; go_must (have X4 : Hid (Ext w3 w4) := (by show Ext _ _; rw [hw4]; exact (((Ext.refl w3).alloc _).alloc _).alloc _); have G4 := (hw4 ▸ ext_heap ((Ext.refl _).alloc (.cells #[.int .i64 6, .int .i64 t1.place] 88)) (two_hi w3 (.cells #[.int .i64 0, .int .i64 0, .string ⟨#[]⟩, .int .i64 0] 120) (.cells #[.int .i64 6, .int .i64 t1.place] 88)) : w4.heap[w3.heap.size + 1]? = some (.cells #[.int .i64 6, .int .i64 t1.place] 88)); clear hw4; have hO4 := ext_heap X4.out hO3.out; have q0 := two_c0 hO4; have q1 := two_c1 hO4; have fq := row_frozen hO4; have g0 := two_c0 G4; have g1 := two_c1 G4; replace G4 := hide G4; replace hO4 := hide hO4))
    | (go_at_call 39; refine (faultIs _ _ _).mono ?_; rintro e2 w2 ⟨rfl, hw2⟩; go_must (have X2 : Hid (Ext w1 w2) := (by show Ext _ _; rw [hw2]; exact (((Ext.refl w1).alloc _).alloc _).alloc _); clear hw2; have hO2 := hide (ext_heap X2.out hO.out); have hp2 := hide (hp1.out.ext X2.out))))
  refine bodyPost_ret (v := .agg #[.int .i64 6, .int .i64 t1.place]) (by simp [results, Tryz.results170, go_sem, q0, q1]) rfl ?_
  have W : Wr (ChgE B Be) w w4 := (Wr.ext ((Ext.refl w).alloc _)).trans ((hW1.out.mono fun _ _ _ hd => onP_chg hPB.out hd).trans (Wr.ext (X2.out.trans (he3.out.trans X4.out))))
  exact ⟨(W.setNew (p := ⟨w.heap.size, 0, none⟩) (Nat.le_refl _) _).setNew (p := ⟨w.heap.size, 1, none⟩) (Nat.le_refl _) _, .inl ⟨6, t1.place, hfin, by decide, rfl⟩⟩

set_option maxRecDepth 100000 in
set_option maxHeartbeats 3200000 in
theorem readRefNo3 {B Be : Nat} {w : World} {P b : Nat} {ts : List Tok} {i : Nat} {rs : List RowE} {bs : List Nat} {rf : List (IDd × Nat)} {e : EntD} (h : Fits B Be w P b ts i rs bs rf e) (hn : ts.length ≤ 1000000) {t0 t1 t2 : Tok} (h0 : ts[i]? = some t0) (k0 : t0.kind = 1) (h1 : ts[i + 1]? = some t1) (k1 : t1.kind = 10) (h2 : ts[i + 1 + 1]? = some t2) (k2 : t2.kind ≠ 1) :
    Calls Tryz.prog 170 #[.pointer (some ⟨P, 0, none⟩), .pointer (some ⟨b, 0, none⟩)] w (ReadIs B Be w P b ts rs bs (refS ts i e rf)) := by
  obtain ⟨tE, vT, vE, vO, vR, hp⟩ := h.par
  have hfin : Hid (refS ts i e rf = .error (6, t2.place)) := by
    show _ = _
    unfold refS; rw [take_ok h0 k0]; dsimp only; rw [take_ok h1 k1]; dsimp only; rw [take_no h2 k2]
  have hPB := hide hp.base
  have ht := hide (takeYes (hp.ext ((Ext.refl w).alloc (.cells #[.int .i64 0, .int .i64 0] 88))) h0 hn k0)
  replace hp := hide hp; replace h := hide h
  replace h0 := hide h0; replace k0 := hide k0; replace h1 := hide h1; replace k1 := hide k1; replace h2 := hide h2; replace k2 := hide k2
  go_enter Tryz.func170, Tryz.ntmps170
  go_wp2_with (first
    | (go_at_call 105; refine (takeNot hp4.out h2.out hn k2.out).mono ?_; rintro e5 w5 ⟨rfl, he5⟩; go_must (have hO5 := hide (ext_heap he5.out hO4.out); have F5 := ext_heap ((Ext.refl w5).alloc (.cells #[.int .i64 0, .int .i64 0, .string ⟨#[]⟩, .int .i64 0] 120)) (ext_heap he5.out F4.out); have f0 := two_c0 F5; have f1 := two_c1 F5; have ff := row_frozen F5; replace F5 := hide F5))
    | (go_at_call 105; refine (takeYes hp2.out h1.out hn k1.out).mono ?_; rintro e3 w3 ⟨rfl, hp3, hW3⟩; go_must (have hO3 := hide (Wr.keeps hW3.out hO2.out (onP_no (by decide))); have F3 := hide (Wr.keeps hW3.out F2.out (onP_no (by decide)))))
    | (go_at_call 105; refine ht.out.mono ?_; rintro e1 w1 ⟨rfl, hp1, hW1⟩; go_must (have hO := hide (Wr.keeps hW1.out (heap_alloc_new w (.cells #[.int .i64 0, .int .i64 0] 88)) (onP_no (by decide)))))
    | (go_at_call 39; have X5 := he5; refine (faultIs _ _ _).mono ?_; rintro e6 w6 ⟨rfl, hw6⟩; go_must (have hlt := (Array.getElem?_eq_some_iff.1 hO.out).1; have G6 := (hw6 ▸ ext_heap ((Ext.refl _).alloc _) (two_sets F5.out (.int .i64 6) (.int .i64 t2.place)) : w6.heap[w1.heap.size + 1]? = some (.cells #[.int .i64 6, .int .i64 t2.place] 88)); have hO6 := (hw6 ▸ ext_heap ((Ext.refl _).alloc _) (World.setCell_other_row (World.setCell_other_row (ext_heap ((Ext.refl w5).alloc (.cells #[.int .i64 0, .int .i64 0, .string ⟨#[]⟩, .int .i64 0] 120)) hO5.out) (by omega : w1.heap.size + 1 ≠ w.heap.size) 0 (.int .i64 6)) (by omega : w1.heap.size + 1 ≠ w.heap.size) 1 (.int .i64 t2.place)) : w6.heap[w.heap.size]? = some (.cells #[.int .i64 0, .int .i64 0] 88)); clear f0 f1 ff; have q0 := two_c0 hO6; have q1 := two_c1 hO6; have fq := row_frozen hO6; have g0 := two_c0 G6; have g1 := two_c1 G6; replace G6 := hide G6; replace hO6 := hide hO6; replace hw6 := hide hw6; replace hlt := hide hlt))
    | (go_at_call 39; have X3 := hp3; refine (faultIs _ _ _).mono ?_; rintro e4 w4 ⟨rfl, hw4⟩; go_must (have X4 : Hid (Ext w3 w4) := (by show Ext _ _; rw [hw4]; exact (((Ext.refl w3).alloc _).alloc _).alloc _); clear hw4; have hO4 := hide (ext_heap X4.out hO3.out); have F4 := hide (ext_heap X4.out F3.out); have hp4 := hide (hp3.out.ext X4.out)))
    | (go_at_call 39; refine (faultIs _ _ _).mono ?_; rintro e2 w2 ⟨rfl, hw2⟩; go_must (have X2 : Hid (Ext w1 w2) := (by show Ext _ _; rw [hw2]; exact (((Ext.refl w1).alloc _).alloc _).alloc _); have F2 := (hw2 ▸ ext_heap ((Ext.refl _).alloc (.cells #[.int .i64 0, .int .i64 0] 88)) (two_hi w1 (.cells #[.int .i64 t0.kind, .int .i64 t0.place, .string t0.text, .int .i64 t0.value] 120) (.cells #[.int .i64 0, .int .i64 0] 88)) : w2.heap[w1.heap.size + 1]? = some (.cells #[.int .i64 0, .int .i64 0] 88)); replace F2 := hide F2; clear hw2; have hO2 := hide (ext_heap X2.out hO.out); have hp2 := hide (hp1.out.ext X2.out))))
  refine bodyPost_ret (v := .agg #[.int .i64 6, .int .i64 t2.place]) (by simp [results, Tryz.results170, go_sem, q0, q1]) rfl ?_
  have W4 : Wr (ChgE B Be) w w5 := (Wr.ext ((Ext.refl w).alloc _)).trans ((hW1.out.mono fun _ _ _ hd => onP_chg hPB.out hd).trans ((Wr.ext X2.out).trans ((hW3.out.mono fun _ _ _ hd => onP_chg hPB.out hd).trans (Wr.ext (X4.out.trans he5.out)))))
  have hle : w.heap.size ≤ w1.heap.size + 1 := by have := hlt.out; omega
  have W6 : Wr (ChgE B Be) w w6 := by
    rw [hw6.out]
    exact (((W4.trans (Wr.ext ((Ext.refl _).alloc _))).setNew (p := ⟨w1.heap.size + 1, 0, none⟩) hle _).setNew (p := ⟨w1.heap.size + 1, 1, none⟩) hle _).trans (Wr.ext ((Ext.refl _).alloc _))
  exact ⟨(W6.setNew (p := ⟨w.heap.size, 0, none⟩) (Nat.le_refl _) _).setNew (p := ⟨w.heap.size, 1, none⟩) (Nat.le_refl _) _, .inl ⟨6, t2.place, hfin, by decide, rfl⟩⟩
end Go.Proofs.YtfmcgdglalljgaaGreatDoor
