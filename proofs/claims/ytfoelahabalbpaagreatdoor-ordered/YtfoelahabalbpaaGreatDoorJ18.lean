/-
  The parser in memory: its box, its rows, its entries.
-/
/-
  The plain parser: what is read from a list of tokens, with no memory.
-/
/-
  A row is put into its place among the others (table St).
-/
import Derived.Test.YtfoelahabalbpaaGreatDoorJ13
import Derived.Test.YtfoelahabalbpaaGreatDoorJ15
import Derived.Test.YtfoelahabalbpaaGreatDoorJ16
import Derived.Test.YtfoelahabalbpaaGreatDoorJ17
import Derived.Test.YtfoelahabalbpaaGreatDoorJ1
import Derived.Test.YtfoelahabalbpaaGreatDoorJ14
namespace Go.Proofs.YtfoelahabalbpaaGreatDoor
open Go.RowKit

/-- Only blocks of some places and types are other than they were. -/
structure Wr (D : Nat → TypeId → Prop) (w w' : World) : Prop where
  os : w'.os = w.os
  tape : w'.tape = w.tape
  output : w'.output = w.output
  size : w.heap.size ≤ w'.heap.size
  heap : ∀ k, k < w.heap.size → (∀ c t fz, w.heap[k]? = some (.cells c t fz) → ¬ D k t) → w'.heap[k]? = w.heap[k]?
theorem Wr.refl (D : Nat → TypeId → Prop) (w : World) : Wr D w w := ⟨rfl, rfl, rfl, Nat.le_refl _, fun _ _ _ => rfl⟩
theorem Wr.trans {D : Nat → TypeId → Prop} {a b c : World} (h : Wr D a b) (k : Wr D b c) : Wr D a c :=
  ⟨k.os.trans h.os, k.tape.trans h.tape, k.output.trans h.output, Nat.le_trans h.size k.size, fun j hj hd => by
    have h1 := h.heap j hj hd
    rw [← h1]
    exact k.heap j (Nat.lt_of_lt_of_le hj h.size) (by rw [h1]; exact hd)⟩
theorem Wr.mono {D D' : Nat → TypeId → Prop} {w w' : World} (h : Wr D w w') (hd : ∀ k t, k < w.heap.size → D k t → D' k t) : Wr D' w w' :=
  ⟨h.os, h.tape, h.output, h.size, fun k hk hn => h.heap k hk fun c t fz hc hD => hn c t fz hc (hd k t hk hD)⟩
theorem Wr.ext {D : Nat → TypeId → Prop} {w w' : World} (h : Ext w w') : Wr D w w' := ⟨Below.os h, Below.tape h, Below.output h, Ext.size h, fun k hk _ => Below.block h k hk⟩
theorem Wr.wrote {D : Nat → TypeId → Prop} {B : Nat} {T : TypeId → Prop} {w w' : World} (h : Wrote B T w w') (hd : ∀ k t, k < w.heap.size → B ≤ k → T t → D k t) : Wr D w w' :=
  ⟨h.os, h.tape, h.output, h.size, fun k hk hn => h.heap k hk (by
    by_cases hb : k < B
    · exact .inl hb
    · exact .inr fun c t fz hc hT => hn c t fz hc (hd k t hk (by omega) hT))⟩
theorem Wr.keeps {D : Nat → TypeId → Prop} {w w' : World} (h : Wr D w w') {k : Nat} {c : Array Value} {t : TypeId} {fz : Nat × Nat} (hk : w.heap[k]? = some (.cells c t fz)) (hD : ¬ D k t) : w'.heap[k]? = some (.cells c t fz) := by
  rw [h.heap k (Array.getElem?_eq_some_iff.1 hk).1 (fun c' t' fz' h' => by rw [hk] at h'; cases h'; exact hD)]; exact hk
theorem Wr.toExt {w0 w w' : World} {D : Nat → TypeId → Prop} (h : Ext w0 w) (k : Wr D w w') (hD : ∀ j t, D j t → w0.heap.size ≤ j) : Ext w0 w' :=
  ⟨k.os.trans (Below.os h), k.tape.trans (Below.tape h), k.output.trans (Below.output h), Nat.le_trans (Ext.size h) k.size, fun j hj => by
    rw [k.heap j (Nat.lt_of_lt_of_le hj (Ext.size h)) (fun c t fz _ hd => by have := hD j t hd; omega)]
    exact Below.block h j hj⟩
theorem ownsRow_wr {D : Nat → TypeId → Prop} {w w' : World} {B : Nat} {e : TypeId} {size : Nat} {v : Value} {n : Nat} {xs : List Value} (h : w.ownsRow B e size v n xs) (k : Wr D w w') (hD : ∀ g, B ≤ g → g < w.heap.size → ¬ D g e) : w'.ownsRow B e size v n xs := by
  obtain ⟨h1, h2⟩ := h
  refine ⟨h1, ?_⟩
  rcases h2 with h2 | ⟨g, cap, cur, hv, hg, hh, r⟩
  · exact .inl h2
  · exact .inr ⟨g, cap, cur, hv, hg, k.keeps hh (hD g hg (Array.getElem?_eq_some_iff.1 hh).1), r⟩

/-- An entry: what is known of a resource while it is read. -/
structure EntD where
  id : IDd
  place : Nat
  attrs : List RowA
  hasAfter : Bool
  after : List IDd
/-- The types of the blocks of an entry. -/
def TyE (t : TypeId) : Prop := t = 135 ∨ t = 235 ∨ t = 237 ∨ t = 172 ∨ t = 177
structure EntIn (B : Nat) (w : World) (b tA tI : Nat) (vA vI : Value) (e : EntD) : Prop where
  base : B ≤ b
  box : w.heap[b]? = some (.cells #[.string e.id.kind, .string e.id.name, .int .i64 e.place, .pointer (some ⟨tA, 0, none⟩), .bool e.hasAfter, .pointer (some ⟨tI, 0, none⟩)] 135 (0, 0))
  attrs : TabAtA B w tA vA e.attrs
  after : TabAt B w tI vI e.after
/-- An entry lies in memory. -/
def EntAt (B : Nat) (w : World) (b : Nat) (e : EntD) : Prop := ∃ tA tI vA vI, EntIn B w b tA tI vA vI e
theorem EntAt.wr {D : Nat → TypeId → Prop} {B : Nat} {w w' : World} {b : Nat} {e : EntD} (h : EntAt B w b e) (k : Wr D w w') (hD : ∀ j t, B ≤ j → j < w.heap.size → TyE t → ¬ D j t) : EntAt B w' b e := by
  obtain ⟨tA, tI, vA, vI, h1, h2, h3, h4⟩ := h
  have hs : ∀ {j o}, w.heap[j]? = some o → j < w.heap.size := fun h => (Array.getElem?_eq_some_iff.1 h).1
  exact ⟨tA, tI, vA, vI, h1, k.keeps h2 (hD _ _ h1 (hs h2) (.inl rfl)),
    ⟨k.keeps h3.at_ (hD _ _ h3.base (hs h3.at_) (.inr (.inl rfl))), ownsRow_wr h3.rows k fun g hg hl => hD _ _ hg hl (.inr (.inr (.inl rfl))), h3.up, h3.few, h3.base⟩,
    ⟨k.keeps h4.at_ (hD _ _ h4.base (hs h4.at_) (.inr (.inr (.inr (.inl rfl))))), ownsRow_wr h4.keys k fun g hg hl => hD _ _ hg hl (.inr (.inr (.inr (.inr rfl)))), h4.up, h4.few, h4.base⟩⟩
theorem ownsRow_low' {w : World} {base base' : Nat} {e : TypeId} {size : Nat} {v : Value} {n : Nat} {xs : List Value} (h : w.ownsRow base e size v n xs) (hb : base' ≤ base) : w.ownsRow base' e size v n xs := by
  obtain ⟨h1, h2⟩ := h
  refine ⟨h1, h2.imp id ?_⟩
  rintro ⟨g, cap, cur, hv, hg, r⟩
  exact ⟨g, cap, cur, hv, Nat.le_trans hb hg, r⟩
theorem EntAt.low {B B' : Nat} {w : World} {b : Nat} {e : EntD} (h : EntAt B w b e) (hb : B' ≤ B) : EntAt B' w b e := by
  obtain ⟨tA, tI, vA, vI, h1, h2, h3, h4⟩ := h
  exact ⟨tA, tI, vA, vI, Nat.le_trans hb h1, h2, h3.low hb, ⟨h4.at_, ownsRow_low' h4.keys hb, h4.up, h4.few, Nat.le_trans hb h4.base⟩⟩
/-- What may change while the entries below a mark stay as they are. -/
def Past (M : Nat) (k : Nat) (t : TypeId) : Prop := M ≤ k ∨ ¬ TyE t
/-- An entry that stays as it is. -/
def EntOld (M : Nat) (w : World) (b : Nat) (e : EntD) : Prop := ∀ w', Wr (Past M) w w' → EntAt 0 w' b e
theorem EntAt.old {B : Nat} {w : World} {b : Nat} {e : EntD} (h : EntAt B w b e) : EntOld w.heap.size w b e := fun _ k =>
  (h.low (Nat.zero_le _)).wr k fun _ _ _ hj ht hp => hp.elim (fun h => by omega) (fun h => h ht)
theorem EntOld.wr {M : Nat} {w w' : World} {b : Nat} {e : EntD} (h : EntOld M w b e) (k : Wr (Past M) w w') : EntOld M w' b e := fun w2 k2 => h w2 (k.trans k2)
theorem EntOld.up {M M' : Nat} {w : World} {b : Nat} {e : EntD} (h : EntOld M w b e) (hm : M ≤ M') : EntOld M' w b e := fun w2 k2 => h w2 (k2.mono fun _ _ _ hd => hd.elim (fun h => .inl (by omega)) .inr)
theorem EntOld.now {M : Nat} {w : World} {b : Nat} {e : EntD} (h : EntOld M w b e) : EntAt 0 w b e := h w (Wr.refl _ _)
/-- Entries that stay as they are. -/
def Olds (M : Nat) (w : World) (bs : List Nat) (es : List EntD) : Prop := bs.length = es.length ∧ ∀ (i : Nat) b e, bs[i]? = some b → es[i]? = some e → EntOld M w b e
theorem Olds.wr {M : Nat} {w w' : World} {bs : List Nat} {es : List EntD} (h : Olds M w bs es) (k : Wr (Past M) w w') : Olds M w' bs es := ⟨h.1, fun i b e hb he => (h.2 i b e hb he).wr k⟩
theorem Olds.up {M M' : Nat} {w : World} {bs : List Nat} {es : List EntD} (h : Olds M w bs es) (hm : M ≤ M') : Olds M' w bs es := ⟨h.1, fun i b e hb he => (h.2 i b e hb he).up hm⟩
theorem Olds.snoc {M B : Nat} {w : World} {bs : List Nat} {es : List EntD} {b : Nat} {e : EntD} (h : Olds M w bs es) (hm : M ≤ w.heap.size) (he : EntAt B w b e) : Olds w.heap.size w (bs ++ [b]) (es ++ [e]) := by
  refine ⟨by simp [h.1], fun i x y hx hy => ?_⟩
  by_cases hi : i < bs.length
  · rw [List.getElem?_append_left hi] at hx
    rw [List.getElem?_append_left (by rw [← h.1]; exact hi)] at hy
    exact (h.2 i x y hx hy).up hm
  · rw [List.getElem?_append_right (by omega)] at hx
    rw [List.getElem?_append_right (by rw [← h.1]; omega)] at hy
    have h0 : i - bs.length = 0 := by
      have := (List.getElem?_eq_some_iff.1 hx).1
      simp at this; omega
    rw [h0] at hx
    rw [← h.1, h0] at hy
    simp at hx hy
    subst hx; subst hy
    exact he.old

def cRf (r : IDd × Nat) : List Value := [.string r.1.kind, .string r.1.name, .int .i64 r.2]
def cPt (b : Nat) : List Value := [.pointer (some ⟨b, 0, none⟩)]
structure ParIn (B : Nat) (w : World) (P tE : Nat) (vT vE vO vR : Value) (ts : List Tok) (i : Nat) (rs : List RowE) (bs : List Nat) (refs : List (IDd × Nat)) : Prop where
  base : B ≤ P
  box : w.heap[P]? = some (.cells #[vT, .int .i64 i, .pointer (some ⟨tE, 0, none⟩), vO, vR] 123 (0, 0))
  toks : w.ownsRow B 114 4 vT ts.length (cellsT ts)
  ents : TabAtE B w tE vE rs
  order : w.ownsRow B 119 1 vO bs.length (bs.flatMap cPt)
  refs : w.ownsRow B 126 3 vR refs.length (refs.flatMap cRf)
/-- The types of the blocks of a parser. -/
def TyP (t : TypeId) : Prop := t = 123 ∨ t = 114 ∨ t = 188 ∨ t = 196 ∨ t = 119 ∨ t = 126
theorem ParIn.wr {D : Nat → TypeId → Prop} {B : Nat} {w w' : World} {P tE : Nat} {vT vE vO vR : Value} {ts : List Tok} {i : Nat} {rs : List RowE} {bs : List Nat} {refs : List (IDd × Nat)} (h : ParIn B w P tE vT vE vO vR ts i rs bs refs) (k : Wr D w w') (hD : ∀ j t, B ≤ j → j < w.heap.size → TyP t → ¬ D j t) : ParIn B w' P tE vT vE vO vR ts i rs bs refs := by
  obtain ⟨h1, h2, h3, h4, h5, h6⟩ := h
  have hs : ∀ {j o}, w.heap[j]? = some o → j < w.heap.size := fun h => (Array.getElem?_eq_some_iff.1 h).1
  exact ⟨h1, k.keeps h2 (hD _ _ h1 (hs h2) (.inl rfl)), ownsRow_wr h3 k fun g hg hl => hD _ _ hg hl (.inr (.inl rfl)),
    ⟨k.keeps h4.at_ (hD _ _ h4.base (hs h4.at_) (.inr (.inr (.inl rfl)))), ownsRow_wr h4.rows k fun g hg hl => hD _ _ hg hl (.inr (.inr (.inr (.inl rfl)))), h4.up, h4.few, h4.base⟩,
    ownsRow_wr h5 k fun g hg hl => hD _ _ hg hl (.inr (.inr (.inr (.inr (.inl rfl))))), ownsRow_wr h6 k fun g hg hl => hD _ _ hg hl (.inr (.inr (.inr (.inr (.inr rfl)))))⟩
end Go.Proofs.YtfoelahabalbpaaGreatDoor

namespace Go.Proofs.YtfoelahabalbpaaGreatDoor
open Go.RowKit

/-- An error and its place. -/
abbrev Flt := Int × Nat
def wAfter : ByteArray := ⟨#[97, 102, 116, 101, 114]⟩
def wRes : ByteArray := ⟨#[114, 101, 115, 111, 117, 114, 99, 101]⟩
def kindAt (ts : List Tok) (i : Nat) : Nat := match ts[i]? with
  | some t => t.kind
  | none => 11
def takeS (ts : List Tok) (i k : Nat) : Except Flt (Tok × Nat) := match ts[i]? with
  | none => .error (6, 0)
  | some t => if t.kind = k then .ok (t, i + 1) else .error (6, t.place)
theorem take_ok {ts : List Tok} {i : Nat} {t : Tok} (h : ts[i]? = some t) {k : Nat} (hk : t.kind = k) : takeS ts i k = .ok (t, i + 1) := by
  unfold takeS; rw [h]; simp [hk]
theorem take_no {ts : List Tok} {i : Nat} {t : Tok} (h : ts[i]? = some t) {k : Nat} (hk : t.kind ≠ k) : takeS ts i k = .error (6, t.place) := by
  unfold takeS; rw [h]; simp [hk]
theorem kind_at {ts : List Tok} {i : Nat} {t : Tok} (h : ts[i]? = some t) : kindAt ts i = t.kind := by
  unfold kindAt; rw [h]
/-- The tokens of a text: the last is the end, and no other is. -/
structure TsEnd (ts : List Tok) : Prop where
  some_ : 0 < ts.length
  end_ : ∀ (i : Nat) t, ts[i]? = some t → (t.kind = 11 ↔ i + 1 = ts.length)
/-- What is no end is followed by one more. -/
theorem TsEnd.next {ts : List Tok} (h : TsEnd ts) {i : Nat} {t : Tok} (ht : ts[i]? = some t) (hk : t.kind ≠ 11) : i + 1 < ts.length := by
  have h1 := (List.getElem?_eq_some_iff.1 ht).1
  have h2 : ¬ i + 1 = ts.length := fun he => hk ((h.end_ i t ht).2 he)
  omega
theorem TsEnd.there {ts : List Tok} {i : Nat} (h : i < ts.length) : ∃ t, ts[i]? = some t := ⟨ts[i], List.getElem?_eq_getElem h⟩
/-- A key among others, by rising keys. -/
def insI (ks : List IDd) (a : IDd) : List IDd := ks.takeWhile (fun k => decide (cmpI k a < 0)) ++ a :: ks.dropWhile (fun k => decide (cmpI k a < 0))
def insA (rs : List RowA) (x : RowA) : List RowA := rs.takeWhile (fun r => decide (cmpS r.key x.key < 0)) ++ x :: rs.dropWhile (fun r => decide (cmpS r.key x.key < 0))
theorem cut_while {α : Type} (p : α → Bool) : ∀ (l : List α) (i : Nat), i ≤ l.length → (∀ (k : Nat) x, k < i → l[k]? = some x → p x = true) → (∀ (k : Nat) x, i ≤ k → l[k]? = some x → p x = false) → l.takeWhile p = l.take i ∧ l.dropWhile p = l.drop i
  | [], i, _, _, _ => by simp
  | x :: l, 0, _, _, h2 => by
    have := h2 0 x (Nat.le_refl _) rfl
    simp [List.takeWhile, List.dropWhile, this]
  | x :: l, i + 1, hi, h1, h2 => by
    have hx := h1 0 x (by omega) rfl
    have := cut_while p l i (by simpa using hi) (fun k y hk hy => h1 (k + 1) y (by omega) (by simpa using hy)) (fun k y hk hy => h2 (k + 1) y (by omega) (by simpa using hy))
    simp [List.takeWhile, List.dropWhile, hx, this.1, this.2]
theorem insI_at {ks : List IDd} {a : IDd} {i : Nat} (h : Stands ks a i) : insL ks i a = insI ks a := by
  obtain ⟨h1, h2⟩ := cut_while (fun k => decide (cmpI k a < 0)) ks i h.le (fun k x hk hx => by simpa using h.ahead k x hk hx) (fun k x hk hx => by simpa using h.behind k x hk hx)
  unfold insI insL
  rw [h1, h2]
theorem insA_at {rs : List RowA} {x : RowA} {i : Nat} (h : StandsG cmpS RowA.key rs x.key i) : insG rs i x = insA rs x := by
  obtain ⟨h1, h2⟩ := cut_while (fun r : RowA => decide (cmpS r.key x.key < 0)) rs i h.le (fun k y hk hy => by simpa using h.ahead k y hk hy) (fun k y hk hy => by simpa using h.behind k y hk hy)
  unfold insA insG
  rw [h1, h2]
open Classical in
noncomputable def refS (ts : List Tok) (i : Nat) (e : EntD) (rf : List (IDd × Nat)) : Except Flt (Nat × EntD × List (IDd × Nat)) :=
  match takeS ts i 1 with
  | .error x => .error x
  | .ok (k, i) => match takeS ts i 10 with
    | .error x => .error x
    | .ok (_, i) => match takeS ts i 1 with
      | .error x => .error x
      | .ok (n, i) => if e.after.length = 6 then .error (7, k.place) else if (⟨k.text, n.text⟩ : IDd) ∈ e.after then .error (8, k.place) else .ok (i, { e with after := insI e.after ⟨k.text, n.text⟩ }, rf ++ [(⟨k.text, n.text⟩, k.place)])
noncomputable def refsS (ts : List Tok) : Nat → Nat → EntD → List (IDd × Nat) → Except Flt (Nat × EntD × List (IDd × Nat))
  | 0, _, _, _ => .error (6, 0)
  | f + 1, i, e, rf => match refS ts i e rf with
    | .error x => .error x
    | .ok (i, e, rf) => if kindAt ts i = 9 then refsS ts f (i + 1) e rf else .ok (i, e, rf)
noncomputable def listS (ts : List Tok) (i : Nat) (e : EntD) (rf : List (IDd × Nat)) : Except Flt (Nat × EntD × List (IDd × Nat)) :=
  match takeS ts i 6 with
  | .error x => .error x
  | .ok (_, i) => match (if kindAt ts i = 7 then .ok (i, e, rf) else refsS ts ts.length i e rf : Except Flt (Nat × EntD × List (IDd × Nat))) with
    | .error x => .error x
    | .ok (i, e, rf) => match takeS ts i 7 with
      | .error x => .error x
      | .ok (_, i) => .ok (i, e, rf)
def valueS (ts : List Tok) (i : Nat) (e : EntD) (name : ByteArray) : Except Flt (Nat × EntD) :=
  match takeS ts i (if kindAt ts i = 3 then 3 else 2) with
  | .error x => .error x
  | .ok (t, j) => .ok (j, { e with attrs := insA e.attrs ⟨name, ⟨name, decide (kindAt ts i = 3), t.text, t.value⟩⟩ })
open Classical in
noncomputable def nameS (e : EntD) (name : ByteArray) : Int :=
  if name ≠ wAfter ∧ e.attrs.length = 6 then 7 else if (name = wAfter ∧ e.hasAfter = true) ∨ HasK RowA.key e.attrs name then 8 else 0
open Classical in
noncomputable def lineS (ts : List Tok) (i : Nat) (e : EntD) (rf : List (IDd × Nat)) : Except Flt (Nat × EntD × List (IDd × Nat)) :=
  match takeS ts i 1 with
  | .error x => .error x
  | .ok (n, i) => if nameS e n.text ≠ 0 then .error (nameS e n.text, n.place) else match takeS ts i 8 with
    | .error x => .error x
    | .ok (_, i) => if n.text = wAfter then listS ts i { e with hasAfter := true } rf else match valueS ts i e n.text with
      | .error x => .error x
      | .ok (i, e) => .ok (i, e, rf)
noncomputable def linesS (ts : List Tok) : Nat → Nat → EntD → List (IDd × Nat) → Except Flt (Nat × EntD × List (IDd × Nat))
  | 0, _, _, _ => .error (6, 0)
  | f + 1, i, e, rf => if kindAt ts i = 5 then .ok (i, e, rf) else match lineS ts i e rf with
    | .error x => .error x
    | .ok (i, e, rf) => linesS ts f i e rf
open Classical in
noncomputable def headS (ts : List Tok) (i : Nat) (es : List EntD) : Except Flt (Nat × EntD) :=
  match takeS ts i 1 with
  | .error x => .error x
  | .ok (b, i) => if b.text ≠ wRes then .error (6, b.place) else if es.length = 12 then .error (7, b.place) else match takeS ts i 1 with
    | .error x => .error x
    | .ok (k, i) => match takeS ts i 1 with
      | .error x => .error x
      | .ok (n, i) => if (⟨k.text, n.text⟩ : IDd) ∈ es.map EntD.id then .error (8, k.place) else .ok (i, ⟨⟨k.text, n.text⟩, k.place, [], false, []⟩)
noncomputable def resS (ts : List Tok) (i : Nat) (es : List EntD) (rf : List (IDd × Nat)) : Except Flt (Nat × List EntD × List (IDd × Nat)) :=
  match headS ts i es with
  | .error x => .error x
  | .ok (i, e) => match takeS ts i 4 with
    | .error x => .error x
    | .ok (_, i) => match linesS ts ts.length i e rf with
      | .error x => .error x
      | .ok (i, e, rf) => match takeS ts i 5 with
        | .error x => .error x
        | .ok (_, i) => .ok (i, es ++ [e], rf)
noncomputable def textS (ts : List Tok) : Nat → Nat → List EntD → List (IDd × Nat) → Except Flt (List EntD × List (IDd × Nat))
  | 0, _, _, _ => .error (6, 0)
  | f + 1, i, es, rf => if kindAt ts i = 11 then .ok (es, rf) else match resS ts i es rf with
    | .error x => .error x
    | .ok (i, es, rf) => textS ts f i es rf
end Go.Proofs.YtfoelahabalbpaaGreatDoor

namespace Go.Proofs.YtfoelahabalbpaaGreatDoor
open Go.RowKit

structure RowSt where
  key : IDd
  val : StepC
def cRowSt (x : RowSt) : List Value := [.string x.key.kind, .string x.key.name, .int .i64 x.val.op, .string x.val.r.x.id.kind, .string x.val.r.x.id.name, .slice x.val.r.a2 x.val.r.n2 x.val.r.p2, .slice x.val.r.a3 x.val.r.n3 x.val.r.p3]
theorem cRowSt_len (x : RowSt) : (cRowSt x).length = 7 := rfl
theorem cRowSt_one (x : RowSt) : ∀ u ∈ cRowSt x, u.oneCell' = true := by
  intro u hu
  simp [cRowSt] at hu
  rcases hu with rfl | rfl | rfl | rfl | rfl | rfl | rfl <;> rfl
theorem cellsRowSt_one (l : List RowSt) : ∀ u ∈ cellsG cRowSt l, u.oneCell' = true := by
  intro u hu
  obtain ⟨x, _, hx⟩ := List.mem_flatMap.1 hu
  exact cRowSt_one x u hx
theorem infoRowSt : (Tryz.prog.info? 159).map (fun i => (i.zero, i.size, i.bytes)) = some (some (.agg #[.string ⟨#[]⟩, .string ⟨#[]⟩, .int .i64 0, .string ⟨#[]⟩, .string ⟨#[]⟩, .slice none 0 0, .slice none 0 0]), 7, 120) := by kernel_rfl
def ShiftedSt (w : World) (g n c i : Nat) (xs : List Value) (x : RowSt) (e : Ending) (w' : World) : Prop :=
  ∃ row : Array Value, e = .returned (.slice (some ⟨g, 0, none⟩) (n + 1) c) ∧ w'.heap[g]? = some (.cells row 159 (0, 0)) ∧ row.size = c * 7 ∧ row.toList.take ((n + 1) * 7) = xs.take (i * 7) ++ cRowSt x ++ xs.drop (i * 7) ∧ Kept (· = g) w w'

set_option maxRecDepth 100000 in
set_option maxHeartbeats 4000000 in
theorem insShiftSt (g n c i vb : Nat) (cur : Array Value) (xs : List Value) (x : RowSt) (w : World) (hi : i < n) (hroom : n + 1 ≤ c) (hc : c ≤ 9223372036854775807)
    (hg : w.heap[g]? = some (.cells cur 159 (0, 0))) (hcs : cur.size = c * 7) (hxs : cur.toList.take (n * 7) = xs) (h1 : ∀ v ∈ xs, v.oneCell' = true)
    (hv : w.heap[vb]? = some (.cells #[.string x.key.kind, .string x.key.name, .int .i64 x.val.op, .string x.val.r.x.id.kind, .string x.val.r.x.id.name, .slice x.val.r.a2 x.val.r.n2 x.val.r.p2, .slice x.val.r.a3 x.val.r.n3 x.val.r.p3] 159 (0, 0))) (hne : vb ≠ g) :
    Calls Tryz.prog 96 #[.slice (some ⟨g, 0, none⟩) n c, .int .i64 i, .slice (some ⟨vb, 0, none⟩) 1 1] w (ShiftedSt w g n c i xs x) := by
  obtain ⟨i0, hi0, hz0, hz1, hz2⟩ := info_of infoRowSt
  have hsz : (Tryz.prog.info? 159).map (·.size) = some 7 := by rw [hi0]; simp [hz1]
  have hov : ∀ lb cb, (callFunc 142 #[.slice (some ⟨vb, 0, none⟩) 1 1, .slice (some ⟨g, (i + 1) * 7, none⟩) lb cb]).run Tryz.prog w = .ok (.value (.bool false)) w := fun lb cb => by
    rw [run_callFunc_extern Tryz.func142 (by kernel_rfl) (by kernel_rfl) (by kernel_rfl) (e := Extern.SlicesOverlaps.overlaps #[160, 160] #[4]) (by kernel_rfl),
      Lib.run_overlaps_apart w 160 4 159 Tryz.underlying160 7 (fun w => by simp [sizeOf, typeInfo, hi0, hz1]) ⟨vb, 0, none⟩ ⟨g, (i + 1) * 7, none⟩ 1 1 lb cb hne 159 159 7 (c * 7) (by simp [World.shape?, hv]) (by simp [World.shape?, hg, hcs]) (by omega) (row_frozen hv 0) (row_frozen hv 7)]
    rfl
  have hlx : xs.length = n * 7 := by rw [← hxs]; simp; omega
  have hcu : ∀ j v, (xs.drop (i * 7))[j]? = some v → w.cell? ⟨g, i * 7 + j, none⟩ = some v := fun j v hj => by
    rw [List.getElem?_drop, ← hxs, List.getElem?_take] at hj
    split at hj
    · simp only [World.cell?, hg]; simpa using hj
    · cases hj
  obtain ⟨r1, hr1⟩ : ∃ r1 : Array Value, r1 = (cur.toList.take ((i + 1) * 7) ++ xs.drop (i * 7) ++ cur.toList.drop ((i + 1) * 7 + (xs.drop (i * 7)).length)).toArray := ⟨_, rfl⟩
  have hs1 : r1.size = c * 7 := by rw [hr1]; simp; omega
  obtain ⟨W1, hW1⟩ : ∃ W1, W1 = w.drew.setRow g r1 := ⟨_, rfl⟩
  have hg1 : W1.heap[g]? = some (.cells r1 159 (0, 0)) := by rw [hW1]; exact setRow_heap w.drew g cur r1 _ (0, 0) hg
  have hv1 : W1.heap[vb]? = some (.cells #[.string x.key.kind, .string x.key.name, .int .i64 x.val.op, .string x.val.r.x.id.kind, .string x.val.r.x.id.name, .slice x.val.r.a2 x.val.r.n2 x.val.r.p2, .slice x.val.r.a3 x.val.r.n3 x.val.r.p3] 159 (0, 0)) := by rw [hW1, setRow_other w.drew g vb r1 hne]; exact hv
  have hK1 : Kept (· = g) w W1 := by rw [hW1]; exact ((Ext.refl w).drew.kept _).trans (kept_setRow w.drew g r1) (fun _ _ h => h)
  have hcp1 : ∀ ty dc sc, (Builtin.copy_ #[160, 160] ty #[.slice (some ⟨g, (i + 1) * 7, none⟩) (n - i) dc, .slice (some ⟨g, i * 7, none⟩) (n + 1 - i) sc]).run Tryz.prog w.drew = .ok (goInt ((n - i : Nat) : Int)) W1 := fun ty dc sc => by
    have hm : Nat.min (n + 1 - i) (n - i) = n - i := Nat.min_eq_right (by omega)
    have := run_copy_into (P := Tryz.prog) w.drew _ 160 ty 159 g ((i + 1) * 7) (n - i) dc ⟨g, i * 7, none⟩ (n + 1 - i) sc 7 cur _ (xs.drop (i * 7)) Tryz.underlying160 hsz hg (by rw [hm]; simp; omega) (fun j v hj => by rw [add_eq]; exact hcu j v hj) (by simp; omega) (fun v hv => h1 v (List.mem_of_mem_drop hv))
    rw [this, hm, hW1, hr1]
  obtain ⟨r2, hr2⟩ : ∃ r2 : Array Value, r2 = (r1.toList.take (i * 7) ++ cRowSt x ++ r1.toList.drop (i * 7 + 7)).toArray := ⟨_, rfl⟩
  have hs2 : r2.size = c * 7 := by rw [hr2]; simp [cRowSt]; omega
  have hcp2 : ∀ W : World, W.heap = W1.heap → ∀ ty dc, (Builtin.copy_ #[160, 160] ty #[.slice (some ⟨g, i * 7, none⟩) (n + 1 - i) dc, .slice (some ⟨vb, 0, none⟩) 1 1]).run Tryz.prog W = .ok (goInt 1) (W.setRow g r2) := fun W hW ty dc => by
    have hm : Nat.min 1 (n + 1 - i) = 1 := Nat.min_eq_left (by omega)
    have := run_copy_into (P := Tryz.prog) W _ 160 ty 159 g (i * 7) (n + 1 - i) dc ⟨vb, 0, none⟩ 1 1 7 r1 _ (cRowSt x) Tryz.underlying160 hsz (by rw [hW]; exact hg1) (by rw [hm]; rfl) (fun j v hj => by
      rw [add_eq]; simp only [World.cell?, hW, hv1]
      rw [Nat.zero_add]; simpa [cRowSt] using hj) (by rw [hs1]; simp [cRowSt]; omega) (cRowSt_one x)
    rw [this, hm, hr2]; rfl
  have hend : r2.toList.take ((n + 1) * 7) = xs.take (i * 7) ++ cRowSt x ++ xs.drop (i * 7) := by
    rw [hr2, hr1, ← hxs, show (n + 1) * 7 = n * 7 + 7 by omega, show (i + 1) * 7 = i * 7 + 7 by omega]
    exact ins_rowsG cur.toList (cRowSt x) (i * 7) (n * 7) 7 (by omega) (by simp; omega) rfl
  have hK2 : ∀ W : World, W.heap = W1.heap → W.os = W1.os → W.tape = W1.tape → W.output = W1.output → Kept (· = g) w (W.setRow g r2) ∧ (W.setRow g r2).heap[g]? = some (.cells r2 159 (0, 0)) := fun W e1 e2 e3 e4 => by
    refine ⟨⟨e2.trans hK1.os, e3.trans hK1.tape, e4.trans hK1.output, ?_, fun k hk hn => ?_⟩, setRow_heap W g r1 r2 _ (0, 0) (by rw [e1]; exact hg1)⟩
    · have := hK1.size; simp [World.setRow, e1]; exact this
    · rw [setRow_other W g k r2 hn, e1]; exact hK1.block k hk hn
  have i2 : (i : Int) ≤ (n : Int) := by omega
  have i3 : ¬ ((i : Int) = (n : Int)) := by omega
  have i4 : ¬ ((c : Int) < (n : Int) + 1) := by omega
  have i5 : (i : Int) + 1 ≤ (n : Int) + 1 := by omega
  have i6 : (i : Int) ≤ (n : Int) + 1 := by omega
  have mixed : Tryz.prog.follows Departure.mixedOrders = true := by kernel_rfl
  have hw1 : IntKind.i64.wrap ((i : Int) + 1) = (i : Int) + 1 := by rw [IntKind.wrap_i64]; omega
  have hb1 : (0 : Int) ≤ (i : Int) + 1 := by omega
  have htn : ((i : Int) + 1).toNat = i + 1 := by omega
  have hb2 : ¬ (c = i + 1) := by omega
  have hb4 : ¬ (c = i) := by omega
  clear hr1 hr2 hW1 hs1 hg1 hv1 hK1 hsz hz0 hz1 hz2 hi0 hlx hcu
  replace hg := hide hg; replace hcs := hide hcs; replace hxs := hide hxs; replace hv := hide hv; replace hend := hide hend; replace hs2 := hide hs2
  go_enter Tryz.func96, Tryz.ntmps96
  go_wp2_with (simp only [hov])
  go_region_law_o (refine step_copy_runI rfl _ _ 160 160 rfl _ _ (by simp [Act.eval, Act.put]) (by simp [Act.eval, Act.put]) (hcp1 _ _ _) ?_)
  go_wp2_with (at_builtin; refine wpList_copy_runI _ rfl _ _ 160 160 rfl _ _ rfl rfl (hcp2 _ rfl _ _) ?_)
  go_ret
  obtain ⟨k1, k2⟩ := hK2 _ rfl rfl rfl rfl
  exact ⟨r2, rfl, k2, hs2.out, hend.out, k1⟩

def GrownSt (w : World) (n i : Nat) (xs : List Value) (x : RowSt) (e : Ending) (w' : World) : Prop :=
  ∃ (row : Array Value) (N c : Nat), e = .returned (.slice (some ⟨N, 0, none⟩) (n + 1) c) ∧ w'.heap[N]? = some (.cells row 159 (0, 0)) ∧ row.size = c * 7 ∧ n + 1 ≤ c ∧ c ≤ maxLen ∧ row.toList.take ((n + 1) * 7) = xs.take (i * 7) ++ cRowSt x ++ xs.drop (i * 7) ∧ Ext w w' ∧ w.heap.size ≤ N

set_option maxRecDepth 100000 in
set_option maxHeartbeats 4000000 in
theorem insGrowSt (g n c i vb : Nat) (cur : Array Value) (xs : List Value) (x : RowSt) (w : World) (hi : i < n) (hnc : n ≤ c) (hroom : c < n + 1) (hn : n ≤ 1000000)
    (hg : w.heap[g]? = some (.cells cur 159 (0, 0))) (hcs : cur.size = c * 7) (hxs : cur.toList.take (n * 7) = xs) (h1 : ∀ v ∈ xs, v.oneCell' = true)
    (hv : w.heap[vb]? = some (.cells #[.string x.key.kind, .string x.key.name, .int .i64 x.val.op, .string x.val.r.x.id.kind, .string x.val.r.x.id.name, .slice x.val.r.a2 x.val.r.n2 x.val.r.p2, .slice x.val.r.a3 x.val.r.n3 x.val.r.p3] 159 (0, 0))) :
    Calls Tryz.prog 96 #[.slice (some ⟨g, 0, none⟩) n c, .int .i64 i, .slice (some ⟨vb, 0, none⟩) 1 1] w (GrownSt w n i xs x) := by
  obtain ⟨i0, hi0, hz0, hz1, hz2⟩ := info_of infoRowSt
  have hsz : (Tryz.prog.info? 159).map (·.size) = some 7 := by rw [hi0]; simp [hz1]
  have hlx : xs.length = n * 7 := by rw [← hxs]; simp; omega
  have hcu : ∀ j v, xs[j]? = some v → w.cell? ⟨g, j, none⟩ = some v := fun j v hj => by
    rw [← hxs, List.getElem?_take] at hj
    split at hj
    · simp only [World.cell?, hg]; simpa using hj
    · cases hj
  have hgw : g < w.heap.size := (Array.getElem?_eq_some_iff.1 hg).1
  have hvw : vb < w.heap.size := (Array.getElem?_eq_some_iff.1 hv).1
  have hold : (Builtin.firstCells i0.size i (.slice (some ⟨g, 0, none⟩) i c)).run Tryz.prog w.drew = .ok (xs.take (i * 7)).toArray w.drew := by
    rw [hz1]
    exact run_firstCells_some w.drew 7 i ⟨g, 0, none⟩ i c (xs.take (i * 7)) (by rw [List.length_take]; omega) (fun j v hj => by
      rw [add_eq]
      rw [List.getElem?_take] at hj
      split at hj
      · rw [Nat.zero_add]; exact hcu j v hj
      · cases hj)
  have hik : i + (n + 1 - i) = n + 1 := by omega
  have hkk : (n : Int) + 1 - (i : Int) = ((n + 1 - i : Nat) : Int) := by omega
  obtain ⟨G, hG⟩ : ∃ G, G = grownCap w (n + 1) c 159 := ⟨_, rfl⟩
  have hGn : n + 1 ≤ G := by rw [hG]; exact grownCap_ge w _ _ _
  have hGm : G ≤ maxLen := by rw [hG]; exact grownCap_le_maxLen w (n + 1) c _ (by unfold maxLen; omega)
  obtain ⟨N, hN⟩ : ∃ N, N = w.heap.size := ⟨_, rfl⟩
  obtain ⟨Z, hZ⟩ : ∃ Z : List Value, Z = (Builtin.zeroCells (Value.cells (.agg #[.string ⟨#[]⟩, .string ⟨#[]⟩, .int .i64 0, .string ⟨#[]⟩, .string ⟨#[]⟩, .slice none 0 0, .slice none 0 0])) (n + 1 - i) ++ Builtin.zeroCells (Value.cells (.agg #[.string ⟨#[]⟩, .string ⟨#[]⟩, .int .i64 0, .string ⟨#[]⟩, .string ⟨#[]⟩, .slice none 0 0, .slice none 0 0])) (G - (n + 1))).toList := ⟨_, rfl⟩
  have hZl : Z.length = (G - i) * 7 := by
    rw [hZ]; simp [Builtin.zeroCells, Value.cells]; omega
  obtain ⟨r1, hr1⟩ : ∃ r1 : Array Value, r1 = (xs.take (i * 7) ++ Z).toArray := ⟨_, rfl⟩
  have hs1 : r1.size = G * 7 := by rw [hr1]; simp; omega
  obtain ⟨W1, hW1⟩ : ∃ W1, W1 = w.drew.alloc (.cells r1 159) := ⟨_, rfl⟩
  have hX1 : Ext w W1 := by rw [hW1]; exact (Ext.refl w).drew.alloc _
  have hg1 : W1.heap[N]? = some (.cells r1 159 (0, 0)) := by rw [hW1, hN]; exact heap_alloc_new w.drew _
  have hrz : ∀ ty, (Builtin.append_ #[160, 3] ty #[.slice (some ⟨g, 0, none⟩) i c, .int .i64 ((n : Int) + 1 - (i : Int))]).run Tryz.prog w = .ok (.slice (some ⟨N, 0, none⟩) (n + 1) G) W1 := fun ty => by
    have h := Lib.run_append_grow_zeros w 160 3 ty 159 i0 _ .i64 .i64 Tryz.underlying160 Tryz.underlying3 hi0 hz0 (some ⟨g, 0, none⟩) i c (xs.take (i * 7)) hold (n + 1 - i) (by omega) (by omega) (by omega) (by omega) (by rw [hz2]; omega) (by rw [hz2, hik]; exact growslice_fits hroom (by omega))
    rw [hik] at h
    rw [hkk, h, hW1, hr1, hZ, hN, ← hG, arr_appG]
  obtain ⟨r2, hr2⟩ : ∃ r2 : Array Value, r2 = (r1.toList.take (i * 7) ++ cRowSt x ++ r1.toList.drop (i * 7 + 7)).toArray := ⟨_, rfl⟩
  have hs2 : r2.size = G * 7 := by rw [hr2]; simp [cRowSt]; omega
  have hcpA : ∀ W : World, W.heap = W1.heap → ∀ ty dc, (Builtin.copy_ #[160, 160] ty #[.slice (some ⟨N, i * 7, none⟩) (n + 1 - i) dc, .slice (some ⟨vb, 0, none⟩) 1 1]).run Tryz.prog W = .ok (goInt 1) (W.setRow N r2) := fun W hW ty dc => by
    have hm : Nat.min 1 (n + 1 - i) = 1 := Nat.min_eq_left (by omega)
    have hv1 : W1.heap[vb]? = some (.cells #[.string x.key.kind, .string x.key.name, .int .i64 x.val.op, .string x.val.r.x.id.kind, .string x.val.r.x.id.name, .slice x.val.r.a2 x.val.r.n2 x.val.r.p2, .slice x.val.r.a3 x.val.r.n3 x.val.r.p3] 159 (0, 0)) := ext_heap hX1 hv
    have := run_copy_into (P := Tryz.prog) W _ 160 ty 159 N (i * 7) (n + 1 - i) dc ⟨vb, 0, none⟩ 1 1 7 r1 _ (cRowSt x) Tryz.underlying160 hsz (by rw [hW]; exact hg1) (by rw [hm]; rfl) (fun j v hj => by
      rw [add_eq]; simp only [World.cell?, hW, hv1]
      rw [Nat.zero_add]; simpa [cRowSt] using hj) (by rw [hs1]; simp [cRowSt]; omega) (cRowSt_one x)
    rw [this, hm, hr2]; rfl
  have hNg : g ≠ N := by omega
  obtain ⟨r3, hr3⟩ : ∃ r3 : Array Value, r3 = (r2.toList.take ((i + 1) * 7) ++ xs.drop (i * 7) ++ r2.toList.drop ((i + 1) * 7 + (xs.drop (i * 7)).length)).toArray := ⟨_, rfl⟩
  have hs3 : r3.size = G * 7 := by rw [hr3]; simp; omega
  have hcpB : ∀ W V : World, V.heap = W1.heap → W.heap = (V.setRow N r2).heap → ∀ ty dc sc, (Builtin.copy_ #[160, 160] ty #[.slice (some ⟨N, (i + 1) * 7, none⟩) (n - i) dc, .slice (some ⟨g, i * 7, none⟩) (n - i) sc]).run Tryz.prog W = .ok (goInt ((n - i : Nat) : Int)) (W.setRow N r3) := fun W V hV hW ty dc sc => by
    have hm : Nat.min (n - i) (n - i) = n - i := Nat.min_self _
    have hgW : W.heap[N]? = some (.cells r2 159 (0, 0)) := by rw [hW]; exact setRow_heap V N r1 r2 _ (0, 0) (by rw [hV]; exact hg1)
    have hgg : W.heap[g]? = some (.cells cur 159 (0, 0)) := by rw [hW, setRow_other V N g r2 hNg, hV]; exact ext_heap hX1 hg
    have := run_copy_into (P := Tryz.prog) W _ 160 ty 159 N ((i + 1) * 7) (n - i) dc ⟨g, i * 7, none⟩ (n - i) sc 7 r2 _ (xs.drop (i * 7)) Tryz.underlying160 hsz hgW (by rw [hm]; simp; omega) (fun j v hj => by
      rw [add_eq]
      have h2 := hcu (i * 7 + j) v (by rwa [List.getElem?_drop] at hj)
      simp only [World.cell?, hg] at h2
      simp only [World.cell?, hgg]
      exact h2) (by rw [hs2]; simp; omega) (fun v hv => h1 v (List.mem_of_mem_drop hv))
    rw [this, hm, hr3]
  have hend : r3.toList.take ((n + 1) * 7) = xs.take (i * 7) ++ cRowSt x ++ xs.drop (i * 7) := by
    rw [hr3, hr2, hr1, show (n + 1) * 7 = n * 7 + 7 by omega, show (i + 1) * 7 = i * 7 + 7 by omega]
    exact grow_rowsG xs (cRowSt x) Z (i * 7) (n * 7) 7 (by omega) hlx rfl
  have hK2 : ∀ W V : World, V.heap = W1.heap → W.heap = (V.setRow N r2).heap → W.os = W1.os → W.tape = W1.tape → W.output = W1.output → Ext w (W.setRow N r3) ∧ (W.setRow N r3).heap[N]? = some (.cells r3 159 (0, 0)) := fun W V hV hW e2 e3 e4 => by
    refine ⟨⟨e2.trans (Below.os hX1), e3.trans (Below.tape hX1), e4.trans (Below.output hX1), ?_, fun k hk => ?_⟩, setRow_heap W N r2 r3 _ (0, 0) (by rw [hW]; exact setRow_heap V N r1 r2 _ (0, 0) (by rw [hV]; exact hg1))⟩
    · have := Ext.size hX1; simp [World.setRow, hW, hV]; exact this
    · rw [setRow_other W N k r3 (by omega), hW, setRow_other V N k r2 (by omega), hV]; exact Below.block hX1 k hk
  have i2 : (i : Int) ≤ (n : Int) := by omega
  have i3 : ¬ ((i : Int) = (n : Int)) := by omega
  have i4 : (c : Int) < (n : Int) + 1 := by omega
  have i5 : (i : Int) + 1 ≤ (n : Int) + 1 := by omega
  have i6 : (i : Int) ≤ (n : Int) + 1 := by omega
  have mixed : Tryz.prog.follows Departure.mixedOrders = true := by kernel_rfl
  have hw1 : IntKind.i64.wrap ((i : Int) + 1) = (i : Int) + 1 := by rw [IntKind.wrap_i64]; omega
  have hb1 : (0 : Int) ≤ (i : Int) + 1 := by omega
  have htn : ((i : Int) + 1).toNat = i + 1 := by omega
  have hb2 : ¬ (G = i + 1) := by omega
  have hb4 : ¬ (c = i) := by omega
  have hb5 : ¬ (G = i) := by omega
  have hG63 : G ≤ 9223372036854775807 := by unfold maxLen at hGm; omega
  clear hr1 hr2 hr3 hW1 hs1 hs2 hg1 hsz hz0 hz1 hz2 hi0 hlx hcu hold hik hkk hZ hZl hX1
  replace hg := hide hg; replace hcs := hide hcs; replace hxs := hide hxs; replace hv := hide hv; replace hend := hide hend; replace hs3 := hide hs3; replace hG := hide hG; replace hN := hide hN
  go_enter Tryz.func96, Tryz.ntmps96
  go_wp2_with (first
    | (at_builtin; refine Lib.wpList_append_run _ rfl _ _ _ _ rfl _ _ rfl rfl _ _ (hrz _) ?_)
    | (at_builtin; refine wpList_copy_runI _ rfl _ _ 160 160 rfl _ _ rfl rfl (hcpA _ rfl _ _) ?_))
  go_region_law_o (refine step_copy_runI rfl _ _ 160 160 rfl (.slice (some ⟨N, (i + 1) * 7, none⟩) (n - i) (G - (i + 1))) (.slice (some ⟨g, i * 7, none⟩) (n - i) (c - i)) (by simp [Act.eval, Act.put]) (by simp [Act.eval, Act.put]) (hcpB (W1.setRow N r2).drew W1 rfl rfl 3 (G - (i + 1)) (c - i)) ?_)
  go_wp2
  go_ret
  obtain ⟨k1, k2⟩ := hK2 (W1.setRow N r2).drew W1 rfl rfl rfl rfl rfl
  exact ⟨r3, N, G, rfl, k2, hs3.out, hGn, hGm, hend.out, k1, by rw [hN.out]; exact Nat.le_refl _⟩

/-- Only rows from B on have turned. -/
abbrev WroteKSt (B : Nat) (w w' : World) : Prop := Wrote B (· = 159) w w'
/-- The rows of a table, in a row of our own. -/
abbrev RowsSt (B : Nat) (w : World) (v : Value) (rs : List RowSt) : Prop := w.ownsRow B 159 7 v rs.length (cellsG cRowSt rs)
/-- What is answered when a row was put into its place. -/
def InsIsSt (B : Nat) (w : World) (rs : List RowSt) (e : Ending) (w' : World) : Prop :=
  ∃ (pa : Option Addr) (cap n : Nat), e = .returned (.slice pa n cap) ∧ Hid (n = rs.length) ∧ Hid (RowsSt B w' (.slice pa n cap) rs) ∧ Hid (WroteKSt B w w')

set_option maxRecDepth 100000 in
set_option maxHeartbeats 1600000 in
theorem insRowSt (B : Nat) (v : Value) (rs : List RowSt) (x : RowSt) (i vb : Nat) (w : World) (hv : RowsSt B w v rs) (hB : B ≤ w.heap.size) (hi : i ≤ rs.length) (hn : rs.length ≤ 1000000)
    (hvb : w.heap[vb]? = some (.cells #[.string x.key.kind, .string x.key.name, .int .i64 x.val.op, .string x.val.r.x.id.kind, .string x.val.r.x.id.name, .slice x.val.r.a2 x.val.r.n2 x.val.r.p2, .slice x.val.r.a3 x.val.r.n3 x.val.r.p3] 159 (0, 0))) (hne : some vb ≠ v.ownBlock) :
    Calls Tryz.prog 96 #[v, .int .i64 i, .slice (some ⟨vb, 0, none⟩) 1 1] w (InsIsSt B w (insG rs i x)) := by
  have hlen := insG_len (a := x) hi
  by_cases hin : i = rs.length
  · subst hin
    obtain ⟨i0, hi0, hz0, hz1, hz2⟩ := info_of infoRowSt
    obtain ⟨pa, cap, rfl⟩ := ownsRow_form hv
    have hcap : rs.length ≤ cap := by
      rcases hv.2 with ⟨h, h'⟩ | ⟨g, c, cur, h, _, _, h', _⟩
      · omega
      · cases h; exact h'
    have hE : Hid (cellsG cRowSt rs ++ cRowSt x = cellsG cRowSt (insG rs rs.length x)) := by
      show _ = _
      simp [cellsG, insG]
    have hlen' : Hid ((insG rs rs.length x).length = rs.length + 1) := hlen
    have hcell : Hid (∀ j u, (cRowSt x)[j]? = some u → w.cell? ((⟨vb, 0, none⟩ : Addr).add j) = some u) := fun j u hu => by
      rw [add_eq]; simp only [World.cell?, hvb]; rw [Nat.zero_add]; simpa [cRowSt] using hu
    clear hlen
    replace hv := hide hv; replace hi0 := hide hi0; replace hvb := hide hvb; replace hne := hide hne
    go_enter Tryz.func96, Tryz.ntmps96
    go_wp2_with (at_builtin; go_must (refine wpList_append_lies _ rfl _ _ 160 rfl B 159 i0 (.agg #[.string ⟨#[]⟩, .string ⟨#[]⟩, .int .i64 0, .string ⟨#[]⟩, .string ⟨#[]⟩, .slice none 0 0, .slice none 0 0]) 7 120 Tryz.underlying160 hi0.out hz0 hz1 hz2 rfl (by omega) _ rs.length (cellsG cRowSt rs) rfl hv.out ⟨vb, 0, none⟩ 1 1 (cRowSt x) rfl rfl hcell.out (cRowSt_one x) (by omega) (by unfold maxLen; omega) (by omega) hB w.heap.size rfl ?_; intro g1 cap1 w1 hown1 hgrow1 hat1 hlt1))
    all_goals
      go_ret
      refine ⟨_, _, _, rfl, hlen'.out.symm, ?_, ?_⟩
      · show World.ownsRow _ _ _ _ _ _ _
        rw [hlen'.out, ← hE.out]; exact hown1
      · exact (Wrote.refl B _ w).grown hv.out rfl hgrow1
  · have hlt : i < rs.length := by omega
    rcases hv.2 with ⟨rfl, h0⟩ | ⟨g, cap, cur, rfl, hbg, hg, hcap, hcm, hcs, hcur⟩
    · omega
    have hne' : vb ≠ g := fun e => hne (by simp [Value.ownBlock, e])
    by_cases hroom : rs.length + 1 ≤ cap
    · refine (insShiftSt g rs.length cap i vb cur (cellsG cRowSt rs) x w hlt hroom (by unfold maxLen at hcm; omega) hg hcs hcur (cellsRowSt_one rs) hvb hne').mono ?_
      rintro e w1 ⟨row, rfl, hr1, hr2, hr3, hk⟩
      refine ⟨_, _, _, rfl, hlen.symm, ?_, Wrote.keptG hk hg rfl hbg⟩
      rw [cellsG_ins cRowSt_len] at hr3
      refine ⟨cellsG_len cRowSt_len _, .inr ⟨g, cap, row, by rw [hlen], hbg, hr1, by omega, hcm, hr2, by rw [hlen]; exact hr3⟩⟩
    · refine (insGrowSt g rs.length cap i vb cur (cellsG cRowSt rs) x w hlt hcap (by omega) (by omega) hg hcs hcur (cellsRowSt_one rs) hvb).mono ?_
      rintro e w1 ⟨row, N, c, rfl, hr1, hr2, hr3, hr4, hr5, hx, hN⟩
      refine ⟨_, _, _, rfl, hlen.symm, ?_, Wrote.ext hx⟩
      rw [cellsG_ins cRowSt_len] at hr5
      refine ⟨cellsG_len cRowSt_len _, .inr ⟨N, c, row, by rw [hlen], by omega, hr1, by omega, hr4, hr2, by rw [hlen]; exact hr5⟩⟩
end Go.Proofs.YtfoelahabalbpaaGreatDoor
