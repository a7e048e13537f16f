/-
  The parser in memory: its box, its rows, its entries.
-/
/-
  The plain parser: what is read from a list of tokens, with no memory.
-/
import Derived.Test.YtfnbbohbicffpaaGreatDoorJ20
import Derived.Test.YtfnbbohbicffpaaGreatDoorJ18
import Derived.Test.YtfnbbohbicffpaaGreatDoorJ21
import Derived.Test.YtfnbbohbicffpaaGreatDoorJ22
namespace Go.Proofs.YtfnbbohbicffpaaGreatDoor
open Go.RowKit

/-- Only blocks of some places and types are other than they were. -/
structure Wr (D : Nat → TypeId → Prop) (w w' : World) : Prop where
  os : w'.os = w.os
  tape : w'.tape = w.tape
  output : w'.output = w.output
  size : w.heap.size ≤ w'.heap.size
  heap : ∀ k, k < w.heap.size → (∀ c t fz, w.heap[k]? = some (.cells c t fz) → ¬ D k t) → w'.heap[k]? = w.heap[k]?
theorem Wr.refl (D : Nat → TypeId → Prop) (w : World) : Wr D w w := ⟨rfl, rfl, rfl, Nat.le_refl _, fun _ _ _ => rfl⟩
theorem Wr.trans {D : Nat → TypeId → Prop} {a b c : World} (h : Wr D a b) (k : Wr D b c) : Wr D a c :=
  ⟨k.os.trans h.os, k.tape.trans h.tape, k.output.trans h.output, Nat.le_trans h.size k.size, fun j hj hd => by
    have h1 := h.heap j hj hd
    rw [← h1]
    exact k.heap j (Nat.lt_of_lt_of_le hj h.size) (by rw [h1]; exact hd)⟩
theorem Wr.mono {D D' : Nat → TypeId → Prop} {w w' : World} (h : Wr D w w') (hd : ∀ k t, k < w.heap.size → D k t → D' k t) : Wr D' w w' :=
  ⟨h.os, h.tape, h.output, h.size, fun k hk hn => h.heap k hk fun c t fz hc hD => hn c t fz hc (hd k t hk hD)⟩
theorem Wr.ext {D : Nat → TypeId → Prop} {w w' : World} (h : Ext w w') : Wr D w w' := ⟨Below.os h, Below.tape h, Below.output h, Ext.size h, fun k hk _ => Below.block h k hk⟩
theorem Wr.wrote {D : Nat → TypeId → Prop} {B : Nat} {T : TypeId → Prop} {w w' : World} (h : Wrote B T w w') (hd : ∀ k t, k < w.heap.size → B ≤ k → T t → D k t) : Wr D w w' :=
  ⟨h.os, h.tape, h.output, h.size, fun k hk hn => h.heap k hk (by
    by_cases hb : k < B
    · exact .inl hb
    · exact .inr fun c t fz hc hT => hn c t fz hc (hd k t hk (by omega) hT))⟩
theorem Wr.keeps {D : Nat → TypeId → Prop} {w w' : World} (h : Wr D w w') {k : Nat} {c : Array Value} {t : TypeId} {fz : Nat × Nat} (hk : w.heap[k]? = some (.cells c t fz)) (hD : ¬ D k t) : w'.heap[k]? = some (.cells c t fz) := by
  rw [h.heap k (Array.getElem?_eq_some_iff.1 hk).1 (fun c' t' fz' h' => by rw [hk] at h'; cases h'; exact hD)]; exact hk
theorem Wr.toExt {w0 w w' : World} {D : Nat → TypeId → Prop} (h : Ext w0 w) (k : Wr D w w') (hD : ∀ j t, D j t → w0.heap.size ≤ j) : Ext w0 w' :=
  ⟨k.os.trans (Below.os h), k.tape.trans (Below.tape h), k.output.trans (Below.output h), Nat.le_trans (Ext.size h) k.size, fun j hj => by
    rw [k.heap j (Nat.lt_of_lt_of_le hj (Ext.size h)) (fun c t fz _ hd => by have := hD j t hd; omega)]
    exact Below.block h j hj⟩
theorem ownsRow_wr {D : Nat → TypeId → Prop} {w w' : World} {B : Nat} {e : TypeId} {size : Nat} {v : Value} {n : Nat} {xs : List Value} (h : w.ownsRow B e size v n xs) (k : Wr D w w') (hD : ∀ g, B ≤ g → g < w.heap.size → ¬ D g e) : w'.ownsRow B e size v n xs := by
  obtain ⟨h1, h2⟩ := h
  refine ⟨h1, ?_⟩
  rcases h2 with h2 | ⟨g, cap, cur, hv, hg, hh, r⟩
  · exact .inl h2
  · exact .inr ⟨g, cap, cur, hv, hg, k.keeps hh (hD g hg (Array.getElem?_eq_some_iff.1 hh).1), r⟩

/-- An entry: what is known of a resource while it is read. -/
structure EntD where
  id : IDd
  place : Nat
  attrs : List RowA
  hasAfter : Bool
  after : List IDd
/-- The types of the blocks of an entry. -/
def TyE (t : TypeId) : Prop := t = 95 ∨ t = 156 ∨ t = 158 ∨ t = 162 ∨ t = 164
structure EntIn (B : Nat) (w : World) (b tA tI : Nat) (vA vI : Value) (e : EntD) : Prop where
  base : B ≤ b
  box : w.heap[b]? = some (.cells #[.string e.id.kind, .string e.id.name, .int .i64 e.place, .pointer (some ⟨tA, 0, none⟩), .bool e.hasAfter, .pointer (some ⟨tI, 0, none⟩)] 95 (0, 0))
  attrs : TabAtA B w tA vA e.attrs
  after : TabAt B w tI vI e.after
/-- An entry lies in memory. -/
def EntAt (B : Nat) (w : World) (b : Nat) (e : EntD) : Prop := ∃ tA tI vA vI, EntIn B w b tA tI vA vI e
theorem EntAt.wr {D : Nat → TypeId → Prop} {B : Nat} {w w' : World} {b : Nat} {e : EntD} (h : EntAt B w b e) (k : Wr D w w') (hD : ∀ j t, B ≤ j → j < w.heap.size → TyE t → ¬ D j t) : EntAt B w' b e := by
  obtain ⟨tA, tI, vA, vI, h1, h2, h3, h4⟩ := h
  have hs : ∀ {j o}, w.heap[j]? = some o → j < w.heap.size := fun h => (Array.getElem?_eq_some_iff.1 h).1
  exact ⟨tA, tI, vA, vI, h1, k.keeps h2 (hD _ _ h1 (hs h2) (.inl rfl)),
    ⟨k.keeps h3.at_ (hD _ _ h3.base (hs h3.at_) (.inr (.inl rfl))), ownsRow_wr h3.rows k fun g hg hl => hD _ _ hg hl (.inr (.inr (.inl rfl))), h3.up, h3.few, h3.base⟩,
    ⟨k.keeps h4.at_ (hD _ _ h4.base (hs h4.at_) (.inr (.inr (.inr (.inl rfl))))), ownsRow_wr h4.keys k fun g hg hl => hD _ _ hg hl (.inr (.inr (.inr (.inr rfl)))), h4.up, h4.few, h4.base⟩⟩
theorem ownsRow_low' {w : World} {base base' : Nat} {e : TypeId} {size : Nat} {v : Value} {n : Nat} {xs : List Value} (h : w.ownsRow base e size v n xs) (hb : base' ≤ base) : w.ownsRow base' e size v n xs := by
  obtain ⟨h1, h2⟩ := h
  refine ⟨h1, h2.imp id ?_⟩
  rintro ⟨g, cap, cur, hv, hg, r⟩
  exact ⟨g, cap, cur, hv, Nat.le_trans hb hg, r⟩
theorem EntAt.low {B B' : Nat} {w : World} {b : Nat} {e : EntD} (h : EntAt B w b e) (hb : B' ≤ B) : EntAt B' w b e := by
  obtain ⟨tA, tI, vA, vI, h1, h2, h3, h4⟩ := h
  exact ⟨tA, tI, vA, vI, Nat.le_trans hb h1, h2, h3.low hb, ⟨h4.at_, ownsRow_low' h4.keys hb, h4.up, h4.few, Nat.le_trans hb h4.base⟩⟩
/-- What may change while the entries below a mark stay as they are. -/
def Past (M : Nat) (k : Nat) (t : TypeId) : Prop := M ≤ k ∨ ¬ TyE t
/-- An entry that stays as it is. -/
def EntOld (M : Nat) (w : World) (b : Nat) (e : EntD) : Prop := ∀ w', Wr (Past M) w w' → EntAt 0 w' b e
theorem EntAt.old {B : Nat} {w : World} {b : Nat} {e : EntD} (h : EntAt B w b e) : EntOld w.heap.size w b e := fun _ k =>
  (h.low (Nat.zero_le _)).wr k fun _ _ _ hj ht hp => hp.elim (fun h => by omega) (fun h => h ht)
theorem EntOld.wr {M : Nat} {w w' : World} {b : Nat} {e : EntD} (h : EntOld M w b e) (k : Wr (Past M) w w') : EntOld M w' b e := fun w2 k2 => h w2 (k.trans k2)
theorem EntOld.up {M M' : Nat} {w : World} {b : Nat} {e : EntD} (h : EntOld M w b e) (hm : M ≤ M') : EntOld M' w b e := fun w2 k2 => h w2 (k2.mono fun _ _ _ hd => hd.elim (fun h => .inl (by omega)) .inr)
theorem EntOld.now {M : Nat} {w : World} {b : Nat} {e : EntD} (h : EntOld M w b e) : EntAt 0 w b e := h w (Wr.refl _ _)
/-- Entries that stay as they are. -/
def Olds (M : Nat) (w : World) (bs : List Nat) (es : List EntD) : Prop := bs.length = es.length ∧ ∀ (i : Nat) b e, bs[i]? = some b → es[i]? = some e → EntOld M w b e
theorem Olds.wr {M : Nat} {w w' : World} {bs : List Nat} {es : List EntD} (h : Olds M w bs es) (k : Wr (Past M) w w') : Olds M w' bs es := ⟨h.1, fun i b e hb he => (h.2 i b e hb he).wr k⟩
theorem Olds.up {M M' : Nat} {w : World} {bs : List Nat} {es : List EntD} (h : Olds M w bs es) (hm : M ≤ M') : Olds M' w bs es := ⟨h.1, fun i b e hb he => (h.2 i b e hb he).up hm⟩
theorem Olds.snoc {M B : Nat} {w : World} {bs : List Nat} {es : List EntD} {b : Nat} {e : EntD} (h : Olds M w bs es) (hm : M ≤ w.heap.size) (he : EntAt B w b e) : Olds w.heap.size w (bs ++ [b]) (es ++ [e]) := by
  refine ⟨by simp [h.1], fun i x y hx hy => ?_⟩
  by_cases hi : i < bs.length
  · rw [List.getElem?_append_left hi] at hx
    rw [List.getElem?_append_left (by rw [← h.1]; exact hi)] at hy
    exact (h.2 i x y hx hy).up hm
  · rw [List.getElem?_append_right (by omega)] at hx
    rw [List.getElem?_append_right (by rw [← h.1]; omega)] at hy
    have h0 : i - bs.length = 0 := by
      have := (List.getElem?_eq_some_iff.1 hx).1
      simp at this; omega
    rw [h0] at hx
    rw [← h.1, h0] at hy
    simp at hx hy
    subst hx; subst hy
    exact he.old

def cRf (r : IDd × Nat) : List Value := [.string r.1.kind, .string r.1.name, .int .i64 r.2]
def cPt (b : Nat) : List Value := [.pointer (some ⟨b, 0, none⟩)]
structure ParIn (B : Nat) (w : World) (P tE : Nat) (vT vE vO vR : Value) (ts : List Tok) (i : Nat) (rs : List RowE) (bs : List Nat) (refs : List (IDd × Nat)) : Prop where
  base : B ≤ P
  box : w.heap[P]? = some (.cells #[vT, .int .i64 i, .pointer (some ⟨tE, 0, none⟩), vO, vR] 81 (0, 0))
  toks : w.ownsRow B 71 4 vT ts.length (cellsT ts)
  ents : TabAtE B w tE vE rs
  order : w.ownsRow B 76 1 vO bs.length (bs.flatMap cPt)
  refs : w.ownsRow B 84 3 vR refs.length (refs.flatMap cRf)
/-- The types of the blocks of a parser. -/
def TyP (t : TypeId) : Prop := t = 81 ∨ t = 71 ∨ t = 120 ∨ t = 132 ∨ t = 76 ∨ t = 84
theorem ParIn.wr {D : Nat → TypeId → Prop} {B : Nat} {w w' : World} {P tE : Nat} {vT vE vO vR : Value} {ts : List Tok} {i : Nat} {rs : List RowE} {bs : List Nat} {refs : List (IDd × Nat)} (h : ParIn B w P tE vT vE vO vR ts i rs bs refs) (k : Wr D w w') (hD : ∀ j t, B ≤ j → j < w.heap.size → TyP t → ¬ D j t) : ParIn B w' P tE vT vE vO vR ts i rs bs refs := by
  obtain ⟨h1, h2, h3, h4, h5, h6⟩ := h
  have hs : ∀ {j o}, w.heap[j]? = some o → j < w.heap.size := fun h => (Array.getElem?_eq_some_iff.1 h).1
  exact ⟨h1, k.keeps h2 (hD _ _ h1 (hs h2) (.inl rfl)), ownsRow_wr h3 k fun g hg hl => hD _ _ hg hl (.inr (.inl rfl)),
    ⟨k.keeps h4.at_ (hD _ _ h4.base (hs h4.at_) (.inr (.inr (.inl rfl)))), ownsRow_wr h4.rows k fun g hg hl => hD _ _ hg hl (.inr (.inr (.inr (.inl rfl)))), h4.up, h4.few, h4.base⟩,
    ownsRow_wr h5 k fun g hg hl => hD _ _ hg hl (.inr (.inr (.inr (.inr (.inl rfl))))), ownsRow_wr h6 k fun g hg hl => hD _ _ hg hl (.inr (.inr (.inr (.inr (.inr rfl)))))⟩
end Go.Proofs.YtfnbbohbicffpaaGreatDoor

namespace Go.Proofs.YtfnbbohbicffpaaGreatDoor
open Go.RowKit

/-- An error and its place. -/
abbrev Flt := Int × Nat
def wAfter : ByteArray := ⟨#[97, 102, 116, 101, 114]⟩
def wRes : ByteArray := ⟨#[114, 101, 115, 111, 117, 114, 99, 101]⟩
def kindAt (ts : List Tok) (i : Nat) : Nat := match ts[i]? with
  | some t => t.kind
  | none => 11
def takeS (ts : List Tok) (i k : Nat) : Except Flt (Tok × Nat) := match ts[i]? with
  | none => .error (6, 0)
  | some t => if t.kind = k then .ok (t, i + 1) else .error (6, t.place)
theorem take_ok {ts : List Tok} {i : Nat} {t : Tok} (h : ts[i]? = some t) {k : Nat} (hk : t.kind = k) : takeS ts i k = .ok (t, i + 1) := by
  unfold takeS; rw [h]; simp [hk]
theorem take_no {ts : List Tok} {i : Nat} {t : Tok} (h : ts[i]? = some t) {k : Nat} (hk : t.kind ≠ k) : takeS ts i k = .error (6, t.place) := by
  unfold takeS; rw [h]; simp [hk]
theorem kind_at {ts : List Tok} {i : Nat} {t : Tok} (h : ts[i]? = some t) : kindAt ts i = t.kind := by
  unfold kindAt; rw [h]
/-- The tokens of a text: the last is the end, and no other is. -/
structure TsEnd (ts : List Tok) : Prop where
  some_ : 0 < ts.length
  end_ : ∀ (i : Nat) t, ts[i]? = some t → (t.kind = 11 ↔ i + 1 = ts.length)
/-- What is no end is followed by one more. -/
theorem TsEnd.next {ts : List Tok} (h : TsEnd ts) {i : Nat} {t : Tok} (ht : ts[i]? = some t) (hk : t.kind ≠ 11) : i + 1 < ts.length := by
  have h1 := (List.getElem?_eq_some_iff.1 ht).1
  have h2 : ¬ i + 1 = ts.length := fun he => hk ((h.end_ i t ht).2 he)
  omega
theorem TsEnd.there {ts : List Tok} {i : Nat} (h : i < ts.length) : ∃ t, ts[i]? = some t := ⟨ts[i], List.getElem?_eq_getElem h⟩
/-- A key among others, by rising keys. -/
def insI (ks : List IDd) (a : IDd) : List IDd := ks.takeWhile (fun k => decide (cmpI k a < 0)) ++ a :: ks.dropWhile (fun k => decide (cmpI k a < 0))
def insA (rs : List RowA) (x : RowA) : List RowA := rs.takeWhile (fun r => decide (cmpS r.key x.key < 0)) ++ x :: rs.dropWhile (fun r => decide (cmpS r.key x.key < 0))
theorem cut_while {α : Type} (p : α → Bool) : ∀ (l : List α) (i : Nat), i ≤ l.length → (∀ (k : Nat) x, k < i → l[k]? = some x → p x = true) → (∀ (k : Nat) x, i ≤ k → l[k]? = some x → p x = false) → l.takeWhile p = l.take i ∧ l.dropWhile p = l.drop i
  | [], i, _, _, _ => by simp
  | x :: l, 0, _, _, h2 => by
    have := h2 0 x (Nat.le_refl _) rfl
    simp [List.takeWhile, List.dropWhile, this]
  | x :: l, i + 1, hi, h1, h2 => by
    have hx := h1 0 x (by omega) rfl
    have := cut_while p l i (by simpa using hi) (fun k y hk hy => h1 (k + 1) y (by omega) (by simpa using hy)) (fun k y hk hy => h2 (k + 1) y (by omega) (by simpa using hy))
    simp [List.takeWhile, List.dropWhile, hx, this.1, this.2]
theorem insI_at {ks : List IDd} {a : IDd} {i : Nat} (h : Stands ks a i) : insL ks i a = insI ks a := by
  obtain ⟨h1, h2⟩ := cut_while (fun k => decide (cmpI k a < 0)) ks i h.le (fun k x hk hx => by simpa using h.ahead k x hk hx) (fun k x hk hx => by simpa using h.behind k x hk hx)
  unfold insI insL
  rw [h1, h2]
theorem insA_at {rs : List RowA} {x : RowA} {i : Nat} (h : StandsG cmpS RowA.key rs x.key i) : insG rs i x = insA rs x := by
  obtain ⟨h1, h2⟩ := cut_while (fun r : RowA => decide (cmpS r.key x.key < 0)) rs i h.le (fun k y hk hy => by simpa using h.ahead k y hk hy) (fun k y hk hy => by simpa using h.behind k y hk hy)
  unfold insA insG
  rw [h1, h2]
open Classical in
noncomputable def refS (ts : List Tok) (i : Nat) (e : EntD) (rf : List (IDd × Nat)) : Except Flt (Nat × EntD × List (IDd × Nat)) :=
  match takeS ts i 1 with
  | .error x => .error x
  | .ok (k, i) => match takeS ts i 10 with
    | .error x => .error x
    | .ok (_, i) => match takeS ts i 1 with
      | .error x => .error x
      | .ok (n, i) => if e.after.length = 6 then .error (7, k.place) else if (⟨k.text, n.text⟩ : IDd) ∈ e.after then .error (8, k.place) else .ok (i, { e with after := insI e.after ⟨k.text, n.text⟩ }, rf ++ [(⟨k.text, n.text⟩, k.place)])
noncomputable def refsS (ts : List Tok) : Nat → Nat → EntD → List (IDd × Nat) → Except Flt (Nat × EntD × List (IDd × Nat))
  | 0, _, _, _ => .error (6, 0)
  | f + 1, i, e, rf => match refS ts i e rf with
    | .error x => .error x
    | .ok (i, e, rf) => if kindAt ts i = 9 then refsS ts f (i + 1) e rf else .ok (i, e, rf)
noncomputable def listS (ts : List Tok) (i : Nat) (e : EntD) (rf : List (IDd × Nat)) : Except Flt (Nat × EntD × List (IDd × Nat)) :=
  match takeS ts i 6 with
  | .error x => .error x
  | .ok (_, i) => match (if kindAt ts i = 7 then .ok (i, e, rf) else refsS ts ts.length i e rf : Except Flt (Nat × EntD × List (IDd × Nat))) with
    | .error x => .error x
    | .ok (i, e, rf) => match takeS ts i 7 with
      | .error x => .error x
      | .ok (_, i) => .ok (i, e, rf)
def valueS (ts : List Tok) (i : Nat) (e : EntD) (name : ByteArray) : Except Flt (Nat × EntD) :=
  match takeS ts i (if kindAt ts i = 3 then 3 else 2) with
  | .error x => .error x
  | .ok (t, j) => .ok (j, { e with attrs := insA e.attrs ⟨name, ⟨name, decide (kindAt ts i = 3), t.text, t.value⟩⟩ })
open Classical in
noncomputable def nameS (e : EntD) (name : ByteArray) : Int :=
  if name ≠ wAfter ∧ e.attrs.length = 6 then 7 else if (name = wAfter ∧ e.hasAfter = true) ∨ HasK RowA.key e.attrs name then 8 else 0
open Classical in
noncomputable def lineS (ts : List Tok) (i : Nat) (e : EntD) (rf : List (IDd × Nat)) : Except Flt (Nat × EntD × List (IDd × Nat)) :=
  match takeS ts i 1 with
  | .error x => .error x
  | .ok (n, i) => if nameS e n.text ≠ 0 then .error (nameS e n.text, n.place) else match takeS ts i 8 with
    | .error x => .error x
    | .ok (_, i) => if n.text = wAfter then listS ts i { e with hasAfter := true } rf else match valueS ts i e n.text with
      | .error x => .error x
      | .ok (i, e) => .ok (i, e, rf)
noncomputable def linesS (ts : List Tok) : Nat → Nat → EntD → List (IDd × Nat) → Except Flt (Nat × EntD × List (IDd × Nat))
  | 0, _, _, _ => .error (6, 0)
  | f + 1, i, e, rf => if kindAt ts i = 5 then .ok (i, e, rf) else match lineS ts i e rf with
    | .error x => .error x
    | .ok (i, e, rf) => linesS ts f i e rf
open Classical in
noncomputable def headS (ts : List Tok) (i : Nat) (es : List EntD) : Except Flt (Nat × EntD) :=
  match takeS ts i 1 with
  | .error x => .error x
  | .ok (b, i) => if b.text ≠ wRes then .error (6, b.place) else if es.length = 12 then .error (7, b.place) else match takeS ts i 1 with
    | .error x => .error x
    | .ok (k, i) => match takeS ts i 1 with
      | .error x => .error x
      | .ok (n, i) => if (⟨k.text, n.text⟩ : IDd) ∈ es.map EntD.id then .error (8, k.place) else .ok (i, ⟨⟨k.text, n.text⟩, k.place, [], false, []⟩)
noncomputable def resS (ts : List Tok) (i : Nat) (es : List EntD) (rf : List (IDd × Nat)) : Except Flt (Nat × List EntD × List (IDd × Nat)) :=
  match headS ts i es with
  | .error x => .error x
  | .ok (i, e) => match takeS ts i 4 with
    | .error x => .error x
    | .ok (_, i) => match linesS ts ts.length i e rf with
      | .error x => .error x
      | .ok (i, e, rf) => match takeS ts i 5 with
        | .error x => .error x
        | .ok (_, i) => .ok (i, es ++ [e], rf)
noncomputable def textS (ts : List Tok) : Nat → Nat → List EntD → List (IDd × Nat) → Except Flt (List EntD × List (IDd × Nat))
  | 0, _, _, _ => .error (6, 0)
  | f + 1, i, es, rf => if kindAt ts i = 11 then .ok (es, rf) else match resS ts i es rf with
    | .error x => .error x
    | .ok (i, es, rf) => textS ts f i es rf
end Go.Proofs.YtfnbbohbicffpaaGreatDoor
