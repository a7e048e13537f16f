/-
  The parser in memory: its box, its rows, its entries.
-/
/-
  The reference: tokens as it has them.
-/
/-
  The plain parser: what is read from a list of tokens, with no memory.
-/
/-
  How many keys a table of keys has.
-/
/-
  Who waits for itself: what the program's look answers.
-/
/-
  Resources that are whole: what the program's functions answer.
-/
import Derived.Test.YtejhegnlmldomaaGreatJ17
import Derived.Test.YtejhegnlmldomaaGreatJ15
import Derived.Test.YtejhegnlmldomaaGreatJ14
import Derived.Test.YtejhegnlmldomaaGreatJ13
import Derived.Test.YtejhegnlmldomaaGreatJ12
import Derived.Test.YtejhegnlmldomaaGreatJ16
import Derived.Test.YtejhegnlmldomaaGreatJ6
import Derived.Test.YtejhegnlmldomaaGreatJ5
namespace Go.Proofs.YtejhegnlmldomaaGreat
open Go.RowKit

/-- Only blocks of some places and types are other than they were. -/
structure Wr (D : Nat → TypeId → Prop) (w w' : World) : Prop where
  os : w'.os = w.os
  tape : w'.tape = w.tape
  output : w'.output = w.output
  size : w.heap.size ≤ w'.heap.size
  heap : ∀ k, k < w.heap.size → (∀ c t fz, w.heap[k]? = some (.cells c t fz) → ¬ D k t) → w'.heap[k]? = w.heap[k]?
theorem Wr.refl (D : Nat → TypeId → Prop) (w : World) : Wr D w w := ⟨rfl, rfl, rfl, Nat.le_refl _, fun _ _ _ => rfl⟩
theorem Wr.trans {D : Nat → TypeId → Prop} {a b c : World} (h : Wr D a b) (k : Wr D b c) : Wr D a c :=
  ⟨k.os.trans h.os, k.tape.trans h.tape, k.output.trans h.output, Nat.le_trans h.size k.size, fun j hj hd => by
    have h1 := h.heap j hj hd
    rw [← h1]
    exact k.heap j (Nat.lt_of_lt_of_le hj h.size) (by rw [h1]; exact hd)⟩
theorem Wr.mono {D D' : Nat → TypeId → Prop} {w w' : World} (h : Wr D w w') (hd : ∀ k t, k < w.heap.size → D k t → D' k t) : Wr D' w w' :=
  ⟨h.os, h.tape, h.output, h.size, fun k hk hn => h.heap k hk fun c t fz hc hD => hn c t fz hc (hd k t hk hD)⟩
theorem Wr.ext {D : Nat → TypeId → Prop} {w w' : World} (h : Ext w w') : Wr D w w' := ⟨Below.os h, Below.tape h, Below.output h, Ext.size h, fun k hk _ => Below.block h k hk⟩
theorem Wr.wrote {D : Nat → TypeId → Prop} {B : Nat} {T : TypeId → Prop} {w w' : World} (h : Wrote B T w w') (hd : ∀ k t, k < w.heap.size → B ≤ k → T t → D k t) : Wr D w w' :=
  ⟨h.os, h.tape, h.output, h.size, fun k hk hn => h.heap k hk (by
    by_cases hb : k < B
    · exact .inl hb
    · exact .inr fun c t fz hc hT => hn c t fz hc (hd k t hk (by omega) hT))⟩
theorem Wr.keeps {D : Nat → TypeId → Prop} {w w' : World} (h : Wr D w w') {k : Nat} {c : Array Value} {t : TypeId} {fz : Nat × Nat} (hk : w.heap[k]? = some (.cells c t fz)) (hD : ¬ D k t) : w'.heap[k]? = some (.cells c t fz) := by
  rw [h.heap k (Array.getElem?_eq_some_iff.1 hk).1 (fun c' t' fz' h' => by rw [hk] at h'; cases h'; exact hD)]; exact hk
theorem Wr.toExt {w0 w w' : World} {D : Nat → TypeId → Prop} (h : Ext w0 w) (k : Wr D w w') (hD : ∀ j t, D j t → w0.heap.size ≤ j) : Ext w0 w' :=
  ⟨k.os.trans (Below.os h), k.tape.trans (Below.tape h), k.output.trans (Below.output h), Nat.le_trans (Ext.size h) k.size, fun j hj => by
    rw [k.heap j (Nat.lt_of_lt_of_le hj (Ext.size h)) (fun c t fz _ hd => by have := hD j t hd; omega)]
    exact Below.block h j hj⟩
theorem ownsRow_wr {D : Nat → TypeId → Prop} {w w' : World} {B : Nat} {e : TypeId} {size : Nat} {v : Value} {n : Nat} {xs : List Value} (h : w.ownsRow B e size v n xs) (k : Wr D w w') (hD : ∀ g, B ≤ g → g < w.heap.size → ¬ D g e) : w'.ownsRow B e size v n xs := by
  obtain ⟨h1, h2⟩ := h
  refine ⟨h1, ?_⟩
  rcases h2 with h2 | ⟨g, cap, cur, hv, hg, hh, r⟩
  · exact .inl h2
  · exact .inr ⟨g, cap, cur, hv, hg, k.keeps hh (hD g hg (Array.getElem?_eq_some_iff.1 hh).1), r⟩

/-- An entry: what is known of a resource while it is read. -/
structure EntD where
  id : IDd
  place : Nat
  attrs : List RowA
  hasAfter : Bool
  after : List IDd
/-- The types of the blocks of an entry. -/
def TyE (t : TypeId) : Prop := t = 126 ∨ t = 188 ∨ t = 190 ∨ t = 194 ∨ t = 196
structure EntIn (B : Nat) (w : World) (b tA tI : Nat) (vA vI : Value) (e : EntD) : Prop where
  base : B ≤ b
  box : w.heap[b]? = some (.cells #[.string e.id.kind, .string e.id.name, .int .i64 e.place, .pointer (some ⟨tA, 0, none⟩), .bool e.hasAfter, .pointer (some ⟨tI, 0, none⟩)] 126 (0, 0))
  attrs : TabAtA B w tA vA e.attrs
  after : TabAt B w tI vI e.after
/-- An entry lies in memory. -/
def EntAt (B : Nat) (w : World) (b : Nat) (e : EntD) : Prop := ∃ tA tI vA vI, EntIn B w b tA tI vA vI e
theorem EntAt.wr {D : Nat → TypeId → Prop} {B : Nat} {w w' : World} {b : Nat} {e : EntD} (h : EntAt B w b e) (k : Wr D w w') (hD : ∀ j t, B ≤ j → j < w.heap.size → TyE t → ¬ D j t) : EntAt B w' b e := by
  obtain ⟨tA, tI, vA, vI, h1, h2, h3, h4⟩ := h
  have hs : ∀ {j o}, w.heap[j]? = some o → j < w.heap.size := fun h => (Array.getElem?_eq_some_iff.1 h).1
  exact ⟨tA, tI, vA, vI, h1, k.keeps h2 (hD _ _ h1 (hs h2) (.inl rfl)),
    ⟨k.keeps h3.at_ (hD _ _ h3.base (hs h3.at_) (.inr (.inl rfl))), ownsRow_wr h3.rows k fun g hg hl => hD _ _ hg hl (.inr (.inr (.inl rfl))), h3.up, h3.few, h3.base⟩,
    ⟨k.keeps h4.at_ (hD _ _ h4.base (hs h4.at_) (.inr (.inr (.inr (.inl rfl))))), ownsRow_wr h4.keys k fun g hg hl => hD _ _ hg hl (.inr (.inr (.inr (.inr rfl)))), h4.up, h4.few, h4.base⟩⟩
theorem ownsRow_low' {w : World} {base base' : Nat} {e : TypeId} {size : Nat} {v : Value} {n : Nat} {xs : List Value} (h : w.ownsRow base e size v n xs) (hb : base' ≤ base) : w.ownsRow base' e size v n xs := by
  obtain ⟨h1, h2⟩ := h
  refine ⟨h1, h2.imp id ?_⟩
  rintro ⟨g, cap, cur, hv, hg, r⟩
  exact ⟨g, cap, cur, hv, Nat.le_trans hb hg, r⟩
theorem EntAt.low {B B' : Nat} {w : World} {b : Nat} {e : EntD} (h : EntAt B w b e) (hb : B' ≤ B) : EntAt B' w b e := by
  obtain ⟨tA, tI, vA, vI, h1, h2, h3, h4⟩ := h
  exact ⟨tA, tI, vA, vI, Nat.le_trans hb h1, h2, h3.low hb, ⟨h4.at_, ownsRow_low' h4.keys hb, h4.up, h4.few, Nat.le_trans hb h4.base⟩⟩
/-- What may change while the entries below a mark stay as they are. -/
def Past (M : Nat) (k : Nat) (t : TypeId) : Prop := M ≤ k ∨ ¬ TyE t
/-- An entry that stays as it is. -/
def EntOld (M : Nat) (w : World) (b : Nat) (e : EntD) : Prop := ∀ w', Wr (Past M) w w' → EntAt 0 w' b e
theorem EntAt.old {B : Nat} {w : World} {b : Nat} {e : EntD} (h : EntAt B w b e) : EntOld w.heap.size w b e := fun _ k =>
  (h.low (Nat.zero_le _)).wr k fun _ _ _ hj ht hp => hp.elim (fun h => by omega) (fun h => h ht)
theorem EntOld.wr {M : Nat} {w w' : World} {b : Nat} {e : EntD} (h : EntOld M w b e) (k : Wr (Past M) w w') : EntOld M w' b e := fun w2 k2 => h w2 (k.trans k2)
theorem EntOld.up {M M' : Nat} {w : World} {b : Nat} {e : EntD} (h : EntOld M w b e) (hm : M ≤ M') : EntOld M' w b e := fun w2 k2 => h w2 (k2.mono fun _ _ _ hd => hd.elim (fun h => .inl (by omega)) .inr)
theorem EntOld.now {M : Nat} {w : World} {b : Nat} {e : EntD} (h : EntOld M w b e) : EntAt 0 w b e := h w (Wr.refl _ _)
/-- Entries that stay as they are. -/
def Olds (M : Nat) (w : World) (bs : List Nat) (es : List EntD) : Prop := bs.length = es.length ∧ ∀ (i : Nat) b e, bs[i]? = some b → es[i]? = some e → EntOld M w b e
theorem Olds.wr {M : Nat} {w w' : World} {bs : List Nat} {es : List EntD} (h : Olds M w bs es) (k : Wr (Past M) w w') : Olds M w' bs es := ⟨h.1, fun i b e hb he => (h.2 i b e hb he).wr k⟩
theorem Olds.up {M M' : Nat} {w : World} {bs : List Nat} {es : List EntD} (h : Olds M w bs es) (hm : M ≤ M') : Olds M' w bs es := ⟨h.1, fun i b e hb he => (h.2 i b e hb he).up hm⟩
theorem Olds.snoc {M B : Nat} {w : World} {bs : List Nat} {es : List EntD} {b : Nat} {e : EntD} (h : Olds M w bs es) (hm : M ≤ w.heap.size) (he : EntAt B w b e) : Olds w.heap.size w (bs ++ [b]) (es ++ [e]) := by
  refine ⟨by simp [h.1], fun i x y hx hy => ?_⟩
  by_cases hi : i < bs.length
  · rw [List.getElem?_append_left hi] at hx
    rw [List.getElem?_append_left (by rw [← h.1]; exact hi)] at hy
    exact (h.2 i x y hx hy).up hm
  · rw [List.getElem?_append_right (by omega)] at hx
    rw [List.getElem?_append_right (by rw [← h.1]; omega)] at hy
    have h0 : i - bs.length = 0 := by
      have := (List.getElem?_eq_some_iff.1 hx).1
      simp at this; omega
    rw [h0] at hx
    rw [← h.1, h0] at hy
    simp at hx hy
    subst hx; subst hy
    exact he.old

def cRf (r : IDd × Nat) : List Value := [.string r.1.kind, .string r.1.name, .int .i64 r.2]
def cPt (b : Nat) : List Value := [.pointer (some ⟨b, 0, none⟩)]
structure ParIn (B : Nat) (w : World) (P tE : Nat) (vT vE vO vR : Value) (ts : List Tok) (i : Nat) (rs : List RowE) (bs : List Nat) (refs : List (IDd × Nat)) : Prop where
  base : B ≤ P
  box : w.heap[P]? = some (.cells #[vT, .int .i64 i, .pointer (some ⟨tE, 0, none⟩), vO, vR] 112 (0, 0))
  toks : w.ownsRow B 102 4 vT ts.length (cellsT ts)
  ents : TabAtE B w tE vE rs
  order : w.ownsRow B 107 1 vO bs.length (bs.flatMap cPt)
  refs : w.ownsRow B 115 3 vR refs.length (refs.flatMap cRf)
/-- The types of the blocks of a parser. -/
def TyP (t : TypeId) : Prop := t = 112 ∨ t = 102 ∨ t = 156 ∨ t = 168 ∨ t = 107 ∨ t = 115
theorem ParIn.wr {D : Nat → TypeId → Prop} {B : Nat} {w w' : World} {P tE : Nat} {vT vE vO vR : Value} {ts : List Tok} {i : Nat} {rs : List RowE} {bs : List Nat} {refs : List (IDd × Nat)} (h : ParIn B w P tE vT vE vO vR ts i rs bs refs) (k : Wr D w w') (hD : ∀ j t, B ≤ j → j < w.heap.size → TyP t → ¬ D j t) : ParIn B w' P tE vT vE vO vR ts i rs bs refs := by
  obtain ⟨h1, h2, h3, h4, h5, h6⟩ := h
  have hs : ∀ {j o}, w.heap[j]? = some o → j < w.heap.size := fun h => (Array.getElem?_eq_some_iff.1 h).1
  exact ⟨h1, k.keeps h2 (hD _ _ h1 (hs h2) (.inl rfl)), ownsRow_wr h3 k fun g hg hl => hD _ _ hg hl (.inr (.inl rfl)),
    ⟨k.keeps h4.at_ (hD _ _ h4.base (hs h4.at_) (.inr (.inr (.inl rfl)))), ownsRow_wr h4.rows k fun g hg hl => hD _ _ hg hl (.inr (.inr (.inr (.inl rfl)))), h4.up, h4.few, h4.base⟩,
    ownsRow_wr h5 k fun g hg hl => hD _ _ hg hl (.inr (.inr (.inr (.inr (.inl rfl))))), ownsRow_wr h6 k fun g hg hl => hD _ _ hg hl (.inr (.inr (.inr (.inr (.inr rfl)))))⟩
end Go.Proofs.YtejhegnlmldomaaGreat

namespace Go.Proofs.YtejhegnlmldomaaGreat
open Go.RowKit

def signByte (k : Nat) : UInt8 := if k = 4 then 123 else if k = 5 then 125 else if k = 6 then 91 else if k = 7 then 93 else if k = 8 then 61 else if k = 9 then 44 else 46
/-- A token as the reference has it. -/
def rTok (t : Tok) : Tok := if t.kind ≤ 3 then t else if t.kind = 11 then ⟨5, t.place, ⟨#[]⟩, 0⟩ else ⟨4, t.place, baOf [signByte t.kind], 0⟩
theorem infoRTok : (Tryz.prog.info? 50).map (fun i => (i.zero, i.size, i.bytes)) = some (some (.agg #[.int .i64 0, .int .i64 0, .string ⟨#[]⟩, .int .i64 0]), 4, 40) := by kernel_rfl
theorem ex_ba (s : ByteArray) {a b : Nat} (h : a ≤ b) : s.extract a b = baOf ((s.data.toList.drop a).take (b - a)) := by
  rw [← ex_midT s a b h]; rfl
theorem cutF_skip {l : List UInt8} {a b : Nat} (h : skipL l a = skipL l b) (f : Nat) : cutF l f a = cutF l f b := by
  cases f with
  | zero => rfl
  | succ f => simp only [cutF, h]
/-- What the reference's cutting answers. -/
def RCutIs (w : World) (r : List Tok × (Int × Nat)) (e : Ending) (w' : World) : Prop :=
  Hid (Ext w w') ∧ ∃ (pa : Option Addr) (cap : Nat), e = .returned (.tuple #[.slice pa r.1.length cap, .int .i64 r.2.1, .int .i64 r.2.2]) ∧ Hid (w'.ownsRow w.heap.size 50 4 (.slice pa r.1.length cap) r.1.length (cellsT (r.1.map rTok)))
end Go.Proofs.YtejhegnlmldomaaGreat

namespace Go.Proofs.YtejhegnlmldomaaGreat
open Go.RowKit

/-- An error and its place. -/
abbrev Flt := Int × Nat
def wAfter : ByteArray := ⟨#[97, 102, 116, 101, 114]⟩
def wRes : ByteArray := ⟨#[114, 101, 115, 111, 117, 114, 99, 101]⟩
def kindAt (ts : List Tok) (i : Nat) : Nat := match ts[i]? with
  | some t => t.kind
  | none => 11
def takeS (ts : List Tok) (i k : Nat) : Except Flt (Tok × Nat) := match ts[i]? with
  | none => .error (6, 0)
  | some t => if t.kind = k then .ok (t, i + 1) else .error (6, t.place)
theorem take_ok {ts : List Tok} {i : Nat} {t : Tok} (h : ts[i]? = some t) {k : Nat} (hk : t.kind = k) : takeS ts i k = .ok (t, i + 1) := by
  unfold takeS; rw [h]; simp [hk]
theorem take_no {ts : List Tok} {i : Nat} {t : Tok} (h : ts[i]? = some t) {k : Nat} (hk : t.kind ≠ k) : takeS ts i k = .error (6, t.place) := by
  unfold takeS; rw [h]; simp [hk]
theorem kind_at {ts : List Tok} {i : Nat} {t : Tok} (h : ts[i]? = some t) : kindAt ts i = t.kind := by
  unfold kindAt; rw [h]
/-- The tokens of a text: the last is the end, and no other is. -/
structure TsEnd (ts : List Tok) : Prop where
  some_ : 0 < ts.length
  end_ : ∀ (i : Nat) t, ts[i]? = some t → (t.kind = 11 ↔ i + 1 = ts.length)
/-- What is no end is followed by one more. -/
theorem TsEnd.next {ts : List Tok} (h : TsEnd ts) {i : Nat} {t : Tok} (ht : ts[i]? = some t) (hk : t.kind ≠ 11) : i + 1 < ts.length := by
  have h1 := (List.getElem?_eq_some_iff.1 ht).1
  have h2 : ¬ i + 1 = ts.length := fun he => hk ((h.end_ i t ht).2 he)
  omega
theorem TsEnd.there {ts : List Tok} {i : Nat} (h : i < ts.length) : ∃ t, ts[i]? = some t := ⟨ts[i], List.getElem?_eq_getElem h⟩
/-- A key among others, by rising keys. -/
def insI (ks : List IDd) (a : IDd) : List IDd := ks.takeWhile (fun k => decide (cmpI k a < 0)) ++ a :: ks.dropWhile (fun k => decide (cmpI k a < 0))
def insA (rs : List RowA) (x : RowA) : List RowA := rs.takeWhile (fun r => decide (cmpS r.key x.key < 0)) ++ x :: rs.dropWhile (fun r => decide (cmpS r.key x.key < 0))
theorem cut_while {α : Type} (p : α → Bool) : ∀ (l : List α) (i : Nat), i ≤ l.length → (∀ (k : Nat) x, k < i → l[k]? = some x → p x = true) → (∀ (k : Nat) x, i ≤ k → l[k]? = some x → p x = false) → l.takeWhile p = l.take i ∧ l.dropWhile p = l.drop i
  | [], i, _, _, _ => by simp
  | x :: l, 0, _, _, h2 => by
    have := h2 0 x (Nat.le_refl _) rfl
    simp [List.takeWhile, List.dropWhile, this]
  | x :: l, i + 1, hi, h1, h2 => by
    have hx := h1 0 x (by omega) rfl
    have := cut_while p l i (by simpa using hi) (fun k y hk hy => h1 (k + 1) y (by omega) (by simpa using hy)) (fun k y hk hy => h2 (k + 1) y (by omega) (by simpa using hy))
    simp [List.takeWhile, List.dropWhile, hx, this.1, this.2]
theorem insI_at {ks : List IDd} {a : IDd} {i : Nat} (h : Stands ks a i) : insL ks i a = insI ks a := by
  obtain ⟨h1, h2⟩ := cut_while (fun k => decide (cmpI k a < 0)) ks i h.le (fun k x hk hx => by simpa using h.ahead k x hk hx) (fun k x hk hx => by simpa using h.behind k x hk hx)
  unfold insI insL
  rw [h1, h2]
theorem insA_at {rs : List RowA} {x : RowA} {i : Nat} (h : StandsG cmpS RowA.key rs x.key i) : insG rs i x = insA rs x := by
  obtain ⟨h1, h2⟩ := cut_while (fun r : RowA => decide (cmpS r.key x.key < 0)) rs i h.le (fun k y hk hy => by simpa using h.ahead k y hk hy) (fun k y hk hy => by simpa using h.behind k y hk hy)
  unfold insA insG
  rw [h1, h2]
open Classical in
noncomputable def refS (ts : List Tok) (i : Nat) (e : EntD) (rf : List (IDd × Nat)) : Except Flt (Nat × EntD × List (IDd × Nat)) :=
  match takeS ts i 1 with
  | .error x => .error x
  | .ok (k, i) => match takeS ts i 10 with
    | .error x => .error x
    | .ok (_, i) => match takeS ts i 1 with
      | .error x => .error x
      | .ok (n, i) => if e.after.length = 6 then .error (7, k.place) else if (⟨k.text, n.text⟩ : IDd) ∈ e.after then .error (8, k.place) else .ok (i, { e with after := insI e.after ⟨k.text, n.text⟩ }, rf ++ [(⟨k.text, n.text⟩, k.place)])
noncomputable def refsS (ts : List Tok) : Nat → Nat → EntD → List (IDd × Nat) → Except Flt (Nat × EntD × List (IDd × Nat))
  | 0, _, _, _ => .error (6, 0)
  | f + 1, i, e, rf => match refS ts i e rf with
    | .error x => .error x
    | .ok (i, e, rf) => if kindAt ts i = 9 then refsS ts f (i + 1) e rf else .ok (i, e, rf)
noncomputable def listS (ts : List Tok) (i : Nat) (e : EntD) (rf : List (IDd × Nat)) : Except Flt (Nat × EntD × List (IDd × Nat)) :=
  match takeS ts i 6 with
  | .error x => .error x
  | .ok (_, i) => match (if kindAt ts i = 7 then .ok (i, e, rf) else refsS ts ts.length i e rf : Except Flt (Nat × EntD × List (IDd × Nat))) with
    | .error x => .error x
    | .ok (i, e, rf) => match takeS ts i 7 with
      | .error x => .error x
      | .ok (_, i) => .ok (i, e, rf)
def valueS (ts : List Tok) (i : Nat) (e : EntD) (name : ByteArray) : Except Flt (Nat × EntD) :=
  match takeS ts i (if kindAt ts i = 3 then 3 else 2) with
  | .error x => .error x
  | .ok (t, j) => .ok (j, { e with attrs := insA e.attrs ⟨name, ⟨name, decide (kindAt ts i = 3), t.text, t.value⟩⟩ })
open Classical in
noncomputable def nameS (e : EntD) (name : ByteArray) : Int :=
  if name ≠ wAfter ∧ e.attrs.length = 6 then 7 else if (name = wAfter ∧ e.hasAfter = true) ∨ HasK RowA.key e.attrs name then 8 else 0
open Classical in
noncomputable def lineS (ts : List Tok) (i : Nat) (e : EntD) (rf : List (IDd × Nat)) : Except Flt (Nat × EntD × List (IDd × Nat)) :=
  match takeS ts i 1 with
  | .error x => .error x
  | .ok (n, i) => if nameS e n.text ≠ 0 then .error (nameS e n.text, n.place) else match takeS ts i 8 with
    | .error x => .error x
    | .ok (_, i) => if n.text = wAfter then listS ts i { e with hasAfter := true } rf else match valueS ts i e n.text with
      | .error x => .error x
      | .ok (i, e) => .ok (i, e, rf)
noncomputable def linesS (ts : List Tok) : Nat → Nat → EntD → List (IDd × Nat) → Except Flt (Nat × EntD × List (IDd × Nat))
  | 0, _, _, _ => .error (6, 0)
  | f + 1, i, e, rf => if kindAt ts i = 5 then .ok (i, e, rf) else match lineS ts i e rf with
    | .error x => .error x
    | .ok (i, e, rf) => linesS ts f i e rf
open Classical in
noncomputable def headS (ts : List Tok) (i : Nat) (es : List EntD) : Except Flt (Nat × EntD) :=
  match takeS ts i 1 with
  | .error x => .error x
  | .ok (b, i) => if b.text ≠ wRes then .error (6, b.place) else if es.length = 12 then .error (7, b.place) else match takeS ts i 1 with
    | .error x => .error x
    | .ok (k, i) => match takeS ts i 1 with
      | .error x => .error x
      | .ok (n, i) => if (⟨k.text, n.text⟩ : IDd) ∈ es.map EntD.id then .error (8, k.place) else .ok (i, ⟨⟨k.text, n.text⟩, k.place, [], false, []⟩)
noncomputable def resS (ts : List Tok) (i : Nat) (es : List EntD) (rf : List (IDd × Nat)) : Except Flt (Nat × List EntD × List (IDd × Nat)) :=
  match headS ts i es with
  | .error x => .error x
  | .ok (i, e) => match takeS ts i 4 with
    | .error x => .error x
    | .ok (_, i) => match linesS ts ts.length i e rf with
      | .error x => .error x
      | .ok (i, e, rf) => match takeS ts i 5 with
        | .error x => .error x
        | .ok (_, i) => .ok (i, es ++ [e], rf)
noncomputable def textS (ts : List Tok) : Nat → Nat → List EntD → List (IDd × Nat) → Except Flt (List EntD × List (IDd × Nat))
  | 0, _, _, _ => .error (6, 0)
  | f + 1, i, es, rf => if kindAt ts i = 11 then .ok (es, rf) else match resS ts i es rf with
    | .error x => .error x
    | .ok (i, es, rf) => textS ts f i es rf
end Go.Proofs.YtejhegnlmldomaaGreat

namespace Go.Proofs.YtejhegnlmldomaaGreat
open Go.RowKit

set_option maxRecDepth 100000 in
set_option maxHeartbeats 800000 in
theorem tabLen (B : Nat) (v : Value) (ks : List IDd) (t : Nat) (w : World) (ht : TabAt B w t v ks) :
    Calls Tryz.prog 120 #[.pointer (some ⟨t, 0, none⟩)] w fun e w' => e = .returned (.int .i64 ks.length) ∧ w' = w := by
  obtain ⟨pa, cap, rfl⟩ := ownsRow_form ht.keys
  have c1 := two_c1 ht.at_
  replace ht := hide ht
  go_enter Tryz.func120, Tryz.ntmps120
  go_wp2
  go_ret
  exact ⟨rfl, rfl⟩
end Go.Proofs.YtejhegnlmldomaaGreat

namespace Go.Proofs.YtejhegnlmldomaaGreat
open Go.RowKit

/-- It tells whether one waits for itself, and all is as it was. -/
def CircIs (w : World) (l : List Resd) (a : IDd) (e : Ending) (w' : World) : Prop := ∃ b : Bool, e = .returned (.bool b) ∧ Hid (b = true ↔ IdCirc l a) ∧ Hid (Ext w w')
theorem TabAt.low {B B' : Nat} {w : World} {t : Nat} {v : Value} {ks : List IDd} (h : TabAt B w t v ks) (hb : B' ≤ B) : TabAt B' w t v ks := ⟨h.at_, ownsRow_low h.keys hb, h.up, h.few, Nat.le_trans hb h.base⟩
theorem TabAt.wrote {B B' : Nat} {T : TypeId → Prop} {w w' : World} {t : Nat} {v : Value} {ks : List IDd} (h : TabAt B w t v ks) (k : Wrote B' T w w') (hT : ¬ T 196 ∧ ¬ T 194) : TabAt B w' t v ks :=
  ⟨k.keeps h.at_ hT.2, ownsRow_wrote h.keys k hT.1 rfl, h.up, h.few, h.base⟩
/-- A row of our own, cut shorter. -/
theorem ownsRow_cut {w : World} {base : Nat} {pa : Option Addr} {n cap : Nat} {td : List IDd} {x : IDd} (h : w.ownsRow base 53 2 (.slice pa n cap) (td ++ [x]).length (cellsI (td ++ [x]))) : w.ownsRow base 53 2 (.slice pa td.length cap) td.length (cellsI td) := by
  obtain ⟨_, h2⟩ := h
  refine ⟨cellsI_len _, ?_⟩
  rcases h2 with ⟨_, h2⟩ | ⟨g, c, cur, hv, hg, hh, hc, hm, hs, ht⟩
  · simp at h2
  · simp at hv hc ht
    obtain ⟨rfl, rfl, rfl⟩ := hv
    refine .inr ⟨g, cap, cur, rfl, hg, hh, by omega, hm, hs, ?_⟩
    have h3 := congrArg (fun l => l.take (td.length * 2)) ht
    simp only [List.take_take] at h3
    rw [Nat.min_eq_left (by omega), cellsI_take] at h3
    rw [h3]; simp

/-- How long a slice is. -/
def lenV : Value → Nat
  | .slice _ n _ => n
  | _ => 0
def lenAt (w : World) (p : Addr) : Nat := match w.cell? p with
  | some v => lenV v
  | none => 0
theorem TabAt.len {B : Nat} {w : World} {t : Nat} {v : Value} {ks : List IDd} (h : TabAt B w t v ks) : lenAt w ⟨t, 1, none⟩ = ks.length := by
  obtain ⟨pa, cap, hv⟩ := ownsRow_form h.keys
  unfold lenAt; rw [two_c1 h.at_, hv]; rfl

set_option maxRecDepth 100000 in
set_option maxHeartbeats 1600000 in
theorem waits (v : Value) (l : List Resd) (a : IDd) (p : Nat) (w : World) (hv : RessV w v l) (h0 : w.cell? ⟨p, 0, none⟩ = some (.string a.kind)) (h1 : w.cell? ⟨p, 1, none⟩ = some (.string a.name)) (hU : (allAfter l).length ≤ 1000) :
    Calls Tryz.prog 74 #[v, .agg #[.string a.kind, .string a.name], .func (.func 75) #[] #[.pointer (some ⟨p, 0, none⟩)]] w (CircIs w l a) := by
  obtain ⟨va, vc, rfl, -, -, -⟩ := hv.shape
  obtain ⟨i0, hi0, hz0, hz1, hz2⟩ := info_of infoID
  replace hv := hide hv; replace h0 := hide h0; replace h1 := hide h1; replace hi0 := hide hi0
  go_enter Tryz.func74, Tryz.ntmps74
  go_wp2_with fail
  refine (tabNew _).mono ?_
  rintro e w1 ⟨rfl, hT1, hX1⟩
  have m0 := hX1.out.cells (p := ⟨w.heap.size, 0, none⟩) (v := .string a.kind) (by simp [go_sem])
  have m1 := hX1.out.cells (p := ⟨w.heap.size, 1, none⟩) (v := .string a.name) (by simp [go_sem])
  have hT2 := hide ((hT1.out.low (B' := w.heap.size) (by simp)).ext ((Ext.refl w1).alloc (.cells #[.string a.kind, .string a.name] 53)))
  have hs0 : (w.alloc (Obj.cells #[Value.string a.kind, Value.string a.name] 53)).heap.size = w.heap.size + 1 := by simp
  rw [hs0] at hT2
  clear hs0
  have hX2 := hide ((((Ext.refl w).alloc _).trans hX1.out).alloc (.cells #[.string a.kind, .string a.name] 53))
  have hO2 : Hid ((w1.alloc (.cells #[.string a.kind, .string a.name] 53)).ownsRow w.heap.size 53 2 (.slice (some ⟨w1.heap.size, 0, none⟩) 1 1) [a].length (cellsI [a])) :=
    ⟨rfl, .inr ⟨w1.heap.size, 1, _, rfl, by have := Ext.size hX1.out; simp at this; omega, heap_alloc_new w1 _, Nat.le_refl _, by unfold maxLen; omega, rfl, rfl⟩⟩
  go_wp2_with fail
  obtain ⟨U, hUe⟩ : ∃ U, U = (allAfter l).length := ⟨_, rfl⟩
  rw [← hUe] at hU
  go_loopw [8] (fun b wr => ∃ (ks td : List IDd) (pa : Option Addr) (cap : Nat) (vt : Value), b = .slice pa td.length cap ∧ td.length ≤ ks.length + 1 ∧ ks.length ≤ U ∧ Hid (Met l a ks td) ∧ Hid (TabAt w.heap.size wr (w.heap.size + 1) vt ks) ∧ Hid (wr.ownsRow w.heap.size 53 2 (.slice pa td.length cap) td.length (cellsI td)) ∧ Hid (Ext w wr)) (fun b wr => 2 * (U - lenAt wr ⟨w.heap.size + 1, 1, none⟩) + lenV b)
  case atStart => exact ⟨[], [a], _, _, _, rfl, by simp, Nat.zero_le _, Met.start l a, hT2, hO2, hX2⟩
  case round =>
    obtain ⟨ks, td, pa, cap, vt, rfl, htd, hks, hM, hT, hO, hX⟩ := hrel
    rcases List.eq_nil_or_concat td with rfl | ⟨td, x, rfl⟩
    · have hfin := hide hM.out.finish
      go_wp2
      go_ret
      exact ⟨false, rfl, by show _ ↔ _; simp [hfin.out], hX⟩
    · rw [List.concat_eq_append] at *
      obtain ⟨-, hc1, hc2, hin⟩ := keys_in hO.out
      unfold maxLen at hc2
      rcases hin with hin | ⟨g, rfl, hin⟩
      · simp at hin
      obtain ⟨g0, g1⟩ := hin td.length x (by simp)
      rw [Nat.zero_add] at g0 g1
      have hcut := hide (ownsRow_cut hO.out)
      rw [List.length_append, List.length_singleton] at htd hc1
      have hb : td.length ≤ 1000 := by omega
      have hpop := hide hM.out.pop
      have e2 : (0 : Int) ≤ (td.length : Int) := by omega
      have e3 : (td.length : Int) < (td.length : Int) + 1 := by omega
      have hX3 := hide (hX.out.alloc (.cells #[.string x.kind, .string x.name] 53))
      have hafter := hide (afterOf _ l x w (wr.alloc (.cells #[.string x.kind, .string x.name] 53)) hv.out hX3.out)
      replace hin := hide hin
      go_wp2_with fail
      refine hafter.out.mono ?_
      rintro e w2 ⟨pa2, cap2, rfl, hI2, hX2'⟩
      obtain ⟨⟨pa3, cap3, hsh, hcc1, hcc2, hI3⟩, -, hok⟩ := hI2.out
      obtain ⟨rfl, -, rfl⟩ : pa2 = pa3 ∧ True ∧ cap2 = cap3 := by simpa using hsh
      clear hsh hI2
      replace hI3 := hide hI3; replace hok := hide hok
      have hTi := hide (hT.out.ext (((Ext.refl wr).alloc _).trans hX2'.out))
      have hOi : Hid (w2.ownsRow w.heap.size 53 2 (.slice (some ⟨g, 0, none⟩) td.length cap) td.length (cellsI td)) := ownsRow_wrote hcut.out (Wrote.ext (B := 0) (T := fun _ => False) (((Ext.refl wr).alloc _).trans hX2'.out)) id rfl
      have hXi := hide (hX3.out.trans hX2'.out)
      generalize hm : (afterL l x).length = m at *
      replace hm := hide hm
      have hlt0 := hT.out.len
      replace hlt0 := hide hlt0
      clear hafter hX3 g0 g1
      obtain ⟨wo, rfl⟩ : ∃ wo : World, wo = wr := ⟨_, rfl⟩
      go_wp2_with fail
      go_loopw [8, 33] (fun b i wr => ∃ (ks1 td1 : List IDd) (pa1 : Option Addr) (cap1 : Nat) (vt1 : Value) (k : Nat), b = .slice pa1 td1.length cap1 ∧ i = .int .i64 k ∧ k ≤ m ∧ td1.length ≤ ks1.length ∧ ks1.length ≤ U ∧ 2 * (U - ks1.length) + td1.length ≤ 2 * (U - ks.length) + td.length ∧ Hid (MetI l a ks1 td1 x k) ∧ Hid (TabAt w.heap.size wr (w.heap.size + 1) vt1 ks1) ∧ Hid (wr.ownsRow w.heap.size 53 2 (.slice pa1 td1.length cap1) td1.length (cellsI td1)) ∧ Hid (Ext w wr)) (fun _ i _ => m - (intOf i).toNat)
      case atStart => exact ⟨ks, td, _, _, _, 0, rfl, rfl, Nat.zero_le _, by omega, hks, Nat.le_refl _, hpop, hTi, hOi, hXi⟩
      case round =>
        obtain ⟨ks1, td1, pa1, cap1, vt1, k, rfl, rfl, hk, htd1, hks1, hms, hMI, hT1', hO1, hX1'⟩ := hrel
        by_cases hlt : k < m
        · rcases hI3.out with hnil | ⟨b, off, rfl, hin3⟩
          · have := hm.out; rw [hnil] at this; simp at this; omega
          obtain ⟨c, hc⟩ := some_of_lt (show k < (afterL l x).length by rw [hm.out]; exact hlt)
          obtain ⟨g0, g1⟩ := (hin3.ext hX1'.out) k c hc
          have i2 : (k : Int) < (m : Int) := by omega
          have i3 : (0 : Int) ≤ (k : Int) := by omega
          have hX4 := hide (hX1'.out.alloc (.cells #[.string c.kind, .string c.name] 53))
          have hhit := hide (hitW a c p (wr.alloc (.cells #[.string c.kind, .string c.name] 53)) (hX4.out.cells h0.out) (hX4.out.cells h1.out))
          replace hin3 := hide hin3; replace hc := hide hc
          go_wp2_with fail
          refine hhit.out.mono ?_
          rintro e w3 ⟨rfl, hX3⟩
          have hE3 := ext_heap hX3 (heap_alloc_new wr _)
          have hXw := hide (hX4.out.trans hX3)
          have hTw := hide (hT1'.out.ext (((Ext.refl wr).alloc _).trans hX3))
          have hOw : Hid (w3.ownsRow w.heap.size 53 2 (.slice pa1 td1.length cap1) td1.length (cellsI td1)) := ownsRow_wrote hO1.out (Wrote.ext (B := 0) (T := fun _ => False) (((Ext.refl wr).alloc _).trans hX3)) id rfl
          have q0 := two_c0 hE3
          have q1 := two_c1 hE3
          replace hE3 := hide hE3; replace hX3 := hide hX3
          clear hhit g0 g1
          cases hb1 : hitK c a
          · have hne := hide (show c ≠ a from fun e => by rw [hitK_iff.2 e] at hb1; cases hb1)
            have hhas := hide (tabHas w.heap.size vt1 ks1 c (w.heap.size + 1) w3 hTw.out)
            go_wp2_with fail
            refine hhas.out.mono ?_
            rintro e w4 ⟨b4, rfl, hb4, hX4'⟩
            have hE4 := ext_heap hX4'.out hE3.out
            have hXv := hide (hXw.out.trans hX4'.out)
            have hTv := hide (hTw.out.ext hX4'.out)
            have hOv : Hid (w4.ownsRow w.heap.size 53 2 (.slice pa1 td1.length cap1) td1.length (cellsI td1)) := ownsRow_wrote hOw.out (Wrote.ext (B := 0) (T := fun _ => False) hX4'.out) id rfl
            clear q0 q1 hhas
            have q0 := two_c0 hE4
            have q1 := two_c1 hE4
            replace hE4 := hide hE4
            cases b4
            · have hnew : Hid (c ∉ ks1) := fun h => by have := hb4.out.2 h; cases this
              have hput := hide (tabPut w.heap.size vt1 ks1 c (w.heap.size + 1) w4 hTv.out hnew.out (Ext.size hXv.out) (by omega))
              go_wp2_with fail
              refine hput.out.mono ?_
              rintro e w5 ⟨i5, pa5, cap5, n5, rfl, hs5, hT5, hW5⟩
              have hE5 := hW5.out.keeps hE4.out (by decide)
              have hO5 : Hid (w5.ownsRow w.heap.size 53 2 (.slice pa1 td1.length cap1) td1.length (cellsI td1)) := ownsRow_wrote hOv.out hW5.out (by decide) rfl
              have hX5 := hide (hXv.out.wrote hW5.out (Nat.le_refl _))
              clear q0 q1 hput
              have q0 := two_c0 hE5
              have q1 := two_c1 hE5
              have hB5 := hide (Ext.size hX5.out)
              replace hE5 := hide hE5
              have hMn := hide (hMI.out.new hc.out hs5.out hnew.out hne.out)
              have hl5 : ks1.length + 1 ≤ U := by
                have h6 := hMn.out.up.few hMn.out.sub
                rw [ins_len hs5.out.le, ← hUe] at h6
                exact h6
              go_wp2_with (at_builtin; go_must (refine wpList_append_lies _ rfl _ _ 72 rfl w.heap.size 53 i0 (.agg #[.string ⟨#[]⟩, .string ⟨#[]⟩]) 2 32 Tryz.underlying72 hi0.out hz0 hz1 hz2 rfl (by omega) _ td1.length (cellsI td1) rfl (hO5.out.alloc _) ⟨w5.heap.size, 0, none⟩ 1 1 (cI c) rfl rfl ?_ (cI_one _) (by omega) (by unfold maxLen; omega) (by omega) (by have := hB5.out; simp; omega) (w5.heap.size + 1) (by simp) ?_; (intro j u hu; rw [add_eq]; (match j, hu with | 0, hu => (simp [cI] at hu; subst hu; simp [go_sem]) | 1, hu => (simp [cI] at hu; subst hu; simp [go_sem]) | _ + 2, hu => (simp [cI] at hu))); intro g6 cap6 w6 hown6 hgrow6 hat6 hlt6))
              have hW6 : Wrote w.heap.size (· = 53) w5 w6 := (Wrote.refl w.heap.size _ w5).grownAt hO5.out rfl hgrow6
              go_roundw
              case rel =>
                have hl6 : (td1 ++ [c]).length = td1.length + 1 := by simp
                have hl7 := ins_len (a := c) hs5.out.le
                refine ⟨insL ks1 i5 c, td1 ++ [c], _, _, _, k + 1, by rw [hl6], by go_num, by omega, by rw [hl6, hl7]; omega, by rw [hl7]; exact hl5, by rw [hl6, hl7]; omega, hMn, hT5.out.wrote hW6 (by decide), ?_, hX5.out.wrote hW6 (Nat.le_refl _)⟩
                show World.ownsRow _ _ _ _ _ _ _
                rw [hl6, cellsI_app]; exact hown6
              case measure => simp [intOf]; omega
            · have hold := hide (hMI.out.old hc.out (hb4.out.1 rfl))
              go_wp2_with fail
              go_roundw
              case rel => exact ⟨ks1, td1, pa1, cap1, vt1, k + 1, rfl, by go_num, by omega, htd1, hks1, hms, hold, hTv, hOv, hXv⟩
              case measure => simp [intOf]; omega
          · have hca : c = a := hitK_iff.1 hb1
            have hcirc := hide (hMI.out.hit (hca ▸ hc.out))
            replace hca := hide hca
            go_wp2_with fail
            go_ret
            exact ⟨true, rfl, by show _ ↔ _; simp [hcirc.out], hXw⟩
        · have hfin := hide (hMI.out.finish (by rw [hm.out]; omega))
          go_wp2_with fail
          go_roundw
          case rel => exact ⟨ks1, td1, pa1, cap1, vt1, rfl, by omega, hks1, hfin, hT1', hO1, hX1'⟩
          case measure => 
            have e5 := hT1'.out.len
            simp only [lenV]
            rw [e5, hlt0.out]
            simp
            omega
end Go.Proofs.YtejhegnlmldomaaGreat

namespace Go.Proofs.YtejhegnlmldomaaGreat
open Go.RowKit

/-- Is an ID that of a resource of the list? -/
def hasB (l : List Resd) (a : IDd) : Bool := (placeL l a).isSome
theorem placeI_nonneg (l : List Resd) (a : IDd) : decide (0 ≤ placeI l a) = hasB l a := by
  unfold placeI hasB
  cases placeL l a with
  | none => rfl
  | some j => simp
theorem hit_same (x : Resd) (a : IDd) : hitI x a = hitK x.id a := rfl

set_option maxRecDepth 100000 in
set_option maxHeartbeats 800000 in
theorem waitsForItself (v : Value) (l : List Resd) (a : IDd) (w : World) (hv : RessV w v l) (hU : (allAfter l).length ≤ 1000) :
    Calls Tryz.prog 49 #[v, .agg #[.string a.kind, .string a.name]] w (CircIs w l a) := by
  have X1 := hide ((Ext.refl w).alloc (.cells #[.string a.kind, .string a.name] 53))
  have hh := hide (waits v l a w.heap.size (w.alloc (.cells #[.string a.kind, .string a.name] 53)) (hv.ext X1.out) (by simp [go_sem]) (by simp [go_sem]) hU)
  obtain ⟨a1, c1, rfl, -, -, -⟩ := hv.shape
  clear hv
  go_enter Tryz.func49, Tryz.ntmps49
  go_wp2_with fail
  refine hh.out.mono ?_
  rintro e w1 ⟨b, rfl, hb, he1⟩
  go_wp2_with fail
  go_ret
  exact ⟨b, rfl, hb, X1.out.trans he1.out⟩

/-- Does it wait for itself? -/
noncomputable def circB (l : List Resd) (a : IDd) : Bool := @decide (IdCirc l a) (Classical.propDecidable _)
theorem circB_of {l : List Resd} {a : IDd} {b : Bool} (h : b = true ↔ IdCirc l a) : b = circB l a := by
  rw [Bool.eq_iff_iff, h]; simp [circB]
noncomputable def wholeB (l : List Resd) (x : Resd) : Bool := x.after.all (hasB l) && !circB l x.id
theorem okB_after {l : List Resd} (h : mayAllB l = true) : (allAfter l).length ≤ 1000 := by
  simp only [mayAllB, Bool.and_eq_true, decide_eq_true_eq, List.all_eq_true] at h
  have h1 : ∀ x ∈ l, x.after.length ≤ 6 := fun x hx => by
    have := h.1.2 x hx
    simp only [mayB, Bool.and_eq_true, decide_eq_true_eq] at this
    exact this.1.1.1.1.1.2
  have : ∀ (l : List Resd), (∀ x ∈ l, x.after.length ≤ 6) → (allAfter l).length ≤ l.length * 6 := fun l => by
    induction l with
    | nil => intro _; simp [allAfter]
    | cons x l ih =>
      intro h
      have := ih (fun y hy => h y (List.mem_cons_of_mem _ hy))
      have := h x (List.mem_cons_self ..)
      simp [allAfter] at *
      omega
  have := this l h1
  omega
theorem rises_pair : ∀ {l : List Resd}, risesB lessR l = true → l.Pairwise fun a b => cmpI a.id b.id < 0
  | [], _ => List.Pairwise.nil
  | [_], _ => List.pairwise_singleton _ _
  | a :: b :: l, h => by
    simp only [risesB, Bool.and_eq_true] at h
    have ih := rises_pair h.2
    have hab : cmpI a.id b.id < 0 := by simpa [lessR, lessI] using h.1
    refine List.pairwise_cons.2 ⟨fun y hy => ?_, ih⟩
    rcases List.mem_cons.1 hy with rfl | hy
    · exact hab
    · exact cmpI_trans hab ((List.pairwise_cons.1 ih).1 y hy)
theorem may_apart {l : List Resd} (h : mayAllB l = true) : Apart l := by
  simp only [mayAllB, Bool.and_eq_true] at h
  have hp := List.pairwise_iff_getElem.1 (rises_pair h.2)
  intro i j x y hi hj e
  obtain ⟨h1, rfl⟩ := List.getElem?_eq_some_iff.1 hi
  obtain ⟨h2, rfl⟩ := List.getElem?_eq_some_iff.1 hj
  rcases Nat.lt_trichotomy i j with hij | hij | hij
  · have := hp i j h1 h2 hij
    rw [e, cmpI_zero.2 rfl] at this; omega
  · exact hij
  · have := hp j i h2 h1 hij
    rw [e, cmpI_zero.2 rfl] at this; omega
theorem whole_iff {l : List Resd} (h : mayAllB l = true) : l.all (wholeB l) = true ↔ WholeP l := by
  have ha := may_apart h
  rw [List.all_eq_true]
  constructor
  · intro hw
    refine ⟨fun i x hx k a hk => ?_, fun i hi hc => ?_⟩
    · have := hw x (List.mem_of_getElem? hx)
      simp only [wholeB, Bool.and_eq_true, List.all_eq_true] at this
      have := this.1 a (List.mem_of_getElem? hk)
      exact Option.isSome_iff_exists.1 this
    · have hx := List.getElem?_eq_getElem hi
      have := hw l[i] (List.getElem_mem hi)
      simp only [wholeB, Bool.and_eq_true] at this
      have h2 := this.2
      have := (circ_iff ha hx).2 hc
      simp [circB, this] at h2
  · rintro ⟨h1, h2⟩ x hx
    obtain ⟨i, hi, rfl⟩ := List.getElem_of_mem hx
    have hx := List.getElem?_eq_getElem hi
    simp only [wholeB, Bool.and_eq_true, List.all_eq_true]
    refine ⟨fun a hm => ?_, ?_⟩
    · obtain ⟨k, hk⟩ := List.mem_iff_getElem?.1 hm
      exact Option.isSome_iff_exists.2 (h1 i _ hx k a hk)
    · have h3 : ¬ IdCirc l l[i].id := fun e => h2 i hi ((circ_iff ha hx).1 e)
      simpa [circB] using h3

/-- Resources that may be, and are whole. -/
noncomputable def fineB (l : List Resd) : Bool := mayAllB l && l.all (wholeB l)

end Go.Proofs.YtejhegnlmldomaaGreat
