/-
  The parser: the token that comes, and its taking.
-/
/-
  The parser: a ref is read.
-/
import Derived.Test.YtfnbbohbicffpaaGreatDoorJ23
namespace Go.Proofs.YtfnbbohbicffpaaGreatDoor
open Go.RowKit

set_option maxRecDepth 100000 in
set_option maxHeartbeats 800000 in
theorem faultIs (en : Int) (p : Nat) (w : World) :
    Calls Tryz.prog 15 #[.agg #[.int .i64 en, .int .i64 p]] w fun e w' => e = .returned (.bool (en != 0)) ∧ w' = w.alloc (.cells #[.int .i64 en, .int .i64 p] 47) := by
  go_enter Tryz.func15, Tryz.ntmps15
  go_wp2_with fail
  go_ret
  exact ⟨rfl, rfl⟩

theorem five_cells {w : World} {k : Nat} {a b c d e : Value} {t : TypeId} {fz : Nat × Nat} (hk : w.heap[k]? = some (.cells #[a, b, c, d, e] t fz)) :
    w.cell? ⟨k, 0, none⟩ = some a ∧ w.cell? ⟨k, 1, none⟩ = some b ∧ w.cell? ⟨k, 2, none⟩ = some c ∧ w.cell? ⟨k, 3, none⟩ = some d ∧ w.cell? ⟨k, 4, none⟩ = some e := by
  refine ⟨?_, ?_, ?_, ?_, ?_⟩ <;> simp [World.cell?, hk]
theorem set_at {w : World} {k i : Nat} {a c d e : Value} {t : TypeId} {fz : Nat × Nat} (hk : w.heap[k]? = some (.cells #[a, .int .i64 i, c, d, e] t fz)) : Hid ((w.setCell ⟨k, 1, none⟩ (.int .i64 ((i + 1 : Nat) : Int))).heap[k]? = some (.cells #[a, .int .i64 ((i + 1 : Nat) : Int), c, d, e] t fz)) := by
  show _ = _
  rw [row_set hk]; rfl
/-- The tokens as cells. -/
theorem toks_in {B : Nat} {w : World} {v : Value} {ts : List Tok} (h : w.ownsRow B 71 4 v ts.length (cellsT ts)) {i : Nat} {t : Tok} (ht : ts[i]? = some t) :
    ∃ g cap, v = .slice (some ⟨g, 0, none⟩) ts.length cap ∧ g < w.heap.size ∧ w.cell? ⟨g, i * 4, none⟩ = some (.int .i64 t.kind) ∧ w.cell? ⟨g, i * 4 + 1, none⟩ = some (.int .i64 t.place) ∧ w.cell? ⟨g, i * 4 + 2, none⟩ = some (.string t.text) ∧ w.cell? ⟨g, i * 4 + 3, none⟩ = some (.int .i64 t.value) := by
  have hlt := (List.getElem?_eq_some_iff.1 ht).1
  rcases h.2 with ⟨_, h0⟩ | ⟨g, cap, cur, rfl, _, hg, hc, hm, hs, htk⟩
  · omega
  · have key : ∀ r, r < 4 → w.cell? ⟨g, i * 4 + r, none⟩ = (cTk t)[r]? := by
      intro r hr
      have h1 : (cellsT ts)[i * 4 + r]? = (cTk t)[r]? := flat_get cTk_len ht hr
      rw [← h1, ← htk, List.getElem?_take, if_pos (by omega)]
      simp [World.cell?, hg]
    exact ⟨g, cap, rfl, (Array.getElem?_eq_some_iff.1 hg).1, key 0 (by omega), key 1 (by omega), key 2 (by omega), key 3 (by omega)⟩

set_option maxRecDepth 100000 in
set_option maxHeartbeats 1600000 in
theorem peekP {B : Nat} {w : World} {P tE : Nat} {vT vE vO vR : Value} {ts : List Tok} {i : Nat} {rs : List RowE} {bs : List Nat} {refs : List (IDd × Nat)} (h : ParIn B w P tE vT vE vO vR ts i rs bs refs) {t : Tok} (ht : ts[i]? = some t) :
    Calls Tryz.prog 33 #[.pointer (some ⟨P, 0, none⟩)] w fun e w' => e = .returned (.int .i64 t.kind) ∧ Hid (Ext w w') := by
  obtain ⟨c0, c1, c2, c3, c4⟩ := five_cells h.box
  obtain ⟨g, cap, rfl, hg, k0, k1, k2, k3⟩ := toks_in h.toks ht
  have hi := (List.getElem?_eq_some_iff.1 ht).1
  have j1 : (i : Int) < (ts.length : Int) := by omega
  have j2 : (0 : Int) ≤ (i : Int) := by omega
  replace h := hide h; replace ht := hide ht; replace hg := hide hg
  go_enter Tryz.func33, Tryz.ntmps33
  go_wp2_with fail
  go_quiet (fail)
  go_wp2_with fail
  go_ret
  exact ⟨rfl, (Ext.refl w).drewN _⟩

theorem Wr.setNew {D : Nat → TypeId → Prop} {w w1 : World} (h : Wr D w w1) {p : Addr} (hp : w.heap.size ≤ p.block) (u : Value) : Wr D w (w1.setCell p u) :=
  ⟨h.os, h.tape, h.output, by simpa [World.setCell] using h.size, fun k hk hn => by rw [Below.heap_setCell _ _ _ _ (by omega)]; exact h.heap k hk hn⟩
theorem Wr.setOld {D : Nat → TypeId → Prop} {w w1 : World} (h : Wr D w w1) {p : Addr} {c : Array Value} {t : TypeId} {fz : Nat × Nat} (hp : w.heap[p.block]? = some (.cells c t fz)) (hd : D p.block t) (u : Value) : Wr D w (w1.setCell p u) :=
  ⟨h.os, h.tape, h.output, by simpa [World.setCell] using h.size, fun k hk hn => by
    by_cases he : k = p.block
    · subst he; exact absurd hd (hn _ _ _ hp)
    · rw [Below.heap_setCell _ _ _ _ he]; exact h.heap k hk hn⟩
/-- Only the parser's box. -/
def OnP (P : Nat) (j : Nat) (t : TypeId) : Prop := j = P ∧ t = 81
theorem onP_no {P g : Nat} {t : TypeId} (h : t ≠ 81) : ¬ OnP P g t := fun hd => h hd.2
theorem ParIn.took {B : Nat} {w w' : World} {P tE : Nat} {vT vE vO vR : Value} {ts : List Tok} {i : Nat} {rs : List RowE} {bs : List Nat} {refs : List (IDd × Nat)} (h : ParIn B w P tE vT vE vO vR ts i rs bs refs) {i' : Nat} (k : Wr (OnP P) w w') (hb : w'.heap[P]? = some (.cells #[vT, .int .i64 i', .pointer (some ⟨tE, 0, none⟩), vO, vR] 81 (0, 0))) : ParIn B w' P tE vT vE vO vR ts i' rs bs refs :=
  ⟨h.base, hb, ownsRow_wr h.toks k fun _ _ _ => onP_no (by decide),
    ⟨k.keeps h.ents.at_ (onP_no (by decide)), ownsRow_wr h.ents.rows k fun _ _ _ => onP_no (by decide), h.ents.up, h.ents.few, h.ents.base⟩,
    ownsRow_wr h.order k fun _ _ _ => onP_no (by decide), ownsRow_wr h.refs k fun _ _ _ => onP_no (by decide)⟩
theorem six_sets (x : World) {P O1 O2 : Nat} (h1 : P ≠ O1) (h2 : P ≠ O2) (a b c d e f : Value) :
    (((((((x.setCell ⟨O1, 0, none⟩ a).setCell ⟨O1, 1, none⟩ b).setCell ⟨O1, 2, none⟩ c).setCell ⟨O1, 3, none⟩ d).setCell ⟨O2, 0, none⟩ e).setCell ⟨O2, 1, none⟩ f).drew).heap[P]? = x.heap[P]? := by
  have hd : ∀ y : World, y.drew.heap = y.heap := fun _ => rfl
  rw [hd]
  rw [Below.heap_setCell _ ⟨O2, 1, none⟩ _ _ h2, Below.heap_setCell _ ⟨O2, 0, none⟩ _ _ h2, Below.heap_setCell _ ⟨O1, 3, none⟩ _ _ h1, Below.heap_setCell _ ⟨O1, 2, none⟩ _ _ h1, Below.heap_setCell _ ⟨O1, 1, none⟩ _ _ h1, Below.heap_setCell _ ⟨O1, 0, none⟩ _ _ h1]
/-- The taking of a token. -/
def TakeIs (B : Nat) (w : World) (P tE : Nat) (vT vE vO vR : Value) (ts : List Tok) (i : Nat) (rs : List RowE) (bs : List Nat) (refs : List (IDd × Nat)) (t : Tok) (k : Nat) (e : Ending) (w' : World) : Prop :=
  (t.kind ≠ k ∧ e = .returned (.tuple #[.agg #[.int .i64 0, .int .i64 0, .string ⟨#[]⟩, .int .i64 0], .agg #[.int .i64 6, .int .i64 t.place]]) ∧ Hid (Ext w w')) ∨
  (t.kind = k ∧ e = .returned (.tuple #[.agg #[.int .i64 t.kind, .int .i64 t.place, .string t.text, .int .i64 t.value], .agg #[.int .i64 0, .int .i64 0]]) ∧ Hid (ParIn B w' P tE vT vE vO vR ts (i + 1) rs bs refs) ∧ Hid (Wr (OnP P) w w'))

set_option maxRecDepth 100000 in
set_option maxHeartbeats 1600000 in
theorem takeP {B : Nat} {w : World} {P tE : Nat} {vT vE vO vR : Value} {ts : List Tok} {i : Nat} {rs : List RowE} {bs : List Nat} {refs : List (IDd × Nat)} (h : ParIn B w P tE vT vE vO vR ts i rs bs refs) {t : Tok} (ht : ts[i]? = some t) (hn : ts.length ≤ 1000000) (k : Nat) :
    Calls Tryz.prog 68 #[.pointer (some ⟨P, 0, none⟩), .int .i64 k] w (TakeIs B w P tE vT vE vO vR ts i rs bs refs t k) := by
  obtain ⟨c0, c1, c2, c3, c4⟩ := five_cells h.box
  obtain ⟨g, cap, rfl, hg, k0, k1, k2, k3⟩ := toks_in h.toks ht
  have hi := (List.getElem?_eq_some_iff.1 ht).1
  have j1 : (i : Int) < (ts.length : Int) := by omega
  have j2 : (0 : Int) ≤ (i : Int) := by omega
  replace h := hide h; replace ht := hide ht; replace hg := hide hg
  have mk : Hid (∀ w', Ext w w' → w'.cell? ⟨P, 0, none⟩ = some (.slice (some ⟨g, 0, none⟩) ts.length cap) ∧ w'.cell? ⟨P, 1, none⟩ = some (.int .i64 i) ∧ w'.cell? ⟨g, i * 4, none⟩ = some (.int .i64 t.kind) ∧ w'.cell? ⟨g, i * 4 + 1, none⟩ = some (.int .i64 t.place) ∧ w'.cell? ⟨g, i * 4 + 2, none⟩ = some (.string t.text) ∧ w'.cell? ⟨g, i * 4 + 3, none⟩ = some (.int .i64 t.value)) :=
    fun w' e => ⟨e.cells c0, e.cells c1, e.cells k0, e.cells k1, e.cells k2, e.cells k3⟩
  have X2 := ((Ext.refl w).alloc (.cells #[.int .i64 0, .int .i64 0, .string ⟨#[]⟩, .int .i64 0] 71)).alloc (.cells #[.int .i64 0, .int .i64 0] 47)
  have X3 := X2.alloc (.cells #[.int .i64 0, .int .i64 0, .string ⟨#[]⟩, .int .i64 0] 71)
  obtain ⟨a0, a1, a2, a3, a4, a5⟩ := mk.out _ X2
  obtain ⟨b0, b1, b2, b3, b4, b5⟩ := mk.out _ X3
  clear c0 c1 c2 c3 c4 k0 k1 k2 k3
  replace X2 := hide X2; replace X3 := hide X3
  have XZ : Ext w ((((w.alloc (.cells #[.int .i64 0, .int .i64 0, .string ⟨#[]⟩, .int .i64 0] 71)).alloc (.cells #[.int .i64 0, .int .i64 0] 47)).alloc (.cells #[.int .i64 t.kind, .int .i64 t.place, .string t.text, .int .i64 t.value] 71)).drew) := (X2.out.alloc _).drew
  have hZ := ext_heap XZ h.out.box
  obtain ⟨d0, d1, d2, d3, d4⟩ := five_cells hZ
  have fZ := row_frozen hZ
  have hZ' := set_at hZ (i := i)
  clear d2 d3 d4
  replace XZ := hide XZ; replace hZ := hide hZ
  have E1 := hide (ext_heap (((Ext.refl _).alloc (.cells #[.int .i64 0, .int .i64 0] 47)).alloc (.cells #[.int .i64 t.kind, .int .i64 t.place, .string t.text, .int .i64 t.value] 71)) (heap_alloc_new w (.cells #[.int .i64 0, .int .i64 0, .string ⟨#[]⟩, .int .i64 0] 71)))
  have E2 := hide (ext_heap ((Ext.refl _).alloc (.cells #[.int .i64 t.kind, .int .i64 t.place, .string t.text, .int .i64 t.value] 71)) (two_hi w (.cells #[.int .i64 0, .int .i64 0, .string ⟨#[]⟩, .int .i64 0] 71) (.cells #[.int .i64 0, .int .i64 0] 47)))
  have hPs := (Array.getElem?_eq_some_iff.1 h.out.box).1
  have n0 : ¬ P = w.heap.size := by omega
  have n1 : ¬ P = w.heap.size + 1 := by omega
  have n2 : ¬ P = w.heap.size + 1 + 1 := by omega
  have m0 : ¬ w.heap.size = P := by omega
  have m1 : ¬ w.heap.size + 1 = P := by omega
  have m2 : ¬ w.heap.size + 1 + 1 = P := by omega
  replace hPs := hide hPs
  go_enter Tryz.func68, Tryz.ntmps68
  go_wp2_with fail
  by_cases hk : t.kind = k
  · have hk1 : (((t.kind : Int) == (k : Int)) = true) := by simp [hk]
    have hk2 : (((t.kind : Int) != (k : Int)) = false) := by simp [hk]
    replace hk := hide hk
    go_region_with (fail)
    all_goals clear a0 a1 a2 a3 a4 a5 b0 b1 b2 b3 b4 b5
    all_goals go_wp2_with fail
    all_goals
      have x1 := (Below.heap_setCell _ ⟨P, 1, none⟩ (.int .i64 (i + 1)) _ m0).trans E1.out
      have x2 := (Below.heap_setCell _ ⟨P, 1, none⟩ (.int .i64 (i + 1)) _ m1).trans E2.out
      have W0 : Wr (OnP P) w _ := (Wr.ext (X2.out.alloc (.cells #[.int .i64 t.kind, .int .i64 t.place, .string t.text, .int .i64 t.value] 71))).setOld (p := ⟨P, 1, none⟩) h.out.box ⟨rfl, rfl⟩ (.int .i64 (i + 1))
      have hZ2 := hZ'.out
      rw [show ((i + 1 : Nat) : Int) = (i : Int) + 1 from rfl] at hZ2
      change (World.setCell (World.alloc _ _) _ _).heap[P]? = _ at hZ2
      generalize World.setCell (World.alloc _ _) ⟨P, 1, none⟩ (.int .i64 ((i : Int) + 1)) = x at *
      obtain ⟨o0, o1, o2, o3⟩ := four_cells x1
      have p0 := cell_of x2 0; have p1 := cell_of x2 1
      simp only [List.getElem?_toArray, List.getElem?_cons_zero, List.getElem?_cons_succ] at p0 p1
      refine bodyPost_ret (v := .tuple #[.agg #[.int .i64 t.kind, .int .i64 t.place, .string t.text, .int .i64 t.value], .agg #[.int .i64 0, .int .i64 0]]) (by simp [results, Tryz.results68, go_sem, o0, o1, o2, o3, p0, p1]) rfl ?_
      have W1 := (((((W0.setNew (p := ⟨w.heap.size, 0, none⟩) (Nat.le_refl _) (.int .i64 t.kind)).setNew (p := ⟨w.heap.size, 1, none⟩) (Nat.le_refl _) (.int .i64 t.place)).setNew (p := ⟨w.heap.size, 2, none⟩) (Nat.le_refl _) (.string t.text)).setNew (p := ⟨w.heap.size, 3, none⟩) (Nat.le_refl _) (.int .i64 t.value)).setNew (p := ⟨w.heap.size + 1, 0, none⟩) (Nat.le_succ _) (.int .i64 0)).setNew (p := ⟨w.heap.size + 1, 1, none⟩) (Nat.le_succ _) (.int .i64 0)
      have W2 := W1.trans (Wr.ext (Ext.refl _).drew)
      exact .inr ⟨hk.out, rfl, h.out.took (i' := i + 1) W2 ((six_sets x n0 n1 _ _ _ _ _ _).trans hZ2), W2⟩
  · have hk1 : (((t.kind : Int) == (k : Int)) = false) := by simp; omega
    have hk2 : (((t.kind : Int) != (k : Int)) = true) := by simp; omega
    replace hk := hide hk
    go_region_with (fail)
    all_goals clear a0 a1 a2 a3 a4 a5 b0 b1 b2 b3 b4 b5
    all_goals go_wp2_with fail
    all_goals go_region_with (fail)
    all_goals go_wp2_with fail
    all_goals
      refine bodyPost_ret (v := .tuple #[.agg #[.int .i64 0, .int .i64 0, .string ⟨#[]⟩, .int .i64 0], .agg #[.int .i64 6, .int .i64 t.place]]) (by simp [results, Tryz.results68, go_sem]) rfl ?_
      exact .inl ⟨hk.out, rfl, ((((Ext.refl w).alloc _).alloc _).alloc _).drew.drew⟩
end Go.Proofs.YtfnbbohbicffpaaGreatDoor

namespace Go.Proofs.YtfnbbohbicffpaaGreatDoor
open Go.RowKit

theorem takeYes {B : Nat} {w : World} {P tE : Nat} {vT vE vO vR : Value} {ts : List Tok} {i : Nat} {rs : List RowE} {bs : List Nat} {refs : List (IDd × Nat)} (h : ParIn B w P tE vT vE vO vR ts i rs bs refs) {t : Tok} (ht : ts[i]? = some t) (hn : ts.length ≤ 1000000) {k : Nat} (hk : t.kind = k) :
    Calls Tryz.prog 68 #[.pointer (some ⟨P, 0, none⟩), .int .i64 k] w fun e w' => e = .returned (.tuple #[.agg #[.int .i64 t.kind, .int .i64 t.place, .string t.text, .int .i64 t.value], .agg #[.int .i64 0, .int .i64 0]]) ∧ Hid (ParIn B w' P tE vT vE vO vR ts (i + 1) rs bs refs) ∧ Hid (Wr (OnP P) w w') :=
  (takeP h ht hn k).mono fun _ _ hh => hh.elim (fun h1 => absurd hk h1.1) (fun h1 => h1.2)
theorem takeNot {B : Nat} {w : World} {P tE : Nat} {vT vE vO vR : Value} {ts : List Tok} {i : Nat} {rs : List RowE} {bs : List Nat} {refs : List (IDd × Nat)} (h : ParIn B w P tE vT vE vO vR ts i rs bs refs) {t : Tok} (ht : ts[i]? = some t) (hn : ts.length ≤ 1000000) {k : Nat} (hk : t.kind ≠ k) :
    Calls Tryz.prog 68 #[.pointer (some ⟨P, 0, none⟩), .int .i64 k] w fun e w' => e = .returned (.tuple #[.agg #[.int .i64 0, .int .i64 0, .string ⟨#[]⟩, .int .i64 0], .agg #[.int .i64 6, .int .i64 t.place]]) ∧ Hid (Ext w w') :=
  (takeP h ht hn k).mono fun _ _ hh => hh.elim (fun h1 => h1.2) (fun h1 => absurd h1.1 hk)

theorem ParIn.ext {B : Nat} {w w' : World} {P tE : Nat} {vT vE vO vR : Value} {ts : List Tok} {i : Nat} {rs : List RowE} {bs : List Nat} {refs : List (IDd × Nat)} (h : ParIn B w P tE vT vE vO vR ts i rs bs refs) (e : Ext w w') : ParIn B w' P tE vT vE vO vR ts i rs bs refs :=
  h.wr (D := fun _ _ => False) (Wr.ext e) fun _ _ _ _ _ => id
theorem EntAt.ext {B : Nat} {w w' : World} {b : Nat} {e : EntD} (h : EntAt B w b e) (x : Ext w w') : EntAt B w' b e :=
  h.wr (D := fun _ _ => False) (Wr.ext x) fun _ _ _ _ _ => id
/-- What the reading within an entry may change. -/
def ChgE (B Be k : Nat) (t : TypeId) : Prop := (B ≤ k ∧ (t = 81 ∨ t = 84)) ∨ (Be ≤ k ∧ TyE t)
theorem onP_chg {B Be P k : Nat} {t : TypeId} (h : B ≤ P) (hd : OnP P k t) : ChgE B Be k t := .inl ⟨hd.1 ▸ h, .inl hd.2⟩
theorem two_sets {w : World} {k : Nat} {a b : Value} {t : TypeId} {fz : Nat × Nat} (hk : w.heap[k]? = some (.cells #[a, b] t fz)) (x y : Value) : ((w.setCell ⟨k, 0, none⟩ x).setCell ⟨k, 1, none⟩ y).heap[k]? = some (.cells #[x, y] t fz) := by
  rw [row_set (row_set hk 0 x) 1 y]; rfl
/-- The parser and the entry that is being read. -/
structure Fits (B Be : Nat) (w : World) (P b : Nat) (ts : List Tok) (i : Nat) (rs : List RowE) (bs : List Nat) (rf : List (IDd × Nat)) (e : EntD) : Prop where
  par : ∃ tE vT vE vO vR, ParIn B w P tE vT vE vO vR ts i rs bs rf
  ent : EntAt Be w b e
  base : B ≤ Be
  size : Be ≤ w.heap.size
  refsFew : rf.length ≤ i
  afterFew : e.after.length ≤ 6
  attrsFew : e.attrs.length ≤ 6
/-- What a reading within an entry answers. -/
def ReadIs (B Be : Nat) (w : World) (P b : Nat) (ts : List Tok) (rs : List RowE) (bs : List Nat) (r : Except Flt (Nat × EntD × List (IDd × Nat))) (e : Ending) (w' : World) : Prop :=
  Hid (Wr (ChgE B Be) w w') ∧ ((∃ en pl, Hid (r = .error (en, pl)) ∧ en ≠ 0 ∧ e = .returned (.agg #[.int .i64 en, .int .i64 pl])) ∨
    ∃ i' e' rf', Hid (r = .ok (i', e', rf')) ∧ e = .returned (.agg #[.int .i64 0, .int .i64 0]) ∧ Hid (Fits B Be w' P b ts i' rs bs rf' e'))

set_option maxRecDepth 100000 in
set_option maxHeartbeats 3200000 in
theorem readRefNo1 {B Be : Nat} {w : World} {P b : Nat} {ts : List Tok} {i : Nat} {rs : List RowE} {bs : List Nat} {rf : List (IDd × Nat)} {e : EntD} (h : Fits B Be w P b ts i rs bs rf e) (hn : ts.length ≤ 1000000) {t0 : Tok} (h0 : ts[i]? = some t0) (k0 : t0.kind ≠ 1) :
    Calls Tryz.prog 123 #[.pointer (some ⟨P, 0, none⟩), .pointer (some ⟨b, 0, none⟩)] w (ReadIs B Be w P b ts rs bs (refS ts i e rf)) := by
  obtain ⟨tE, vT, vE, vO, vR, hp⟩ := h.par
  replace hp := hide hp; replace h := hide h
  · have hfin : Hid (refS ts i e rf = .error (6, t0.place)) := by
      show _ = _
      unfold refS; rw [take_no h0 k0]
    have ht := hide (takeNot (hp.out.ext ((Ext.refl w).alloc (.cells #[.int .i64 0, .int .i64 0] 47))) h0 hn k0)
    replace h0 := hide h0; replace k0 := hide k0
    go_enter Tryz.func123, Tryz.ntmps123
    go_wp2_with (first
      | (go_at_call 68; refine ht.out.mono ?_; rintro e1 w1 ⟨rfl, he1⟩; go_must (have hO := ext_heap he1.out (heap_alloc_new w (.cells #[.int .i64 0, .int .i64 0] 47)); have o0 := two_c0 hO; have o1 := two_c1 hO; have fO := row_frozen hO; replace hO := hide hO))
      | (go_at_call 15; refine (faultIs _ _ _).mono ?_; rintro e2 w2 ⟨rfl, hw2⟩; go_must (have X2 : Hid (Ext w1 w2) := (by show Ext _ _; rw [hw2]; exact (((Ext.refl w1).alloc _).alloc _).alloc _); have G2 := (hw2 ▸ ext_heap ((Ext.refl _).alloc (.cells #[.int .i64 6, .int .i64 t0.place] 47)) (two_hi w1 (.cells #[.int .i64 0, .int .i64 0, .string ⟨#[]⟩, .int .i64 0] 71) (.cells #[.int .i64 6, .int .i64 t0.place] 47)) : w2.heap[w1.heap.size + 1]? = some (.cells #[.int .i64 6, .int .i64 t0.place] 47)); clear hw2; have hO2 := ext_heap X2.out hO.out; have q0 := two_c0 hO2; have q1 := two_c1 hO2; have fq := row_frozen hO2; have g0 := two_c0 G2; have g1 := two_c1 G2; replace G2 := hide G2; replace hO2 := hide hO2)))
    refine bodyPost_ret (v := .agg #[.int .i64 6, .int .i64 t0.place]) (by simp [results, Tryz.results123, go_sem, q0, q1]) rfl ?_
    have X : Ext w w2 := ((Ext.refl w).alloc _).trans (he1.out.trans X2.out)
    exact ⟨Wr.ext ((X.setCell (p := ⟨w.heap.size, 0, none⟩) (Nat.le_refl _) _).setCell (p := ⟨w.heap.size, 1, none⟩) (Nat.le_refl _) _), .inl ⟨6, t0.place, hfin, by decide, rfl⟩⟩

set_option maxRecDepth 100000 in
set_option maxHeartbeats 3200000 in
theorem readRefNo2 {B Be : Nat} {w : World} {P b : Nat} {ts : List Tok} {i : Nat} {rs : List RowE} {bs : List Nat} {rf : List (IDd × Nat)} {e : EntD} (h : Fits B Be w P b ts i rs bs rf e) (hn : ts.length ≤ 1000000) {t0 t1 : Tok} (h0 : ts[i]? = some t0) (k0 : t0.kind = 1) (h1 : ts[i + 1]? = some t1) (k1 : t1.kind ≠ 10) :
    Calls Tryz.prog 123 #[.pointer (some ⟨P, 0, none⟩), .pointer (some ⟨b, 0, none⟩)] w (ReadIs B Be w P b ts rs bs (refS ts i e rf)) := by
  obtain ⟨tE, vT, vE, vO, vR, hp⟩ := h.par
  have hfin : Hid (refS ts i e rf = .error (6, t1.place)) := by
    show _ = _
    unfold refS; rw [take_ok h0 k0]; dsimp only; rw [take_no h1 k1]
  have hPB := hide hp.base
  have ht := hide (takeYes (hp.ext ((Ext.refl w).alloc (.cells #[.int .i64 0, .int .i64 0] 47))) h0 hn k0)
  replace hp := hide hp; replace h := hide h
  replace h0 := hide h0; replace k0 := hide k0; replace h1 := hide h1; replace k1 := hide k1
  go_enter Tryz.func123, Tryz.ntmps123
  go_wp2_with (first
    | (go_at_call 68; refine (takeNot hp2.out h1.out hn k1.out).mono ?_; rintro e3 w3 ⟨rfl, he3⟩; go_must (have hO3 := ext_heap he3.out hO2.out; replace hO3 := hide hO3))
    | (go_at_call 68; refine ht.out.mono ?_; rintro e1 w1 ⟨rfl, hp1, hW1⟩; go_must (have hO := hide (Wr.keeps hW1.out (heap_alloc_new w (.cells #[.int .i64 0, .int .i64 0] 47)) (onP_no (by decide)))))
    | (go_at_call 15; have X3 := he3; refine (faultIs _ _ _).mono ?_; rintro e4 w4 ⟨rfl, hw4⟩; go_must (have X4 : Hid (Ext w3 w4) := (by show Ext _ _; rw [hw4]; exact (((Ext.refl w3).alloc _).alloc _).alloc _); have G4 := (hw4 ▸ ext_heap ((Ext.refl _).alloc (.cells #[.int .i64 6, .int .i64 t1.place] 47)) (two_hi w3 (.cells #[.int .i64 0, .int .i64 0, .string ⟨#[]⟩, .int .i64 0] 71) (.cells #[.int .i64 6, .int .i64 t1.place] 47)) : w4.heap[w3.heap.size + 1]? = some (.cells #[.int .i64 6, .int .i64 t1.place] 47)); clear hw4; have hO4 := ext_heap X4.out hO3.out; have q0 := two_c0 hO4; have q1 := two_c1 hO4; have fq := row_frozen hO4; have g0 := two_c0 G4; have g1 := two_c1 G4; replace G4 := hide G4; replace hO4 := hide hO4))
    | (go_at_call 15; refine (faultIs _ _ _).mono ?_; rintro e2 w2 ⟨rfl, hw2⟩; go_must (have X2 : Hid (Ext w1 w2) := (by show Ext _ _; rw [hw2]; exact (((Ext.refl w1).alloc _).alloc _).alloc _); clear hw2; have hO2 := hide (ext_heap X2.out hO.out); have hp2 := hide (hp1.out.ext X2.out))))
  refine bodyPost_ret (v := .agg #[.int .i64 6, .int .i64 t1.place]) (by simp [results, Tryz.results123, go_sem, q0, q1]) rfl ?_
  have W : Wr (ChgE B Be) w w4 := (Wr.ext ((Ext.refl w).alloc _)).trans ((hW1.out.mono fun _ _ _ hd => onP_chg hPB.out hd).trans (Wr.ext (X2.out.trans (he3.out.trans X4.out))))
  exact ⟨(W.setNew (p := ⟨w.heap.size, 0, none⟩) (Nat.le_refl _) _).setNew (p := ⟨w.heap.size, 1, none⟩) (Nat.le_refl _) _, .inl ⟨6, t1.place, hfin, by decide, rfl⟩⟩

set_option maxRecDepth 100000 in
set_option maxHeartbeats 3200000 in
theorem readRefNo3 {B Be : Nat} {w : World} {P b : Nat} {ts : List Tok} {i : Nat} {rs : List RowE} {bs : List Nat} {rf : List (IDd × Nat)} {e : EntD} (h : Fits B Be w P b ts i rs bs rf e) (hn : ts.length ≤ 1000000) {t0 t1 t2 : Tok} (h0 : ts[i]? = some t0) (k0 : t0.kind = 1) (h1 : ts[i + 1]? = some t1) (k1 : t1.kind = 10) (h2 : ts[i + 1 + 1]? = some t2) (k2 : t2.kind ≠ 1) :
    Calls Tryz.prog 123 #[.pointer (some ⟨P, 0, none⟩), .pointer (some ⟨b, 0, none⟩)] w (ReadIs B Be w P b ts rs bs (refS ts i e rf)) := by
  obtain ⟨tE, vT, vE, vO, vR, hp⟩ := h.par
  have hfin : Hid (refS ts i e rf = .error (6, t2.place)) := by
    show _ = _
    unfold refS; rw [take_ok h0 k0]; dsimp only; rw [take_ok h1 k1]; dsimp only; rw [take_no h2 k2]
  have hPB := hide hp.base
  have ht := hide (takeYes (hp.ext ((Ext.refl w).alloc (.cells #[.int .i64 0, .int .i64 0] 47))) h0 hn k0)
  replace hp := hide hp; replace h := hide h
  replace h0 := hide h0; replace k0 := hide k0; replace h1 := hide h1; replace k1 := hide k1; replace h2 := hide h2; replace k2 := hide k2
  go_enter Tryz.func123, Tryz.ntmps123
  go_wp2_with (first
    | (go_at_call 68; refine (takeNot hp4.out h2.out hn k2.out).mono ?_; rintro e5 w5 ⟨rfl, he5⟩; go_must (have hO5 := hide (ext_heap he5.out hO4.out); have F5 := ext_heap ((Ext.refl w5).alloc (.cells #[.int .i64 0, .int .i64 0, .string ⟨#[]⟩, .int .i64 0] 71)) (ext_heap he5.out F4.out); have f0 := two_c0 F5; have f1 := two_c1 F5; have ff := row_frozen F5; replace F5 := hide F5))
    | (go_at_call 68; refine (takeYes hp2.out h1.out hn k1.out).mono ?_; rintro e3 w3 ⟨rfl, hp3, hW3⟩; go_must (have hO3 := hide (Wr.keeps hW3.out hO2.out (onP_no (by decide))); have F3 := hide (Wr.keeps hW3.out F2.out (onP_no (by decide)))))
    | (go_at_call 68; refine ht.out.mono ?_; rintro e1 w1 ⟨rfl, hp1, hW1⟩; go_must (have hO := hide (Wr.keeps hW1.out (heap_alloc_new w (.cells #[.int .i64 0, .int .i64 0] 47)) (onP_no (by decide)))))
    | (go_at_call 15; have X5 := he5; refine (faultIs _ _ _).mono ?_; rintro e6 w6 ⟨rfl, hw6⟩; go_must (have hlt := (Array.getElem?_eq_some_iff.1 hO.out).1; have G6 := (hw6 ▸ ext_heap ((Ext.refl _).alloc _) (two_sets F5.out (.int .i64 6) (.int .i64 t2.place)) : w6.heap[w1.heap.size + 1]? = some (.cells #[.int .i64 6, .int .i64 t2.place] 47)); have hO6 := (hw6 ▸ ext_heap ((Ext.refl _).alloc _) (World.setCell_other_row (World.setCell_other_row (ext_heap ((Ext.refl w5).alloc (.cells #[.int .i64 0, .int .i64 0, .string ⟨#[]⟩, .int .i64 0] 71)) hO5.out) (by omega : w1.heap.size + 1 ≠ w.heap.size) 0 (.int .i64 6)) (by omega : w1.heap.size + 1 ≠ w.heap.size) 1 (.int .i64 t2.place)) : w6.heap[w.heap.size]? = some (.cells #[.int .i64 0, .int .i64 0] 47)); clear f0 f1 ff; have q0 := two_c0 hO6; have q1 := two_c1 hO6; have fq := row_frozen hO6; have g0 := two_c0 G6; have g1 := two_c1 G6; replace G6 := hide G6; replace hO6 := hide hO6; replace hw6 := hide hw6; replace hlt := hide hlt))
    | (go_at_call 15; have X3 := hp3; refine (faultIs _ _ _).mono ?_; rintro e4 w4 ⟨rfl, hw4⟩; go_must (have X4 : Hid (Ext w3 w4) := (by show Ext _ _; rw [hw4]; exact (((Ext.refl w3).alloc _).alloc _).alloc _); clear hw4; have hO4 := hide (ext_heap X4.out hO3.out); have F4 := hide (ext_heap X4.out F3.out); have hp4 := hide (hp3.out.ext X4.out)))
    | (go_at_call 15; refine (faultIs _ _ _).mono ?_; rintro e2 w2 ⟨rfl, hw2⟩; go_must (have X2 : Hid (Ext w1 w2) := (by show Ext _ _; rw [hw2]; exact (((Ext.refl w1).alloc _).alloc _).alloc _); have F2 := (hw2 ▸ ext_heap ((Ext.refl _).alloc (.cells #[.int .i64 0, .int .i64 0] 47)) (two_hi w1 (.cells #[.int .i64 t0.kind, .int .i64 t0.place, .string t0.text, .int .i64 t0.value] 71) (.cells #[.int .i64 0, .int .i64 0] 47)) : w2.heap[w1.heap.size + 1]? = some (.cells #[.int .i64 0, .int .i64 0] 47)); replace F2 := hide F2; clear hw2; have hO2 := hide (ext_heap X2.out hO.out); have hp2 := hide (hp1.out.ext X2.out))))
  refine bodyPost_ret (v := .agg #[.int .i64 6, .int .i64 t2.place]) (by simp [results, Tryz.results123, go_sem, q0, q1]) rfl ?_
  have W4 : Wr (ChgE B Be) w w5 := (Wr.ext ((Ext.refl w).alloc _)).trans ((hW1.out.mono fun _ _ _ hd => onP_chg hPB.out hd).trans ((Wr.ext X2.out).trans ((hW3.out.mono fun _ _ _ hd => onP_chg hPB.out hd).trans (Wr.ext (X4.out.trans he5.out)))))
  have hle : w.heap.size ≤ w1.heap.size + 1 := by have := hlt.out; omega
  have W6 : Wr (ChgE B Be) w w6 := by
    rw [hw6.out]
    exact (((W4.trans (Wr.ext ((Ext.refl _).alloc _))).setNew (p := ⟨w1.heap.size + 1, 0, none⟩) hle _).setNew (p := ⟨w1.heap.size + 1, 1, none⟩) hle _).trans (Wr.ext ((Ext.refl _).alloc _))
  exact ⟨(W6.setNew (p := ⟨w.heap.size, 0, none⟩) (Nat.le_refl _) _).setNew (p := ⟨w.heap.size, 1, none⟩) (Nat.le_refl _) _, .inl ⟨6, t2.place, hfin, by decide, rfl⟩⟩
end Go.Proofs.YtfnbbohbicffpaaGreatDoor
