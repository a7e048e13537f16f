/-
  IDs, Attrs and resources as bytes: what the program's functions that write them answer.
-/
/-
  IDs and Attrs out of bytes: what the program's functions that read them answer.
-/
/-
  append onto a row of our own: what the old row is behind it.
-/
/-
  Lists out of bytes: what the program's functions that read them answer.
-/
/-
  Resources out of bytes: what the program's function that reads them answers.
-/
/-
  Resources whose lists are our own: plain facts.
-/
import Derived.Test.YtfnbbohbicffpaaGreatDoorJ13
import Derived.Test.YtfnbbohbicffpaaGreatDoorJ7
import Derived.Deep.RegionHeld3
import Derived.Deep.AppendLies
namespace Go.Proofs.YtfnbbohbicffpaaGreatDoor
open Go.RowKit

def idL (x : IDd) : List UInt8 := textL x.kind ++ textL x.name
def attrL (x : Attrd) : List UInt8 := textL x.name ++ (if x.isText then bigL 1 1 ++ textL x.text else bigL 1 0 ++ bigL 4 x.number)
def listL {α : Type} (f : α → List UInt8) (l : List α) : List UInt8 := bigL 1 l.length ++ l.flatMap f
/-- A resource as bytes. -/
def encR (x : Resd) : List UInt8 := idL x.id ++ listL attrL x.attrs ++ listL idL x.after
/-- Its texts are short. -/
def shI (x : IDd) : Prop := x.kind.size ≤ 255 ∧ x.name.size ≤ 255
def shA (x : Attrd) : Prop := x.name.size ≤ 255 ∧ x.text.size ≤ 255
def shR (x : Resd) : Prop := shI x.id ∧ (∀ a ∈ x.attrs, shA a) ∧ (∀ a ∈ x.after, shI a) ∧ x.attrs.length ≤ 255 ∧ x.after.length ≤ 255
theorem idL_len {x : IDd} (h : shI x) : (idL x).length ≤ 600 := by
  rw [idL, List.length_append, textL_len, textL_len]; have := h.1; have := h.2; omega
theorem attrL_len {x : Attrd} (h : shA x) : (attrL x).length ≤ 600 := by
  rw [attrL, List.length_append, textL_len]; have := h.1; have := h.2
  split
  · rw [List.length_append, bigL_len, textL_len]; omega
  · rw [List.length_append, bigL_len, bigL_len]; omega
theorem flat_le {α : Type} {f : α → List UInt8} {n : Nat} : ∀ {l : List α}, (∀ x ∈ l, (f x).length ≤ n) → (l.flatMap f).length ≤ l.length * n
  | [], _ => by simp
  | x :: l, h => by
    have h1 := h x (by simp)
    have h2 := flat_le (f := f) (n := n) (l := l) fun y hy => h y (by simp [hy])
    rw [List.flatMap_cons, List.length_append, List.length_cons, Nat.succ_mul]; omega
theorem flat_succ {α : Type} {f : α → List UInt8} {l : List α} {k : Nat} {x : α} (h : l[k]? = some x) : (l.take (k + 1)).flatMap f = (l.take k).flatMap f ++ f x := by
  obtain ⟨hk, rfl⟩ := List.getElem?_eq_some_iff.1 h
  rw [List.take_succ_eq_append_getElem hk, List.flatMap_append]; simp

theorem id_keeps {B : Nat} {w w' : World} (h : Wrote8 B w w') {k : Nat} {c : Array Value} {fz : Nat × Nat} (hk : w.heap[k]? = some (.cells c 33 fz)) : w'.heap[k]? = some (.cells c 33 fz) := h.keeps hk (by decide)
theorem id_c0 {w : World} {k : Nat} {a b : Value} {t : TypeId} {fz : Nat × Nat} (hk : w.heap[k]? = some (.cells #[a, b] t fz)) : w.cell? ⟨k, 0, none⟩ = some a := by simp [World.cell?, hk]
theorem id_c1 {w : World} {k : Nat} {a b : Value} {t : TypeId} {fz : Nat × Nat} (hk : w.heap[k]? = some (.cells #[a, b] t fz)) : w.cell? ⟨k, 1, none⟩ = some b := by simp [World.cell?, hk]

theorem bound1 {acc l : List UInt8} {s : ByteArray} (h : acc = l ++ textL s) (hl : l.length ≤ 800000) (hs : s.size ≤ 255) : acc.length ≤ 900000 := by
  rw [h, List.length_append, textL_len]; omega

theorem at_keeps {B : Nat} {w w' : World} (h : Wrote8 B w w') {k : Nat} {c : Array Value} {fz : Nat × Nat} (hk : w.heap[k]? = some (.cells c 57 fz)) : w'.heap[k]? = some (.cells c 57 fz) := h.keeps hk (by decide)
theorem at_c0 {w : World} {k : Nat} {a b c d : Value} {t : TypeId} {fz : Nat × Nat} (hk : w.heap[k]? = some (.cells #[a, b, c, d] t fz)) : w.cell? ⟨k, 0, none⟩ = some a := by simp [World.cell?, hk]
theorem at_c1 {w : World} {k : Nat} {a b c d : Value} {t : TypeId} {fz : Nat × Nat} (hk : w.heap[k]? = some (.cells #[a, b, c, d] t fz)) : w.cell? ⟨k, 1, none⟩ = some b := by simp [World.cell?, hk]
theorem at_c2 {w : World} {k : Nat} {a b c d : Value} {t : TypeId} {fz : Nat × Nat} (hk : w.heap[k]? = some (.cells #[a, b, c, d] t fz)) : w.cell? ⟨k, 2, none⟩ = some c := by simp [World.cell?, hk]
theorem at_c3 {w : World} {k : Nat} {a b c d : Value} {t : TypeId} {fz : Nat × Nat} (hk : w.heap[k]? = some (.cells #[a, b, c, d] t fz)) : w.cell? ⟨k, 3, none⟩ = some d := by simp [World.cell?, hk]
theorem bound2 {acc l : List UInt8} {n : Int} {k N : Nat} (h : acc = l ++ bigL k n) (hl : l.length + k ≤ N) : acc.length ≤ N := by
  rw [h, List.length_append, bigL_len]; omega
theorem bound3 {acc l : List UInt8} {s : ByteArray} {N : Nat} (h : acc = l ++ textL s) (hl : l.length + (s.size + 1) ≤ N) : acc.length ≤ N := by
  rw [h, List.length_append, textL_len]; omega

end Go.Proofs.YtfnbbohbicffpaaGreatDoor

namespace Go.Proofs.YtfnbbohbicffpaaGreatDoor
open Go.RowKit

def rdText (l : List UInt8) : ByteArray × List UInt8 := (⟨((l.drop 1).take (numN (l.take 1))).toArray⟩, (l.drop 1).drop (numN (l.take 1)))
def rdID (l : List UInt8) : IDd × List UInt8 := (⟨(rdText l).1, (rdText (rdText l).2).1⟩, (rdText (rdText l).2).2)
/-- 32 bits, with their sign. -/
def s32 (n : Nat) : Int := if n < 2147483648 then (n : Int) else (n : Int) - 4294967296
def rdAttr (l : List UInt8) : Attrd × List UInt8 :=
  if numN ((rdText l).2.take 1) = 1 then (⟨(rdText l).1, true, (rdText ((rdText l).2.drop 1)).1, 0⟩, (rdText ((rdText l).2.drop 1)).2)
  else (⟨(rdText l).1, false, ⟨#[]⟩, s32 (numN (((rdText l).2.drop 1).take 4))⟩, ((rdText l).2.drop 1).drop 4)

theorem Wrote.setNew {B : Nat} {T : TypeId → Prop} {w w1 : World} (h : Wrote B T w w1) {p : Addr} (hp : w.heap.size ≤ p.block) (u : Value) : Wrote B T w (w1.setCell p u) := by
  refine ⟨h.os, h.tape, h.output, by have := h.size; simp [World.setCell]; exact this, fun k hk hd => ?_⟩
  rw [← h.heap k hk hd]
  simp only [World.setCell, Array.getElem?_modify]
  rw [if_neg (by omega)]
theorem row_frozen {w : World} {b : Nat} {cs : Array Value} {t : TypeId} (h : w.heap[b]? = some (.cells cs t (0, 0))) (j : Nat) : w.frozen? ⟨b, j, none⟩ = false := by simp [World.frozen?, h]
theorem row_set {w : World} {b : Nat} {cs : Array Value} {t : TypeId} {fz : Nat × Nat} (h : w.heap[b]? = some (.cells cs t fz)) (j : Nat) (v : Value) : (w.setCell ⟨b, j, none⟩ v).heap[b]? = some (.cells (cs.setIfInBounds j v) t fz) := by
  simp [World.setCell, Array.getElem?_modify, h]
theorem World.setCell_other_row {w : World} {b c : Nat} {o : Obj} (h : w.heap[b]? = some o) (hne : c ≠ b) (j : Nat) (v : Value) : (w.setCell ⟨c, j, none⟩ v).heap[b]? = some o := by
  simp only [World.setCell, Array.getElem?_modify]
  rw [if_neg hne]; exact h
theorem two_lo (w : World) (o o' : Obj) : ((w.alloc o).alloc o').heap[w.heap.size]? = some o := by
  rw [Below.heap_alloc _ _ _ (by simp)]; exact heap_alloc_new w o
theorem two_hi (w : World) (o o' : Obj) : ((w.alloc o).alloc o').heap[w.heap.size + 1]? = some o' := by
  have := heap_alloc_new (w.alloc o) o'; simpa using this
theorem pair_set0 {w : World} {k : Nat} {a b : Value} {t : TypeId} {fz : Nat × Nat} (hk : w.heap[k]? = some (.cells #[a, b] t fz)) (v : Value) : (w.setCell ⟨k, 0, none⟩ v).heap[k]? = some (.cells #[v, b] t fz) := by
  have := row_set hk 0 v; simpa using this
theorem txt_eq {t : ByteArray} {l : List UInt8} (h : t.data.toList = (l.drop 1).take (numN (l.take 1))) : t = (rdText l).1 := by
  apply ByteArray.ext; apply Array.toList_inj.1; rw [h]; rfl
theorem wrap_s32 (m : Nat) (h : m < 4294967296) : IntKind.i32.wrap (m : Int) = s32 m := by
  have e1 : (m : Int) % 4294967296 = (m : Int) := by omega
  by_cases hh : m < 2147483648
  · have h2 : ¬ (2147483648 : Int) ≤ (m : Int) := by omega
    simp [IntKind.wrap, IntKind.signed, IntKind.bits, s32, hh, e1, h2]
  · have h2 : (2147483648 : Int) ≤ (m : Int) := by omega
    simp [IntKind.wrap, IntKind.signed, IntKind.bits, s32, hh, e1, h2]
theorem four_set0 {w : World} {k : Nat} {a b c d : Value} {t : TypeId} {fz : Nat × Nat} (hk : w.heap[k]? = some (.cells #[a, b, c, d] t fz)) (v : Value) : (w.setCell ⟨k, 0, none⟩ v).heap[k]? = some (.cells #[v, b, c, d] t fz) := by
  have := row_set hk 0 v; simpa using this
theorem four_set1 {w : World} {k : Nat} {a b c d : Value} {t : TypeId} {fz : Nat × Nat} (hk : w.heap[k]? = some (.cells #[a, b, c, d] t fz)) (v : Value) : (w.setCell ⟨k, 1, none⟩ v).heap[k]? = some (.cells #[a, v, c, d] t fz) := by
  have := row_set hk 1 v; simpa using this
theorem four_set2 {w : World} {k : Nat} {a b c d : Value} {t : TypeId} {fz : Nat × Nat} (hk : w.heap[k]? = some (.cells #[a, b, c, d] t fz)) (v : Value) : (w.setCell ⟨k, 2, none⟩ v).heap[k]? = some (.cells #[a, b, v, d] t fz) := by
  have := row_set hk 2 v; simpa using this
theorem four_set3 {w : World} {k : Nat} {a b c d : Value} {t : TypeId} {fz : Nat × Nat} (hk : w.heap[k]? = some (.cells #[a, b, c, d] t fz)) (v : Value) : (w.setCell ⟨k, 3, none⟩ v).heap[k]? = some (.cells #[a, b, c, v] t fz) := by
  have := row_set hk 3 v; simpa using this
theorem four_cells {w : World} {k : Nat} {a b c d : Value} {t : TypeId} {fz : Nat × Nat} (hk : w.heap[k]? = some (.cells #[a, b, c, d] t fz)) :
    w.cell? ⟨k, 0, none⟩ = some a ∧ w.cell? ⟨k, 1, none⟩ = some b ∧ w.cell? ⟨k, 2, none⟩ = some c ∧ w.cell? ⟨k, 3, none⟩ = some d := ⟨at_c0 hk, at_c1 hk, at_c2 hk, at_c3 hk⟩
/-- Four cells of a row are stored. -/
theorem Wrote.set4 {B : Nat} {T : TypeId → Prop} {w w1 : World} (h : Wrote B T w w1) {O : Nat} (hO : w.heap.size ≤ O) (v0 v1 v2 v3 : Value) :
    Wrote B T w ((((w1.setCell ⟨O, 0, none⟩ v0).setCell ⟨O, 1, none⟩ v1).setCell ⟨O, 2, none⟩ v2).setCell ⟨O, 3, none⟩ v3) :=
  (((h.setNew (p := ⟨O, 0, none⟩) hO v0).setNew (p := ⟨O, 1, none⟩) hO v1).setNew (p := ⟨O, 2, none⟩) hO v2).setNew (p := ⟨O, 3, none⟩) hO v3
end Go.Proofs.YtfnbbohbicffpaaGreatDoor

namespace Go.Proofs.YtfnbbohbicffpaaGreatDoor
open Go.RowKit

/-- The new slice lies in the old row, or in a new one, and then the old row is as it was. -/
theorem append_tight {P : Program} (w : World) (t ty : TypeId) (base : Nat) (e : TypeId) (i : TypeInfo) (z : Value) (size bytes : Nat) (ht : P.underlying t = some (.slice e)) (hi : P.info? e = some i) (hz : i.zero = some z)
    (hsize : i.size = size) (hby : i.bytes = bytes) (hzs : z.cells.size = size) (hsz : 0 < size)
    (v : Value) (n : Nat) (xs : List Value) (hown : w.ownsRow base e size v n xs)
    (ad : Addr) (m c : Nat) (news : List Value) (hl : news.length = m * size) (hnews : ∀ j u, news[j]? = some u → w.cell? (ad.add j) = some u) (h1 : ∀ u ∈ news, u.oneCell' = true)
    (hm : 0 < m) (h63 : n + m ≤ maxLen) (hbytes : (n + m) * bytes ≤ 140737488355328) (hbase : base ≤ w.heap.size) :
    ∃ g cap w', (Builtin.append_ #[t, t] ty #[v, .slice (some ad) m c]).run P w = .ok (.slice (some ⟨g, 0, none⟩) (n + m) cap) w' ∧
      w'.ownsRow base e size (.slice (some ⟨g, 0, none⟩) (n + m) cap) (n + m) (xs ++ news) ∧ w.grownBy w' v.ownBlock ∧ (v.ownBlock = some g ∨ (w.heap.size ≤ g ∧ ∀ k, k < w.heap.size → w'.heap[k]? = w.heap[k]?)) := by
  obtain ⟨g, cap, w', hr, h2, h3, h4, h5⟩ := run_append_lies (P := P) w t ty base e i z size bytes ht hi hz hsize hby hzs hsz v n xs hown ad m c news hl hnews h1 hm h63 hbytes hbase w.heap.size rfl
  refine ⟨g, cap, w', hr, h2, h3, ?_⟩
  subst hsize
  subst hby
  rcases hown.2 with ⟨rfl, rfl⟩ | ⟨g0, cap0, cur, rfl, hbg, hg, hnc, hcm, hcs, htake⟩
  · rcases h4 with h4 | h4
    · simp [Value.ownBlock] at h4
    · exact .inr ⟨by omega, fun k hk => h3.block k hk (by simp [Value.ownBlock])⟩
  · by_cases hroom : n + m ≤ cap0
    · have hfit : n * i.size + news.length ≤ cur.size := by rw [hl, hcs, ← Nat.add_mul]; exact Nat.mul_le_mul_right _ hroom
      have hr2 := run_append_room (P := P) w t ty e i ht hi g0 n cap0 cur hg ad m c news hl hnews h1 hroom hfit
      rw [hr2] at hr
      left
      injection hr with e1 _
      injection e1 with e2
      simp at e2
      simp [Value.ownBlock, e2]
    · have holds : ∀ j u, xs[j]? = some u → w.cell? ((⟨g0, 0, none⟩ : Addr).add j) = some u := hown.cells (g := g0) rfl
      have hr2 := run_append_grow (P := P) w t ty e i z ht hi hz ⟨g0, 0, none⟩ n cap0 xs hown.1 holds ad m c news hl hnews (by omega) (by unfold maxLen at h63; omega) (growslice_fits (by omega) hbytes)
      rw [hr2] at hr
      right
      injection hr with e1 e3
      injection e1 with e2
      simp at e2
      refine ⟨by omega, fun k hk => ?_⟩
      rw [← e3]
      exact Below.heap_alloc w.drew _ k hk
theorem wpList_append_tight {P : Program} (w : World) {ops : Array Oper} {rest : List Oper} {o : Oper} {a : Act} {Q : Exit → Act → World → Prop} (hgd : o.guard = none) (s x : Operand) (t : TypeId)
    (ho : o.op = .call { callee := .builtin .append, args := #[s, x], argTypes := #[t, t] })
    (base : Nat) (e : TypeId) (i : TypeInfo) (z : Value) (size bytes : Nat) (ht : P.underlying t = some (.slice e)) (hi : P.info? e = some i) (hz : i.zero = some z)
    (hsize : i.size = size) (hby : i.bytes = bytes) (hzs : z.cells.size = size) (hsz : 0 < size)
    (v : Value) (n : Nat) (xs : List Value) (hs : a.eval s = v) (hown : w.ownsRow base e size v n xs)
    (ad : Addr) (m c : Nat) (news : List Value) (hx : a.eval x = .slice (some ad) m c) (hl : news.length = m * size) (hnews : ∀ j u, news[j]? = some u → w.cell? (ad.add j) = some u) (h1 : ∀ u ∈ news, u.oneCell' = true)
    (hm : 0 < m) (h63 : n + m ≤ maxLen) (hbytes : (n + m) * bytes ≤ 140737488355328) (hbase : base ≤ w.heap.size)
    (h : ∀ g cap w', w'.ownsRow base e size (.slice (some ⟨g, 0, none⟩) (n + m) cap) (n + m) (xs ++ news) → w.grownBy w' v.ownBlock → (v.ownBlock = some g ∨ (w.heap.size ≤ g ∧ ∀ k, k < w.heap.size → w'.heap[k]? = w.heap[k]?)) → wpList P ops Q rest (a.put o.dst (.slice (some ⟨g, 0, none⟩) (n + m) cap)) w') :
    wpList P ops Q (o :: rest) a w := by
  refine wpList_plain hgd fun K hK => ?_
  obtain ⟨g, cap, w', hr, h2, h3, h4⟩ := append_tight (P := P) w t o.type base e i z size bytes ht hi hz hsize hby hzs hsz v n xs hown ad m c news hl hnews h1 hm h63 hbytes hbase
  unfold Oper.wp execOp
  simp only [ho, resolve, invoke, builtin, Sem.run_bind, Sem.run_pure, Result.andThen_ok, List.map_toArray, List.map_cons, List.map_nil, hs, hx, hr]
  exact hK _ _ (h g cap w' h2 h3 h4)
end Go.Proofs.YtfnbbohbicffpaaGreatDoor

namespace Go.Proofs.YtfnbbohbicffpaaGreatDoor
open Go.RowKit

def rdMany {α : Type} (rd : List UInt8 → α × List UInt8) : Nat → List UInt8 → List α × List UInt8
  | 0, l => ([], l)
  | k + 1, l => ((rd l).1 :: (rdMany rd k (rd l).2).1, (rdMany rd k (rd l).2).2)
def rdList {α : Type} (rd : List UInt8 → α × List UInt8) (l : List UInt8) : List α × List UInt8 := rdMany rd (numN (l.take 1)) (l.drop 1)
def okN (x : Attrd) : Prop := shA x ∧ -2147483648 ≤ x.number ∧ x.number < 2147483648
theorem Wrote.grownNew {B : Nat} {T : TypeId → Prop} {w w1 w2 : World} {e : TypeId} {size : Nat} {v : Value} {n : Nat} {xs : List Value} (h : Wrote B T w w1) (hown : w1.ownsRow w.heap.size e size v n xs) {o : Obj} (hg : (w1.alloc o).grownBy w2 v.ownBlock) : Wrote B T w w2 := by
  have h' := h.alloc o
  refine ⟨hg.os.trans h'.os, hg.tape.trans h'.tape, hg.output.trans h'.output, Nat.le_trans h'.size hg.size, fun k hk hd => ?_⟩
  rw [← h'.heap k hk hd]
  refine hg.block k (Nat.lt_of_lt_of_le hk h'.size) ?_
  intro hv
  rcases hown.2 with ⟨rfl, _⟩ | ⟨g, cap, cur, rfl, hb, _⟩
  · simp [Value.ownBlock] at hv
  · simp [Value.ownBlock] at hv; omega
theorem cA_one (x : Attrd) : ∀ u ∈ cA x, u.oneCell' = true := by
  intro u hu
  simp [cA] at hu
  rcases hu with rfl | rfl | rfl | rfl <;> rfl
theorem cI_one (x : IDd) : ∀ u ∈ cI x, u.oneCell' = true := by
  intro u hu
  simp [cI] at hu
  rcases hu with rfl | rfl <;> rfl
theorem cellsA_app (l : List Attrd) (x : Attrd) : cellsA (l ++ [x]) = cellsA l ++ cA x := by simp [cellsA]
theorem cellsI_app (l : List IDd) (x : IDd) : cellsI (l ++ [x]) = cellsI l ++ cI x := by simp [cellsI]

end Go.Proofs.YtfnbbohbicffpaaGreatDoor

namespace Go.Proofs.YtfnbbohbicffpaaGreatDoor
open Go.RowKit

def rdRes (l : List UInt8) : Resd × List UInt8 :=
  (⟨(rdID l).1, (rdList rdAttr (rdID l).2).1, (rdList rdID (rdList rdAttr (rdID l).2).2).1⟩, (rdList rdID (rdList rdAttr (rdID l).2).2).2)
/-- A resource that was read: it is short. -/
def okS (x : Resd) : Prop := shI x.id ∧ (∀ a ∈ x.attrs, okN a) ∧ (∀ a ∈ x.after, shI a) ∧ x.attrs.length ≤ 255 ∧ x.after.length ≤ 255
/-- Its lists are our own. -/
structure OwnR (B : Nat) (w : World) (c2 c3 : Value) (x : Resd) : Prop where
  f2 : ∃ pa cap, c2 = .slice pa x.attrs.length cap
  f3 : ∃ pa cap, c3 = .slice pa x.after.length cap
  attrs : w.ownsRow B 57 4 c2 x.attrs.length (cellsA x.attrs)
  after : w.ownsRow B 33 2 c3 x.after.length (cellsI x.after)
theorem ownsRow_low {w : World} {base base' : Nat} {e : TypeId} {size : Nat} {v : Value} {n : Nat} {xs : List Value} (h : w.ownsRow base e size v n xs) (hb : base' ≤ base) : w.ownsRow base' e size v n xs := by
  obtain ⟨h1, h2⟩ := h
  refine ⟨h1, h2.imp id ?_⟩
  rintro ⟨g, cap, cur, hv, hg, r⟩
  exact ⟨g, cap, cur, hv, Nat.le_trans hb hg, r⟩
theorem ownsRow_set {w : World} {I j : Nat} {c : Array Value} {t : TypeId} {fz : Nat × Nat} {base : Nat} {e : TypeId} {size : Nat} {v : Value} {n : Nat} {xs : List Value} (h : w.ownsRow base e size v n xs) (hI : w.heap[I]? = some (.cells c t fz)) (hne : t ≠ e) (u : Value) : (w.setCell ⟨I, j, none⟩ u).ownsRow base e size v n xs :=
  ownsRow_wrote h ((Wrote.refl 0 (· = t) w).setCell (p := ⟨I, j, none⟩) (Nat.zero_le _) hI rfl u) (fun h => hne h.symm) rfl

end Go.Proofs.YtfnbbohbicffpaaGreatDoor

namespace Go.Proofs.YtfnbbohbicffpaaGreatDoor
open Go.RowKit

theorem take_split {cur : Array Value} {k : Nat} {xs : List Value} (h : cur.toList.take k = xs) : cur = (xs ++ cur.toList.drop k).toArray := by
  apply Array.toList_inj.1; rw [← h]; simp
theorem OwnR.resV {B : Nat} {w : World} {c2 c3 : Value} {x : Resd} (h : OwnR B w c2 c3 x) (hs : okS x) : ResV w c2 c3 x := by
  obtain ⟨_, _, h2, h3⟩ := h
  obtain ⟨s1, s2, s3, s4, s5⟩ := hs
  refine ⟨⟨by have := s1.1; omega, by have := s1.2; omega⟩, ⟨?_, by omega, fun a ha => ?_⟩, ⟨?_, by omega, fun a ha => ?_⟩⟩
  · rcases h2.2 with ⟨rfl, h0⟩ | ⟨g, cap, cur, rfl, _, hh, hc, hm, _, ht⟩
    · rw [List.eq_nil_of_length_eq_zero h0]; exact ⟨none, 0, rfl, Nat.le_refl _, by omega, .inl rfl⟩
    · rw [take_split ht] at hh
      exact ⟨some ⟨g, 0, none⟩, cap, rfl, hc, by unfold maxLen at hm; omega, .inr ⟨g, 0, rfl, attrsIn_of hh⟩⟩
  · obtain ⟨⟨k1, k2⟩, k3, k4⟩ := s2 a ha
    exact ⟨by omega, by omega, by omega, by omega⟩
  · rcases h3.2 with ⟨rfl, h0⟩ | ⟨g, cap, cur, rfl, _, hh, hc, hm, _, ht⟩
    · rw [List.eq_nil_of_length_eq_zero h0]; exact ⟨none, 0, rfl, Nat.le_refl _, by omega, .inl rfl⟩
    · rw [take_split ht] at hh
      exact ⟨some ⟨g, 0, none⟩, cap, rfl, hc, by unfold maxLen at hm; omega, .inr ⟨g, 0, rfl, idsIn_of hh⟩⟩
  · obtain ⟨k1, k2⟩ := s3 a ha
    exact ⟨by omega, by omega⟩
theorem OwnR.ext {B : Nat} {w w' : World} {c2 c3 : Value} {x : Resd} (h : OwnR B w c2 c3 x) (e : Ext w w') : OwnR B w' c2 c3 x :=
  ⟨h.f2, h.f3, ownsRow_wrote h.attrs (Wrote.ext (B := 0) (T := fun _ => False) e) id rfl, ownsRow_wrote h.after (Wrote.ext (B := 0) (T := fun _ => False) e) id rfl⟩
theorem OwnR.low {B B' : Nat} {w : World} {c2 c3 : Value} {x : Resd} (h : OwnR B w c2 c3 x) (hb : B' ≤ B) : OwnR B' w c2 c3 x := ⟨h.f2, h.f3, ownsRow_low h.attrs hb, ownsRow_low h.after hb⟩
def noRes : Resd := ⟨⟨⟨#[]⟩, ⟨#[]⟩⟩, [], []⟩
theorem OwnR.nil (B : Nat) (w : World) : OwnR B w (.slice none 0 0) (.slice none 0 0) noRes := ⟨⟨_, _, rfl⟩, ⟨_, _, rfl⟩, World.ownsRow_nil _ _ _ _, World.ownsRow_nil _ _ _ _⟩
theorem okS_nil : okS noRes := ⟨⟨Nat.zero_le _, Nat.zero_le _⟩, fun a h => (by cases h), fun a h => (by cases h), Nat.zero_le _, Nat.zero_le _⟩

end Go.Proofs.YtfnbbohbicffpaaGreatDoor
