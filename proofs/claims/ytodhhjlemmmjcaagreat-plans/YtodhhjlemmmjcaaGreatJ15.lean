/-
  append onto a row of our own: what the old row is behind it.
-/
/-
  IDs and Attrs out of bytes: what the program's functions that read them answer.
-/
/-
  Lists out of bytes: what the program's functions that read them answer.
-/
/-
  Resources out of bytes: what the program's function that reads them answers.
-/
/-
  A resource and a step whose lists lie in memory.
-/
/-
  Resources whose lists are our own: plain facts.
-/
/-
  Two lists of steps that are the same.
-/
import Derived.Test.YtodhhjlemmmjcaaGreatJ11
import Derived.Deep.AppendLies
import Derived.Test.YtodhhjlemmmjcaaGreatJ10
import Derived.Test.YtodhhjlemmmjcaaGreatJ14
import Derived.Deep.RegionHeld3
import Derived.Test.YtodhhjlemmmjcaaGreatJ12
import Derived.Deep.DeepMust
namespace Go.Proofs.YtodhhjlemmmjcaaGreat
open Go.RowKit

/-- The new slice lies in the old row, or in a new one, and then the old row is as it was. -/
theorem append_tight {P : Program} (w : World) (t ty : TypeId) (base : Nat) (e : TypeId) (i : TypeInfo) (z : Value) (size bytes : Nat) (ht : P.underlying t = some (.slice e)) (hi : P.info? e = some i) (hz : i.zero = some z)
    (hsize : i.size = size) (hby : i.bytes = bytes) (hzs : z.cells.size = size) (hsz : 0 < size)
    (v : Value) (n : Nat) (xs : List Value) (hown : w.ownsRow base e size v n xs)
    (ad : Addr) (m c : Nat) (news : List Value) (hl : news.length = m * size) (hnews : ∀ j u, news[j]? = some u → w.cell? (ad.add j) = some u) (h1 : ∀ u ∈ news, u.oneCell' = true)
    (hm : 0 < m) (h63 : n + m ≤ maxLen) (hbytes : (n + m) * bytes ≤ 140737488355328) (hbase : base ≤ w.heap.size) :
    ∃ g cap w', (Builtin.append_ #[t, t] ty #[v, .slice (some ad) m c]).run P w = .ok (.slice (some ⟨g, 0, none⟩) (n + m) cap) w' ∧
      w'.ownsRow base e size (.slice (some ⟨g, 0, none⟩) (n + m) cap) (n + m) (xs ++ news) ∧ w.grownBy w' v.ownBlock ∧ (v.ownBlock = some g ∨ (w.heap.size ≤ g ∧ ∀ k, k < w.heap.size → w'.heap[k]? = w.heap[k]?)) := by
  obtain ⟨g, cap, w', hr, h2, h3, h4, h5⟩ := run_append_lies (P := P) w t ty base e i z size bytes ht hi hz hsize hby hzs hsz v n xs hown ad m c news hl hnews h1 hm h63 hbytes hbase w.heap.size rfl
  refine ⟨g, cap, w', hr, h2, h3, ?_⟩
  subst hsize
  subst hby
  rcases hown.2 with ⟨rfl, rfl⟩ | ⟨g0, cap0, cur, rfl, hbg, hg, hnc, hcm, hcs, htake⟩
  · rcases h4 with h4 | h4
    · simp [Value.ownBlock] at h4
    · exact .inr ⟨by omega, fun k hk => h3.block k hk (by simp [Value.ownBlock])⟩
  · by_cases hroom : n + m ≤ cap0
    · have hfit : n * i.size + news.length ≤ cur.size := by rw [hl, hcs, ← Nat.add_mul]; exact Nat.mul_le_mul_right _ hroom
      have hr2 := run_append_room (P := P) w t ty e i ht hi g0 n cap0 cur hg ad m c news hl hnews h1 hroom hfit
      rw [hr2] at hr
      left
      injection hr with e1 _
      injection e1 with e2
      simp at e2
      simp [Value.ownBlock, e2]
    · have holds : ∀ j u, xs[j]? = some u → w.cell? ((⟨g0, 0, none⟩ : Addr).add j) = some u := hown.cells (g := g0) rfl
      have hr2 := run_append_grow (P := P) w t ty e i z ht hi hz ⟨g0, 0, none⟩ n cap0 xs hown.1 holds ad m c news hl hnews (by omega) (by unfold maxLen at h63; omega) (growslice_fits (by omega) hbytes)
      rw [hr2] at hr
      right
      injection hr with e1 e3
      injection e1 with e2
      simp at e2
      refine ⟨by omega, fun k hk => ?_⟩
      rw [← e3]
      exact Below.heap_alloc w.drew _ k hk
theorem wpList_append_tight {P : Program} (w : World) {ops : Array Oper} {rest : List Oper} {o : Oper} {a : Act} {Q : Exit → Act → World → Prop} (hgd : o.guard = none) (s x : Operand) (t : TypeId)
    (ho : o.op = .call { callee := .builtin .append, args := #[s, x], argTypes := #[t, t] })
    (base : Nat) (e : TypeId) (i : TypeInfo) (z : Value) (size bytes : Nat) (ht : P.underlying t = some (.slice e)) (hi : P.info? e = some i) (hz : i.zero = some z)
    (hsize : i.size = size) (hby : i.bytes = bytes) (hzs : z.cells.size = size) (hsz : 0 < size)
    (v : Value) (n : Nat) (xs : List Value) (hs : a.eval s = v) (hown : w.ownsRow base e size v n xs)
    (ad : Addr) (m c : Nat) (news : List Value) (hx : a.eval x = .slice (some ad) m c) (hl : news.length = m * size) (hnews : ∀ j u, news[j]? = some u → w.cell? (ad.add j) = some u) (h1 : ∀ u ∈ news, u.oneCell' = true)
    (hm : 0 < m) (h63 : n + m ≤ maxLen) (hbytes : (n + m) * bytes ≤ 140737488355328) (hbase : base ≤ w.heap.size)
    (h : ∀ g cap w', w'.ownsRow base e size (.slice (some ⟨g, 0, none⟩) (n + m) cap) (n + m) (xs ++ news) → w.grownBy w' v.ownBlock → (v.ownBlock = some g ∨ (w.heap.size ≤ g ∧ ∀ k, k < w.heap.size → w'.heap[k]? = w.heap[k]?)) → wpList P ops Q rest (a.put o.dst (.slice (some ⟨g, 0, none⟩) (n + m) cap)) w') :
    wpList P ops Q (o :: rest) a w := by
  refine wpList_plain hgd fun K hK => ?_
  obtain ⟨g, cap, w', hr, h2, h3, h4⟩ := append_tight (P := P) w t o.type base e i z size bytes ht hi hz hsize hby hzs hsz v n xs hown ad m c news hl hnews h1 hm h63 hbytes hbase
  unfold Oper.wp execOp
  simp only [ho, resolve, invoke, builtin, Sem.run_bind, Sem.run_pure, Result.andThen_ok, List.map_toArray, List.map_cons, List.map_nil, hs, hx, hr]
  exact hK _ _ (h g cap w' h2 h3 h4)
end Go.Proofs.YtodhhjlemmmjcaaGreat

namespace Go.Proofs.YtodhhjlemmmjcaaGreat
open Go.RowKit

def rdText (l : List UInt8) : ByteArray × List UInt8 := (⟨((l.drop 1).take (numN (l.take 1))).toArray⟩, (l.drop 1).drop (numN (l.take 1)))
def rdID (l : List UInt8) : IDd × List UInt8 := (⟨(rdText l).1, (rdText (rdText l).2).1⟩, (rdText (rdText l).2).2)
/-- 32 bits, with their sign. -/
def s32 (n : Nat) : Int := if n < 2147483648 then (n : Int) else (n : Int) - 4294967296
def rdAttr (l : List UInt8) : Attrd × List UInt8 :=
  if numN ((rdText l).2.take 1) = 1 then (⟨(rdText l).1, true, (rdText ((rdText l).2.drop 1)).1, 0⟩, (rdText ((rdText l).2.drop 1)).2)
  else (⟨(rdText l).1, false, ⟨#[]⟩, s32 (numN (((rdText l).2.drop 1).take 4))⟩, ((rdText l).2.drop 1).drop 4)

theorem Wrote.setNew {B : Nat} {T : TypeId → Prop} {w w1 : World} (h : Wrote B T w w1) {p : Addr} (hp : w.heap.size ≤ p.block) (u : Value) : Wrote B T w (w1.setCell p u) := by
  refine ⟨h.os, h.tape, h.output, by have := h.size; simp [World.setCell]; exact this, fun k hk hd => ?_⟩
  rw [← h.heap k hk hd]
  simp only [World.setCell, Array.getElem?_modify]
  rw [if_neg (by omega)]
theorem row_frozen {w : World} {b : Nat} {cs : Array Value} {t : TypeId} (h : w.heap[b]? = some (.cells cs t (0, 0))) (j : Nat) : w.frozen? ⟨b, j, none⟩ = false := by simp [World.frozen?, h]
theorem row_set {w : World} {b : Nat} {cs : Array Value} {t : TypeId} {fz : Nat × Nat} (h : w.heap[b]? = some (.cells cs t fz)) (j : Nat) (v : Value) : (w.setCell ⟨b, j, none⟩ v).heap[b]? = some (.cells (cs.setIfInBounds j v) t fz) := by
  simp [World.setCell, Array.getElem?_modify, h]
theorem World.setCell_other_row {w : World} {b c : Nat} {o : Obj} (h : w.heap[b]? = some o) (hne : c ≠ b) (j : Nat) (v : Value) : (w.setCell ⟨c, j, none⟩ v).heap[b]? = some o := by
  simp only [World.setCell, Array.getElem?_modify]
  rw [if_neg hne]; exact h
theorem two_lo (w : World) (o o' : Obj) : ((w.alloc o).alloc o').heap[w.heap.size]? = some o := by
  rw [Below.heap_alloc _ _ _ (by simp)]; exact heap_alloc_new w o
theorem two_hi (w : World) (o o' : Obj) : ((w.alloc o).alloc o').heap[w.heap.size + 1]? = some o' := by
  have := heap_alloc_new (w.alloc o) o'; simpa using this
theorem pair_set0 {w : World} {k : Nat} {a b : Value} {t : TypeId} {fz : Nat × Nat} (hk : w.heap[k]? = some (.cells #[a, b] t fz)) (v : Value) : (w.setCell ⟨k, 0, none⟩ v).heap[k]? = some (.cells #[v, b] t fz) := by
  have := row_set hk 0 v; simpa using this
theorem txt_eq {t : ByteArray} {l : List UInt8} (h : t.data.toList = (l.drop 1).take (numN (l.take 1))) : t = (rdText l).1 := by
  apply ByteArray.ext; apply Array.toList_inj.1; rw [h]; rfl
theorem wrap_s32 (m : Nat) (h : m < 4294967296) : IntKind.i32.wrap (m : Int) = s32 m := by
  have e1 : (m : Int) % 4294967296 = (m : Int) := by omega
  by_cases hh : m < 2147483648
  · have h2 : ¬ (2147483648 : Int) ≤ (m : Int) := by omega
    simp [IntKind.wrap, IntKind.signed, IntKind.bits, s32, hh, e1, h2]
  · have h2 : (2147483648 : Int) ≤ (m : Int) := by omega
    simp [IntKind.wrap, IntKind.signed, IntKind.bits, s32, hh, e1, h2]
theorem four_set0 {w : World} {k : Nat} {a b c d : Value} {t : TypeId} {fz : Nat × Nat} (hk : w.heap[k]? = some (.cells #[a, b, c, d] t fz)) (v : Value) : (w.setCell ⟨k, 0, none⟩ v).heap[k]? = some (.cells #[v, b, c, d] t fz) := by
  have := row_set hk 0 v; simpa using this
theorem four_set1 {w : World} {k : Nat} {a b c d : Value} {t : TypeId} {fz : Nat × Nat} (hk : w.heap[k]? = some (.cells #[a, b, c, d] t fz)) (v : Value) : (w.setCell ⟨k, 1, none⟩ v).heap[k]? = some (.cells #[a, v, c, d] t fz) := by
  have := row_set hk 1 v; simpa using this
theorem four_set2 {w : World} {k : Nat} {a b c d : Value} {t : TypeId} {fz : Nat × Nat} (hk : w.heap[k]? = some (.cells #[a, b, c, d] t fz)) (v : Value) : (w.setCell ⟨k, 2, none⟩ v).heap[k]? = some (.cells #[a, b, v, d] t fz) := by
  have := row_set hk 2 v; simpa using this
theorem four_set3 {w : World} {k : Nat} {a b c d : Value} {t : TypeId} {fz : Nat × Nat} (hk : w.heap[k]? = some (.cells #[a, b, c, d] t fz)) (v : Value) : (w.setCell ⟨k, 3, none⟩ v).heap[k]? = some (.cells #[a, b, c, v] t fz) := by
  have := row_set hk 3 v; simpa using this
theorem four_cells {w : World} {k : Nat} {a b c d : Value} {t : TypeId} {fz : Nat × Nat} (hk : w.heap[k]? = some (.cells #[a, b, c, d] t fz)) :
    w.cell? ⟨k, 0, none⟩ = some a ∧ w.cell? ⟨k, 1, none⟩ = some b ∧ w.cell? ⟨k, 2, none⟩ = some c ∧ w.cell? ⟨k, 3, none⟩ = some d := ⟨at_c0 hk, at_c1 hk, at_c2 hk, at_c3 hk⟩
/-- Four cells of a row are stored. -/
theorem Wrote.set4 {B : Nat} {T : TypeId → Prop} {w w1 : World} (h : Wrote B T w w1) {O : Nat} (hO : w.heap.size ≤ O) (v0 v1 v2 v3 : Value) :
    Wrote B T w ((((w1.setCell ⟨O, 0, none⟩ v0).setCell ⟨O, 1, none⟩ v1).setCell ⟨O, 2, none⟩ v2).setCell ⟨O, 3, none⟩ v3) :=
  (((h.setNew (p := ⟨O, 0, none⟩) hO v0).setNew (p := ⟨O, 1, none⟩) hO v1).setNew (p := ⟨O, 2, none⟩) hO v2).setNew (p := ⟨O, 3, none⟩) hO v3
end Go.Proofs.YtodhhjlemmmjcaaGreat

namespace Go.Proofs.YtodhhjlemmmjcaaGreat
open Go.RowKit

def rdMany {α : Type} (rd : List UInt8 → α × List UInt8) : Nat → List UInt8 → List α × List UInt8
  | 0, l => ([], l)
  | k + 1, l => ((rd l).1 :: (rdMany rd k (rd l).2).1, (rdMany rd k (rd l).2).2)
def rdList {α : Type} (rd : List UInt8 → α × List UInt8) (l : List UInt8) : List α × List UInt8 := rdMany rd (numN (l.take 1)) (l.drop 1)
def okN (x : Attrd) : Prop := shA x ∧ -2147483648 ≤ x.number ∧ x.number < 2147483648
theorem Wrote.grownNew {B : Nat} {T : TypeId → Prop} {w w1 w2 : World} {e : TypeId} {size : Nat} {v : Value} {n : Nat} {xs : List Value} (h : Wrote B T w w1) (hown : w1.ownsRow w.heap.size e size v n xs) {o : Obj} (hg : (w1.alloc o).grownBy w2 v.ownBlock) : Wrote B T w w2 := by
  have h' := h.alloc o
  refine ⟨hg.os.trans h'.os, hg.tape.trans h'.tape, hg.output.trans h'.output, Nat.le_trans h'.size hg.size, fun k hk hd => ?_⟩
  rw [← h'.heap k hk hd]
  refine hg.block k (Nat.lt_of_lt_of_le hk h'.size) ?_
  intro hv
  rcases hown.2 with ⟨rfl, _⟩ | ⟨g, cap, cur, rfl, hb, _⟩
  · simp [Value.ownBlock] at hv
  · simp [Value.ownBlock] at hv; omega
theorem cA_one (x : Attrd) : ∀ u ∈ cA x, u.oneCell' = true := by
  intro u hu
  simp [cA] at hu
  rcases hu with rfl | rfl | rfl | rfl <;> rfl
theorem cI_one (x : IDd) : ∀ u ∈ cI x, u.oneCell' = true := by
  intro u hu
  simp [cI] at hu
  rcases hu with rfl | rfl <;> rfl
theorem cellsA_app (l : List Attrd) (x : Attrd) : cellsA (l ++ [x]) = cellsA l ++ cA x := by simp [cellsA]
theorem cellsI_app (l : List IDd) (x : IDd) : cellsI (l ++ [x]) = cellsI l ++ cI x := by simp [cellsI]

end Go.Proofs.YtodhhjlemmmjcaaGreat

namespace Go.Proofs.YtodhhjlemmmjcaaGreat
open Go.RowKit

def rdRes (l : List UInt8) : Resd × List UInt8 :=
  (⟨(rdID l).1, (rdList rdAttr (rdID l).2).1, (rdList rdID (rdList rdAttr (rdID l).2).2).1⟩, (rdList rdID (rdList rdAttr (rdID l).2).2).2)
/-- A resource that was read: it is short. -/
def okS (x : Resd) : Prop := shI x.id ∧ (∀ a ∈ x.attrs, okN a) ∧ (∀ a ∈ x.after, shI a) ∧ x.attrs.length ≤ 255 ∧ x.after.length ≤ 255
/-- Its lists are our own. -/
structure OwnR (B : Nat) (w : World) (c2 c3 : Value) (x : Resd) : Prop where
  f2 : ∃ pa cap, c2 = .slice pa x.attrs.length cap
  f3 : ∃ pa cap, c3 = .slice pa x.after.length cap
  attrs : w.ownsRow B 62 4 c2 x.attrs.length (cellsA x.attrs)
  after : w.ownsRow B 52 2 c3 x.after.length (cellsI x.after)
theorem ownsRow_low {w : World} {base base' : Nat} {e : TypeId} {size : Nat} {v : Value} {n : Nat} {xs : List Value} (h : w.ownsRow base e size v n xs) (hb : base' ≤ base) : w.ownsRow base' e size v n xs := by
  obtain ⟨h1, h2⟩ := h
  refine ⟨h1, h2.imp id ?_⟩
  rintro ⟨g, cap, cur, hv, hg, r⟩
  exact ⟨g, cap, cur, hv, Nat.le_trans hb hg, r⟩
theorem ownsRow_set {w : World} {I j : Nat} {c : Array Value} {t : TypeId} {fz : Nat × Nat} {base : Nat} {e : TypeId} {size : Nat} {v : Value} {n : Nat} {xs : List Value} (h : w.ownsRow base e size v n xs) (hI : w.heap[I]? = some (.cells c t fz)) (hne : t ≠ e) (u : Value) : (w.setCell ⟨I, j, none⟩ u).ownsRow base e size v n xs :=
  ownsRow_wrote h ((Wrote.refl 0 (· = t) w).setCell (p := ⟨I, j, none⟩) (Nat.zero_le _) hI rfl u) (fun h => hne h.symm) rfl

end Go.Proofs.YtodhhjlemmmjcaaGreat

namespace Go.Proofs.YtodhhjlemmmjcaaGreat
open Go.RowKit

/-- A resource, and where its lists are. -/
structure ResC where
  x : Resd
  a2 : Option Addr
  n2 : Nat
  p2 : Nat
  a3 : Option Addr
  n3 : Nat
  p3 : Nat
structure StepC where
  op : Nat
  r : ResC
def ResC.c2 (r : ResC) : Value := .slice r.a2 r.n2 r.p2
def ResC.c3 (r : ResC) : Value := .slice r.a3 r.n3 r.p3
def ResC.In (w : World) (r : ResC) : Prop := ResV w r.c2 r.c3 r.x
theorem ResC.In.ext {w w' : World} {r : ResC} (h : r.In w) (e : Ext w w') : r.In w' := ResV.ext h e
def StepC.d (s : StepC) : StepD := ⟨s.op, s.r.x⟩
def StepC.p (s : StepC) : StepP := ⟨s.op, s.r.x, s.r.c2, s.r.c3⟩
end Go.Proofs.YtodhhjlemmmjcaaGreat

namespace Go.Proofs.YtodhhjlemmmjcaaGreat
open Go.RowKit

theorem take_split {cur : Array Value} {k : Nat} {xs : List Value} (h : cur.toList.take k = xs) : cur = (xs ++ cur.toList.drop k).toArray := by
  apply Array.toList_inj.1; rw [← h]; simp
theorem OwnR.resV {B : Nat} {w : World} {c2 c3 : Value} {x : Resd} (h : OwnR B w c2 c3 x) (hs : okS x) : ResV w c2 c3 x := by
  obtain ⟨_, _, h2, h3⟩ := h
  obtain ⟨s1, s2, s3, s4, s5⟩ := hs
  refine ⟨⟨by have := s1.1; omega, by have := s1.2; omega⟩, ⟨?_, by omega, fun a ha => ?_⟩, ⟨?_, by omega, fun a ha => ?_⟩⟩
  · rcases h2.2 with ⟨rfl, h0⟩ | ⟨g, cap, cur, rfl, _, hh, hc, hm, _, ht⟩
    · rw [List.eq_nil_of_length_eq_zero h0]; exact ⟨none, 0, rfl, Nat.le_refl _, by omega, .inl rfl⟩
    · rw [take_split ht] at hh
      exact ⟨some ⟨g, 0, none⟩, cap, rfl, hc, by unfold maxLen at hm; omega, .inr ⟨g, 0, rfl, attrsIn_of hh⟩⟩
  · obtain ⟨⟨k1, k2⟩, k3, k4⟩ := s2 a ha
    exact ⟨by omega, by omega, by omega, by omega⟩
  · rcases h3.2 with ⟨rfl, h0⟩ | ⟨g, cap, cur, rfl, _, hh, hc, hm, _, ht⟩
    · rw [List.eq_nil_of_length_eq_zero h0]; exact ⟨none, 0, rfl, Nat.le_refl _, by omega, .inl rfl⟩
    · rw [take_split ht] at hh
      exact ⟨some ⟨g, 0, none⟩, cap, rfl, hc, by unfold maxLen at hm; omega, .inr ⟨g, 0, rfl, idsIn_of hh⟩⟩
  · obtain ⟨k1, k2⟩ := s3 a ha
    exact ⟨by omega, by omega⟩
theorem OwnR.ext {B : Nat} {w w' : World} {c2 c3 : Value} {x : Resd} (h : OwnR B w c2 c3 x) (e : Ext w w') : OwnR B w' c2 c3 x :=
  ⟨h.f2, h.f3, ownsRow_wrote h.attrs (Wrote.ext (B := 0) (T := fun _ => False) e) id rfl, ownsRow_wrote h.after (Wrote.ext (B := 0) (T := fun _ => False) e) id rfl⟩
theorem OwnR.low {B B' : Nat} {w : World} {c2 c3 : Value} {x : Resd} (h : OwnR B w c2 c3 x) (hb : B' ≤ B) : OwnR B' w c2 c3 x := ⟨h.f2, h.f3, ownsRow_low h.attrs hb, ownsRow_low h.after hb⟩
def noRes : Resd := ⟨⟨⟨#[]⟩, ⟨#[]⟩⟩, [], []⟩
theorem OwnR.nil (B : Nat) (w : World) : OwnR B w (.slice none 0 0) (.slice none 0 0) noRes := ⟨⟨_, _, rfl⟩, ⟨_, _, rfl⟩, World.ownsRow_nil _ _ _ _, World.ownsRow_nil _ _ _ _⟩
theorem okS_nil : okS noRes := ⟨⟨Nat.zero_le _, Nat.zero_le _⟩, fun a h => (by cases h), fun a h => (by cases h), Nat.zero_le _, Nat.zero_le _⟩

end Go.Proofs.YtodhhjlemmmjcaaGreat

namespace Go.Proofs.YtodhhjlemmmjcaaGreat
open Go.RowKit

set_option maxRecDepth 100000 in
set_option maxHeartbeats 800000 in
theorem sameStepS (s : StepD) (c2 c3 d2 d3 : Value) (w : World) (hu : ResV w c2 c3 s.x) (hv : ResV w d2 d3 s.x) :
    Calls Tryz.prog 29 #[.agg #[.int .i64 s.op, .string s.x.id.kind, .string s.x.id.name, c2, c3], .agg #[.int .i64 s.op, .string s.x.id.kind, .string s.x.id.name, d2, d3]] w fun e w' => e = .returned (.bool true) ∧ Ext w w' := by
  obtain ⟨a2, p2, rfl⟩ := hu.attrs.form
  obtain ⟨a3, p3, rfl⟩ := hu.after.form
  obtain ⟨b2, q2, rfl⟩ := hv.attrs.form
  obtain ⟨b3, q3, rfl⟩ := hv.after.form
  replace hu := hide hu; replace hv := hide hv
  go_enter Tryz.func29, Tryz.ntmps29
  go_wp2_with fail
  refine (sameRes _ _ _ _ s.x _ (hu.out.ext (((Ext.refl _).alloc _).alloc _)) (hv.out.ext (((Ext.refl _).alloc _).alloc _))).mono ?_
  rintro e w1 ⟨rfl, he1⟩
  have k0 := he1.cells (p := ⟨w.heap.size, 0, none⟩) (v := .int .i64 s.op) (by simp [go_sem])
  have k1 := he1.cells (p := ⟨w.heap.size + 1, 0, none⟩) (v := .int .i64 s.op) (by simp [go_sem])
  have X1 := hide ((((Ext.refl w).alloc _).alloc _).trans he1)
  clear he1
  go_wp2_with fail
  all_goals go_ret
  all_goals exact ⟨rfl, X1.out⟩

set_option maxRecDepth 100000 in
set_option maxHeartbeats 3200000 in
theorem sameSteps (u v : Value) (l : List StepD) (w : World) (hu : StepsV w u l) (hv : StepsV w v l) :
    Calls Tryz.prog 8 #[u, v] w fun e w' => e = .returned (.bool true) ∧ Ext w w' := by
  obtain ⟨pu, cu, rfl, u1, u2, hu3⟩ := hu.shape
  obtain ⟨pv, cv, rfl, v1, v2, hv3⟩ := hv.shape
  have hfew := hu.few
  replace hu := hide hu; replace hv := hide hv; replace hu3 := hide hu3; replace hv3 := hide hv3
  go_enter Tryz.func8, Tryz.ntmps8
  go_wp2_with fail
  go_loopw [5] (fun i wr => ∃ k : Nat, k ≤ l.length ∧ i = .int .i64 k ∧ Ext w wr) (fun i _ => l.length - (intOf i).toNat)
  case atStart => exact ⟨0, Nat.zero_le _, rfl, Ext.refl _⟩
  case round =>
    obtain ⟨k, hk, rfl, he⟩ := hrel
    by_cases hlt : k < l.length
    · obtain ⟨s, hs⟩ := some_of_lt hlt
      rcases hu3.out with hh | ⟨g, o, rfl, hI⟩
      · rw [hh] at hlt; simp at hlt
      rcases hv3.out with hh | ⟨g', o', rfl, hI'⟩
      · rw [hh] at hlt; simp at hlt
      obtain ⟨g0, g1, g2, c2, c3, g3, g4, hres⟩ := hI k s hs
      obtain ⟨k0, k1, k2, d2, d3, k3, k4, hres'⟩ := hI' k s hs
      obtain ⟨a2, p2, rfl⟩ := hres.attrs.form
      obtain ⟨a3, p3, rfl⟩ := hres.after.form
      obtain ⟨b2, q2, rfl⟩ := hres'.attrs.form
      obtain ⟨b3, q3, rfl⟩ := hres'.after.form
      replace g0 := he.cells g0; replace g1 := he.cells g1; replace g2 := he.cells g2; replace g3 := he.cells g3; replace g4 := he.cells g4
      replace k0 := he.cells k0; replace k1 := he.cells k1; replace k2 := he.cells k2; replace k3 := he.cells k3; replace k4 := he.cells k4
      have i2 : (k : Int) < (l.length : Int) := by omega
      have i4 : (0 : Int) ≤ (k : Int) := by omega
      replace hI := hide hI; replace hI' := hide hI'; replace he := hide he; replace hs := hide hs
      have R := hide (hres.ext he.out); have R' := hide (hres'.ext he.out)
      clear hres hres'
      go_wp2_with fail
      go_region_held3 (fun w' => w'.cell? ⟨g, o + k * 5, none⟩ = some (.int .i64 s.op) ∧ w'.cell? ⟨g, o + k * 5 + 1, none⟩ = some (.string s.x.id.kind) ∧ w'.cell? ⟨g, o + k * 5 + 2, none⟩ = some (.string s.x.id.name) ∧ w'.cell? ⟨g, o + k * 5 + 3, none⟩ = some (.slice a2 s.x.attrs.length p2) ∧ w'.cell? ⟨g, o + k * 5 + 4, none⟩ = some (.slice a3 s.x.after.length p3) ∧ w'.cell? ⟨g', o' + k * 5, none⟩ = some (.int .i64 s.op) ∧ w'.cell? ⟨g', o' + k * 5 + 1, none⟩ = some (.string s.x.id.kind) ∧ w'.cell? ⟨g', o' + k * 5 + 2, none⟩ = some (.string s.x.id.name) ∧ w'.cell? ⟨g', o' + k * 5 + 3, none⟩ = some (.slice b2 s.x.attrs.length q2) ∧ w'.cell? ⟨g', o' + k * 5 + 4, none⟩ = some (.slice b3 s.x.after.length q3)) (go_keep)
        ((go_at_call 29; refine (sameStepS s _ _ _ _ _ (R.out.ext (Ext.refl _).drew) (R'.out.ext (Ext.refl _).drew)).mono ?_; rintro e w1 ⟨rfl, he1⟩; go_must (have zg0 := he1.cells (p := ⟨g, o + k * 5, none⟩) (v := .int .i64 s.op) (by simpa using g0); have zg1 := he1.cells (p := ⟨g, o + k * 5 + 1, none⟩) (v := .string s.x.id.kind) (by simpa using g1); have zg2 := he1.cells (p := ⟨g, o + k * 5 + 2, none⟩) (v := .string s.x.id.name) (by simpa using g2); have zg3 := he1.cells (p := ⟨g, o + k * 5 + 3, none⟩) (v := .slice a2 s.x.attrs.length p2) (by simpa using g3); have zg4 := he1.cells (p := ⟨g, o + k * 5 + 4, none⟩) (v := .slice a3 s.x.after.length p3) (by simpa using g4); have zk0 := he1.cells (p := ⟨g', o' + k * 5, none⟩) (v := .int .i64 s.op) (by simpa using k0); have zk1 := he1.cells (p := ⟨g', o' + k * 5 + 1, none⟩) (v := .string s.x.id.kind) (by simpa using k1); have zk2 := he1.cells (p := ⟨g', o' + k * 5 + 2, none⟩) (v := .string s.x.id.name) (by simpa using k2); have zk3 := he1.cells (p := ⟨g', o' + k * 5 + 3, none⟩) (v := .slice b2 s.x.attrs.length q2) (by simpa using k3); have zk4 := he1.cells (p := ⟨g', o' + k * 5 + 4, none⟩) (v := .slice b3 s.x.after.length q3) (by simpa using k4); replace he1 := hide he1)))
      go_wp2
      go_roundw
      case rel => exact ⟨k + 1, by omega, by go_num, he.out.drew.trans he1.out⟩
      case measure => simp [intOf]; omega
    · replace he := hide he
      go_wp2
      go_ret
      exact ⟨rfl, he.out⟩
end Go.Proofs.YtodhhjlemmmjcaaGreat
