/-
  append onto a row of our own: what the old row is behind it.
-/
/-
  The book of lists that came out: words and plain facts.
-/
/-
  A resource at a place: what the reference's function answers.
-/
/-
  Lists of resources of our own, and their lists; what the program's function that reads one answers.
-/
/-
  Tokens: strings, and the token that begins at a place.
-/
import Derived.Test.YtejhegnlmldomaaGreatJ6
import Derived.Deep.AppendLies
import Derived.Test.YtejhegnlmldomaaGreatJ9
import Derived.Test.YtejhegnlmldomaaGreatJ2
import Derived.Test.YtejhegnlmldomaaGreatJ8
namespace Go.Proofs.YtejhegnlmldomaaGreat
open Go.RowKit

/-- The new slice lies in the old row, or in a new one, and then the old row is as it was. -/
theorem append_tight {P : Program} (w : World) (t ty : TypeId) (base : Nat) (e : TypeId) (i : TypeInfo) (z : Value) (size bytes : Nat) (ht : P.underlying t = some (.slice e)) (hi : P.info? e = some i) (hz : i.zero = some z)
    (hsize : i.size = size) (hby : i.bytes = bytes) (hzs : z.cells.size = size) (hsz : 0 < size)
    (v : Value) (n : Nat) (xs : List Value) (hown : w.ownsRow base e size v n xs)
    (ad : Addr) (m c : Nat) (news : List Value) (hl : news.length = m * size) (hnews : ∀ j u, news[j]? = some u → w.cell? (ad.add j) = some u) (h1 : ∀ u ∈ news, u.oneCell' = true)
    (hm : 0 < m) (h63 : n + m ≤ maxLen) (hbytes : (n + m) * bytes ≤ 140737488355328) (hbase : base ≤ w.heap.size) :
    ∃ g cap w', (Builtin.append_ #[t, t] ty #[v, .slice (some ad) m c]).run P w = .ok (.slice (some ⟨g, 0, none⟩) (n + m) cap) w' ∧
      w'.ownsRow base e size (.slice (some ⟨g, 0, none⟩) (n + m) cap) (n + m) (xs ++ news) ∧ w.grownBy w' v.ownBlock ∧ (v.ownBlock = some g ∨ (w.heap.size ≤ g ∧ ∀ k, k < w.heap.size → w'.heap[k]? = w.heap[k]?)) := by
  obtain ⟨g, cap, w', hr, h2, h3, h4, h5⟩ := run_append_lies (P := P) w t ty base e i z size bytes ht hi hz hsize hby hzs hsz v n xs hown ad m c news hl hnews h1 hm h63 hbytes hbase w.heap.size rfl
  refine ⟨g, cap, w', hr, h2, h3, ?_⟩
  subst hsize
  subst hby
  rcases hown.2 with ⟨rfl, rfl⟩ | ⟨g0, cap0, cur, rfl, hbg, hg, hnc, hcm, hcs, htake⟩
  · rcases h4 with h4 | h4
    · simp [Value.ownBlock] at h4
    · exact .inr ⟨by omega, fun k hk => h3.block k hk (by simp [Value.ownBlock])⟩
  · by_cases hroom : n + m ≤ cap0
    · have hfit : n * i.size + news.length ≤ cur.size := by rw [hl, hcs, ← Nat.add_mul]; exact Nat.mul_le_mul_right _ hroom
      have hr2 := run_append_room (P := P) w t ty e i ht hi g0 n cap0 cur hg ad m c news hl hnews h1 hroom hfit
      rw [hr2] at hr
      left
      injection hr with e1 _
      injection e1 with e2
      simp at e2
      simp [Value.ownBlock, e2]
    · have holds : ∀ j u, xs[j]? = some u → w.cell? ((⟨g0, 0, none⟩ : Addr).add j) = some u := hown.cells (g := g0) rfl
      have hr2 := run_append_grow (P := P) w t ty e i z ht hi hz ⟨g0, 0, none⟩ n cap0 xs hown.1 holds ad m c news hl hnews (by omega) (by unfold maxLen at h63; omega) (growslice_fits (by omega) hbytes)
      rw [hr2] at hr
      right
      injection hr with e1 e3
      injection e1 with e2
      simp at e2
      refine ⟨by omega, fun k hk => ?_⟩
      rw [← e3]
      exact Below.heap_alloc w.drew _ k hk
theorem wpList_append_tight {P : Program} (w : World) {ops : Array Oper} {rest : List Oper} {o : Oper} {a : Act} {Q : Exit → Act → World → Prop} (hgd : o.guard = none) (s x : Operand) (t : TypeId)
    (ho : o.op = .call { callee := .builtin .append, args := #[s, x], argTypes := #[t, t] })
    (base : Nat) (e : TypeId) (i : TypeInfo) (z : Value) (size bytes : Nat) (ht : P.underlying t = some (.slice e)) (hi : P.info? e = some i) (hz : i.zero = some z)
    (hsize : i.size = size) (hby : i.bytes = bytes) (hzs : z.cells.size = size) (hsz : 0 < size)
    (v : Value) (n : Nat) (xs : List Value) (hs : a.eval s = v) (hown : w.ownsRow base e size v n xs)
    (ad : Addr) (m c : Nat) (news : List Value) (hx : a.eval x = .slice (some ad) m c) (hl : news.length = m * size) (hnews : ∀ j u, news[j]? = some u → w.cell? (ad.add j) = some u) (h1 : ∀ u ∈ news, u.oneCell' = true)
    (hm : 0 < m) (h63 : n + m ≤ maxLen) (hbytes : (n + m) * bytes ≤ 140737488355328) (hbase : base ≤ w.heap.size)
    (h : ∀ g cap w', w'.ownsRow base e size (.slice (some ⟨g, 0, none⟩) (n + m) cap) (n + m) (xs ++ news) → w.grownBy w' v.ownBlock → (v.ownBlock = some g ∨ (w.heap.size ≤ g ∧ ∀ k, k < w.heap.size → w'.heap[k]? = w.heap[k]?)) → wpList P ops Q rest (a.put o.dst (.slice (some ⟨g, 0, none⟩) (n + m) cap)) w') :
    wpList P ops Q (o :: rest) a w := by
  refine wpList_plain hgd fun K hK => ?_
  obtain ⟨g, cap, w', hr, h2, h3, h4⟩ := append_tight (P := P) w t o.type base e i z size bytes ht hi hz hsize hby hzs hsz v n xs hown ad m c news hl hnews h1 hm h63 hbytes hbase
  unfold Oper.wp execOp
  simp only [ho, resolve, invoke, builtin, Sem.run_bind, Sem.run_pure, Result.andThen_ok, List.map_toArray, List.map_cons, List.map_nil, hs, hx, hr]
  exact hK _ _ (h g cap w' h2 h3 h4)
end Go.Proofs.YtejhegnlmldomaaGreat

namespace Go.Proofs.YtejhegnlmldomaaGreat
open Go.RowKit

/-- An entry: a list, and its mark. -/
def cE (e : Value × Nat) : List Value := [e.1, .int .i64 e.2]
theorem cE_len (e : Value × Nat) : (cE e).length = 2 := rfl
def cellsE (l : List (Value × Nat)) : List Value := l.flatMap cE
theorem cellsE_app (l : List (Value × Nat)) (x : Value × Nat) : cellsE (l ++ [x]) = cellsE l ++ cE x := by simp [cellsE]
theorem cE_one {pa : Option Addr} {n cap k : Nat} : ∀ u ∈ cE (.slice pa n cap, k), u.oneCell' = true := by
  intro u hu
  simp [cE] at hu
  rcases hu with rfl | rfl <;> rfl
/-- The same again and again. -/
def rep (n : Nat) (m : List Value) : List Value := (List.replicate n m).flatten
theorem rep_zero (m : List Value) : rep 0 m = [] := rfl
theorem rep_succ (n : Nat) (m : List Value) : rep (n + 1) m = rep n m ++ m := by
  unfold rep; rw [List.replicate_succ', List.flatten_append]; simp
theorem rep_len (n : Nat) (m : List Value) : (rep n m).length = n * m.length := by unfold rep; simp
theorem rep_take {m : List Value} {sz : Nat} (hm : m.length = sz) : ∀ {n k : Nat}, k ≤ n → (rep n m).take (k * sz) = rep k m
  | 0, k, h => by obtain rfl : k = 0 := by omega
                  simp [rep]
  | n + 1, k, h => by
    rw [rep_succ]
    by_cases hk : k = n + 1
    · subst hk
      rw [List.take_of_length_le (by rw [List.length_append, rep_len, hm, Nat.succ_mul]; omega), ← rep_succ]
    · rw [List.take_append_of_le_length (by rw [rep_len, hm]; exact Nat.mul_le_mul_right _ (by omega)), rep_take hm (by omega)]
theorem rep_get {m : List Value} {sz : Nat} (hm : m.length = sz) {n i r : Nat} (hi : i < n) (hr : r < sz) : (rep n m)[i * sz + r]? = m[r]? := by
  have h1 := rep_take (m := m) hm (n := n) (k := i + 1) (by omega)
  have h2 : (rep (i + 1) m)[i * sz + r]? = m[r]? := by
    rw [rep_succ, List.getElem?_append_right (by rw [rep_len, hm]; omega), rep_len, hm]
    congr 1; omega
  rw [← h2, ← h1, List.getElem?_take_of_lt (by rw [Nat.succ_mul]; omega)]
def elen (e : Value × Nat) : Nat := match e.1 with
  | .slice _ n _ => n
  | _ => 0
/-- A list reads as it was marked. -/
def MarkG (T : TypeId) (sz : Nat) (mk : Nat → List Value) (w : World) (e : Value × Nat) : Prop :=
  e.2 ≤ 10000000 ∧ ∃ pa n cap, e.1 = .slice pa n cap ∧ n ≤ cap ∧ cap ≤ 9223372036854775807 ∧ n ≤ 10000000 ∧ (n = 0 ∨ ∃ g c, pa = some ⟨g, 0, none⟩ ∧ w.heap[g]? = some (.cells c T (0, 0)) ∧ c.toList.take (n * sz) = rep n (mk e.2))
theorem MarkG.of {T : TypeId} {sz : Nat} {mk : Nat → List Value} {w : World} {B : Nat} {v : Value} {n k : Nat} (h : w.ownsRow B T sz v n (rep n (mk k))) (hn : n ≤ 10000000) (hk : k ≤ 10000000) : MarkG T sz mk w (v, k) := by
  refine ⟨hk, ?_⟩
  rcases h.2 with ⟨rfl, rfl⟩ | ⟨g, cap, cur, rfl, _, hh, hc, hm, _, ht⟩
  · exact ⟨none, 0, 0, rfl, Nat.le_refl _, by omega, by omega, .inl rfl⟩
  · exact ⟨some ⟨g, 0, none⟩, n, cap, rfl, hc, by unfold maxLen at hm; omega, hn, .inr ⟨g, cur, rfl, hh, ht⟩⟩
theorem MarkG.kept {T : TypeId} {sz : Nat} {mk : Nat → List Value} {w w' : World} {e : Value × Nat} (h : MarkG T sz mk w e) (hk : ∀ g c, e.1.ownBlock = some g → w.heap[g]? = some (.cells c T (0, 0)) → w'.heap[g]? = some (.cells c T (0, 0))) : MarkG T sz mk w' e := by
  obtain ⟨h1, pa, n, cap, h2, h3, h4, h5, h6⟩ := h
  refine ⟨h1, pa, n, cap, h2, h3, h4, h5, h6.imp id ?_⟩
  rintro ⟨g, c, rfl, hg, ht⟩
  exact ⟨g, c, rfl, hk g c (by rw [h2]; rfl) hg, ht⟩
theorem MarkG.ext {T : TypeId} {sz : Nat} {mk : Nat → List Value} {w w' : World} {e : Value × Nat} (h : MarkG T sz mk w e) (x : Ext w w') : MarkG T sz mk w' e := h.kept fun _ _ _ hg => ext_heap x hg
theorem MarkG.app {T : TypeId} {sz : Nat} {mk : Nat → List Value} {w w' : World} {e : Value × Nat} {B n g' cap' : Nat} {v : Value} {o : Obj} (h : MarkG T sz mk w e) (hle : elen e ≤ n) (hsz : (mk e.2).length = sz)
    (hown' : w'.ownsRow B T sz (.slice (some ⟨g', 0, none⟩) (n + 1) cap') (n + 1) (rep n (mk e.2) ++ mk e.2)) (hg : (w.alloc o).grownBy w' v.ownBlock)
    (ht : v.ownBlock = some g' ∨ ((w.alloc o).heap.size ≤ g' ∧ ∀ k, k < (w.alloc o).heap.size → w'.heap[k]? = (w.alloc o).heap[k]?)) : MarkG T sz mk w' e := by
  obtain ⟨h1, pa, m, cap, h2, h3, h4, h5, h6⟩ := h
  refine ⟨h1, pa, m, cap, h2, h3, h4, h5, h6.imp id ?_⟩
  rintro ⟨g, c, rfl, hgc, htk⟩
  have hlt : g < w.heap.size := (Array.getElem?_eq_some_iff.1 hgc).1
  have hlt' : g < (w.alloc o).heap.size := by simp; omega
  have hal : (w.alloc o).heap[g]? = some (.cells c T (0, 0)) := by rw [Below.heap_alloc _ _ _ hlt]; exact hgc
  by_cases hv : v.ownBlock = some g
  · rcases ht with ht | ⟨_, ht⟩
    · obtain rfl : g = g' := Option.some.inj (hv.symm.trans ht)
      rcases hown'.2 with ⟨hh, _⟩ | ⟨g2, cap2, cur, hh, _, hc, _, _, _, hk2⟩
      · cases hh
      · obtain ⟨rfl, rfl⟩ : g = g2 ∧ cap' = cap2 := by simpa using hh
        refine ⟨g, cur, rfl, hc, ?_⟩
        have hm : m ≤ n + 1 := by have := hle; rw [elen, h2] at this; dsimp only at this; omega
        rw [← rep_succ] at hk2
        have : cur.toList.take (m * sz) = (cur.toList.take ((n + 1) * sz)).take (m * sz) := by
          rw [List.take_take, Nat.min_eq_left (Nat.mul_le_mul_right _ hm)]
        rw [this, hk2, rep_take hsz hm]
    · exact ⟨g, c, rfl, (ht g hlt').trans hal, htk⟩
  · exact ⟨g, c, rfl, (hg.block g hlt' (fun h => hv h.symm)).trans hal, htk⟩
def mkA (k : Nat) : List Value := [.string ⟨#[]⟩, .bool false, .string ⟨#[]⟩, .int .i64 (-9 - (k : Int))]
def mkI (k : Nat) : List Value := [.string (textD k), .string ⟨#[]⟩]
theorem mkA_one (k : Nat) : ∀ u ∈ mkA k, u.oneCell' = true := by
  intro u hu
  simp [mkA] at hu
  rcases hu with rfl | rfl | rfl | rfl <;> rfl
theorem mkI_one (k : Nat) : ∀ u ∈ mkI k, u.oneCell' = true := by
  intro u hu
  simp [mkI] at hu
  rcases hu with rfl | rfl <;> rfl
/-- The book. -/
structure BkAt (B : Nat) (w : World) (O : Nat) (va vi vn vr vs vc : Value) (ea ei : List (Value × Nat)) : Prop where
  o : w.heap[O]? = some (.cells #[va, vi, vn, vr, vs, vc] 37 (0, 0))
  a : w.ownsRow B 143 2 va ea.length (cellsE ea)
  i : w.ownsRow B 145 2 vi ei.length (cellsE ei)
  low : B ≤ O
theorem six_celB {w : World} {k : Nat} {a b c d e f : Value} {t : TypeId} {fz : Nat × Nat} (hk : w.heap[k]? = some (.cells #[a, b, c, d, e, f] t fz)) :
    w.cell? ⟨k, 0, none⟩ = some a ∧ w.cell? ⟨k, 1, none⟩ = some b ∧ w.cell? ⟨k, 2, none⟩ = some c ∧ w.cell? ⟨k, 3, none⟩ = some d ∧ w.cell? ⟨k, 4, none⟩ = some e ∧ w.cell? ⟨k, 5, none⟩ = some f := by simp [World.cell?, hk]
theorem six_set0 {w : World} {k : Nat} {a b c d e f : Value} {t : TypeId} {fz : Nat × Nat} (hk : w.heap[k]? = some (.cells #[a, b, c, d, e, f] t fz)) (v : Value) : (w.setCell ⟨k, 0, none⟩ v).heap[k]? = some (.cells #[v, b, c, d, e, f] t fz) := by
  have := row_set hk 0 v; simpa using this
theorem six_set1 {w : World} {k : Nat} {a b c d e f : Value} {t : TypeId} {fz : Nat × Nat} (hk : w.heap[k]? = some (.cells #[a, b, c, d, e, f] t fz)) (v : Value) : (w.setCell ⟨k, 1, none⟩ v).heap[k]? = some (.cells #[a, v, c, d, e, f] t fz) := by
  have := row_set hk 1 v; simpa using this
theorem infoAO : (Tryz.prog.info? 143).map (fun i => (i.zero, i.size, i.bytes)) = some (some (.agg #[.slice none 0 0, .int .i64 0]), 2, 32) := by kernel_rfl
theorem infoIO : (Tryz.prog.info? 145).map (fun i => (i.zero, i.size, i.bytes)) = some (some (.agg #[.slice none 0 0, .int .i64 0]), 2, 32) := by kernel_rfl
theorem drop4 {xs : List Value} {o : Nat} (h : o + 4 ≤ xs.length) : ∃ z0 z1 z2 z3, xs.drop o = z0 :: z1 :: z2 :: z3 :: xs.drop (o + 4) := by
  refine ⟨xs[o], xs[o + 1], xs[o + 2], xs[o + 3], ?_⟩
  rw [List.drop_eq_getElem_cons (by omega), List.drop_eq_getElem_cons (by omega), List.drop_eq_getElem_cons (by omega), List.drop_eq_getElem_cons (by omega)]
theorem drop2 {xs : List Value} {o : Nat} (h : o + 2 ≤ xs.length) : ∃ z0 z1, xs.drop o = z0 :: z1 :: xs.drop (o + 2) := by
  refine ⟨xs[o], xs[o + 1], ?_⟩
  rw [List.drop_eq_getElem_cons (by omega), List.drop_eq_getElem_cons (by omega)]
theorem own_set4 {w : World} {B g n cap o : Nat} {T : TypeId} {pre post : List Value} {z0 z1 z2 z3 : Value} (h : w.ownsRow B T 4 (.slice (some ⟨g, 0, none⟩) n cap) n (pre ++ z0 :: z1 :: z2 :: z3 :: post)) (ho : pre.length = o) (v0 v1 v2 v3 : Value) :
    ((((w.setCell ⟨g, o, none⟩ v0).setCell ⟨g, o + 1, none⟩ v1).setCell ⟨g, o + 2, none⟩ v2).setCell ⟨g, o + 3, none⟩ v3).ownsRow B T 4 (.slice (some ⟨g, 0, none⟩) n cap) n (pre ++ v0 :: v1 :: v2 :: v3 :: post) := by
  subst ho
  have h1 := (h.stored pre.length v0).1
  have h2 := (h1.stored (pre.length + 1) v1).1
  have h3 := (h2.stored (pre.length + 2) v2).1
  have h4 := (h3.stored (pre.length + 3) v3).1
  have e : ((((pre ++ z0 :: z1 :: z2 :: z3 :: post).set pre.length v0).set (pre.length + 1) v1).set (pre.length + 2) v2).set (pre.length + 3) v3 = pre ++ v0 :: v1 :: v2 :: v3 :: post := by simp [List.set_append_right]
  rw [e] at h4; exact h4
theorem own_set2 {w : World} {B g n cap o : Nat} {T : TypeId} {pre post : List Value} {z0 z1 : Value} (h : w.ownsRow B T 2 (.slice (some ⟨g, 0, none⟩) n cap) n (pre ++ z0 :: z1 :: post)) (ho : pre.length = o) (v0 v1 : Value) :
    ((w.setCell ⟨g, o, none⟩ v0).setCell ⟨g, o + 1, none⟩ v1).ownsRow B T 2 (.slice (some ⟨g, 0, none⟩) n cap) n (pre ++ v0 :: v1 :: post) := by
  subst ho
  have h1 := (h.stored pre.length v0).1
  have h2 := (h1.stored (pre.length + 1) v1).1
  have e : ((pre ++ z0 :: z1 :: post).set pre.length v0).set (pre.length + 1) v1 = pre ++ v0 :: v1 :: post := by simp [List.set_append_right]
  rw [e] at h2; exact h2
theorem own_celB {w : World} {B g n cap o r sz : Nat} {T : TypeId} {pre post : List Value} {z : Value} (h : w.ownsRow B T sz (.slice (some ⟨g, 0, none⟩) n cap) n (pre ++ post)) (ho : pre.length = o) (hr : post[r]? = some z) : w.cell? ⟨g, o + r, none⟩ = some z := by
  have hlen := h.1
  have hlt : r < post.length := (List.getElem?_eq_some_iff.1 hr).1
  rw [List.length_append] at hlen
  rw [h.cellAt (o + r) (by omega), List.getElem?_append_right (by omega), ← hr]
  congr 1; omega
theorem ownsRow_keptR {D : Nat → Prop} {w w' : World} {base : Nat} {e : TypeId} {size : Nat} {v : Value} {n : Nat} {xs : List Value} (h : w.ownsRow base e size v n xs) (k : Kept D w w') (hd : ∀ g, v.ownBlock = some g → ¬ D g) : w'.ownsRow base e size v n xs := by
  obtain ⟨h1, h2⟩ := h
  refine ⟨h1, ?_⟩
  rcases h2 with h2 | ⟨g, cap, cur, hv, hg, hh, r⟩
  · exact .inl h2
  · exact .inr ⟨g, cap, cur, hv, hg, k.heap hh (hd g (by rw [hv]; rfl)), r⟩
end Go.Proofs.YtejhegnlmldomaaGreat

namespace Go.Proofs.YtejhegnlmldomaaGreat
open Go.RowKit

def rfID (l : List UInt8) (at_ : Nat) : IDd × Nat := (⟨(rfText l at_).1, (rfText l (rfText l at_).2).1⟩, (rfText l (rfText l at_).2).2)
def rfAttr (l : List UInt8) (at_ : Nat) : Attrd × Nat :=
  if rfN l (rfText l at_).2 1 = 1 then (⟨(rfText l at_).1, true, (rfText l ((rfText l at_).2 + 1)).1, 0⟩, (rfText l ((rfText l at_).2 + 1)).2)
  else (⟨(rfText l at_).1, false, ⟨#[]⟩, s32 (rfN l ((rfText l at_).2 + 1) 4)⟩, (rfText l at_).2 + 1 + 4)
def rfMany {α : Type} (rf : List UInt8 → Nat → α × Nat) (l : List UInt8) : Nat → Nat → List α × Nat
  | 0, a => ([], a)
  | k + 1, a => ((rf l a).1 :: (rfMany rf l k (rf l a).2).1, (rfMany rf l k (rf l a).2).2)
def rfList {α : Type} (rf : List UInt8 → Nat → α × Nat) (l : List UInt8) (a : Nat) : List α × Nat := rfMany rf l (rfN l a 1) (a + 1)
def rfRes (l : List UInt8) (a : Nat) : Resd × Nat :=
  (⟨(rfID l a).1, (rfList rfAttr l (rfID l a).2).1, (rfList rfID l (rfList rfAttr l (rfID l a).2).2).1⟩, (rfList rfID l (rfList rfAttr l (rfID l a).2).2).2)
theorem grown_keeps2 {w w2 : World} {base : Nat} {e : TypeId} {size : Nat} {v : Value} {n : Nat} {xs : List Value} (hown : w.ownsRow base e size v n xs) {k : Nat} {c : Array Value} {t : TypeId} {fz : Nat × Nat} (hk : w.heap[k]? = some (.cells c t fz)) (ht : t ≠ e) {o o' : Obj} (hg : ((w.alloc o).alloc o').grownBy w2 v.ownBlock) : w2.heap[k]? = some (.cells c t fz) := by
  have hlt := (Array.getElem?_eq_some_iff.1 hk).1
  have h1 : ((w.alloc o).alloc o').heap[k]? = some (.cells c t fz) := by
    rw [Below.heap_alloc _ _ _ (by simp; omega), Below.heap_alloc _ _ _ hlt]; exact hk
  rw [hg.block k (by simp; omega) ?_]; exact h1
  intro hv
  rcases hown.2 with ⟨rfl, _⟩ | ⟨g, cap, cur, rfl, hb, hh, _⟩
  · simp [Value.ownBlock] at hv
  · simp [Value.ownBlock] at hv
    subst hv
    rw [hk] at hh; cases hh; exact ht rfl
theorem ownsRow_grown2 {w w2 : World} {base base' : Nat} {e e' : TypeId} {size size' : Nat} {v v' : Value} {n n' : Nat} {xs xs' : List Value} (h : w.ownsRow base e size v n xs) (hown : w.ownsRow base' e' size' v' n' xs') (hne : e ≠ e') {o o' : Obj} (hg : ((w.alloc o).alloc o').grownBy w2 v'.ownBlock) : w2.ownsRow base e size v n xs := by
  obtain ⟨h1, h2⟩ := h
  refine ⟨h1, h2.imp id ?_⟩
  rintro ⟨g, cap, cur, hv, hb, hh, r⟩
  exact ⟨g, cap, cur, hv, hb, grown_keeps2 hown hh hne hg, r⟩
/-- What the reading of a resource at a place answers. -/
def RsAt (w : World) (s : ByteArray) (at_ : Nat) (e : Ending) (w' : World) : Prop :=
  ∃ (x : Resd) (pa2 pa3 : Option Addr) (cap2 cap3 : Nat) (m : Nat), e = .returned (.tuple #[.agg #[.string x.id.kind, .string x.id.name, .slice pa2 x.attrs.length cap2, .slice pa3 x.after.length cap3], .int .i64 m]) ∧ Hid (rfRes s.data.toList at_ = (x, m)) ∧ Hid (okS x) ∧ m ≤ at_ + 1000000 ∧ Hid (OwnR w.heap.size w' (.slice pa2 x.attrs.length cap2) (.slice pa3 x.after.length cap3) x) ∧ Hid (Ext w w')

end Go.Proofs.YtejhegnlmldomaaGreat

namespace Go.Proofs.YtejhegnlmldomaaGreat
open Go.RowKit

end Go.Proofs.YtejhegnlmldomaaGreat

namespace Go.Proofs.YtejhegnlmldomaaGreat
open Go.RowKit

theorem drop_extract (s : ByteArray) (k : Nat) : (s.extract k s.size).data.toList = s.data.toList.drop k := by
  rw [ByteArray.data_extract]; simp
  rw [List.take_of_length_le]
  rw [List.length_drop]
  have : s.data.toList.length = s.size := Array.length_toList
  simp at this ⊢

theorem conv_own {w : World} {B n cap : Nat} {pa : Option Addr} {l : List UInt8} (h : w.ownsRow B 5 1 (.slice pa n cap) l.length (cellsB l)) :
    (convert 149 9 (.slice pa n cap)).run Tryz.prog w = .ok (.string ⟨l.toArray⟩) w := by
  rcases h.2 with ⟨h1, h2⟩ | ⟨g, c, cur, h1, _⟩
  · cases h1
    obtain rfl : l = [] := List.eq_nil_of_length_eq_zero h2
    simp [convert, run_underlying Tryz.underlying149, run_underlying Tryz.underlying9, run_underlying Tryz.underlying5, Conv.bytesToString, Result.andThen]
    rfl
  · cases h1
    exact own_conv rfl h

set_option maxRecDepth 100000 in
set_option maxHeartbeats 3200000 in
theorem readString (s : ByteArray) (a : Nat) (c : UInt8) (w : World) (hs : s.size ≤ 1000000) (ha : a < s.size) (h34 : c = 34) :
    Calls Tryz.prog 63 #[.string s, .int .i64 a] w (TkIs w (tokL s.data.toList a c)) := by
  have hlen : s.data.toList.length = s.size := Array.length_toList
  obtain ⟨i0, hi, hz0, hz1, hz2⟩ := info_of infoByte
  have hT : Hid (tokL s.data.toList a c = match strL s.data.toList (a + 1) with
    | none => .inr 3
    | some (m, e) => if m.length ≤ 20 then .inl (⟨3, a, baOf m, 0⟩, e + 1) else .inr 3) := by
    show _ = _; subst h34; rfl
  replace hi := hide hi; replace hlen := hide hlen; replace h34 := hide h34
  go_enter Tryz.func63, Tryz.ntmps63
  go_wp2_with fail
  go_loopw [1, 7] (fun at_ v wr => ∃ (k : Nat) (acc : List UInt8) (pa : Option Addr) (cap : Nat), k ≤ s.size ∧ acc.length + a + 1 ≤ k ∧ at_ = .int .i64 k ∧ v = .slice pa acc.length cap ∧ Hid (strL s.data.toList (a + 1) = (strL s.data.toList k).map fun r => (acc ++ r.1, r.2)) ∧ Hid (wr.ownsRow (w.alloc (.cells #[.int .i64 0, .int .i64 0, .string ⟨#[]⟩, .int .i64 0] 102)).heap.size 5 1 (.slice pa acc.length cap) acc.length (cellsB acc)) ∧ Hid (Ext (w.alloc (.cells #[.int .i64 0, .int .i64 0, .string ⟨#[]⟩, .int .i64 0] 102)) wr)) (fun at_ _ _ => s.size - (intOf at_).toNat)
  case atStart =>
    refine ⟨a + 1, [], none, 0, by omega, by simp, by go_num, rfl, ?_, World.ownsRow_nil _ _ _ _, Ext.refl _⟩
    show _ = _
    cases strL s.data.toList (a + 1) <;> simp
  case round =>
    obtain ⟨k, acc, pa, cap, hk, hka, rfl, rfl, hst, hown, hx⟩ := hrel
    have hO := ext_heap hx.out (heap_alloc_new w _)
    obtain ⟨o0, o1, o2, o3⟩ := four_cells hO
    have fO := row_frozen hO
    replace hO := hide hO
    have X0 := hide (((Ext.refl w).alloc _).trans hx.out)
    by_cases hlt : k < s.size
    · obtain ⟨d, hd1, hd2⟩ := byteAt hlt
      have b34 : ((d.toNat : Int) == 34) = decide (d = 34) := by
        by_cases h : d = 34
        · subst h; rfl
        · rw [show (34 : Int) = ((34 : UInt8).toNat : Int) from rfl, byte_ne h]; simp [h]
      have hstep := hide (str_step hd1)
      by_cases hq : d = 34
      · rw [decide_eq_true hq] at b34
        have b34' : ((d.toNat : Int) != 34) = false := by simp only [bne, b34]; rfl
        have hne : ¬ (k : Int) = (s.size : Int) := by omega
        have hres : Hid (strL s.data.toList (a + 1) = some (acc, k)) := by show _ = _; rw [hst.out, hstep.out, if_pos hq]; simp
        replace hd1 := hide hd1; replace hq := hide hq
        by_cases h20 : acc.length ≤ 20
        · have h20' : ¬ (20 : Int) < (acc.length : Int) := by omega
          have hT2 : Hid (tokL s.data.toList a c = .inl (⟨3, a, baOf acc, 0⟩, k + 1)) := by show _ = _; rw [hT.out, hres.out]; simp [h20]
          have hcv : (convert 149 9 (.slice pa acc.length cap)).run Tryz.prog wr = .ok (.string ⟨acc.toArray⟩) wr := conv_own hown.out
          clear o0 o1 o2 o3
          obtain ⟨o0, o1, o2, o3⟩ := four_cells hO.out
          go_wp2_with fail
          refine bodyPost_ret (v := .tuple #[.agg #[.int .i64 3, .int .i64 0, .string ⟨acc.toArray⟩, .int .i64 0], .int .i64 ((k + 1 : Nat) : Int), .int .i64 0]) (by simp [results, Tryz.results63, go_sem, o0, o1, o2, o3]) rfl ?_
          exact ⟨X0.out.set4 _ _ _ _, .inl ⟨_, _, hT2, rfl⟩⟩
        · have h20' : (20 : Int) < (acc.length : Int) := by omega
          have hT2 : Hid (tokL s.data.toList a c = .inr 3) := by show _ = _; rw [hT.out, hres.out]; simp [h20]
          go_wp2_with fail
          refine bodyPost_ret (v := .tuple #[.agg #[.int .i64 0, .int .i64 0, .string ⟨#[]⟩, .int .i64 0], .int .i64 0, .int .i64 3]) (by simp [results, Tryz.results63, go_sem, o0, o1, o2, o3]) rfl ?_
          exact ⟨X0.out.set4 _ _ _ _, .inr ⟨3, hT2, by decide, rfl⟩⟩
      · rw [decide_eq_false hq] at b34
        have b34' : ((d.toNat : Int) != 34) = true := by simp only [bne, b34]; rfl
        have hxs : Hid ((s.extract k s.size).data.toList = s.data.toList.drop k) := drop_extract s k
        have hxz : (s.extract k s.size).size = s.size - k := ex_size s (by omega) (Nat.le_refl _)
        have hsign := hide (readSign (s.extract k s.size) wr (by omega) (by omega))
        rw [hxs.out] at hsign
        have hused := sign_used (s.data.toList.drop k)
        rw [List.length_drop, hlen.out] at hused
        generalize hsg : signL (s.data.toList.drop k) = sg at *
        obtain ⟨sb, su⟩ := sg
        dsimp only at *
        have j1 : (k : Int) ≤ (s.size : Int) := by omega
        have j3 : (0 : Int) ≤ (k : Int) := by omega
        replace hd1 := hide hd1; replace hxz := hide hxz; replace hsg := hide hsg
        go_wp2_with fail
        refine hsign.out.mono ?_
        rintro e w' ⟨rfl, rfl⟩
        by_cases hu : su = 0
        · have hres : Hid (strL s.data.toList (a + 1) = none) := by show _ = _; rw [hst.out, hstep.out, if_neg hq]; simp [hu]
          have hT2 : Hid (tokL s.data.toList a c = .inr 3) := by show _ = _; rw [hT.out, hres.out]
          subst hu
          replace hq := hide hq
          go_wp2_with fail
          refine bodyPost_ret (v := .tuple #[.agg #[.int .i64 0, .int .i64 0, .string ⟨#[]⟩, .int .i64 0], .int .i64 0, .int .i64 3]) (by simp [results, Tryz.results63, go_sem, o0, o1, o2, o3]) rfl ?_
          exact ⟨X0.out.set4 _ _ _ _, .inr ⟨3, hT2, by decide, rfl⟩⟩
        · have hu' : ((su : Int) == 0) = false := by simp; omega
          have hres : Hid (strL s.data.toList (a + 1) = (strL s.data.toList (k + su)).map fun r => ((acc ++ [sb]) ++ r.1, r.2)) := by
            show _ = _
            rw [hst.out, hstep.out, if_neg hq, if_neg hu]
            cases strL s.data.toList (k + su) with
            | none => rfl
            | some r => simp
          have hsz := hide (Ext.size hx.out)
          replace hq := hide hq; replace hu := hide hu; replace hstep := hide hstep
          go_wp2_with (at_builtin; go_must (refine wpList_append_lies _ rfl _ _ 149 rfl (w.alloc (.cells #[.int .i64 0, .int .i64 0, .string ⟨#[]⟩, .int .i64 0] 102)).heap.size 5 i0 (.int .u8 0) 1 1 Tryz.underlying149 hi.out hz0 hz1 hz2 rfl (by omega) _ acc.length (cellsB acc) rfl (hown.out.alloc _) ⟨w'.heap.size, 0, none⟩ 1 1 (cellsB [sb]) rfl rfl ?_ (one_cellB _) (by omega) (by unfold maxLen; omega) (by omega) (by have := hsz.out; simp at this ⊢; omega) (w'.heap.size + 1) (by simp) ?_; (intro j u hu; rw [add_eq]; (match j, hu with | 0, hu => (simp [cellsB] at hu; subst hu; simp [go_sem]) | _ + 1, hu => (simp [cellsB] at hu))); intro g1 cap1 w1 hown1 hgrow1 hat1 hlt1))
          replace hgrow1 : (w'.alloc (.cells (cellsB [sb]).toArray 5)).grownBy w1 (Value.slice pa acc.length cap).ownBlock := hgrow1
          have hl : (acc ++ [sb]).length = acc.length + 1 := by simp
          have hx1 : Ext (w.alloc (.cells #[.int .i64 0, .int .i64 0, .string ⟨#[]⟩, .int .i64 0] 102)) w1 := ((Wrote.ext (B := (w.alloc (.cells #[.int .i64 0, .int .i64 0, .string ⟨#[]⟩, .int .i64 0] 102)).heap.size) (T := (· = 5)) hx.out).grownAt hown.out rfl hgrow1).toExt
          go_roundw
          case rel =>
            refine ⟨k + su, acc ++ [sb], some ⟨g1, 0, none⟩, cap1, by omega, by rw [hl]; have := hu.out; omega, by go_num, by rw [hl], hres, ?_, hx1⟩
            show World.ownsRow _ _ _ _ _ _ _
            rw [hl, cellsB_append]; exact hown1
          case measure => have := hu.out; simp [intOf]; omega
    · have heq : k = s.size := by omega
      have hres : Hid (strL s.data.toList (a + 1) = none) := by show _ = _; rw [hst.out, str_end (by rw [hlen.out]; omega)]; rfl
      have hT2 : Hid (tokL s.data.toList a c = .inr 3) := by show _ = _; rw [hT.out, hres.out]
      subst heq
      go_wp2_with fail
      refine bodyPost_ret (v := .tuple #[.agg #[.int .i64 0, .int .i64 0, .string ⟨#[]⟩, .int .i64 0], .int .i64 0, .int .i64 3]) (by simp [results, Tryz.results63, go_sem, o0, o1, o2, o3]) rfl ?_
      exact ⟨X0.out.set4 _ _ _ _, .inr ⟨3, hT2, by decide, rfl⟩⟩
end Go.Proofs.YtejhegnlmldomaaGreat
