/-
  append onto a row of our own: what the old row is behind it.
-/
/-
  IDs, Attrs and resources as bytes: what the program's functions that write them answer.
-/
/-
  IDs and Attrs out of bytes: what the program's functions that read them answer.
-/
/-
  Lists out of bytes: what the program's functions that read them answer.
-/
/-
  Resources out of bytes: what the program's function that reads them answers.
-/
/-
  The book of lists that came out: words and plain facts.
-/
import Derived.Test.YtpkhmgonkbpjjaaJ4
import Derived.Deep.AppendLies
import Derived.Test.YtpkhmgonkbpjjaaJ6
import Derived.Deep.RegionHeld3
import Derived.Test.YtpkhmgonkbpjjaaJ3
namespace Go.Proofs.Ytpkhmgonkbpjjaa
open Go.RowKit

/-- The new slice lies in the old row, or in a new one, and then the old row is as it was. -/
theorem append_tight {P : Program} (w : World) (t ty : TypeId) (base : Nat) (e : TypeId) (i : TypeInfo) (z : Value) (size bytes : Nat) (ht : P.underlying t = some (.slice e)) (hi : P.info? e = some i) (hz : i.zero = some z)
    (hsize : i.size = size) (hby : i.bytes = bytes) (hzs : z.cells.size = size) (hsz : 0 < size)
    (v : Value) (n : Nat) (xs : List Value) (hown : w.ownsRow base e size v n xs)
    (ad : Addr) (m c : Nat) (news : List Value) (hl : news.length = m * size) (hnews : ∀ j u, news[j]? = some u → w.cell? (ad.add j) = some u) (h1 : ∀ u ∈ news, u.oneCell' = true)
    (hm : 0 < m) (h63 : n + m ≤ maxLen) (hbytes : (n + m) * bytes ≤ 140737488355328) (hbase : base ≤ w.heap.size) :
    ∃ g cap w', (Builtin.append_ #[t, t] ty #[v, .slice (some ad) m c]).run P w = .ok (.slice (some ⟨g, 0, none⟩) (n + m) cap) w' ∧
      w'.ownsRow base e size (.slice (some ⟨g, 0, none⟩) (n + m) cap) (n + m) (xs ++ news) ∧ w.grownBy w' v.ownBlock ∧ (v.ownBlock = some g ∨ (w.heap.size ≤ g ∧ ∀ k, k < w.heap.size → w'.heap[k]? = w.heap[k]?)) := by
  obtain ⟨g, cap, w', hr, h2, h3, h4, h5⟩ := run_append_lies (P := P) w t ty base e i z size bytes ht hi hz hsize hby hzs hsz v n xs hown ad m c news hl hnews h1 hm h63 hbytes hbase w.heap.size rfl
  refine ⟨g, cap, w', hr, h2, h3, ?_⟩
  subst hsize
  subst hby
  rcases hown.2 with ⟨rfl, rfl⟩ | ⟨g0, cap0, cur, rfl, hbg, hg, hnc, hcm, hcs, htake⟩
  · rcases h4 with h4 | h4
    · simp [Value.ownBlock] at h4
    · exact .inr ⟨by omega, fun k hk => h3.block k hk (by simp [Value.ownBlock])⟩
  · by_cases hroom : n + m ≤ cap0
    · have hfit : n * i.size + news.length ≤ cur.size := by rw [hl, hcs, ← Nat.add_mul]; exact Nat.mul_le_mul_right _ hroom
      have hr2 := run_append_room (P := P) w t ty e i ht hi g0 n cap0 cur hg ad m c news hl hnews h1 hroom hfit
      rw [hr2] at hr
      left
      injection hr with e1 _
      injection e1 with e2
      simp at e2
      simp [Value.ownBlock, e2]
    · have holds : ∀ j u, xs[j]? = some u → w.cell? ((⟨g0, 0, none⟩ : Addr).add j) = some u := hown.cells (g := g0) rfl
      have hr2 := run_append_grow (P := P) w t ty e i z ht hi hz ⟨g0, 0, none⟩ n cap0 xs hown.1 holds ad m c news hl hnews (by omega) (by unfold maxLen at h63; omega) (growslice_fits (by omega) hbytes)
      rw [hr2] at hr
      right
      injection hr with e1 e3
      injection e1 with e2
      simp at e2
      refine ⟨by omega, fun k hk => ?_⟩
      rw [← e3]
      exact Below.heap_alloc w.drew _ k hk
theorem wpList_append_tight {P : Program} (w : World) {ops : Array Oper} {rest : List Oper} {o : Oper} {a : Act} {Q : Exit → Act → World → Prop} (hgd : o.guard = none) (s x : Operand) (t : TypeId)
    (ho : o.op = .call { callee := .builtin .append, args := #[s, x], argTypes := #[t, t] })
    (base : Nat) (e : TypeId) (i : TypeInfo) (z : Value) (size bytes : Nat) (ht : P.underlying t = some (.slice e)) (hi : P.info? e = some i) (hz : i.zero = some z)
    (hsize : i.size = size) (hby : i.bytes = bytes) (hzs : z.cells.size = size) (hsz : 0 < size)
    (v : Value) (n : Nat) (xs : List Value) (hs : a.eval s = v) (hown : w.ownsRow base e size v n xs)
    (ad : Addr) (m c : Nat) (news : List Value) (hx : a.eval x = .slice (some ad) m c) (hl : news.length = m * size) (hnews : ∀ j u, news[j]? = some u → w.cell? (ad.add j) = some u) (h1 : ∀ u ∈ news, u.oneCell' = true)
    (hm : 0 < m) (h63 : n + m ≤ maxLen) (hbytes : (n + m) * bytes ≤ 140737488355328) (hbase : base ≤ w.heap.size)
    (h : ∀ g cap w', w'.ownsRow base e size (.slice (some ⟨g, 0, none⟩) (n + m) cap) (n + m) (xs ++ news) → w.grownBy w' v.ownBlock → (v.ownBlock = some g ∨ (w.heap.size ≤ g ∧ ∀ k, k < w.heap.size → w'.heap[k]? = w.heap[k]?)) → wpList P ops Q rest (a.put o.dst (.slice (some ⟨g, 0, none⟩) (n + m) cap)) w') :
    wpList P ops Q (o :: rest) a w := by
  refine wpList_plain hgd fun K hK => ?_
  obtain ⟨g, cap, w', hr, h2, h3, h4⟩ := append_tight (P := P) w t o.type base e i z size bytes ht hi hz hsize hby hzs hsz v n xs hown ad m c news hl hnews h1 hm h63 hbytes hbase
  unfold Oper.wp execOp
  simp only [ho, resolve, invoke, builtin, Sem.run_bind, Sem.run_pure, Result.andThen_ok, List.map_toArray, List.map_cons, List.map_nil, hs, hx, hr]
  exact hK _ _ (h g cap w' h2 h3 h4)
end Go.Proofs.Ytpkhmgonkbpjjaa

namespace Go.Proofs.Ytpkhmgonkbpjjaa
open Go.RowKit

end Go.Proofs.Ytpkhmgonkbpjjaa

namespace Go.Proofs.Ytpkhmgonkbpjjaa
open Go.RowKit

theorem row_frozen {w : World} {b : Nat} {cs : Array Value} {t : TypeId} (h : w.heap[b]? = some (.cells cs t (0, 0))) (j : Nat) : w.frozen? ⟨b, j, none⟩ = false := by simp [World.frozen?, h]
theorem row_set {w : World} {b : Nat} {cs : Array Value} {t : TypeId} {fz : Nat × Nat} (h : w.heap[b]? = some (.cells cs t fz)) (j : Nat) (v : Value) : (w.setCell ⟨b, j, none⟩ v).heap[b]? = some (.cells (cs.setIfInBounds j v) t fz) := by
  simp [World.setCell, Array.getElem?_modify, h]
end Go.Proofs.Ytpkhmgonkbpjjaa

namespace Go.Proofs.Ytpkhmgonkbpjjaa
open Go.RowKit

end Go.Proofs.Ytpkhmgonkbpjjaa

namespace Go.Proofs.Ytpkhmgonkbpjjaa
open Go.RowKit

theorem ownsRow_low {w : World} {base base' : Nat} {e : TypeId} {size : Nat} {v : Value} {n : Nat} {xs : List Value} (h : w.ownsRow base e size v n xs) (hb : base' ≤ base) : w.ownsRow base' e size v n xs := by
  obtain ⟨h1, h2⟩ := h
  refine ⟨h1, h2.imp id ?_⟩
  rintro ⟨g, cap, cur, hv, hg, r⟩
  exact ⟨g, cap, cur, hv, Nat.le_trans hb hg, r⟩
theorem ownsRow_set {w : World} {I j : Nat} {c : Array Value} {t : TypeId} {fz : Nat × Nat} {base : Nat} {e : TypeId} {size : Nat} {v : Value} {n : Nat} {xs : List Value} (h : w.ownsRow base e size v n xs) (hI : w.heap[I]? = some (.cells c t fz)) (hne : t ≠ e) (u : Value) : (w.setCell ⟨I, j, none⟩ u).ownsRow base e size v n xs :=
  ownsRow_wrote h ((Wrote.refl 0 (· = t) w).setCell (p := ⟨I, j, none⟩) (Nat.zero_le _) hI rfl u) (fun h => hne h.symm) rfl

end Go.Proofs.Ytpkhmgonkbpjjaa

namespace Go.Proofs.Ytpkhmgonkbpjjaa
open Go.RowKit

/-- An entry: a list, and its mark. -/
def cE (e : Value × Nat) : List Value := [e.1, .int .i64 e.2]
theorem cE_len (e : Value × Nat) : (cE e).length = 2 := rfl
def cellsE (l : List (Value × Nat)) : List Value := l.flatMap cE
theorem cellsE_app (l : List (Value × Nat)) (x : Value × Nat) : cellsE (l ++ [x]) = cellsE l ++ cE x := by simp [cellsE]
theorem cE_one {pa : Option Addr} {n cap k : Nat} : ∀ u ∈ cE (.slice pa n cap, k), u.oneCell' = true := by
  intro u hu
  simp [cE] at hu
  rcases hu with rfl | rfl <;> rfl
/-- The same again and again. -/
def rep (n : Nat) (m : List Value) : List Value := (List.replicate n m).flatten
theorem rep_zero (m : List Value) : rep 0 m = [] := rfl
theorem rep_succ (n : Nat) (m : List Value) : rep (n + 1) m = rep n m ++ m := by
  unfold rep; rw [List.replicate_succ', List.flatten_append]; simp
theorem rep_len (n : Nat) (m : List Value) : (rep n m).length = n * m.length := by unfold rep; simp
theorem rep_take {m : List Value} {sz : Nat} (hm : m.length = sz) : ∀ {n k : Nat}, k ≤ n → (rep n m).take (k * sz) = rep k m
  | 0, k, h => by obtain rfl : k = 0 := by omega
                  simp [rep]
  | n + 1, k, h => by
    rw [rep_succ]
    by_cases hk : k = n + 1
    · subst hk
      rw [List.take_of_length_le (by rw [List.length_append, rep_len, hm, Nat.succ_mul]; omega), ← rep_succ]
    · rw [List.take_append_of_le_length (by rw [rep_len, hm]; exact Nat.mul_le_mul_right _ (by omega)), rep_take hm (by omega)]
theorem rep_get {m : List Value} {sz : Nat} (hm : m.length = sz) {n i r : Nat} (hi : i < n) (hr : r < sz) : (rep n m)[i * sz + r]? = m[r]? := by
  have h1 := rep_take (m := m) hm (n := n) (k := i + 1) (by omega)
  have h2 : (rep (i + 1) m)[i * sz + r]? = m[r]? := by
    rw [rep_succ, List.getElem?_append_right (by rw [rep_len, hm]; omega), rep_len, hm]
    congr 1; omega
  rw [← h2, ← h1, List.getElem?_take_of_lt (by rw [Nat.succ_mul]; omega)]
def elen (e : Value × Nat) : Nat := match e.1 with
  | .slice _ n _ => n
  | _ => 0
/-- A list reads as it was marked. -/
def MarkG (T : TypeId) (sz : Nat) (mk : Nat → List Value) (w : World) (e : Value × Nat) : Prop :=
  e.2 ≤ 10000000000000 ∧ ∃ pa n cap, e.1 = .slice pa n cap ∧ n ≤ cap ∧ cap ≤ 9223372036854775807 ∧ n ≤ 10000000000000 ∧ (n = 0 ∨ ∃ g c, pa = some ⟨g, 0, none⟩ ∧ w.heap[g]? = some (.cells c T (0, 0)) ∧ c.toList.take (n * sz) = rep n (mk e.2))
theorem MarkG.of {T : TypeId} {sz : Nat} {mk : Nat → List Value} {w : World} {B : Nat} {v : Value} {n k : Nat} (h : w.ownsRow B T sz v n (rep n (mk k))) (hn : n ≤ 10000000000000) (hk : k ≤ 10000000000000) : MarkG T sz mk w (v, k) := by
  refine ⟨hk, ?_⟩
  rcases h.2 with ⟨rfl, rfl⟩ | ⟨g, cap, cur, rfl, _, hh, hc, hm, _, ht⟩
  · exact ⟨none, 0, 0, rfl, Nat.le_refl _, by omega, by omega, .inl rfl⟩
  · exact ⟨some ⟨g, 0, none⟩, n, cap, rfl, hc, by unfold maxLen at hm; omega, hn, .inr ⟨g, cur, rfl, hh, ht⟩⟩
theorem MarkG.kept {T : TypeId} {sz : Nat} {mk : Nat → List Value} {w w' : World} {e : Value × Nat} (h : MarkG T sz mk w e) (hk : ∀ g c, e.1.ownBlock = some g → w.heap[g]? = some (.cells c T (0, 0)) → w'.heap[g]? = some (.cells c T (0, 0))) : MarkG T sz mk w' e := by
  obtain ⟨h1, pa, n, cap, h2, h3, h4, h5, h6⟩ := h
  refine ⟨h1, pa, n, cap, h2, h3, h4, h5, h6.imp id ?_⟩
  rintro ⟨g, c, rfl, hg, ht⟩
  exact ⟨g, c, rfl, hk g c (by rw [h2]; rfl) hg, ht⟩
theorem MarkG.ext {T : TypeId} {sz : Nat} {mk : Nat → List Value} {w w' : World} {e : Value × Nat} (h : MarkG T sz mk w e) (x : Ext w w') : MarkG T sz mk w' e := h.kept fun _ _ _ hg => ext_heap x hg
theorem MarkG.app {T : TypeId} {sz : Nat} {mk : Nat → List Value} {w w' : World} {e : Value × Nat} {B n g' cap' : Nat} {v : Value} {o : Obj} (h : MarkG T sz mk w e) (hle : elen e ≤ n) (hsz : (mk e.2).length = sz)
    (hown' : w'.ownsRow B T sz (.slice (some ⟨g', 0, none⟩) (n + 1) cap') (n + 1) (rep n (mk e.2) ++ mk e.2)) (hg : (w.alloc o).grownBy w' v.ownBlock)
    (ht : v.ownBlock = some g' ∨ ((w.alloc o).heap.size ≤ g' ∧ ∀ k, k < (w.alloc o).heap.size → w'.heap[k]? = (w.alloc o).heap[k]?)) : MarkG T sz mk w' e := by
  obtain ⟨h1, pa, m, cap, h2, h3, h4, h5, h6⟩ := h
  refine ⟨h1, pa, m, cap, h2, h3, h4, h5, h6.imp id ?_⟩
  rintro ⟨g, c, rfl, hgc, htk⟩
  have hlt : g < w.heap.size := (Array.getElem?_eq_some_iff.1 hgc).1
  have hlt' : g < (w.alloc o).heap.size := by simp; omega
  have hal : (w.alloc o).heap[g]? = some (.cells c T (0, 0)) := by rw [Below.heap_alloc _ _ _ hlt]; exact hgc
  by_cases hv : v.ownBlock = some g
  · rcases ht with ht | ⟨_, ht⟩
    · obtain rfl : g = g' := Option.some.inj (hv.symm.trans ht)
      rcases hown'.2 with ⟨hh, _⟩ | ⟨g2, cap2, cur, hh, _, hc, _, _, _, hk2⟩
      · cases hh
      · obtain ⟨rfl, rfl⟩ : g = g2 ∧ cap' = cap2 := by simpa using hh
        refine ⟨g, cur, rfl, hc, ?_⟩
        have hm : m ≤ n + 1 := by have := hle; rw [elen, h2] at this; dsimp only at this; omega
        rw [← rep_succ] at hk2
        have : cur.toList.take (m * sz) = (cur.toList.take ((n + 1) * sz)).take (m * sz) := by
          rw [List.take_take, Nat.min_eq_left (Nat.mul_le_mul_right _ hm)]
        rw [this, hk2, rep_take hsz hm]
    · exact ⟨g, c, rfl, (ht g hlt').trans hal, htk⟩
  · exact ⟨g, c, rfl, (hg.block g hlt' (fun h => hv h.symm)).trans hal, htk⟩
/-- The book. -/
structure BkAt (B : Nat) (w : World) (O : Nat) (va vi vn vr vs vc : Value) (ea ei : List (Value × Nat)) : Prop where
  o : w.heap[O]? = some (.cells #[va, vi, vn, vr, vs, vc] 41 (0, 0))
  a : w.ownsRow B 130 2 va ea.length (cellsE ea)
  i : w.ownsRow B 134 2 vi ei.length (cellsE ei)
  low : B ≤ O
theorem six_celB {w : World} {k : Nat} {a b c d e f : Value} {t : TypeId} {fz : Nat × Nat} (hk : w.heap[k]? = some (.cells #[a, b, c, d, e, f] t fz)) :
    w.cell? ⟨k, 0, none⟩ = some a ∧ w.cell? ⟨k, 1, none⟩ = some b ∧ w.cell? ⟨k, 2, none⟩ = some c ∧ w.cell? ⟨k, 3, none⟩ = some d ∧ w.cell? ⟨k, 4, none⟩ = some e ∧ w.cell? ⟨k, 5, none⟩ = some f := by simp [World.cell?, hk]
theorem own_celB {w : World} {B g n cap o r sz : Nat} {T : TypeId} {pre post : List Value} {z : Value} (h : w.ownsRow B T sz (.slice (some ⟨g, 0, none⟩) n cap) n (pre ++ post)) (ho : pre.length = o) (hr : post[r]? = some z) : w.cell? ⟨g, o + r, none⟩ = some z := by
  have hlen := h.1
  have hlt : r < post.length := (List.getElem?_eq_some_iff.1 hr).1
  rw [List.length_append] at hlen
  rw [h.cellAt (o + r) (by omega), List.getElem?_append_right (by omega), ← hr]
  congr 1; omega
theorem ownsRow_keptR {D : Nat → Prop} {w w' : World} {base : Nat} {e : TypeId} {size : Nat} {v : Value} {n : Nat} {xs : List Value} (h : w.ownsRow base e size v n xs) (k : Kept D w w') (hd : ∀ g, v.ownBlock = some g → ¬ D g) : w'.ownsRow base e size v n xs := by
  obtain ⟨h1, h2⟩ := h
  refine ⟨h1, ?_⟩
  rcases h2 with h2 | ⟨g, cap, cur, hv, hg, hh, r⟩
  · exact .inl h2
  · exact .inr ⟨g, cap, cur, hv, hg, k.heap hh (hd g (by rw [hv]; rfl)), r⟩
end Go.Proofs.Ytpkhmgonkbpjjaa
