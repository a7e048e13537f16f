/-
  append onto a row of our own: what the old row is behind it.
-/
/-
  A resource as bytes: what the program's function that writes it answers.
-/
import Derived.Test.YtokogjhcgdhapaaCells
import Derived.Deep.AppendLies
import Derived.Test.YtokogjhcgdhapaaEnc2
namespace Go.Proofs.Ytokogjhcgdhapaa
open Go.RowKit

/-- The new slice lies in the old row, or in a new one, and then the old row is as it was. -/
theorem append_tight {P : Program} (w : World) (t ty : TypeId) (base : Nat) (e : TypeId) (i : TypeInfo) (z : Value) (size bytes : Nat) (ht : P.underlying t = some (.slice e)) (hi : P.info? e = some i) (hz : i.zero = some z)
    (hsize : i.size = size) (hby : i.bytes = bytes) (hzs : z.cells.size = size) (hsz : 0 < size)
    (v : Value) (n : Nat) (xs : List Value) (hown : w.ownsRow base e size v n xs)
    (ad : Addr) (m c : Nat) (news : List Value) (hl : news.length = m * size) (hnews : ∀ j u, news[j]? = some u → w.cell? (ad.add j) = some u) (h1 : ∀ u ∈ news, u.oneCell' = true)
    (hm : 0 < m) (h63 : n + m ≤ maxLen) (hbytes : (n + m) * bytes ≤ 140737488355328) (hbase : base ≤ w.heap.size) :
    ∃ g cap w', (Builtin.append_ #[t, t] ty #[v, .slice (some ad) m c]).run P w = .ok (.slice (some ⟨g, 0, none⟩) (n + m) cap) w' ∧
      w'.ownsRow base e size (.slice (some ⟨g, 0, none⟩) (n + m) cap) (n + m) (xs ++ news) ∧ w.grownBy w' v.ownBlock ∧ (v.ownBlock = some g ∨ (w.heap.size ≤ g ∧ ∀ k, k < w.heap.size → w'.heap[k]? = w.heap[k]?)) := by
  obtain ⟨g, cap, w', hr, h2, h3, h4, h5⟩ := run_append_lies (P := P) w t ty base e i z size bytes ht hi hz hsize hby hzs hsz v n xs hown ad m c news hl hnews h1 hm h63 hbytes hbase w.heap.size rfl
  refine ⟨g, cap, w', hr, h2, h3, ?_⟩
  subst hsize
  subst hby
  rcases hown.2 with ⟨rfl, rfl⟩ | ⟨g0, cap0, cur, rfl, hbg, hg, hnc, hcm, hcs, htake⟩
  · rcases h4 with h4 | h4
    · simp [Value.ownBlock] at h4
    · exact .inr ⟨by omega, fun k hk => h3.block k hk (by simp [Value.ownBlock])⟩
  · by_cases hroom : n + m ≤ cap0
    · have hfit : n * i.size + news.length ≤ cur.size := by rw [hl, hcs, ← Nat.add_mul]; exact Nat.mul_le_mul_right _ hroom
      have hr2 := run_append_room (P := P) w t ty e i ht hi g0 n cap0 cur hg ad m c news hl hnews h1 hroom hfit
      rw [hr2] at hr
      left
      injection hr with e1 _
      injection e1 with e2
      simp at e2
      simp [Value.ownBlock, e2]
    · have holds : ∀ j u, xs[j]? = some u → w.cell? ((⟨g0, 0, none⟩ : Addr).add j) = some u := hown.cells (g := g0) rfl
      have hr2 := run_append_grow (P := P) w t ty e i z ht hi hz ⟨g0, 0, none⟩ n cap0 xs hown.1 holds ad m c news hl hnews (by omega) (by unfold maxLen at h63; omega) (growslice_fits (by omega) hbytes)
      rw [hr2] at hr
      right
      injection hr with e1 e3
      injection e1 with e2
      simp at e2
      refine ⟨by omega, fun k hk => ?_⟩
      rw [← e3]
      exact Below.heap_alloc w.drew _ k hk
theorem wpList_append_tight {P : Program} (w : World) {ops : Array Oper} {rest : List Oper} {o : Oper} {a : Act} {Q : Exit → Act → World → Prop} (hgd : o.guard = none) (s x : Operand) (t : TypeId)
    (ho : o.op = .call { callee := .builtin .append, args := #[s, x], argTypes := #[t, t] })
    (base : Nat) (e : TypeId) (i : TypeInfo) (z : Value) (size bytes : Nat) (ht : P.underlying t = some (.slice e)) (hi : P.info? e = some i) (hz : i.zero = some z)
    (hsize : i.size = size) (hby : i.bytes = bytes) (hzs : z.cells.size = size) (hsz : 0 < size)
    (v : Value) (n : Nat) (xs : List Value) (hs : a.eval s = v) (hown : w.ownsRow base e size v n xs)
    (ad : Addr) (m c : Nat) (news : List Value) (hx : a.eval x = .slice (some ad) m c) (hl : news.length = m * size) (hnews : ∀ j u, news[j]? = some u → w.cell? (ad.add j) = some u) (h1 : ∀ u ∈ news, u.oneCell' = true)
    (hm : 0 < m) (h63 : n + m ≤ maxLen) (hbytes : (n + m) * bytes ≤ 140737488355328) (hbase : base ≤ w.heap.size)
    (h : ∀ g cap w', w'.ownsRow base e size (.slice (some ⟨g, 0, none⟩) (n + m) cap) (n + m) (xs ++ news) → w.grownBy w' v.ownBlock → (v.ownBlock = some g ∨ (w.heap.size ≤ g ∧ ∀ k, k < w.heap.size → w'.heap[k]? = w.heap[k]?)) → wpList P ops Q rest (a.put o.dst (.slice (some ⟨g, 0, none⟩) (n + m) cap)) w') :
    wpList P ops Q (o :: rest) a w := by
  refine wpList_plain hgd fun K hK => ?_
  obtain ⟨g, cap, w', hr, h2, h3, h4⟩ := append_tight (P := P) w t o.type base e i z size bytes ht hi hz hsize hby hzs hsz v n xs hown ad m c news hl hnews h1 hm h63 hbytes hbase
  unfold Oper.wp execOp
  simp only [ho, resolve, invoke, builtin, Sem.run_bind, Sem.run_pure, Result.andThen_ok, List.map_toArray, List.map_cons, List.map_nil, hs, hx, hr]
  exact hK _ _ (h g cap w' h2 h3 h4)
end Go.Proofs.Ytokogjhcgdhapaa

namespace Go.Proofs.Ytokogjhcgdhapaa
open Go.RowKit

theorem re_keeps {B : Nat} {w w' : World} (h : Wrote8 B w w') {k : Nat} {c : Array Value} {fz : Nat × Nat} (hk : w.heap[k]? = some (.cells c 29 fz)) : w'.heap[k]? = some (.cells c 29 fz) := h.keeps hk (by decide)
theorem bound4 {acc l : List UInt8} {x : IDd} {N : Nat} (h : acc = l ++ idL x) (hx : shI x) (hl : l.length + 600 ≤ N) : acc.length ≤ N := by
  have := idL_len hx
  rw [h, List.length_append]; omega
theorem listL_len {α : Type} {f : α → List UInt8} {l : List α} {n : Nat} (h : ∀ x ∈ l, (f x).length ≤ n) (hl : l.length ≤ 255) : (listL f l).length ≤ 1 + 255 * n := by
  have h1 := flat_le h
  have h2 : l.length * n ≤ 255 * n := Nat.mul_le_mul_right n hl
  rw [listL, List.length_append, bigL_len]; omega
theorem bound5 {acc l : List UInt8} {xs : List Attrd} {N : Nat} (h : acc = l ++ listL attrL xs) (hx : ∀ x ∈ xs, shA x) (hn : xs.length ≤ 255) (hl : l.length + 153001 ≤ N) : acc.length ≤ N := by
  have := listL_len (f := attrL) (n := 600) (fun x hh => attrL_len (hx x hh)) hn
  rw [h, List.length_append]; omega
theorem bound6 {acc l : List UInt8} {xs : List IDd} {N : Nat} (h : acc = l ++ listL idL xs) (hx : ∀ x ∈ xs, shI x) (hn : xs.length ≤ 255) (hl : l.length + 153001 ≤ N) : acc.length ≤ N := by
  have := listL_len (f := idL) (n := 600) (fun x hh => idL_len (hx x hh)) hn
  rw [h, List.length_append]; omega

set_option maxRecDepth 100000 in
set_option maxHeartbeats 1600000 in
theorem appendResource (B : Nat) (v c2 c3 : Value) (l : List UInt8) (x : Resd) (w0 w : World) (hv : Buf B w v l) (hl : l.length ≤ 300000) (hr : ResV w0 c2 c3 x) (hE : Ext w0 w) (hB : w0.heap.size ≤ B) (hx : shR x) :
    Calls Try.prog 14 #[v, .agg #[.string x.id.kind, .string x.id.name, c2, c3]] w (Wrt B w (l ++ encR x)) := by
  obtain ⟨hI, hA, hF⟩ := hr
  obtain ⟨x1, x2, x3, x4, x5⟩ := hx
  obtain ⟨a2, p2, rfl⟩ := hA.form
  obtain ⟨a3, p3, rfl⟩ := hF.form
  obtain ⟨pa, cap, rfl⟩ := hv.form
  replace hv := hide hv; replace hE := hide hE; replace hI := hide hI; replace hA := hide hA; replace hF := hide hF; replace x2 := hide x2; replace x3 := hide x3; replace x1 := hide x1
  go_enter Try.func14, Try.ntmps14
  go_wp2_with fail
  refine (appendID B _ l x.id _ (hv.out.alloc _) (by omega) x1.out).mono ?_
  rintro e w1 ⟨acc, pa1, cap1, rfl, hacc, hv1, hb1⟩
  have hlen := bound4 (N := 300600) hacc.out x1.out (by omega)
  have hR := re_keeps hb1.out (heap_alloc_new w _)
  have q2 := at_c2 hR
  have q3 := at_c3 hR
  replace hR := hide hR
  have X1 := hide (hE.out.wrote (((Wrote.refl B _ _).alloc _).trans hb1.out) hB)
  go_wp2_with fail
  refine (appendAttrs B _ _ acc x.attrs w0 _ hv1.out (by omega) hA.out X1.out hB x2.out x4).mono ?_
  rintro e w2 ⟨acc2, pa2, cap2, rfl, hacc2, hv2, hb2⟩
  have hlen2 := bound5 (N := 500000) hacc2.out x2.out x4 (by omega)
  have hR2 := re_keeps hb2.out hR.out
  clear q2 q3
  have q3 := at_c3 hR2
  replace hR2 := hide hR2
  go_wp2_with fail
  refine (appendIDs B _ _ acc2 x.after w0 _ hv2.out (by omega) hF.out (X1.out.wrote hb2.out hB) hB x3.out x5).mono ?_
  rintro e w3 ⟨acc3, pa3, cap3, rfl, hacc3, hv3, hb3⟩
  go_wp2_with fail
  go_ret
  refine Wrt.mk ?_ (((Wrote.refl _ _ _).alloc _).trans (hb1.out.trans (hb2.out.trans hb3.out)))
  have e : acc3 = l ++ encR x := by rw [hacc3.out, hacc2.out, hacc.out]; simp [encR]
  rw [← e]; exact hv3.out
end Go.Proofs.Ytokogjhcgdhapaa
