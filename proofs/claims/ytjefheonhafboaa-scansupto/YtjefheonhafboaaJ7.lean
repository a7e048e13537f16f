/-
  What is written is read again: both readers.
-/
/-
  append onto a row of our own: what the old row is behind it.
-/
import Derived.Test.YtjefheonhafboaaRefDec
import Derived.Test.YtjefheonhafboaaInv0
import Derived.Test.YtjefheonhafboaaCells
import Derived.Deep.AppendLies
namespace Go.Proofs.Ytjefheonhafboaa
open Go.RowKit

theorem emptyB_eq {x : Resd} (h : emptyB x = true) : x = noRes := by
  obtain ⟨⟨k, n⟩, a, f⟩ := x
  simp only [emptyB, Bool.and_eq_true, List.isEmpty_iff] at h
  obtain ⟨⟨⟨h1, h2⟩, h3⟩, h4⟩ := h
  subst h3 h4
  have e1 : k = ⟨#[]⟩ := by apply ByteArray.ext; apply Array.toList_inj.1; exact h1
  have e2 : n = ⟨#[]⟩ := by apply ByteArray.ext; apply Array.toList_inj.1; exact h2
  rw [e1, e2]; rfl
theorem rec_none {r : Recd} (h : recB r = true) (hk : r.kind ≠ 2) : r.op = 0 ∧ r.res = noRes := by
  have hn : noneB r = true := by
    simp only [recB, Bool.and_eq_true] at h
    have h2 := h.2
    split at h2
    · simp only [Bool.and_eq_true] at h2; exact h2.2
    · split at h2
      · exact h2
      · cases h2
  simp only [noneB, Bool.and_eq_true, beq_iff_eq] at hn
  exact ⟨hn.1, emptyB_eq hn.2⟩
theorem rdRec_inv {r : Recd} (h : recB r = true) : rdRec (recL r) = r := by
  obtain ⟨b1, b2, b3, b4, b5, b6⟩ := rec_in h
  have n1 := num1 r.kind
  have n2 := num3 r.epoch
  have n3 := num3 r.number
  have n4 := num1 r.op
  unfold rdRec recL
  rw [List.append_assoc, List.append_assoc, take_big, drop_big, take_big, drop_big, take_big, drop_big]
  by_cases hk : r.kind = 2
  · obtain ⟨hm, o1, o2⟩ := rec_step h hk
    rw [if_pos hk, if_pos (by omega), take_big, drop_big]
    have := rdRes_inv hm []
    rw [List.append_nil] at this
    have k1 : (numN (bigL 1 r.kind) : Int) = r.kind := by omega
    have k2 : (numN (bigL 3 r.epoch) : Int) = r.epoch := by omega
    have k3 : (numN (bigL 3 r.number) : Int) = r.number := by omega
    have k4 : (numN (bigL 1 r.op) : Int) = r.op := by omega
    rw [this, k1, k2, k3, k4]
  · obtain ⟨e1, e2⟩ := rec_none h hk
    have k1 : (numN (bigL 1 r.kind) : Int) = r.kind := by omega
    have k2 : (numN (bigL 3 r.epoch) : Int) = r.epoch := by omega
    have k3 : (numN (bigL 3 r.number) : Int) = r.number := by omega
    rw [if_neg hk, if_neg (by omega), k1, k2, k3, ← e1, ← e2]

/-! The reference's reader: at a place behind which something was written. -/
theorem rfRec_inv {r : Recd} (h : recB r = true) : rfRec (recL r) = r := by
  obtain ⟨b1, b2, b3, b4, b5, b6⟩ := rec_in h
  have n1 := num1 r.kind
  have n2 := num3 r.epoch
  have n3 := num3 r.number
  have n4 := num1 r.op
  have h0 : (recL r).drop 0 = bigL 1 r.kind ++ (bigL 3 r.epoch ++ (bigL 3 r.number ++ (if r.kind = 2 then bigL 1 r.op ++ encR r.res else []))) := by
    rw [List.drop_zero, recL, List.append_assoc, List.append_assoc]
  obtain ⟨k1, h1⟩ := rfN_inv h0 (by omega)
  obtain ⟨k2, h2⟩ := rfN_inv h1 (by omega)
  obtain ⟨k3, h3⟩ := rfN_inv h2 (by omega)
  have e1 : (numN (bigL 1 r.kind) : Int) = r.kind := by omega
  have e2 : (numN (bigL 3 r.epoch) : Int) = r.epoch := by omega
  have e3 : (numN (bigL 3 r.number) : Int) = r.number := by omega
  unfold rfRec
  rw [show (0 + 1 : Nat) = 1 from rfl] at k2 h1 h2 k3
  rw [show (1 + 3 : Nat) = 4 from rfl] at k3 h3 h2
  rw [k1, k2, k3, e1, e2, e3]
  by_cases hk : r.kind = 2
  · obtain ⟨hm, o1, o2⟩ := rec_step h hk
    rw [if_pos hk] at h3
    obtain ⟨k4, h4⟩ := rfN_inv h3 (by omega)
    have e4 : (numN (bigL 1 r.op) : Int) = r.op := by omega
    have h4' : (recL r).drop 8 = encR r.res ++ [] := by rw [List.append_nil]; exact h4
    have k4' : rfN (recL r) 7 1 = numN (bigL 1 r.op) := k4
    rw [if_pos (by omega), k4', e4, rfRes_inv hm h4']
  · obtain ⟨e4, e5⟩ := rec_none h hk
    rw [if_neg (by omega), ← e4, ← e5]
/-- The two readers come to the same. -/
theorem dec_same (l : List UInt8) : decOf (rfRec l) l = decOf (rdRec l) l := by
  unfold decOf
  by_cases h1 : recB (rdRec l) = true ∧ recL (rdRec l) = l
  · have e : rfRec l = rdRec l := by
      have := rfRec_inv h1.1
      rw [h1.2] at this
      exact this
    rw [e]
  · rw [if_neg h1]
    by_cases h2 : recB (rfRec l) = true ∧ recL (rfRec l) = l
    · have e : rdRec l = rfRec l := by
        have := rdRec_inv h2.1
        rw [h2.2] at this
        exact this
      rw [e] at h1
      exact absurd h2 h1
    · rw [if_neg h2]
end Go.Proofs.Ytjefheonhafboaa

namespace Go.Proofs.Ytjefheonhafboaa
open Go.RowKit

/-- The new slice lies in the old row, or in a new one, and then the old row is as it was. -/
theorem append_tight {P : Program} (w : World) (t ty : TypeId) (base : Nat) (e : TypeId) (i : TypeInfo) (z : Value) (size bytes : Nat) (ht : P.underlying t = some (.slice e)) (hi : P.info? e = some i) (hz : i.zero = some z)
    (hsize : i.size = size) (hby : i.bytes = bytes) (hzs : z.cells.size = size) (hsz : 0 < size)
    (v : Value) (n : Nat) (xs : List Value) (hown : w.ownsRow base e size v n xs)
    (ad : Addr) (m c : Nat) (news : List Value) (hl : news.length = m * size) (hnews : ∀ j u, news[j]? = some u → w.cell? (ad.add j) = some u) (h1 : ∀ u ∈ news, u.oneCell' = true)
    (hm : 0 < m) (h63 : n + m ≤ maxLen) (hbytes : (n + m) * bytes ≤ 140737488355328) (hbase : base ≤ w.heap.size) :
    ∃ g cap w', (Builtin.append_ #[t, t] ty #[v, .slice (some ad) m c]).run P w = .ok (.slice (some ⟨g, 0, none⟩) (n + m) cap) w' ∧
      w'.ownsRow base e size (.slice (some ⟨g, 0, none⟩) (n + m) cap) (n + m) (xs ++ news) ∧ w.grownBy w' v.ownBlock ∧ (v.ownBlock = some g ∨ (w.heap.size ≤ g ∧ ∀ k, k < w.heap.size → w'.heap[k]? = w.heap[k]?)) := by
  obtain ⟨g, cap, w', hr, h2, h3, h4, h5⟩ := run_append_lies (P := P) w t ty base e i z size bytes ht hi hz hsize hby hzs hsz v n xs hown ad m c news hl hnews h1 hm h63 hbytes hbase w.heap.size rfl
  refine ⟨g, cap, w', hr, h2, h3, ?_⟩
  subst hsize
  subst hby
  rcases hown.2 with ⟨rfl, rfl⟩ | ⟨g0, cap0, cur, rfl, hbg, hg, hnc, hcm, hcs, htake⟩
  · rcases h4 with h4 | h4
    · simp [Value.ownBlock] at h4
    · exact .inr ⟨by omega, fun k hk => h3.block k hk (by simp [Value.ownBlock])⟩
  · by_cases hroom : n + m ≤ cap0
    · have hfit : n * i.size + news.length ≤ cur.size := by rw [hl, hcs, ← Nat.add_mul]; exact Nat.mul_le_mul_right _ hroom
      have hr2 := run_append_room (P := P) w t ty e i ht hi g0 n cap0 cur hg ad m c news hl hnews h1 hroom hfit
      rw [hr2] at hr
      left
      injection hr with e1 _
      injection e1 with e2
      simp at e2
      simp [Value.ownBlock, e2]
    · have holds : ∀ j u, xs[j]? = some u → w.cell? ((⟨g0, 0, none⟩ : Addr).add j) = some u := hown.cells (g := g0) rfl
      have hr2 := run_append_grow (P := P) w t ty e i z ht hi hz ⟨g0, 0, none⟩ n cap0 xs hown.1 holds ad m c news hl hnews (by omega) (by unfold maxLen at h63; omega) (growslice_fits (by omega) hbytes)
      rw [hr2] at hr
      right
      injection hr with e1 e3
      injection e1 with e2
      simp at e2
      refine ⟨by omega, fun k hk => ?_⟩
      rw [← e3]
      exact Below.heap_alloc w.drew _ k hk
theorem wpList_append_tight {P : Program} (w : World) {ops : Array Oper} {rest : List Oper} {o : Oper} {a : Act} {Q : Exit → Act → World → Prop} (hgd : o.guard = none) (s x : Operand) (t : TypeId)
    (ho : o.op = .call { callee := .builtin .append, args := #[s, x], argTypes := #[t, t] })
    (base : Nat) (e : TypeId) (i : TypeInfo) (z : Value) (size bytes : Nat) (ht : P.underlying t = some (.slice e)) (hi : P.info? e = some i) (hz : i.zero = some z)
    (hsize : i.size = size) (hby : i.bytes = bytes) (hzs : z.cells.size = size) (hsz : 0 < size)
    (v : Value) (n : Nat) (xs : List Value) (hs : a.eval s = v) (hown : w.ownsRow base e size v n xs)
    (ad : Addr) (m c : Nat) (news : List Value) (hx : a.eval x = .slice (some ad) m c) (hl : news.length = m * size) (hnews : ∀ j u, news[j]? = some u → w.cell? (ad.add j) = some u) (h1 : ∀ u ∈ news, u.oneCell' = true)
    (hm : 0 < m) (h63 : n + m ≤ maxLen) (hbytes : (n + m) * bytes ≤ 140737488355328) (hbase : base ≤ w.heap.size)
    (h : ∀ g cap w', w'.ownsRow base e size (.slice (some ⟨g, 0, none⟩) (n + m) cap) (n + m) (xs ++ news) → w.grownBy w' v.ownBlock → (v.ownBlock = some g ∨ (w.heap.size ≤ g ∧ ∀ k, k < w.heap.size → w'.heap[k]? = w.heap[k]?)) → wpList P ops Q rest (a.put o.dst (.slice (some ⟨g, 0, none⟩) (n + m) cap)) w') :
    wpList P ops Q (o :: rest) a w := by
  refine wpList_plain hgd fun K hK => ?_
  obtain ⟨g, cap, w', hr, h2, h3, h4⟩ := append_tight (P := P) w t o.type base e i z size bytes ht hi hz hsize hby hzs hsz v n xs hown ad m c news hl hnews h1 hm h63 hbytes hbase
  unfold Oper.wp execOp
  simp only [ho, resolve, invoke, builtin, Sem.run_bind, Sem.run_pure, Result.andThen_ok, List.map_toArray, List.map_cons, List.map_nil, hs, hx, hr]
  exact hK _ _ (h g cap w' h2 h3 h4)
end Go.Proofs.Ytjefheonhafboaa
