/-
  Bytes as cells: rows of bytes of our own, as strings.
-/
/-
  What a call may have turned: rows of some element types, from a block on.
-/
import Derived.Test.YtodhhjlemmmjcaaGreatJ3
import Derived.Deep.AppendLies
namespace Go.Proofs.YtodhhjlemmmjcaaGreat
open Go.RowKit

theorem info_of {P : Program} {t : TypeId} {z : Value} {s b : Nat} (h : (P.info? t).map (fun i => (i.zero, i.size, i.bytes)) = some (some z, s, b)) :
    ∃ i, P.info? t = some i ∧ i.zero = some z ∧ i.size = s ∧ i.bytes = b := by
  cases hi : P.info? t with
  | none => rw [hi] at h; cases h
  | some i => rw [hi] at h; simp at h; exact ⟨i, rfl, h.1, h.2.1, h.2.2⟩
theorem infoByte : (Tryz.prog.info? 5).map (fun i => (i.zero, i.size, i.bytes)) = some (some (.int .u8 0), 1, 1) := by kernel_rfl

theorem byte_ne {c d : UInt8} (h : ¬ c = d) : ((c.toNat : Int) == (d.toNat : Int)) = false := by
  rw [beq_eq_false_iff_ne]; intro h'; exact h (UInt8.toNat_inj.1 (by omega))
def cellsB (l : List UInt8) : List Value := l.map fun c => .int .u8 (c.toNat : Int)
theorem cellsB_append (a b : List UInt8) : cellsB (a ++ b) = cellsB a ++ cellsB b := by simp [cellsB]
theorem cellsB_length (a : List UInt8) : (cellsB a).length = a.length := by simp [cellsB]
theorem one_cellB (a : List UInt8) : ∀ u ∈ cellsB a, u.oneCell' = true := by
  intro u hu
  obtain ⟨c, _, rfl⟩ := List.mem_map.1 hu
  rfl
/-- string(bs) of a row of our own. -/
theorem own_conv {w : World} {B g n cap : Nat} {l : List UInt8} (hn : l.length = n) (h : w.ownsRow B 5 1 (.slice (some ⟨g, 0, none⟩) n cap) n (cellsB l)) :
    (convert 127 9 (.slice (some ⟨g, 0, none⟩) n cap)).run Tryz.prog w = .ok (.string ⟨l.toArray⟩) w := by
  refine conv_bytes w g 0 n cap l hn fun j hj => ?_
  have := h.cells (g := g) rfl j (.int .u8 ((l[j]?.getD 0).toNat : Int)) (by simp [cellsB, hj])
  rw [add_eq] at this
  exact this
theorem own_conv2 {w : World} {B g m cap : Nat} {acc news : List UInt8} (hm : news.length = m) (h : w.ownsRow B 5 1 (.slice (some ⟨g, 0, none⟩) (acc.length + m) cap) (acc.length + m) (cellsB acc ++ cellsB news)) :
    (convert 127 9 (.slice (some ⟨g, 0, none⟩) (acc.length + m) cap)).run Tryz.prog w = .ok (.string ⟨(acc ++ news).toArray⟩) w :=
  own_conv (by rw [List.length_append, hm]) (by rw [cellsB_append]; exact h)
end Go.Proofs.YtodhhjlemmmjcaaGreat

namespace Go.Proofs.YtodhhjlemmmjcaaGreat
open Go.RowKit

/-- All is as it was, but for rows of some element types from block B on, and new blocks. -/
structure Wrote (B : Nat) (T : TypeId → Prop) (w w' : World) : Prop where
  os : w'.os = w.os
  tape : w'.tape = w.tape
  output : w'.output = w.output
  size : w.heap.size ≤ w'.heap.size
  heap : ∀ k, k < w.heap.size → (k < B ∨ ∀ c t fz, w.heap[k]? = some (.cells c t fz) → ¬ T t) → w'.heap[k]? = w.heap[k]?
theorem Wrote.refl (B : Nat) (T : TypeId → Prop) (w : World) : Wrote B T w w := ⟨rfl, rfl, rfl, Nat.le_refl _, fun _ _ _ => rfl⟩
theorem Wrote.trans {B : Nat} {T : TypeId → Prop} {a b c : World} (h : Wrote B T a b) (k : Wrote B T b c) : Wrote B T a c := by
  refine ⟨k.os.trans h.os, k.tape.trans h.tape, k.output.trans h.output, Nat.le_trans h.size k.size, fun j hj hd => ?_⟩
  have e := h.heap j hj hd
  rw [← e]
  exact k.heap j (Nat.lt_of_lt_of_le hj h.size) (hd.imp id fun hh c t fz hc => hh c t fz (by rw [← e]; exact hc))
theorem Wrote.mono {B B' : Nat} {T T' : TypeId → Prop} {w w' : World} (h : Wrote B T w w') (hB : B' ≤ B) (hT : ∀ t, T t → T' t) : Wrote B' T' w w' :=
  ⟨h.os, h.tape, h.output, h.size, fun k hk hd => h.heap k hk (hd.imp (fun h => Nat.lt_of_lt_of_le h hB) fun hh c t fz hc ht => hh c t fz hc (hT t ht))⟩
theorem Wrote.ext {B : Nat} {T : TypeId → Prop} {w w' : World} (h : Ext w w') : Wrote B T w w' := by
  obtain ⟨h1, h2, h3, h4, h5⟩ := h
  exact ⟨h1, h2, h3, h4, fun k hk _ => h5 k hk⟩
theorem Wrote.below {B : Nat} {T : TypeId → Prop} {w w' : World} (h : Wrote B T w w') (hB : B ≤ w.heap.size) : Below B w w' :=
  ⟨h.os, h.tape, h.output, by first | exact h.size | (have := h.size; omega), fun k hk => h.heap k (Nat.lt_of_lt_of_le hk hB) (.inl hk)⟩
theorem Wrote.toExt {T : TypeId → Prop} {w w' : World} (h : Wrote w.heap.size T w w') : Ext w w' := h.below (Nat.le_refl _)
theorem Wrote.alloc {B : Nat} {T : TypeId → Prop} {a w : World} (h : Wrote B T a w) (o : Obj) : Wrote B T a (w.alloc o) := h.trans (Wrote.ext ((Ext.refl w).alloc o))
theorem Wrote.drew {B : Nat} {T : TypeId → Prop} {a w : World} (h : Wrote B T a w) : Wrote B T a w.drew := h.trans (Wrote.ext (Ext.refl w).drew)
theorem Wrote.then {B : Nat} {T : TypeId → Prop} {a b c : World} (h : Wrote B T a b) (k : Ext b c) : Wrote B T a c := h.trans (Wrote.ext k)
theorem Wrote.keeps {B : Nat} {T : TypeId → Prop} {w w' : World} (h : Wrote B T w w') {k : Nat} {c : Array Value} {t : TypeId} {fz : Nat × Nat} (hk : w.heap[k]? = some (.cells c t fz)) (ht : ¬ T t) : w'.heap[k]? = some (.cells c t fz) := by
  rw [h.heap k (Array.getElem?_eq_some_iff.1 hk).1 (.inr fun c' t' fz' hc => by rw [hk] at hc; cases hc; exact ht)]
  exact hk
theorem Wrote.cell {B : Nat} {T : TypeId → Prop} {w w' : World} (h : Wrote B T w w') {p : Addr} {v : Value} (hv : w.cell? p = some v) (hp : p.block < B) : w'.cell? p = some v := by
  have hb := World.block_lt_of_cell? w p hv
  rw [World.cell?_of_block (h.heap p.block hb (.inl hp))]; exact hv
theorem Wrote.grown {B : Nat} {T : TypeId → Prop} {w w1 w2 : World} {e : TypeId} {size : Nat} {v : Value} {n : Nat} {xs : List Value} (h : Wrote B T w w1) (hown : w1.ownsRow B e size v n xs) (ht : T e) (hg : w1.grownBy w2 v.ownBlock) : Wrote B T w w2 := by
  refine h.trans ⟨hg.os, hg.tape, hg.output, hg.size, fun k hk hd => hg.block k hk ?_⟩
  rintro hv
  rcases hown.2 with ⟨rfl, _⟩ | ⟨g, cap, cur, rfl, hb, hh, _⟩
  · simp [Value.ownBlock] at hv
  · simp [Value.ownBlock] at hv
    subst hv
    rcases hd with hd | hd
    · omega
    · exact hd _ _ _ hh ht
theorem Wrote.grownAt {B : Nat} {T : TypeId → Prop} {w w1 w2 : World} {e : TypeId} {size : Nat} {v : Value} {n : Nat} {xs : List Value} (h : Wrote B T w w1) (hown : w1.ownsRow B e size v n xs) (ht : T e) {o : Obj} (hg : (w1.alloc o).grownBy w2 v.ownBlock) : Wrote B T w w2 :=
  (h.alloc o).grown (hown.alloc o) ht hg
theorem Wrote.setCell {B : Nat} {T : TypeId → Prop} {w w1 : World} (h : Wrote B T w w1) {p : Addr} {c : Array Value} {t : TypeId} {fz : Nat × Nat} (hb : B ≤ p.block) (hp : w1.heap[p.block]? = some (.cells c t fz)) (ht : T t) (u : Value) : Wrote B T w (w1.setCell p u) := by
  refine h.trans ⟨rfl, rfl, rfl, by simp [World.setCell], fun k hk hd => ?_⟩
  have hne : k ≠ p.block := by
    rintro rfl
    rcases hd with hd | hd
    · omega
    · exact hd _ _ _ hp ht
  simp only [World.setCell, Array.getElem?_modify]
  rw [if_neg (fun h => hne h.symm)]
theorem ownsRow_wrote {B B' : Nat} {T : TypeId → Prop} {w w' : World} {base : Nat} {e : TypeId} {size : Nat} {v : Value} {n : Nat} {xs : List Value} (h : w.ownsRow base e size v n xs) (k : Wrote B T w w') (ht : ¬ T e) (hbb : base = B') : w'.ownsRow B' e size v n xs := by
  subst hbb
  obtain ⟨h1, h2⟩ := h
  refine ⟨h1, ?_⟩
  rcases h2 with h2 | ⟨g, cap, cur, hv, hg, hh, r⟩
  · exact .inl h2
  · exact .inr ⟨g, cap, cur, hv, hg, k.keeps hh ht, r⟩
theorem Ext.wrote {w0 w w' : World} {B : Nat} {T : TypeId → Prop} (h : Ext w0 w) (k : Wrote B T w w') (hB : w0.heap.size ≤ B) : Ext w0 w' :=
  Below.trans h ⟨k.os, k.tape, k.output, by first | exact k.size | (have := k.size; have := h.size; omega), fun j hj => k.heap j (Nat.lt_of_lt_of_le hj h.size) (.inl (Nat.lt_of_lt_of_le hj hB))⟩
end Go.Proofs.YtodhhjlemmmjcaaGreat
