/-
  Bytes as cells: rows of bytes of our own, as strings.
-/
/-
  What a call may have turned: rows of some element types, from a block on.
-/
/-
  Rows of our own of whose frozen stretch nothing lies within them: those that a conversion has made too.
-/
/-
  Numbers and texts as bytes, behind a row of our own: what the functions that write them answer.
-/
/-
  The reader of bytes: what its methods answer.
-/
/-
  Tokens: what the program's functions that cut a text answer.
-/
/-
  Tokens: signs, digits, what does not count.
-/
/-
  Tokens: digits and the signs of strings.
-/
import Derived.Test.YtfoelahabalbpaaGreatDoorJ1
import Derived.Deep.AppendLies
import Derived.Test.YtfoelahabalbpaaGreatDoorJ3
import Derived.ArgAppend
import Derived.Lib.AppendStr
import Derived.Deep.DeepMust
import Derived.Laws.BitsAllLaws
namespace Go.Proofs.YtfoelahabalbpaaGreatDoor
open Go.RowKit

theorem info_of {P : Program} {t : TypeId} {z : Value} {s b : Nat} (h : (P.info? t).map (fun i => (i.zero, i.size, i.bytes)) = some (some z, s, b)) :
    ∃ i, P.info? t = some i ∧ i.zero = some z ∧ i.size = s ∧ i.bytes = b := by
  cases hi : P.info? t with
  | none => rw [hi] at h; cases h
  | some i => rw [hi] at h; simp at h; exact ⟨i, rfl, h.1, h.2.1, h.2.2⟩
theorem infoByte : (Tryz.prog.info? 5).map (fun i => (i.zero, i.size, i.bytes)) = some (some (.int .u8 0), 1, 1) := by kernel_rfl

theorem byte_ne {c d : UInt8} (h : ¬ c = d) : ((c.toNat : Int) == (d.toNat : Int)) = false := by
  rw [beq_eq_false_iff_ne]; intro h'; exact h (UInt8.toNat_inj.1 (by omega))
def cellsB (l : List UInt8) : List Value := l.map fun c => .int .u8 (c.toNat : Int)
theorem cellsB_append (a b : List UInt8) : cellsB (a ++ b) = cellsB a ++ cellsB b := by simp [cellsB]
theorem one_cellB (a : List UInt8) : ∀ u ∈ cellsB a, u.oneCell' = true := by
  intro u hu
  obtain ⟨c, _, rfl⟩ := List.mem_map.1 hu
  rfl
/-- string(bs) of a row of our own. -/
theorem own_conv {w : World} {B g n cap : Nat} {l : List UInt8} (hn : l.length = n) (h : w.ownsRow B 5 1 (.slice (some ⟨g, 0, none⟩) n cap) n (cellsB l)) :
    (convert 50 9 (.slice (some ⟨g, 0, none⟩) n cap)).run Tryz.prog w = .ok (.string ⟨l.toArray⟩) w := by
  refine conv_bytes w g 0 n cap l hn fun j hj => ?_
  have := h.cells (g := g) rfl j (.int .u8 ((l[j]?.getD 0).toNat : Int)) (by simp [cellsB, hj])
  rw [add_eq] at this
  exact this
theorem own_conv2 {w : World} {B g m cap : Nat} {acc news : List UInt8} (hm : news.length = m) (h : w.ownsRow B 5 1 (.slice (some ⟨g, 0, none⟩) (acc.length + m) cap) (acc.length + m) (cellsB acc ++ cellsB news)) :
    (convert 50 9 (.slice (some ⟨g, 0, none⟩) (acc.length + m) cap)).run Tryz.prog w = .ok (.string ⟨(acc ++ news).toArray⟩) w :=
  own_conv (by rw [List.length_append, hm]) (by rw [cellsB_append]; exact h)
end Go.Proofs.YtfoelahabalbpaaGreatDoor

namespace Go.Proofs.YtfoelahabalbpaaGreatDoor
open Go.RowKit

/-- All is as it was, but for rows of some element types from block B on, and new blocks. -/
structure Wrote (B : Nat) (T : TypeId → Prop) (w w' : World) : Prop where
  os : w'.os = w.os
  tape : w'.tape = w.tape
  output : w'.output = w.output
  size : w.heap.size ≤ w'.heap.size
  heap : ∀ k, k < w.heap.size → (k < B ∨ ∀ c t fz, w.heap[k]? = some (.cells c t fz) → ¬ T t) → w'.heap[k]? = w.heap[k]?
theorem Wrote.refl (B : Nat) (T : TypeId → Prop) (w : World) : Wrote B T w w := ⟨rfl, rfl, rfl, Nat.le_refl _, fun _ _ _ => rfl⟩
theorem Wrote.trans {B : Nat} {T : TypeId → Prop} {a b c : World} (h : Wrote B T a b) (k : Wrote B T b c) : Wrote B T a c := by
  refine ⟨k.os.trans h.os, k.tape.trans h.tape, k.output.trans h.output, Nat.le_trans h.size k.size, fun j hj hd => ?_⟩
  have e := h.heap j hj hd
  rw [← e]
  exact k.heap j (Nat.lt_of_lt_of_le hj h.size) (hd.imp id fun hh c t fz hc => hh c t fz (by rw [← e]; exact hc))
theorem Wrote.mono {B B' : Nat} {T T' : TypeId → Prop} {w w' : World} (h : Wrote B T w w') (hB : B' ≤ B) (hT : ∀ t, T t → T' t) : Wrote B' T' w w' :=
  ⟨h.os, h.tape, h.output, h.size, fun k hk hd => h.heap k hk (hd.imp (fun h => Nat.lt_of_lt_of_le h hB) fun hh c t fz hc ht => hh c t fz hc (hT t ht))⟩
theorem Wrote.ext {B : Nat} {T : TypeId → Prop} {w w' : World} (h : Ext w w') : Wrote B T w w' := by
  obtain ⟨h1, h2, h3, h4, h5⟩ := h
  exact ⟨h1, h2, h3, h4, fun k hk _ => h5 k hk⟩
theorem Wrote.below {B : Nat} {T : TypeId → Prop} {w w' : World} (h : Wrote B T w w') (hB : B ≤ w.heap.size) : Below B w w' :=
  ⟨h.os, h.tape, h.output, by first | exact h.size | (have := h.size; omega), fun k hk => h.heap k (Nat.lt_of_lt_of_le hk hB) (.inl hk)⟩
theorem Wrote.toExt {T : TypeId → Prop} {w w' : World} (h : Wrote w.heap.size T w w') : Ext w w' := h.below (Nat.le_refl _)
theorem Wrote.alloc {B : Nat} {T : TypeId → Prop} {a w : World} (h : Wrote B T a w) (o : Obj) : Wrote B T a (w.alloc o) := h.trans (Wrote.ext ((Ext.refl w).alloc o))
theorem Wrote.drew {B : Nat} {T : TypeId → Prop} {a w : World} (h : Wrote B T a w) : Wrote B T a w.drew := h.trans (Wrote.ext (Ext.refl w).drew)
theorem Wrote.then {B : Nat} {T : TypeId → Prop} {a b c : World} (h : Wrote B T a b) (k : Ext b c) : Wrote B T a c := h.trans (Wrote.ext k)
theorem Wrote.keeps {B : Nat} {T : TypeId → Prop} {w w' : World} (h : Wrote B T w w') {k : Nat} {c : Array Value} {t : TypeId} {fz : Nat × Nat} (hk : w.heap[k]? = some (.cells c t fz)) (ht : ¬ T t) : w'.heap[k]? = some (.cells c t fz) := by
  rw [h.heap k (Array.getElem?_eq_some_iff.1 hk).1 (.inr fun c' t' fz' hc => by rw [hk] at hc; cases hc; exact ht)]
  exact hk
theorem Wrote.cell {B : Nat} {T : TypeId → Prop} {w w' : World} (h : Wrote B T w w') {p : Addr} {v : Value} (hv : w.cell? p = some v) (hp : p.block < B) : w'.cell? p = some v := by
  have hb := World.block_lt_of_cell? w p hv
  rw [World.cell?_of_block (h.heap p.block hb (.inl hp))]; exact hv
theorem Wrote.grown {B : Nat} {T : TypeId → Prop} {w w1 w2 : World} {e : TypeId} {size : Nat} {v : Value} {n : Nat} {xs : List Value} (h : Wrote B T w w1) (hown : w1.ownsRow B e size v n xs) (ht : T e) (hg : w1.grownBy w2 v.ownBlock) : Wrote B T w w2 := by
  refine h.trans ⟨hg.os, hg.tape, hg.output, hg.size, fun k hk hd => hg.block k hk ?_⟩
  rintro hv
  rcases hown.2 with ⟨rfl, _⟩ | ⟨g, cap, cur, rfl, hb, hh, _⟩
  · simp [Value.ownBlock] at hv
  · simp [Value.ownBlock] at hv
    subst hv
    rcases hd with hd | hd
    · omega
    · exact hd _ _ _ hh ht
theorem Wrote.grownAt {B : Nat} {T : TypeId → Prop} {w w1 w2 : World} {e : TypeId} {size : Nat} {v : Value} {n : Nat} {xs : List Value} (h : Wrote B T w w1) (hown : w1.ownsRow B e size v n xs) (ht : T e) {o : Obj} (hg : (w1.alloc o).grownBy w2 v.ownBlock) : Wrote B T w w2 :=
  (h.alloc o).grown (hown.alloc o) ht hg
theorem Wrote.setCell {B : Nat} {T : TypeId → Prop} {w w1 : World} (h : Wrote B T w w1) {p : Addr} {c : Array Value} {t : TypeId} {fz : Nat × Nat} (hb : B ≤ p.block) (hp : w1.heap[p.block]? = some (.cells c t fz)) (ht : T t) (u : Value) : Wrote B T w (w1.setCell p u) := by
  refine h.trans ⟨rfl, rfl, rfl, by simp [World.setCell], fun k hk hd => ?_⟩
  have hne : k ≠ p.block := by
    rintro rfl
    rcases hd with hd | hd
    · omega
    · exact hd _ _ _ hp ht
  simp only [World.setCell, Array.getElem?_modify]
  rw [if_neg (fun h => hne h.symm)]
theorem ownsRow_wrote {B B' : Nat} {T : TypeId → Prop} {w w' : World} {base : Nat} {e : TypeId} {size : Nat} {v : Value} {n : Nat} {xs : List Value} (h : w.ownsRow base e size v n xs) (k : Wrote B T w w') (ht : ¬ T e) (hbb : base = B') : w'.ownsRow B' e size v n xs := by
  subst hbb
  obtain ⟨h1, h2⟩ := h
  refine ⟨h1, ?_⟩
  rcases h2 with h2 | ⟨g, cap, cur, hv, hg, hh, r⟩
  · exact .inl h2
  · exact .inr ⟨g, cap, cur, hv, hg, k.keeps hh ht, r⟩
theorem Ext.wrote {w0 w w' : World} {B : Nat} {T : TypeId → Prop} (h : Ext w0 w) (k : Wrote B T w w') (hB : w0.heap.size ≤ B) : Ext w0 w' :=
  Below.trans h ⟨k.os, k.tape, k.output, by first | exact k.size | (have := k.size; have := h.size; omega), fun j hj => k.heap j (Nat.lt_of_lt_of_le hj h.size) (.inl (Nat.lt_of_lt_of_le hj hB))⟩
end Go.Proofs.YtfoelahabalbpaaGreatDoor

namespace Go.Proofs.YtfoelahabalbpaaGreatDoor
open Go.RowKit

/-- A row of our own; what is frozen of it lies behind its end. -/
def OwnX (w : World) (base : Nat) (e : TypeId) (size : Nat) (v : Value) (n : Nat) (xs : List Value) : Prop :=
  xs.length = n * size ∧ ((v = .slice none 0 0 ∧ n = 0) ∨ ∃ (g cap : Nat) (cur : Array Value) (fz : Nat × Nat), v = .slice (some ⟨g, 0, none⟩) n cap ∧ base ≤ g ∧ w.heap[g]? = some (.cells cur e fz) ∧ (fz.2 = 0 ∨ cur.size ≤ fz.1) ∧ n ≤ cap ∧ cap ≤ maxLen ∧ cur.size = cap * size ∧ cur.toList.take (n * size) = xs)
theorem ownX_of {w : World} {base : Nat} {e : TypeId} {size : Nat} {v : Value} {n : Nat} {xs : List Value} (h : w.ownsRow base e size v n xs) : OwnX w base e size v n xs := by
  refine ⟨h.1, ?_⟩
  rcases h.2 with h | ⟨g, cap, cur, h1, h2, h3, h4⟩
  · exact .inl h
  · exact .inr ⟨g, cap, cur, (0, 0), h1, h2, h3, .inl rfl, h4⟩
theorem OwnX.form {w : World} {base : Nat} {e : TypeId} {size : Nat} {v : Value} {n : Nat} {xs : List Value} (h : OwnX w base e size v n xs) : ∃ pa cap, v = .slice pa n cap := by
  rcases h.2 with ⟨rfl, rfl⟩ | ⟨g, cap, cur, fz, rfl, _⟩
  · exact ⟨none, 0, rfl⟩
  · exact ⟨_, cap, rfl⟩
theorem OwnX.wrote {w w' : World} {B : Nat} {T : TypeId → Prop} {base : Nat} {e : TypeId} {size : Nat} {v : Value} {n : Nat} {xs : List Value} (h : OwnX w base e size v n xs) (k : Wrote B T w w') (ht : ¬ T e) : OwnX w' base e size v n xs := by
  refine ⟨h.1, ?_⟩
  rcases h.2 with h | ⟨g, cap, cur, fz, h1, h2, h3, h4⟩
  · exact .inl h
  · exact .inr ⟨g, cap, cur, fz, h1, h2, k.keeps h3 ht, h4⟩
theorem OwnX.ext {w w' : World} {base : Nat} {e : TypeId} {size : Nat} {v : Value} {n : Nat} {xs : List Value} (h : OwnX w base e size v n xs) (k : Ext w w') : OwnX w' base e size v n xs :=
  h.wrote (Wrote.ext (B := 0) (T := fun _ => False) k) id
theorem OwnX.cells {w : World} {base : Nat} {e : TypeId} {size : Nat} {v : Value} {n : Nat} {xs : List Value} (h : OwnX w base e size v n xs) {g : Nat} (hg : v.ownBlock = some g) : ∀ j u, xs[j]? = some u → w.cell? ((⟨g, 0, none⟩ : Addr).add j) = some u := by
  intro j u hu
  rcases h.2 with ⟨rfl, _⟩ | ⟨g', cap, cur, fz, rfl, _, hgg, _, _, _, _, htake⟩
  · simp [Value.ownBlock] at hg
  · simp [Value.ownBlock] at hg
    subst hg
    rw [add_eq, Nat.zero_add]
    rw [← htake, List.getElem?_take] at hu
    split at hu
    · simp only [World.cell?, hgg]; simpa using hu
    · cases hu
theorem setCells_row (g : Nat) (t : TypeId) (fz : Nat × Nat) : ∀ (vs : List Value) (o : Nat) (cur : Array Value) (w : World), w.heap[g]? = some (.cells cur t fz) → o + vs.length ≤ cur.size → (w.setCells g o vs).heap[g]? = some (.cells (cur.toList.take o ++ vs ++ cur.toList.drop (o + vs.length)).toArray t fz)
  | [], o, cur, w, h, _ => by simpa [World.setCells] using h
  | v :: vs, o, cur, w, h, hl => by
    have h2 : (w.setCell ⟨g, o, none⟩ v).heap[g]? = some (.cells (cur.setIfInBounds o v) t fz) := by simp [World.setCell, Array.getElem?_modify, h]
    have ih := setCells_row g t fz vs (o + 1) (cur.setIfInBounds o v) _ h2 (by simp at hl ⊢; omega)
    show ((w.setCell ⟨g, o, none⟩ v).setCells g (o + 1) vs).heap[g]? = _
    rw [ih]
    simp only [Array.toList_setIfInBounds]
    have hlt : o < cur.toList.length := by simp at hl ⊢; omega
    congr 3
    have e1 : (List.take o cur.toList ++ [cur.toList[o]]).set o v = List.take o cur.toList ++ [v] := by
      have h3 : (List.take o cur.toList).length = o := by rw [List.length_take]; omega
      rw [List.set_append]
      simp [h3]
    rw [List.take_set, List.drop_set_of_lt (by omega), List.take_succ_eq_append_getElem hlt, e1]
    simp
    congr 1; omega
theorem setCells_kept (g : Nat) : ∀ (vs : List Value) (o : Nat) (w : World), Kept (· = g) w (w.setCells g o vs)
  | [], _, w => Kept.refl _ w
  | v :: vs, o, w => (kept_setCell w ⟨g, o, none⟩ v).trans (setCells_kept g vs (o + 1) _) fun _ _ h => h
theorem OwnX.room {w : World} {base : Nat} {e : TypeId} {size n m g cap : Nat} {xs news : List Value} {cur : Array Value} {fz : Nat × Nat} (hx : xs.length = n * size) (hb : base ≤ g) (hg : w.heap[g]? = some (.cells cur e fz)) (hf : fz.2 = 0 ∨ cur.size ≤ fz.1) (hcm : cap ≤ maxLen) (hcs : cur.size = cap * size) (ht : cur.toList.take (n * size) = xs) (hl : news.length = m * size) (hroom : n + m ≤ cap) :
    OwnX (w.setCells g (n * size) news) base e size (.slice (some ⟨g, 0, none⟩) (n + m) cap) (n + m) (xs ++ news) := by
  have hfit : n * size + news.length ≤ cur.size := by rw [hl, hcs, ← Nat.add_mul]; exact Nat.mul_le_mul_right _ hroom
  have hlen : (xs ++ news).length = (n + m) * size := by rw [List.length_append, hx, hl, Nat.add_mul]
  refine ⟨hlen, .inr ⟨g, cap, _, fz, rfl, hb, setCells_row g e fz news _ cur w hg hfit, ?_, hroom, hcm, ?_, ?_⟩⟩
  · refine hf.imp id fun h => ?_
    simp; omega
  · simp; omega
  · simp only [List.append_assoc]
    rw [ht, ← List.append_assoc, ← hlen]; exact List.take_left
theorem OwnX.conv {w : World} {B g n cap : Nat} {l : List UInt8} (hn : l.length = n) (h : OwnX w B 5 1 (.slice (some ⟨g, 0, none⟩) n cap) n (cellsB l)) :
    (convert 50 9 (.slice (some ⟨g, 0, none⟩) n cap)).run Tryz.prog w = .ok (.string ⟨l.toArray⟩) w := by
  refine conv_bytes w g 0 n cap l hn fun j hj => ?_
  have := h.cells (g := g) rfl j (.int .u8 ((l[j]?.getD 0).toNat : Int)) (by simp [cellsB, hj])
  rw [add_eq] at this
  exact this
theorem Wrote.grownX {B : Nat} {T : TypeId → Prop} {w w1 w2 : World} {e : TypeId} {size : Nat} {v : Value} {n : Nat} {xs : List Value} (h : Wrote B T w w1) (hown : OwnX w1 B e size v n xs) (ht : T e) (hg : w1.grownBy w2 v.ownBlock) : Wrote B T w w2 := by
  refine h.trans ⟨hg.os, hg.tape, hg.output, hg.size, fun k hk hd => hg.block k hk ?_⟩
  rintro hv
  rcases hown.2 with ⟨rfl, _⟩ | ⟨g, cap, cur, fz, rfl, hb, hh, _⟩
  · simp [Value.ownBlock] at hv
  · simp [Value.ownBlock] at hv
    subst hv
    rcases hd with hd | hd
    · omega
    · exact hd _ _ _ hh ht
end Go.Proofs.YtfoelahabalbpaaGreatDoor

namespace Go.Proofs.YtfoelahabalbpaaGreatDoor
open Go.RowKit

/-- A row of bytes of our own. -/
structure Buf (B : Nat) (w : World) (v : Value) (l : List UInt8) : Prop where
  own : OwnX w B 5 1 v l.length (cellsB l)
  base : B ≤ w.heap.size
/-- Only rows of bytes from B on have turned. -/
abbrev Wrote8 (B : Nat) (w w' : World) : Prop := Wrote B (· = 5) w w'
theorem Buf.nil (w : World) : Buf w.heap.size w (.slice none 0 0) [] := ⟨ownX_of (World.ownsRow_nil _ _ _ _), Nat.le_refl _⟩
theorem Buf.step {B : Nat} {acc news : List UInt8} {v : Value} {wr w1 : World} {m g cap : Nat} (h : Buf B wr v acc) (hm : news.length = m)
    (hown : OwnX w1 B 5 1 (.slice (some ⟨g, 0, none⟩) (acc.length + m) cap) (acc.length + m) (cellsB acc ++ cellsB news)) {o : Obj} (hgrow : (wr.alloc o).grownBy w1 v.ownBlock) : Buf B w1 (.slice (some ⟨g, 0, none⟩) (acc.length + m) cap) (acc ++ news) := by
  have hl : (acc ++ news).length = acc.length + m := by rw [List.length_append, hm]
  refine ⟨by rw [hl, cellsB_append]; exact hown, ?_⟩
  have h1 := hgrow.size
  have h2 := h.base
  simp at h1; omega
theorem Buf.form {B : Nat} {w : World} {v : Value} {l : List UInt8} (h : Buf B w v l) : ∃ pa cap, v = .slice pa l.length cap := by
  exact h.own.form
theorem Buf.alloc {B : Nat} {w : World} {v : Value} {l : List UInt8} (h : Buf B w v l) (o : Obj) : Buf B (w.alloc o) v l := ⟨h.own.ext ((Ext.refl w).alloc o), by have := h.base; simp; omega⟩
theorem Buf.ext {B : Nat} {w w' : World} {v : Value} {l : List UInt8} (h : Buf B w v l) (e : Ext w w') : Buf B w' v l :=
  ⟨h.own.ext e, Nat.le_trans h.base e.size⟩
theorem Buf.drew {B : Nat} {w : World} {v : Value} {l : List UInt8} (h : Buf B w v l) : Buf B w.drew v l := h.ext (Ext.refl w).drew
theorem Buf.wrote {B : Nat} {w w1 w2 : World} {v : Value} {l : List UInt8} (h : Buf B w1 v l) (hb : Wrote8 B w w1) {o : Obj} (hg : (w1.alloc o).grownBy w2 v.ownBlock) : Wrote8 B w w2 := (hb.alloc o).grownX (h.own.ext ((Ext.refl w1).alloc o)) rfl hg
/-- string(b). -/
theorem Buf.conv {B : Nat} {w : World} {v : Value} {l : List UInt8} (h : Buf B w v l) (hl : 0 < l.length) : (convert 50 9 v).run Tryz.prog w = .ok (.string ⟨l.toArray⟩) w := by
  rcases h.own.2 with ⟨rfl, h0⟩ | ⟨g, cap, cur, fz, rfl, _⟩
  · omega
  · exact OwnX.conv rfl h.own
/-- What a function answers that has written bytes behind a row of our own. -/
def Wrt (B : Nat) (w : World) (l : List UInt8) (e : Ending) (w' : World) : Prop :=
  ∃ (acc : List UInt8) (pa : Option Addr) (cap : Nat), e = .returned (.slice pa acc.length cap) ∧ Hid (acc = l) ∧ Hid (Buf B w' (.slice pa acc.length cap) acc) ∧ Hid (Wrote8 B w w')
theorem Wrt.mk {B : Nat} {w w' : World} {l : List UInt8} {v : Value} (h : Buf B w' v l) (k : Wrote8 B w w') : Wrt B w l (.returned v) w' := by
  obtain ⟨pa, cap, rfl⟩ := h.form
  exact ⟨l, pa, cap, rfl, rfl, h, k⟩
end Go.Proofs.YtfoelahabalbpaaGreatDoor

namespace Go.Proofs.YtfoelahabalbpaaGreatDoor
open Go.RowKit

theorem ba_len (s : ByteArray) : s.data.toList.length = s.size := Array.length_toList

end Go.Proofs.YtfoelahabalbpaaGreatDoor

namespace Go.Proofs.YtfoelahabalbpaaGreatDoor
open Go.RowKit

theorem byteAt {s : ByteArray} {a : Nat} (h : a < s.size) : ∃ c : UInt8, s.data.toList[a]? = some c ∧ s[a] = c := ⟨s[a], by rw [List.getElem?_eq_getElem (by simpa using h)]; rfl, rfl⟩

set_option maxHeartbeats 400000 in
theorem notLine (c : UInt8) (w : World) :
    Calls Tryz.prog 114 #[.int .u8 (c.toNat : Int)] w fun e w' => e = .returned (.bool (c != 10)) ∧ w' = w := by
  go_enter Tryz.func114, Tryz.ntmps114
  go_wp2
  go_ret
  refine ⟨retB ?_, rfl⟩
  by_cases h : c = 10
  · subst h; rfl
  · have h2 : (c != 10) = true := by simpa using h
    rw [h2]
    have h3 : c.toNat ≠ 10 := fun e => h (UInt8.toNat_inj.1 e)
    simp; omega
set_option maxRecDepth 100000 in
set_option maxHeartbeats 800000 in
theorem behindLine (s : ByteArray) (a : Nat) (w : World) (hs : s.size ≤ 1000000) (ha : a ≤ s.size) :
    Calls Tryz.prog 113 #[.string s, .int .i64 a, .func (.func 114) #[] #[]] w fun e w' => e = .returned (.int .i64 (behindL (fun b => b != 10) s.data.toList a)) ∧ w' = w := by
  have hlen := hide (show s.data.toList.length = s.size from Array.length_toList)
  go_enter Tryz.func113, Tryz.ntmps113
  go_wp2_with fail
  go_loop [1] (fun i => ∃ k : Nat, k ≤ s.size ∧ i = .int .i64 k ∧ Hid (behindL (fun b => b != 10) s.data.toList a = behindL (fun b => b != 10) s.data.toList k)) (fun i => s.size - (intOf i).toNat)
  case atStart => exact ⟨a, ha, rfl, rfl⟩
  case round =>
    obtain ⟨k, hk, rfl, hb⟩ := hrel
    by_cases hlt : k < s.size
    · obtain ⟨c, hc1, hc2⟩ := byteAt hlt
      replace hc1 := hide hc1
      go_wp2_with fail
      refine (notLine c w).mono ?_
      rintro e w' ⟨rfl, rfl⟩
      cases hp : (fun b => b != 10) c
      · have hfin := hide (hb.out.trans (behind_no (p := (fun b => b != 10)) (fun d hd => by rw [hc1.out] at hd; cases hd; exact hp)))
        go_wp2_with fail
        go_ret
        exact ⟨by rw [hfin.out]; rfl, rfl⟩
      · have hn := hide (hb.out.trans (behind_yes (p := (fun b => b != 10)) hc1.out hp))
        go_wp2_with fail
        go_round
        case rel => exact ⟨k + 1, by omega, by go_num, hn⟩
        case measure => simp [intOf]; omega
    · have hfin := hide (hb.out.trans (behind_no (p := (fun b => b != 10)) (fun d hd => absurd (List.getElem?_eq_some_iff.1 hd).1 (by rw [hlen.out]; omega))))
      go_wp2_with fail
      go_ret
      exact ⟨by rw [hfin.out]; rfl, rfl⟩

set_option maxRecDepth 100000 in
set_option maxHeartbeats 800000 in
theorem behindWord (s : ByteArray) (a : Nat) (w : World) (hs : s.size ≤ 1000000) (ha : a ≤ s.size) :
    Calls Tryz.prog 113 #[.string s, .int .i64 a, .func (.func 150) #[] #[]] w fun e w' => e = .returned (.int .i64 (behindL (fun b => isInnerB b.toNat) s.data.toList a)) ∧ w' = w := by
  have hlen := hide (show s.data.toList.length = s.size from Array.length_toList)
  go_enter Tryz.func113, Tryz.ntmps113
  go_wp2_with fail
  go_loop [1] (fun i => ∃ k : Nat, k ≤ s.size ∧ i = .int .i64 k ∧ Hid (behindL (fun b => isInnerB b.toNat) s.data.toList a = behindL (fun b => isInnerB b.toNat) s.data.toList k)) (fun i => s.size - (intOf i).toNat)
  case atStart => exact ⟨a, ha, rfl, rfl⟩
  case round =>
    obtain ⟨k, hk, rfl, hb⟩ := hrel
    by_cases hlt : k < s.size
    · obtain ⟨c, hc1, hc2⟩ := byteAt hlt
      replace hc1 := hide hc1
      go_wp2_with fail
      refine (isWordByte c.toNat w).mono ?_
      rintro e w' ⟨rfl, rfl⟩
      cases hp : (fun b => isInnerB b.toNat) c
      · have hfin := hide (hb.out.trans (behind_no (p := (fun b => isInnerB b.toNat)) (fun d hd => by rw [hc1.out] at hd; cases hd; exact hp)))
        go_wp2_with fail
        go_ret
        exact ⟨by rw [hfin.out]; rfl, rfl⟩
      · have hn := hide (hb.out.trans (behind_yes (p := (fun b => isInnerB b.toNat)) hc1.out hp))
        go_wp2_with fail
        go_round
        case rel => exact ⟨k + 1, by omega, by go_num, hn⟩
        case measure => simp [intOf]; omega
    · have hfin := hide (hb.out.trans (behind_no (p := (fun b => isInnerB b.toNat)) (fun d hd => absurd (List.getElem?_eq_some_iff.1 hd).1 (by rw [hlen.out]; omega))))
      go_wp2_with fail
      go_ret
      exact ⟨by rw [hfin.out]; rfl, rfl⟩

set_option maxRecDepth 100000 in
set_option maxHeartbeats 800000 in
theorem behindDigits (s : ByteArray) (a : Nat) (w : World) (hs : s.size ≤ 1000000) (ha : a ≤ s.size) :
    Calls Tryz.prog 113 #[.string s, .int .i64 a, .func (.func 117) #[] #[]] w fun e w' => e = .returned (.int .i64 (behindL (fun b => isDigitB b.toNat) s.data.toList a)) ∧ w' = w := by
  have hlen := hide (show s.data.toList.length = s.size from Array.length_toList)
  go_enter Tryz.func113, Tryz.ntmps113
  go_wp2_with fail
  go_loop [1] (fun i => ∃ k : Nat, k ≤ s.size ∧ i = .int .i64 k ∧ Hid (behindL (fun b => isDigitB b.toNat) s.data.toList a = behindL (fun b => isDigitB b.toNat) s.data.toList k)) (fun i => s.size - (intOf i).toNat)
  case atStart => exact ⟨a, ha, rfl, rfl⟩
  case round =>
    obtain ⟨k, hk, rfl, hb⟩ := hrel
    by_cases hlt : k < s.size
    · obtain ⟨c, hc1, hc2⟩ := byteAt hlt
      replace hc1 := hide hc1
      go_wp2_with fail
      refine (isDigit c.toNat w).mono ?_
      rintro e w' ⟨rfl, rfl⟩
      cases hp : (fun b => isDigitB b.toNat) c
      · have hfin := hide (hb.out.trans (behind_no (p := (fun b => isDigitB b.toNat)) (fun d hd => by rw [hc1.out] at hd; cases hd; exact hp)))
        go_wp2_with fail
        go_ret
        exact ⟨by rw [hfin.out]; rfl, rfl⟩
      · have hn := hide (hb.out.trans (behind_yes (p := (fun b => isDigitB b.toNat)) hc1.out hp))
        go_wp2_with fail
        go_round
        case rel => exact ⟨k + 1, by omega, by go_num, hn⟩
        case measure => simp [intOf]; omega
    · have hfin := hide (hb.out.trans (behind_no (p := (fun b => isDigitB b.toNat)) (fun d hd => absurd (List.getElem?_eq_some_iff.1 hd).1 (by rw [hlen.out]; omega))))
      go_wp2_with fail
      go_ret
      exact ⟨by rw [hfin.out]; rfl, rfl⟩

end Go.Proofs.YtfoelahabalbpaaGreatDoor

namespace Go.Proofs.YtfoelahabalbpaaGreatDoor
open Go.RowKit

set_option maxHeartbeats 800000 in
theorem signKindP (c : UInt8) (w : World) :
    Calls Tryz.prog 120 #[.int .u8 (c.toNat : Int)] w fun e w' => e = .returned (.int .i64 (signKind c)) ∧ w' = w := by
  have key : ∀ d : UInt8, c = d ↔ (c.toNat : Int) = (d.toNat : Int) := fun d => ⟨fun h => by rw [h], fun h => UInt8.toNat_inj.1 (by omega)⟩
  have H : Hid (signKind c = if (c.toNat : Int) = 123 then 4 else if (c.toNat : Int) = 125 then 5 else if (c.toNat : Int) = 91 then 6 else if (c.toNat : Int) = 93 then 7 else if (c.toNat : Int) = 61 then 8 else if (c.toNat : Int) = 44 then 9 else if (c.toNat : Int) = 46 then 10 else 0) := by
    show _ = _
    unfold signKind
    simp only [key]; rfl
  generalize (c.toNat : Int) = z at *
  clear key
  go_enter Tryz.func120, Tryz.ntmps120
  go_wp2
  all_goals
    go_ret
    refine ⟨retI ?_, rfl⟩
    rw [H.out]
    simp_all

set_option maxRecDepth 100000 in
set_option maxHeartbeats 1600000 in
theorem skipP (s : ByteArray) (a : Nat) (w : World) (hs : s.size ≤ 1000000) (ha : a ≤ s.size) :
    Calls Tryz.prog 68 #[.string s, .int .i64 a] w fun e w' => e = .returned (.int .i64 (skipL s.data.toList a)) ∧ w' = w := by
  have hlen := hide (show s.data.toList.length = s.size from Array.length_toList)
  go_enter Tryz.func68, Tryz.ntmps68
  go_wp2_with fail
  go_loop [1] (fun i => ∃ k : Nat, k ≤ s.size ∧ i = .int .i64 k ∧ Hid (skipL s.data.toList a = skipL s.data.toList k)) (fun i => s.size - (intOf i).toNat)
  case atStart => exact ⟨a, ha, rfl, rfl⟩
  case round =>
    obtain ⟨k, hk, rfl, hb⟩ := hrel
    by_cases hlt : k < s.size
    · obtain ⟨c, hc1, hc2⟩ := byteAt hlt
      have hst := hide (hb.out.trans (skip_step hc1))
      have hn := hide (behind_le (p := fun b => b != 10) (l := s.data.toList) (a := k) (by rw [hlen.out]; exact hk))
      have hyes := hide (fun (h : c = 35) => behind_yes (p := fun b => b != 10) hc1 (by rw [h]; decide))
      have hn2 := hide (behind_le (p := fun b => b != 10) (l := s.data.toList) (a := k + 1) (by rw [hlen.out]; omega))
      replace hc1 := hide hc1
      have hcall := hide (behindLine s k w hs hk)
      have key : ∀ d : UInt8, ((c.toNat : Int) == (d.toNat : Int)) = decide (c = d) := fun d => by
        by_cases h : c = d
        · subst h; simp
        · rw [byte_ne h]; simp [h]
      have b32 := key 32; have b9 := key 9; have b10 := key 10; have b35 := key 35
      rw [show ((32 : UInt8).toNat : Int) = 32 from rfl] at b32
      rw [show ((9 : UInt8).toNat : Int) = 9 from rfl] at b9
      rw [show ((10 : UInt8).toNat : Int) = 10 from rfl] at b10
      rw [show ((35 : UInt8).toNat : Int) = 35 from rfl] at b35
      clear key
      by_cases hbl : isBlank c = true
      · have h1 : Hid (skipL s.data.toList a = skipL s.data.toList (k + 1)) := by show _ = _; have := hst.out; rw [if_pos hbl] at this; exact this
        have hz : c = 32 ∨ c = 9 ∨ c = 10 := by
          simp only [isBlank, Bool.or_eq_true, beq_iff_eq] at hbl
          rcases hbl with (h | h) | h
          · exact .inl h
          · exact .inr (.inl h)
          · exact .inr (.inr h)
        replace hbl := hide hbl
        rcases hz with h | h | h
        · rw [decide_eq_true h] at b32
          replace h := hide h; replace b9 := hide b9; replace b10 := hide b10; replace b35 := hide b35
          go_wp2_with fail
          go_round
          case rel => exact ⟨k + 1, by omega, by go_num, h1⟩
          case measure => simp [intOf]; omega
        · rw [decide_eq_false (by rw [h]; decide)] at b32
          rw [decide_eq_true h] at b9
          replace h := hide h; replace b10 := hide b10; replace b35 := hide b35
          go_wp2_with fail
          go_round
          case rel => exact ⟨k + 1, by omega, by go_num, h1⟩
          case measure => simp [intOf]; omega
        · rw [decide_eq_false (by rw [h]; decide)] at b32
          rw [decide_eq_false (by rw [h]; decide)] at b9
          rw [decide_eq_true h] at b10
          replace h := hide h; replace b35 := hide b35
          go_wp2_with fail
          go_round
          case rel => exact ⟨k + 1, by omega, by go_num, h1⟩
          case measure => simp [intOf]; omega
      · have hz : ¬ c = 32 ∧ ¬ c = 9 ∧ ¬ c = 10 := by
          simp only [isBlank, Bool.or_eq_true, beq_iff_eq, not_or] at hbl
          exact ⟨hbl.1.1, hbl.1.2, hbl.2⟩
        obtain ⟨z1, z2, z3⟩ := hz
        rw [decide_eq_false z1] at b32
        rw [decide_eq_false z2] at b9
        rw [decide_eq_false z3] at b10
        replace z1 := hide z1; replace z2 := hide z2; replace z3 := hide z3
        by_cases h35 : c = 35
        · have h1 : Hid (skipL s.data.toList a = skipL s.data.toList (behindL (fun b => b != 10) s.data.toList k)) := by show _ = _; have := hst.out; rw [if_neg hbl, if_pos h35] at this; exact this
          have hgt : k < behindL (fun b => b != 10) s.data.toList k ∧ behindL (fun b => b != 10) s.data.toList k ≤ s.size := by
            have := hyes.out h35; have := hn2.out; rw [hlen.out] at this; omega
          rw [decide_eq_true h35] at b35
          generalize behindL (fun b => b != 10) s.data.toList k = m at *
          obtain ⟨g1, g2⟩ := hgt
          replace hbl := hide hbl; replace h35 := hide h35
          clear hyes hn hn2 hst
          go_wp2_with fail
          refine hcall.out.mono ?_
          rintro e w' ⟨rfl, rfl⟩
          go_wp2_with fail
          go_round
          case rel => exact ⟨m, g2, rfl, h1⟩
          case measure => simp [intOf]; omega
        · have h1 : Hid (skipL s.data.toList a = k) := by show _ = _; have := hst.out; rw [if_neg hbl, if_neg h35] at this; exact this
          rw [decide_eq_false h35] at b35
          replace hbl := hide hbl; replace h35 := hide h35
          clear hyes hn hn2 hst
          go_wp2_with fail
          go_ret
          exact ⟨by rw [h1.out]; rfl, rfl⟩
    · have hfin := hide (hb.out.trans (skip_end (by rw [hlen.out]; omega)))
      go_wp2_with fail
      go_ret
      exact ⟨by rw [hfin.out]; rfl, rfl⟩
end Go.Proofs.YtfoelahabalbpaaGreatDoor

namespace Go.Proofs.YtfoelahabalbpaaGreatDoor
open Go.RowKit

theorem valN_snoc (d : List UInt8) (c : UInt8) : valN (d ++ [c]) = valN d * 10 + (c.toNat - 48) := by simp [valN]
theorem valN_more (a : List UInt8) : ∀ b : List UInt8, valN a ≤ valN (a ++ b) := fun b => by
  induction b generalizing a with
  | nil => simp
  | cons c b ih =>
    have h1 := ih (a ++ [c])
    rw [valN_snoc] at h1
    rw [List.append_assoc] at h1
    simp only [List.singleton_append] at h1
    omega
def valOf (d : List UInt8) : Int := if digitsOk d then (valN d : Int) else 0

set_option maxRecDepth 100000 in
set_option maxHeartbeats 1600000 in
theorem valueOf (s : ByteArray) (w : World) (hs : s.size ≤ 1000000) (hd : ∀ c ∈ s.data.toList, isDigitB c.toNat = true) :
    Calls Tryz.prog 152 #[.string s] w fun e w' => e = .returned (.tuple #[.int .i64 (valOf s.data.toList), .bool (digitsOk s.data.toList)]) ∧ Ext w w' := by
  have hcv := fun (w : World) => Lib.run_convert_string_bytes (P := Tryz.prog) w 9 50 5 s Tryz.underlying9 Tryz.underlying50 Tryz.underlying5
  have Hc := hide fun j hj => Lib.bytesWorld_cell w 5 s j hj
  have Hx := hide (Ext.bytes w 5 s)
  have Hz := hide (show s.data.toList.length = s.size from Array.length_toList)
  replace hd := hide hd
  go_enter Tryz.func152, Tryz.ntmps152
  go_wp2_with fail
  go_loop [4, 11] (fun n i => ∃ k m : Nat, k ≤ s.size ∧ i = .int .i64 k ∧ n = .int .i64 m ∧ m ≤ 1000000000 ∧ Hid (m = valN (s.data.toList.take k))) (fun _ i => s.size - (intOf i).toNat)
  case atStart => exact ⟨0, 0, Nat.zero_le _, rfl, rfl, by omega, rfl⟩
  case round =>
    obtain ⟨k, m, hk, rfl, rfl, hm, hacc⟩ := hrel
    by_cases hlt : k < s.size
    · have g := unhide Hc k hlt
      rw [List.getD_eq_getElem?_getD] at g
      have hlt' : k < s.data.toList.length := by rw [unhide Hz]; exact hlt
      have hs1 : valN (s.data.toList.take (k + 1)) = m * 10 + ((s.data.toList[k]?.getD 0).toNat - 48) := by
        rw [List.take_succ_eq_append_getElem hlt', valN_snoc, hacc.out, List.getElem?_eq_getElem hlt']; rfl
      have hdc := hd.out (s.data.toList[k]?.getD 0) (by rw [List.getElem?_eq_getElem hlt']; exact List.getElem_mem hlt')
      have Hs := hide hs1; clear hs1
      generalize s.data.toList[k]?.getD 0 = c at *
      have hc : 48 ≤ c.toNat ∧ c.toNat ≤ 57 := by simp [isDigitB] at hdc; omega
      obtain ⟨c1, c2⟩ := hc
      have e1 : IntKind.u8.wrap ((c.toNat : Int) - 48) = ((c.toNat - 48 : Nat) : Int) := by rw [IntKind.wrap_u8]; omega
      have e2 : (c.toNat : Int) - 48 = ((c.toNat - 48 : Nat) : Int) := by omega
      obtain ⟨d, hd2⟩ : ∃ d, c.toNat - 48 = d := ⟨_, rfl⟩
      rw [hd2] at e1 e2 Hs
      have hd9 : d ≤ 9 := by omega
      replace hd2 := hide hd2; replace hdc := hide hdc
      by_cases hbig : 1000000000 < m * 10 + d
      · have hno : Hid (digitsOk s.data.toList = false) := by
          show _ = _
          have h1 := valN_more (s.data.toList.take (k + 1)) (s.data.toList.drop (k + 1))
          rw [List.take_append_drop, Hs.out] at h1
          simp [digitsOk]; intro _; omega
        have hq : (1000000000 - (d : Int)) / 10 < (m : Int) := by omega
        go_wp2_with fail
        go_ret2
        exact ⟨by unfold valOf; rw [hno.out]; rfl, Hx.out⟩
      · have hq : ¬ (1000000000 - (d : Int)) / 10 < (m : Int) := by omega
        obtain ⟨q, hq2⟩ : ∃ q, m * 10 + d = q := ⟨_, rfl⟩
        have hq3 : (m : Int) * 10 + (d : Int) = (q : Int) := by omega
        have hq4 : q ≤ 1000000000 := by omega
        rw [hq2] at Hs
        replace hq2 := hide hq2
        go_wp2_with fail
        go_round
        case rel => exact ⟨k + 1, q, by omega, by go_num, rfl, hq4, Hs.out.symm⟩
        case measure => simp [intOf]; omega
    · have Hl : Hid (s.data.toList.take k = s.data.toList) := List.take_of_length_le (by rw [unhide Hz]; omega)
      have hv : Hid (m = valN s.data.toList) := by show _ = _; rw [hacc.out, Hl.out]
      by_cases h0 : s.data.toList = []
      · have hE : s.toList = [] := by rw [ByteArray.toList_eq]; exact h0
        have hno : Hid (digitsOk s.data.toList = false) := by show _ = _; simp [digitsOk, h0]
        have hm0 : m = 0 := by rw [hv.out, h0]; rfl
        subst hm0
        replace h0 := hide h0
        go_wp2_with fail
        go_ret2
        exact ⟨by unfold valOf; rw [hno.out]; rfl, Hx.out⟩
      · have hE : ¬ s.toList = [] := by rw [ByteArray.toList_eq]; exact h0
        have hE' : (s.toList == ([] : List UInt8)) = false := by simpa using hE
        have hyes : Hid (digitsOk s.data.toList = true) := by
          show _ = _
          unfold digitsOk
          rw [← hv.out, decide_eq_true hm, Bool.and_true]
          cases hl : s.data.toList with
          | nil => exact absurd hl h0
          | cons _ _ => rfl
        replace h0 := hide h0
        go_wp2_with fail
        go_ret2
        exact ⟨by unfold valOf; rw [hyes.out, ← hv.out]; rfl, Hx.out⟩

set_option maxRecDepth 100000 in
set_option maxHeartbeats 1600000 in
theorem readSign (s : ByteArray) (w : World) (h0 : 0 < s.size) (hs : s.size ≤ 1000000) :
    Calls Tryz.prog 153 #[.string s] w fun e w' => e = .returned (.tuple #[.int .u8 ((signL s.data.toList).1.toNat : Int), .int .i64 ((signL s.data.toList).2 : Int)]) ∧ w' = w := by
  obtain ⟨c, hc1, hc2⟩ := byteAt h0
  have key : ∀ c d : UInt8, ((c.toNat : Int) == (d.toNat : Int)) = decide (c = d) := fun c d => by
    by_cases h : c = d
    · subst h; simp
    · rw [byte_ne h]; simp [h]
  have b92 := key c 92
  rw [show ((92 : UInt8).toNat : Int) = 92 from rfl] at b92
  obtain ⟨t, ht⟩ : ∃ t, s.data.toList = c :: t := by
    cases hl : s.data.toList with
    | nil => rw [hl] at hc1; simp at hc1
    | cons x t => rw [hl] at hc1; simp at hc1; exact ⟨t, by rw [hc1]⟩
  have hlen : s.size = t.length + 1 := by
    have : s.data.toList.length = s.size := Array.length_toList
    rw [ht] at this; simpa using this.symm
  by_cases h92 : c = 92
  · rw [decide_eq_true h92] at b92
    cases t with
    | nil =>
      have hS : Hid (signL s.data.toList = (0, 0)) := by show _ = _; rw [ht]; simp [signL, h92]
      have hl1 : s.size = 1 := by simpa using hlen
      have hl2 : (s.size : Int) = 1 := by omega
      replace ht := hide ht; replace h92 := hide h92; replace hc1 := hide hc1; replace key := hide key
      clear hlen
      go_enter Tryz.func153, Tryz.ntmps153
      go_wp2_with fail
      go_ret2
      exact ⟨by rw [hS.out]; rfl, rfl⟩
    | cons d t =>
      have hl1 : 1 < s.size := by rw [hlen]; simp
      have hl2 : ¬ (s.size : Int) = 1 := by omega
      obtain ⟨d', hd1, hd2⟩ := byteAt hl1
      obtain rfl : d = d' := by rw [ht] at hd1; simpa using hd1
      have e92 := key d 92; have e34 := key d 34; have e110 := key d 110
      rw [show ((92 : UInt8).toNat : Int) = 92 from rfl] at e92
      rw [show ((34 : UInt8).toNat : Int) = 34 from rfl] at e34
      rw [show ((110 : UInt8).toNat : Int) = 110 from rfl] at e110
      have hS : Hid (signL s.data.toList = if d = 92 ∨ d = 34 then (d, 2) else if d = 110 then (10, 2) else (0, 0)) := by show _ = _; rw [ht]; simp [signL, h92]
      replace ht := hide ht; replace h92 := hide h92; replace hc1 := hide hc1; replace key := hide key; replace hd1 := hide hd1
      clear hlen
      by_cases q1 : d = 92
      · rw [decide_eq_true q1] at e92
        have hS2 : Hid (signL s.data.toList = (d, 2)) := by show _ = _; rw [hS.out, if_pos (.inl q1)]
        replace q1 := hide q1; replace e34 := hide e34; replace e110 := hide e110
        go_enter Tryz.func153, Tryz.ntmps153
        go_wp2_with fail
        go_ret2
        exact ⟨by rw [hS2.out]; rfl, rfl⟩
      · rw [decide_eq_false q1] at e92
        by_cases q2 : d = 34
        · rw [decide_eq_true q2] at e34
          have hS2 : Hid (signL s.data.toList = (d, 2)) := by show _ = _; rw [hS.out, if_pos (.inr q2)]
          replace q1 := hide q1; replace q2 := hide q2; replace e110 := hide e110
          go_enter Tryz.func153, Tryz.ntmps153
          go_wp2_with fail
          go_ret2
          exact ⟨by rw [hS2.out]; rfl, rfl⟩
        · rw [decide_eq_false q2] at e34
          by_cases q3 : d = 110
          · rw [decide_eq_true q3] at e110
            have hS2 : Hid (signL s.data.toList = (10, 2)) := by show _ = _; rw [hS.out, if_neg (by simp [q1, q2]), if_pos q3]
            replace q1 := hide q1; replace q2 := hide q2; replace q3 := hide q3
            go_enter Tryz.func153, Tryz.ntmps153
            go_wp2_with fail
            go_ret2
            exact ⟨by rw [hS2.out]; rfl, rfl⟩
          · rw [decide_eq_false q3] at e110
            have hS2 : Hid (signL s.data.toList = (0, 0)) := by show _ = _; rw [hS.out, if_neg (by simp [q1, q2]), if_neg q3]
            replace q1 := hide q1; replace q2 := hide q2; replace q3 := hide q3
            go_enter Tryz.func153, Tryz.ntmps153
            go_wp2_with fail
            go_ret2
            exact ⟨by rw [hS2.out]; rfl, rfl⟩
  · rw [decide_eq_false h92] at b92
    have hb : ((c.toNat : Int) != 92) = true := by simp only [bne, b92]; rfl
    have hS : Hid (signL s.data.toList = if isPlainB c.toNat then (c, 1) else (0, 0)) := by show _ = _; rw [ht]; simp [signL, h92]
    replace ht := hide ht; replace h92 := hide h92; replace hc1 := hide hc1; replace key := hide key
    clear hlen
    cases hp : isPlainB c.toNat
    · have hS2 : Hid (signL s.data.toList = (0, 0)) := by show _ = _; rw [hS.out, hp]; rfl
      go_enter Tryz.func153, Tryz.ntmps153
      go_wp2_with fail
      refine (isPlain _ _).mono ?_
      rintro e w' ⟨rfl, rfl⟩
      go_wp2_with fail
      go_ret2
      exact ⟨by rw [hS2.out]; rfl, rfl⟩
    · have hS2 : Hid (signL s.data.toList = (c, 1)) := by show _ = _; rw [hS.out, hp]; rfl
      go_enter Tryz.func153, Tryz.ntmps153
      go_wp2_with fail
      refine (isPlain _ _).mono ?_
      rintro e w' ⟨rfl, rfl⟩
      go_wp2_with fail
      go_ret2
      exact ⟨by rw [hS2.out]; rfl, rfl⟩
end Go.Proofs.YtfoelahabalbpaaGreatDoor
