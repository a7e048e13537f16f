/-
  Bytes as cells: rows of bytes of our own, as strings.
-/
/-
  What a call may have turned: rows of some element types, from a block on.
-/
/-
  Rows of our own of whose frozen stretch nothing lies within them: those that a conversion has made too.
-/
/-
  Tokens: what the program's functions that cut a text answer.
-/
/-
  Tokens: signs, digits, what does not count.
-/
import Derived.Test.YtfmcgdglalljgaaGreatDoorJ1
import Derived.Deep.AppendLies
import Derived.ArgAppend
import Derived.Lib.AppendStr
import Derived.Test.YtfmcgdglalljgaaGreatDoorJ3
namespace Go.Proofs.YtfmcgdglalljgaaGreatDoor
open Go.RowKit

theorem info_of {P : Program} {t : TypeId} {z : Value} {s b : Nat} (h : (P.info? t).map (fun i => (i.zero, i.size, i.bytes)) = some (some z, s, b)) :
    ∃ i, P.info? t = some i ∧ i.zero = some z ∧ i.size = s ∧ i.bytes = b := by
  cases hi : P.info? t with
  | none => rw [hi] at h; cases h
  | some i => rw [hi] at h; simp at h; exact ⟨i, rfl, h.1, h.2.1, h.2.2⟩
theorem infoByte : (Tryz.prog.info? 5).map (fun i => (i.zero, i.size, i.bytes)) = some (some (.int .u8 0), 1, 1) := by kernel_rfl

theorem byte_ne {c d : UInt8} (h : ¬ c = d) : ((c.toNat : Int) == (d.toNat : Int)) = false := by
  rw [beq_eq_false_iff_ne]; intro h'; exact h (UInt8.toNat_inj.1 (by omega))
def cellsB (l : List UInt8) : List Value := l.map fun c => .int .u8 (c.toNat : Int)
theorem cellsB_append (a b : List UInt8) : cellsB (a ++ b) = cellsB a ++ cellsB b := by simp [cellsB]
theorem one_cellB (a : List UInt8) : ∀ u ∈ cellsB a, u.oneCell' = true := by
  intro u hu
  obtain ⟨c, _, rfl⟩ := List.mem_map.1 hu
  rfl
/-- string(bs) of a row of our own. -/
theorem own_conv {w : World} {B g n cap : Nat} {l : List UInt8} (hn : l.length = n) (h : w.ownsRow B 5 1 (.slice (some ⟨g, 0, none⟩) n cap) n (cellsB l)) :
    (convert 45 9 (.slice (some ⟨g, 0, none⟩) n cap)).run Tryz.prog w = .ok (.string ⟨l.toArray⟩) w := by
  refine conv_bytes w g 0 n cap l hn fun j hj => ?_
  have := h.cells (g := g) rfl j (.int .u8 ((l[j]?.getD 0).toNat : Int)) (by simp [cellsB, hj])
  rw [add_eq] at this
  exact this
theorem own_conv2 {w : World} {B g m cap : Nat} {acc news : List UInt8} (hm : news.length = m) (h : w.ownsRow B 5 1 (.slice (some ⟨g, 0, none⟩) (acc.length + m) cap) (acc.length + m) (cellsB acc ++ cellsB news)) :
    (convert 45 9 (.slice (some ⟨g, 0, none⟩) (acc.length + m) cap)).run Tryz.prog w = .ok (.string ⟨(acc ++ news).toArray⟩) w :=
  own_conv (by rw [List.length_append, hm]) (by rw [cellsB_append]; exact h)
end Go.Proofs.YtfmcgdglalljgaaGreatDoor

namespace Go.Proofs.YtfmcgdglalljgaaGreatDoor
open Go.RowKit

/-- All is as it was, but for rows of some element types from block B on, and new blocks. -/
structure Wrote (B : Nat) (T : TypeId → Prop) (w w' : World) : Prop where
  os : w'.os = w.os
  tape : w'.tape = w.tape
  output : w'.output = w.output
  size : w.heap.size ≤ w'.heap.size
  heap : ∀ k, k < w.heap.size → (k < B ∨ ∀ c t fz, w.heap[k]? = some (.cells c t fz) → ¬ T t) → w'.heap[k]? = w.heap[k]?
theorem Wrote.refl (B : Nat) (T : TypeId → Prop) (w : World) : Wrote B T w w := ⟨rfl, rfl, rfl, Nat.le_refl _, fun _ _ _ => rfl⟩
theorem Wrote.trans {B : Nat} {T : TypeId → Prop} {a b c : World} (h : Wrote B T a b) (k : Wrote B T b c) : Wrote B T a c := by
  refine ⟨k.os.trans h.os, k.tape.trans h.tape, k.output.trans h.output, Nat.le_trans h.size k.size, fun j hj hd => ?_⟩
  have e := h.heap j hj hd
  rw [← e]
  exact k.heap j (Nat.lt_of_lt_of_le hj h.size) (hd.imp id fun hh c t fz hc => hh c t fz (by rw [← e]; exact hc))
theorem Wrote.mono {B B' : Nat} {T T' : TypeId → Prop} {w w' : World} (h : Wrote B T w w') (hB : B' ≤ B) (hT : ∀ t, T t → T' t) : Wrote B' T' w w' :=
  ⟨h.os, h.tape, h.output, h.size, fun k hk hd => h.heap k hk (hd.imp (fun h => Nat.lt_of_lt_of_le h hB) fun hh c t fz hc ht => hh c t fz hc (hT t ht))⟩
theorem Wrote.ext {B : Nat} {T : TypeId → Prop} {w w' : World} (h : Ext w w') : Wrote B T w w' := by
  obtain ⟨h1, h2, h3, h4, h5⟩ := h
  exact ⟨h1, h2, h3, h4, fun k hk _ => h5 k hk⟩
theorem Wrote.below {B : Nat} {T : TypeId → Prop} {w w' : World} (h : Wrote B T w w') (hB : B ≤ w.heap.size) : Below B w w' :=
  ⟨h.os, h.tape, h.output, by first | exact h.size | (have := h.size; omega), fun k hk => h.heap k (Nat.lt_of_lt_of_le hk hB) (.inl hk)⟩
theorem Wrote.toExt {T : TypeId → Prop} {w w' : World} (h : Wrote w.heap.size T w w') : Ext w w' := h.below (Nat.le_refl _)
theorem Wrote.alloc {B : Nat} {T : TypeId → Prop} {a w : World} (h : Wrote B T a w) (o : Obj) : Wrote B T a (w.alloc o) := h.trans (Wrote.ext ((Ext.refl w).alloc o))
theorem Wrote.drew {B : Nat} {T : TypeId → Prop} {a w : World} (h : Wrote B T a w) : Wrote B T a w.drew := h.trans (Wrote.ext (Ext.refl w).drew)
theorem Wrote.then {B : Nat} {T : TypeId → Prop} {a b c : World} (h : Wrote B T a b) (k : Ext b c) : Wrote B T a c := h.trans (Wrote.ext k)
theorem Wrote.keeps {B : Nat} {T : TypeId → Prop} {w w' : World} (h : Wrote B T w w') {k : Nat} {c : Array Value} {t : TypeId} {fz : Nat × Nat} (hk : w.heap[k]? = some (.cells c t fz)) (ht : ¬ T t) : w'.heap[k]? = some (.cells c t fz) := by
  rw [h.heap k (Array.getElem?_eq_some_iff.1 hk).1 (.inr fun c' t' fz' hc => by rw [hk] at hc; cases hc; exact ht)]
  exact hk
theorem Wrote.cell {B : Nat} {T : TypeId → Prop} {w w' : World} (h : Wrote B T w w') {p : Addr} {v : Value} (hv : w.cell? p = some v) (hp : p.block < B) : w'.cell? p = some v := by
  have hb := World.block_lt_of_cell? w p hv
  rw [World.cell?_of_block (h.heap p.block hb (.inl hp))]; exact hv
theorem Wrote.grown {B : Nat} {T : TypeId → Prop} {w w1 w2 : World} {e : TypeId} {size : Nat} {v : Value} {n : Nat} {xs : List Value} (h : Wrote B T w w1) (hown : w1.ownsRow B e size v n xs) (ht : T e) (hg : w1.grownBy w2 v.ownBlock) : Wrote B T w w2 := by
  refine h.trans ⟨hg.os, hg.tape, hg.output, hg.size, fun k hk hd => hg.block k hk ?_⟩
  rintro hv
  rcases hown.2 with ⟨rfl, _⟩ | ⟨g, cap, cur, rfl, hb, hh, _⟩
  · simp [Value.ownBlock] at hv
  · simp [Value.ownBlock] at hv
    subst hv
    rcases hd with hd | hd
    · omega
    · exact hd _ _ _ hh ht
theorem Wrote.grownAt {B : Nat} {T : TypeId → Prop} {w w1 w2 : World} {e : TypeId} {size : Nat} {v : Value} {n : Nat} {xs : List Value} (h : Wrote B T w w1) (hown : w1.ownsRow B e size v n xs) (ht : T e) {o : Obj} (hg : (w1.alloc o).grownBy w2 v.ownBlock) : Wrote B T w w2 :=
  (h.alloc o).grown (hown.alloc o) ht hg
theorem Wrote.setCell {B : Nat} {T : TypeId → Prop} {w w1 : World} (h : Wrote B T w w1) {p : Addr} {c : Array Value} {t : TypeId} {fz : Nat × Nat} (hb : B ≤ p.block) (hp : w1.heap[p.block]? = some (.cells c t fz)) (ht : T t) (u : Value) : Wrote B T w (w1.setCell p u) := by
  refine h.trans ⟨rfl, rfl, rfl, by simp [World.setCell], fun k hk hd => ?_⟩
  have hne : k ≠ p.block := by
    rintro rfl
    rcases hd with hd | hd
    · omega
    · exact hd _ _ _ hp ht
  simp only [World.setCell, Array.getElem?_modify]
  rw [if_neg (fun h => hne h.symm)]
theorem ownsRow_wrote {B B' : Nat} {T : TypeId → Prop} {w w' : World} {base : Nat} {e : TypeId} {size : Nat} {v : Value} {n : Nat} {xs : List Value} (h : w.ownsRow base e size v n xs) (k : Wrote B T w w') (ht : ¬ T e) (hbb : base = B') : w'.ownsRow B' e size v n xs := by
  subst hbb
  obtain ⟨h1, h2⟩ := h
  refine ⟨h1, ?_⟩
  rcases h2 with h2 | ⟨g, cap, cur, hv, hg, hh, r⟩
  · exact .inl h2
  · exact .inr ⟨g, cap, cur, hv, hg, k.keeps hh ht, r⟩
theorem Ext.wrote {w0 w w' : World} {B : Nat} {T : TypeId → Prop} (h : Ext w0 w) (k : Wrote B T w w') (hB : w0.heap.size ≤ B) : Ext w0 w' :=
  Below.trans h ⟨k.os, k.tape, k.output, by first | exact k.size | (have := k.size; have := h.size; omega), fun j hj => k.heap j (Nat.lt_of_lt_of_le hj h.size) (.inl (Nat.lt_of_lt_of_le hj hB))⟩
end Go.Proofs.YtfmcgdglalljgaaGreatDoor

namespace Go.Proofs.YtfmcgdglalljgaaGreatDoor
open Go.RowKit

/-- A row of our own; what is frozen of it lies behind its end. -/
def OwnX (w : World) (base : Nat) (e : TypeId) (size : Nat) (v : Value) (n : Nat) (xs : List Value) : Prop :=
  xs.length = n * size ∧ ((v = .slice none 0 0 ∧ n = 0) ∨ ∃ (g cap : Nat) (cur : Array Value) (fz : Nat × Nat), v = .slice (some ⟨g, 0, none⟩) n cap ∧ base ≤ g ∧ w.heap[g]? = some (.cells cur e fz) ∧ (fz.2 = 0 ∨ cur.size ≤ fz.1) ∧ n ≤ cap ∧ cap ≤ maxLen ∧ cur.size = cap * size ∧ cur.toList.take (n * size) = xs)
theorem ownX_of {w : World} {base : Nat} {e : TypeId} {size : Nat} {v : Value} {n : Nat} {xs : List Value} (h : w.ownsRow base e size v n xs) : OwnX w base e size v n xs := by
  refine ⟨h.1, ?_⟩
  rcases h.2 with h | ⟨g, cap, cur, h1, h2, h3, h4⟩
  · exact .inl h
  · exact .inr ⟨g, cap, cur, (0, 0), h1, h2, h3, .inl rfl, h4⟩
theorem OwnX.form {w : World} {base : Nat} {e : TypeId} {size : Nat} {v : Value} {n : Nat} {xs : List Value} (h : OwnX w base e size v n xs) : ∃ pa cap, v = .slice pa n cap := by
  rcases h.2 with ⟨rfl, rfl⟩ | ⟨g, cap, cur, fz, rfl, _⟩
  · exact ⟨none, 0, rfl⟩
  · exact ⟨_, cap, rfl⟩
theorem OwnX.wrote {w w' : World} {B : Nat} {T : TypeId → Prop} {base : Nat} {e : TypeId} {size : Nat} {v : Value} {n : Nat} {xs : List Value} (h : OwnX w base e size v n xs) (k : Wrote B T w w') (ht : ¬ T e) : OwnX w' base e size v n xs := by
  refine ⟨h.1, ?_⟩
  rcases h.2 with h | ⟨g, cap, cur, fz, h1, h2, h3, h4⟩
  · exact .inl h
  · exact .inr ⟨g, cap, cur, fz, h1, h2, k.keeps h3 ht, h4⟩
theorem OwnX.ext {w w' : World} {base : Nat} {e : TypeId} {size : Nat} {v : Value} {n : Nat} {xs : List Value} (h : OwnX w base e size v n xs) (k : Ext w w') : OwnX w' base e size v n xs :=
  h.wrote (Wrote.ext (B := 0) (T := fun _ => False) k) id
theorem OwnX.cells {w : World} {base : Nat} {e : TypeId} {size : Nat} {v : Value} {n : Nat} {xs : List Value} (h : OwnX w base e size v n xs) {g : Nat} (hg : v.ownBlock = some g) : ∀ j u, xs[j]? = some u → w.cell? ((⟨g, 0, none⟩ : Addr).add j) = some u := by
  intro j u hu
  rcases h.2 with ⟨rfl, _⟩ | ⟨g', cap, cur, fz, rfl, _, hgg, _, _, _, _, htake⟩
  · simp [Value.ownBlock] at hg
  · simp [Value.ownBlock] at hg
    subst hg
    rw [add_eq, Nat.zero_add]
    rw [← htake, List.getElem?_take] at hu
    split at hu
    · simp only [World.cell?, hgg]; simpa using hu
    · cases hu
theorem setCells_row (g : Nat) (t : TypeId) (fz : Nat × Nat) : ∀ (vs : List Value) (o : Nat) (cur : Array Value) (w : World), w.heap[g]? = some (.cells cur t fz) → o + vs.length ≤ cur.size → (w.setCells g o vs).heap[g]? = some (.cells (cur.toList.take o ++ vs ++ cur.toList.drop (o + vs.length)).toArray t fz)
  | [], o, cur, w, h, _ => by simpa [World.setCells] using h
  | v :: vs, o, cur, w, h, hl => by
    have h2 : (w.setCell ⟨g, o, none⟩ v).heap[g]? = some (.cells (cur.setIfInBounds o v) t fz) := by simp [World.setCell, Array.getElem?_modify, h]
    have ih := setCells_row g t fz vs (o + 1) (cur.setIfInBounds o v) _ h2 (by simp at hl ⊢; omega)
    show ((w.setCell ⟨g, o, none⟩ v).setCells g (o + 1) vs).heap[g]? = _
    rw [ih]
    simp only [Array.toList_setIfInBounds]
    have hlt : o < cur.toList.length := by simp at hl ⊢; omega
    congr 3
    have e1 : (List.take o cur.toList ++ [cur.toList[o]]).set o v = List.take o cur.toList ++ [v] := by
      have h3 : (List.take o cur.toList).length = o := by rw [List.length_take]; omega
      rw [List.set_append]
      simp [h3]
    rw [List.take_set, List.drop_set_of_lt (by omega), List.take_succ_eq_append_getElem hlt, e1]
    simp
    congr 1; omega
theorem setCells_kept (g : Nat) : ∀ (vs : List Value) (o : Nat) (w : World), Kept (· = g) w (w.setCells g o vs)
  | [], _, w => Kept.refl _ w
  | v :: vs, o, w => (kept_setCell w ⟨g, o, none⟩ v).trans (setCells_kept g vs (o + 1) _) fun _ _ h => h
theorem notFrozen {w : World} {g : Nat} {cur : Array Value} {e : TypeId} {fz : Nat × Nat} (hg : w.heap[g]? = some (.cells cur e fz)) (hf : fz.2 = 0 ∨ cur.size ≤ fz.1) {j : Nat} (hj : j < cur.size) : w.frozen? ⟨g, j, none⟩ = false := by
  obtain ⟨lo, hi⟩ := fz
  simp only [World.frozen?, hg]
  simp at hf ⊢
  omega
theorem OwnX.room {w : World} {base : Nat} {e : TypeId} {size n m g cap : Nat} {xs news : List Value} {cur : Array Value} {fz : Nat × Nat} (hx : xs.length = n * size) (hb : base ≤ g) (hg : w.heap[g]? = some (.cells cur e fz)) (hf : fz.2 = 0 ∨ cur.size ≤ fz.1) (hcm : cap ≤ maxLen) (hcs : cur.size = cap * size) (ht : cur.toList.take (n * size) = xs) (hl : news.length = m * size) (hroom : n + m ≤ cap) :
    OwnX (w.setCells g (n * size) news) base e size (.slice (some ⟨g, 0, none⟩) (n + m) cap) (n + m) (xs ++ news) := by
  have hfit : n * size + news.length ≤ cur.size := by rw [hl, hcs, ← Nat.add_mul]; exact Nat.mul_le_mul_right _ hroom
  have hlen : (xs ++ news).length = (n + m) * size := by rw [List.length_append, hx, hl, Nat.add_mul]
  refine ⟨hlen, .inr ⟨g, cap, _, fz, rfl, hb, setCells_row g e fz news _ cur w hg hfit, ?_, hroom, hcm, ?_, ?_⟩⟩
  · refine hf.imp id fun h => ?_
    simp; omega
  · simp; omega
  · simp only [List.append_assoc]
    rw [ht, ← List.append_assoc, ← hlen]; exact List.take_left
/-- append of elements that lie somewhere. -/
theorem run_append_X {P : Program} (w : World) (t ty : TypeId) (base : Nat) (e : TypeId) (i : TypeInfo) (z : Value) (size bytes : Nat) (ht : P.underlying t = some (.slice e)) (hi : P.info? e = some i) (hz : i.zero = some z)
    (hsize : i.size = size) (hby : i.bytes = bytes) (hzs : z.cells.size = size) (hsz : 0 < size)
    (v : Value) (n : Nat) (xs : List Value) (hown : OwnX w base e size v n xs)
    (ad : Addr) (m c : Nat) (news : List Value) (hl : news.length = m * size) (hnews : ∀ j u, news[j]? = some u → w.cell? (ad.add j) = some u) (h1 : ∀ u ∈ news, u.oneCell' = true)
    (hm : 0 < m) (h63 : n + m ≤ maxLen) (hbytes : (n + m) * bytes ≤ 140737488355328) (hbase : base ≤ w.heap.size) :
    ∃ g cap w', (Builtin.append_ #[t, t] ty #[v, .slice (some ad) m c]).run P w = .ok (.slice (some ⟨g, 0, none⟩) (n + m) cap) w' ∧
      OwnX w' base e size (.slice (some ⟨g, 0, none⟩) (n + m) cap) (n + m) (xs ++ news) ∧ w.grownBy w' v.ownBlock := by
  rcases hown.2 with ⟨rfl, rfl⟩ | ⟨g0, cap0, cur, fz, rfl, hbg, hg, hf, hnc, hcm, hcs, htake⟩
  · obtain ⟨g, cap, w', hr, h2, h3, _⟩ := run_append_lies (P := P) w t ty base e i z size bytes ht hi hz hsize hby hzs hsz _ _ xs ⟨hown.1, .inl ⟨rfl, rfl⟩⟩ ad m c news hl hnews h1 hm h63 hbytes hbase w.heap.size rfl
    exact ⟨g, cap, w', hr, ownX_of h2, h3⟩
  · subst hsize
    subst hby
    by_cases hroom : n + m ≤ cap0
    · have hfit : n * i.size + news.length ≤ cur.size := by rw [hl, hcs, ← Nat.add_mul]; exact Nat.mul_le_mul_right _ hroom
      have hr := run_append_room_cells (P := P) w t ty e i ht hi g0 0 n cap0 ad m c news hl hnews h1 hroom (fun j hj => by simp [World.cell?, hg]; omega) (fun j hj => notFrozen hg hf (by omega))
      rw [Nat.zero_add] at hr
      have hk := setCells_kept g0 news (n * i.size) w
      exact ⟨g0, cap0, _, hr, OwnX.room hown.1 hbg hg hf hcm hcs htake hl hroom, ⟨hk.os, hk.tape, hk.output, hk.size, fun k hk' hn => hk.block k hk' fun e => hn (by simp [Value.ownBlock, e])⟩⟩
    · obtain ⟨v', w', hr, ho, hgr⟩ := run_append_arg_grows (P := P) w t ty e i z i.size i.bytes ht hi hz rfl rfl hzs hsz ⟨g0, 0, none⟩ n cap0 xs hown.1 (hown.cells rfl) ad m c news hl hnews (by omega) h63 hbytes
      obtain ⟨ho1, ho2⟩ := ho
      rcases ho2 with ⟨_, h0⟩ | ⟨g, cap, cur', rfl, hb', rest⟩
      · omega
      · exact ⟨g, cap, w', hr, ownX_of ⟨ho1, .inr ⟨g, cap, cur', rfl, by omega, rest⟩⟩, ⟨hgr.os, hgr.tape, hgr.output, hgr.size, fun k hk _ => hgr.block k hk (by simp)⟩⟩
theorem wpList_append_X {P : Program} (w : World) {ops : Array Oper} {rest : List Oper} {o : Oper} {a : Act} {Q : Exit → Act → World → Prop} (hgd : o.guard = none) (s x : Operand) (t : TypeId)
    (ho : o.op = .call { callee := .builtin .append, args := #[s, x], argTypes := #[t, t] })
    (base : Nat) (e : TypeId) (i : TypeInfo) (z : Value) (size bytes : Nat) (ht : P.underlying t = some (.slice e)) (hi : P.info? e = some i) (hz : i.zero = some z)
    (hsize : i.size = size) (hby : i.bytes = bytes) (hzs : z.cells.size = size) (hsz : 0 < size)
    (v : Value) (n : Nat) (xs : List Value) (hs : a.eval s = v) (hown : OwnX w base e size v n xs)
    (ad : Addr) (m c : Nat) (news : List Value) (hx : a.eval x = .slice (some ad) m c) (hl : news.length = m * size) (hnews : ∀ j u, news[j]? = some u → w.cell? (ad.add j) = some u) (h1 : ∀ u ∈ news, u.oneCell' = true)
    (hm : 0 < m) (h63 : n + m ≤ maxLen) (hbytes : (n + m) * bytes ≤ 140737488355328) (hbase : base ≤ w.heap.size)
    (h : ∀ g cap w', OwnX w' base e size (.slice (some ⟨g, 0, none⟩) (n + m) cap) (n + m) (xs ++ news) → w.grownBy w' v.ownBlock → wpList P ops Q rest (a.put o.dst (.slice (some ⟨g, 0, none⟩) (n + m) cap)) w') :
    wpList P ops Q (o :: rest) a w := by
  refine wpList_plain hgd fun K hK => ?_
  obtain ⟨g, cap, w', hr, h2, h3⟩ := run_append_X (P := P) w t o.type base e i z size bytes ht hi hz hsize hby hzs hsz v n xs hown ad m c news hl hnews h1 hm h63 hbytes hbase
  unfold Oper.wp execOp
  simp only [ho, resolve, invoke, builtin, Sem.run_bind, Sem.run_pure, Result.andThen_ok, List.map_toArray, List.map_cons, List.map_nil, hs, hx, hr]
  exact hK _ _ (h g cap w' h2 h3)
/-- append of a string's bytes. -/
theorem run_append_XS {P : Program} (w : World) (t u ty : TypeId) (base : Nat) (e : TypeId) (i : TypeInfo) (ht : P.underlying t = some (.slice e)) (hu : P.underlying u = some .string) (hi : P.info? e = some i) (hz : i.zero = some (.int .u8 0)) (hsize : i.size = 1) (hby : i.bytes = 1)
    (v : Value) (n : Nat) (xs : List Value) (hown : OwnX w base e 1 v n xs) (s : ByteArray) (h63 : n + s.size ≤ maxLen) (hbytes : n + s.size ≤ 140737488355328) (hbase : base ≤ w.heap.size) :
    ∃ v' w', (Builtin.append_ #[t, u] ty #[v, .string s]).run P w = .ok v' w' ∧ OwnX w' base e 1 v' (n + s.size) (xs ++ Lib.strCells s) ∧ w.grownBy w' v.ownBlock := by
  rcases hown.2 with ⟨rfl, rfl⟩ | ⟨g0, cap0, cur, fz, rfl, hbg, hg, hf, hnc, hcm, hcs, htake⟩
  · obtain ⟨v', w', hr, h2, h3, _⟩ := Lib.run_append_own_string (P := P) w base t u ty e i ht hu hi hz hsize hby _ _ xs ⟨hown.1, .inl ⟨rfl, rfl⟩⟩ s h63 hbytes hbase
    exact ⟨v', w', hr, ownX_of h2, h3⟩
  · by_cases hroom : n + s.size ≤ cap0
    · have hfc := Lib.run_firstCells_string (P := P) w 1 s
      have hst := run_storeCells_cells (P := P) g0 n (Lib.strCells s) 0 w (fun j hj => by rw [Lib.strCells_length] at hj; simp [World.cell?, hg]; omega) (fun j hj => by rw [Lib.strCells_length] at hj; exact notFrozen hg hf (by omega)) (Lib.strCells_oneCell s)
      simp only [Nat.add_zero] at hst
      have hr : (Builtin.append_ #[t, u] ty #[.slice (some ⟨g0, 0, none⟩) n cap0, .string s]).run P w = .ok (.slice (some ⟨g0, 0, none⟩) (n + s.size) cap0) (w.setCells g0 n (Lib.strCells s)) := by
        simp [Builtin.append_, run_underlying ht, run_underlying hu, sizeOf, typeInfo, hi, hsize, Builtin.lenOf, hroom, hfc, Addr.add_lit, hst]
      have hk := setCells_kept g0 (Lib.strCells s) n w
      have hO := OwnX.room (m := s.size) hown.1 hbg hg hf hcm hcs htake (by rw [Lib.strCells_length, Nat.mul_one]) hroom
      rw [Nat.mul_one] at hO
      exact ⟨_, _, hr, hO, ⟨hk.os, hk.tape, hk.output, hk.size, fun k hk' hn => hk.block k hk' fun e => hn (by simp [Value.ownBlock, e])⟩⟩
    · have hxl : xs.length = n := by simpa using hown.1
      have hr := Lib.run_append_grow_string (P := P) w t u ty e i (.int .u8 0) ht hu hi hz ⟨g0, 0, none⟩ n cap0 xs (by rw [hsize]; simpa using hxl) (hown.cells rfl) s (by omega) (by unfold maxLen at h63; omega) (by rw [hby]; exact growslice_fits (by omega) (by omega))
      have hge := grownCap_ge w (n + s.size) cap0 e
      have hcm2 := grownCap_le_maxLen w (n + s.size) cap0 e h63
      have hlen : (xs ++ Lib.strCells s).length = (n + s.size) * 1 := by rw [List.length_append, hxl, Lib.strCells_length, Nat.mul_one]
      refine ⟨_, _, hr, ⟨hlen, .inr ⟨w.heap.size, _, _, (0, 0), rfl, hbase, heap_alloc_new w.drew _, .inl rfl, hge, hcm2, ?_, ?_⟩⟩, ⟨rfl, rfl, rfl, by simp, fun k hk _ => Below.heap_alloc w.drew _ k hk⟩⟩
      · have hz1 : (Value.int IntKind.u8 0).cells.size = 1 := rfl
        simp only [Array.size_append, List.size_toArray, size_zeroCells, hz1, hxl, Lib.strCells_length]
        omega
      · simp only [Array.toList_append]
        rw [List.append_assoc, ← List.append_assoc, ← hlen]
        exact List.take_left
theorem wpList_append_XS {P : Program} (w : World) {ops : Array Oper} {rest : List Oper} {o : Oper} {a : Act} {Q : Exit → Act → World → Prop} (hgd : o.guard = none) (sl x : Operand) (t u : TypeId)
    (ho : o.op = .call { callee := .builtin .append, args := #[sl, x], argTypes := #[t, u] })
    (base : Nat) (e : TypeId) (i : TypeInfo) (ht : P.underlying t = some (.slice e)) (hu : P.underlying u = some .string) (hi : P.info? e = some i) (hz : i.zero = some (.int .u8 0)) (hsize : i.size = 1) (hby : i.bytes = 1)
    (v : Value) (n : Nat) (xs : List Value) (hs : a.eval sl = v) (hown : OwnX w base e 1 v n xs) (s : ByteArray) (hx : a.eval x = .string s) (h63 : n + s.size ≤ maxLen) (hbytes : n + s.size ≤ 140737488355328) (hbase : base ≤ w.heap.size)
    (h : ∀ v' w', OwnX w' base e 1 v' (n + s.size) (xs ++ Lib.strCells s) → w.grownBy w' v.ownBlock → wpList P ops Q rest (a.put o.dst v') w') : wpList P ops Q (o :: rest) a w := by
  refine wpList_plain hgd fun K hK => ?_
  obtain ⟨v', w', hr, h2, h3⟩ := run_append_XS (P := P) w t u o.type base e i ht hu hi hz hsize hby v n xs hown s h63 hbytes hbase
  unfold Oper.wp execOp
  simp only [ho, resolve, invoke, builtin, Sem.run_bind, Sem.run_pure, Result.andThen_ok, List.map_toArray, List.map_cons, List.map_nil, hs, hx, hr]
  exact hK _ _ (h v' w' h2 h3)
theorem OwnX.conv {w : World} {B g n cap : Nat} {l : List UInt8} (hn : l.length = n) (h : OwnX w B 5 1 (.slice (some ⟨g, 0, none⟩) n cap) n (cellsB l)) :
    (convert 45 9 (.slice (some ⟨g, 0, none⟩) n cap)).run Tryz.prog w = .ok (.string ⟨l.toArray⟩) w := by
  refine conv_bytes w g 0 n cap l hn fun j hj => ?_
  have := h.cells (g := g) rfl j (.int .u8 ((l[j]?.getD 0).toNat : Int)) (by simp [cellsB, hj])
  rw [add_eq] at this
  exact this
theorem Wrote.grownX {B : Nat} {T : TypeId → Prop} {w w1 w2 : World} {e : TypeId} {size : Nat} {v : Value} {n : Nat} {xs : List Value} (h : Wrote B T w w1) (hown : OwnX w1 B e size v n xs) (ht : T e) (hg : w1.grownBy w2 v.ownBlock) : Wrote B T w w2 := by
  refine h.trans ⟨hg.os, hg.tape, hg.output, hg.size, fun k hk hd => hg.block k hk ?_⟩
  rintro hv
  rcases hown.2 with ⟨rfl, _⟩ | ⟨g, cap, cur, fz, rfl, hb, hh, _⟩
  · simp [Value.ownBlock] at hv
  · simp [Value.ownBlock] at hv
    subst hv
    rcases hd with hd | hd
    · omega
    · exact hd _ _ _ hh ht
end Go.Proofs.YtfmcgdglalljgaaGreatDoor

namespace Go.Proofs.YtfmcgdglalljgaaGreatDoor
open Go.RowKit

theorem byteAt {s : ByteArray} {a : Nat} (h : a < s.size) : ∃ c : UInt8, s.data.toList[a]? = some c ∧ s[a] = c := ⟨s[a], by rw [List.getElem?_eq_getElem (by simpa using h)]; rfl, rfl⟩

set_option maxHeartbeats 400000 in
theorem notLine (c : UInt8) (w : World) :
    Calls Tryz.prog 95 #[.int .u8 (c.toNat : Int)] w fun e w' => e = .returned (.bool (c != 10)) ∧ w' = w := by
  go_enter Tryz.func95, Tryz.ntmps95
  go_wp2
  go_ret
  refine ⟨retB ?_, rfl⟩
  by_cases h : c = 10
  · subst h; rfl
  · have h2 : (c != 10) = true := by simpa using h
    rw [h2]
    have h3 : c.toNat ≠ 10 := fun e => h (UInt8.toNat_inj.1 e)
    simp; omega
set_option maxRecDepth 100000 in
set_option maxHeartbeats 800000 in
theorem behindLine (s : ByteArray) (a : Nat) (w : World) (hs : s.size ≤ 1000000) (ha : a ≤ s.size) :
    Calls Tryz.prog 94 #[.string s, .int .i64 a, .func (.func 95) #[] #[]] w fun e w' => e = .returned (.int .i64 (behindL (fun b => b != 10) s.data.toList a)) ∧ w' = w := by
  have hlen := hide (show s.data.toList.length = s.size from Array.length_toList)
  go_enter Tryz.func94, Tryz.ntmps94
  go_wp2_with fail
  go_loop [1] (fun i => ∃ k : Nat, k ≤ s.size ∧ i = .int .i64 k ∧ Hid (behindL (fun b => b != 10) s.data.toList a = behindL (fun b => b != 10) s.data.toList k)) (fun i => s.size - (intOf i).toNat)
  case atStart => exact ⟨a, ha, rfl, rfl⟩
  case round =>
    obtain ⟨k, hk, rfl, hb⟩ := hrel
    by_cases hlt : k < s.size
    · obtain ⟨c, hc1, hc2⟩ := byteAt hlt
      replace hc1 := hide hc1
      go_wp2_with fail
      refine (notLine c w).mono ?_
      rintro e w' ⟨rfl, rfl⟩
      cases hp : (fun b => b != 10) c
      · have hfin := hide (hb.out.trans (behind_no (p := (fun b => b != 10)) (fun d hd => by rw [hc1.out] at hd; cases hd; exact hp)))
        go_wp2_with fail
        go_ret
        exact ⟨by rw [hfin.out]; rfl, rfl⟩
      · have hn := hide (hb.out.trans (behind_yes (p := (fun b => b != 10)) hc1.out hp))
        go_wp2_with fail
        go_round
        case rel => exact ⟨k + 1, by omega, by go_num, hn⟩
        case measure => simp [intOf]; omega
    · have hfin := hide (hb.out.trans (behind_no (p := (fun b => b != 10)) (fun d hd => absurd (List.getElem?_eq_some_iff.1 hd).1 (by rw [hlen.out]; omega))))
      go_wp2_with fail
      go_ret
      exact ⟨by rw [hfin.out]; rfl, rfl⟩

set_option maxRecDepth 100000 in
set_option maxHeartbeats 800000 in
theorem behindWord (s : ByteArray) (a : Nat) (w : World) (hs : s.size ≤ 1000000) (ha : a ≤ s.size) :
    Calls Tryz.prog 94 #[.string s, .int .i64 a, .func (.func 128) #[] #[]] w fun e w' => e = .returned (.int .i64 (behindL (fun b => isInnerB b.toNat) s.data.toList a)) ∧ w' = w := by
  have hlen := hide (show s.data.toList.length = s.size from Array.length_toList)
  go_enter Tryz.func94, Tryz.ntmps94
  go_wp2_with fail
  go_loop [1] (fun i => ∃ k : Nat, k ≤ s.size ∧ i = .int .i64 k ∧ Hid (behindL (fun b => isInnerB b.toNat) s.data.toList a = behindL (fun b => isInnerB b.toNat) s.data.toList k)) (fun i => s.size - (intOf i).toNat)
  case atStart => exact ⟨a, ha, rfl, rfl⟩
  case round =>
    obtain ⟨k, hk, rfl, hb⟩ := hrel
    by_cases hlt : k < s.size
    · obtain ⟨c, hc1, hc2⟩ := byteAt hlt
      replace hc1 := hide hc1
      go_wp2_with fail
      refine (isWordByte c.toNat w).mono ?_
      rintro e w' ⟨rfl, rfl⟩
      cases hp : (fun b => isInnerB b.toNat) c
      · have hfin := hide (hb.out.trans (behind_no (p := (fun b => isInnerB b.toNat)) (fun d hd => by rw [hc1.out] at hd; cases hd; exact hp)))
        go_wp2_with fail
        go_ret
        exact ⟨by rw [hfin.out]; rfl, rfl⟩
      · have hn := hide (hb.out.trans (behind_yes (p := (fun b => isInnerB b.toNat)) hc1.out hp))
        go_wp2_with fail
        go_round
        case rel => exact ⟨k + 1, by omega, by go_num, hn⟩
        case measure => simp [intOf]; omega
    · have hfin := hide (hb.out.trans (behind_no (p := (fun b => isInnerB b.toNat)) (fun d hd => absurd (List.getElem?_eq_some_iff.1 hd).1 (by rw [hlen.out]; omega))))
      go_wp2_with fail
      go_ret
      exact ⟨by rw [hfin.out]; rfl, rfl⟩

set_option maxRecDepth 100000 in
set_option maxHeartbeats 800000 in
theorem behindDigits (s : ByteArray) (a : Nat) (w : World) (hs : s.size ≤ 1000000) (ha : a ≤ s.size) :
    Calls Tryz.prog 94 #[.string s, .int .i64 a, .func (.func 98) #[] #[]] w fun e w' => e = .returned (.int .i64 (behindL (fun b => isDigitB b.toNat) s.data.toList a)) ∧ w' = w := by
  have hlen := hide (show s.data.toList.length = s.size from Array.length_toList)
  go_enter Tryz.func94, Tryz.ntmps94
  go_wp2_with fail
  go_loop [1] (fun i => ∃ k : Nat, k ≤ s.size ∧ i = .int .i64 k ∧ Hid (behindL (fun b => isDigitB b.toNat) s.data.toList a = behindL (fun b => isDigitB b.toNat) s.data.toList k)) (fun i => s.size - (intOf i).toNat)
  case atStart => exact ⟨a, ha, rfl, rfl⟩
  case round =>
    obtain ⟨k, hk, rfl, hb⟩ := hrel
    by_cases hlt : k < s.size
    · obtain ⟨c, hc1, hc2⟩ := byteAt hlt
      replace hc1 := hide hc1
      go_wp2_with fail
      refine (isDigit c.toNat w).mono ?_
      rintro e w' ⟨rfl, rfl⟩
      cases hp : (fun b => isDigitB b.toNat) c
      · have hfin := hide (hb.out.trans (behind_no (p := (fun b => isDigitB b.toNat)) (fun d hd => by rw [hc1.out] at hd; cases hd; exact hp)))
        go_wp2_with fail
        go_ret
        exact ⟨by rw [hfin.out]; rfl, rfl⟩
      · have hn := hide (hb.out.trans (behind_yes (p := (fun b => isDigitB b.toNat)) hc1.out hp))
        go_wp2_with fail
        go_round
        case rel => exact ⟨k + 1, by omega, by go_num, hn⟩
        case measure => simp [intOf]; omega
    · have hfin := hide (hb.out.trans (behind_no (p := (fun b => isDigitB b.toNat)) (fun d hd => absurd (List.getElem?_eq_some_iff.1 hd).1 (by rw [hlen.out]; omega))))
      go_wp2_with fail
      go_ret
      exact ⟨by rw [hfin.out]; rfl, rfl⟩

end Go.Proofs.YtfmcgdglalljgaaGreatDoor

namespace Go.Proofs.YtfmcgdglalljgaaGreatDoor
open Go.RowKit

set_option maxHeartbeats 800000 in
theorem signKindP (c : UInt8) (w : World) :
    Calls Tryz.prog 101 #[.int .u8 (c.toNat : Int)] w fun e w' => e = .returned (.int .i64 (signKind c)) ∧ w' = w := by
  have key : ∀ d : UInt8, c = d ↔ (c.toNat : Int) = (d.toNat : Int) := fun d => ⟨fun h => by rw [h], fun h => UInt8.toNat_inj.1 (by omega)⟩
  have H : Hid (signKind c = if (c.toNat : Int) = 123 then 4 else if (c.toNat : Int) = 125 then 5 else if (c.toNat : Int) = 91 then 6 else if (c.toNat : Int) = 93 then 7 else if (c.toNat : Int) = 61 then 8 else if (c.toNat : Int) = 44 then 9 else if (c.toNat : Int) = 46 then 10 else 0) := by
    show _ = _
    unfold signKind
    simp only [key]; rfl
  generalize (c.toNat : Int) = z at *
  clear key
  go_enter Tryz.func101, Tryz.ntmps101
  go_wp2
  all_goals
    go_ret
    refine ⟨retI ?_, rfl⟩
    rw [H.out]
    simp_all

set_option maxRecDepth 100000 in
set_option maxHeartbeats 1600000 in
theorem skipP (s : ByteArray) (a : Nat) (w : World) (hs : s.size ≤ 1000000) (ha : a ≤ s.size) :
    Calls Tryz.prog 65 #[.string s, .int .i64 a] w fun e w' => e = .returned (.int .i64 (skipL s.data.toList a)) ∧ w' = w := by
  have hlen := hide (show s.data.toList.length = s.size from Array.length_toList)
  go_enter Tryz.func65, Tryz.ntmps65
  go_wp2_with fail
  go_loop [1] (fun i => ∃ k : Nat, k ≤ s.size ∧ i = .int .i64 k ∧ Hid (skipL s.data.toList a = skipL s.data.toList k)) (fun i => s.size - (intOf i).toNat)
  case atStart => exact ⟨a, ha, rfl, rfl⟩
  case round =>
    obtain ⟨k, hk, rfl, hb⟩ := hrel
    by_cases hlt : k < s.size
    · obtain ⟨c, hc1, hc2⟩ := byteAt hlt
      have hst := hide (hb.out.trans (skip_step hc1))
      have hn := hide (behind_le (p := fun b => b != 10) (l := s.data.toList) (a := k) (by rw [hlen.out]; exact hk))
      have hyes := hide (fun (h : c = 35) => behind_yes (p := fun b => b != 10) hc1 (by rw [h]; decide))
      have hn2 := hide (behind_le (p := fun b => b != 10) (l := s.data.toList) (a := k + 1) (by rw [hlen.out]; omega))
      replace hc1 := hide hc1
      have hcall := hide (behindLine s k w hs hk)
      have key : ∀ d : UInt8, ((c.toNat : Int) == (d.toNat : Int)) = decide (c = d) := fun d => by
        by_cases h : c = d
        · subst h; simp
        · rw [byte_ne h]; simp [h]
      have b32 := key 32; have b9 := key 9; have b10 := key 10; have b35 := key 35
      rw [show ((32 : UInt8).toNat : Int) = 32 from rfl] at b32
      rw [show ((9 : UInt8).toNat : Int) = 9 from rfl] at b9
      rw [show ((10 : UInt8).toNat : Int) = 10 from rfl] at b10
      rw [show ((35 : UInt8).toNat : Int) = 35 from rfl] at b35
      clear key
      by_cases hbl : isBlank c = true
      · have h1 : Hid (skipL s.data.toList a = skipL s.data.toList (k + 1)) := by show _ = _; have := hst.out; rw [if_pos hbl] at this; exact this
        have hz : c = 32 ∨ c = 9 ∨ c = 10 := by
          simp only [isBlank, Bool.or_eq_true, beq_iff_eq] at hbl
          rcases hbl with (h | h) | h
          · exact .inl h
          · exact .inr (.inl h)
          · exact .inr (.inr h)
        replace hbl := hide hbl
        rcases hz with h | h | h
        · rw [decide_eq_true h] at b32
          replace h := hide h; replace b9 := hide b9; replace b10 := hide b10; replace b35 := hide b35
          go_wp2_with fail
          go_round
          case rel => exact ⟨k + 1, by omega, by go_num, h1⟩
          case measure => simp [intOf]; omega
        · rw [decide_eq_false (by rw [h]; decide)] at b32
          rw [decide_eq_true h] at b9
          replace h := hide h; replace b10 := hide b10; replace b35 := hide b35
          go_wp2_with fail
          go_round
          case rel => exact ⟨k + 1, by omega, by go_num, h1⟩
          case measure => simp [intOf]; omega
        · rw [decide_eq_false (by rw [h]; decide)] at b32
          rw [decide_eq_false (by rw [h]; decide)] at b9
          rw [decide_eq_true h] at b10
          replace h := hide h; replace b35 := hide b35
          go_wp2_with fail
          go_round
          case rel => exact ⟨k + 1, by omega, by go_num, h1⟩
          case measure => simp [intOf]; omega
      · have hz : ¬ c = 32 ∧ ¬ c = 9 ∧ ¬ c = 10 := by
          simp only [isBlank, Bool.or_eq_true, beq_iff_eq, not_or] at hbl
          exact ⟨hbl.1.1, hbl.1.2, hbl.2⟩
        obtain ⟨z1, z2, z3⟩ := hz
        rw [decide_eq_false z1] at b32
        rw [decide_eq_false z2] at b9
        rw [decide_eq_false z3] at b10
        replace z1 := hide z1; replace z2 := hide z2; replace z3 := hide z3
        by_cases h35 : c = 35
        · have h1 : Hid (skipL s.data.toList a = skipL s.data.toList (behindL (fun b => b != 10) s.data.toList k)) := by show _ = _; have := hst.out; rw [if_neg hbl, if_pos h35] at this; exact this
          have hgt : k < behindL (fun b => b != 10) s.data.toList k ∧ behindL (fun b => b != 10) s.data.toList k ≤ s.size := by
            have := hyes.out h35; have := hn2.out; rw [hlen.out] at this; omega
          rw [decide_eq_true h35] at b35
          generalize behindL (fun b => b != 10) s.data.toList k = m at *
          obtain ⟨g1, g2⟩ := hgt
          replace hbl := hide hbl; replace h35 := hide h35
          clear hyes hn hn2 hst
          go_wp2_with fail
          refine hcall.out.mono ?_
          rintro e w' ⟨rfl, rfl⟩
          go_wp2_with fail
          go_round
          case rel => exact ⟨m, g2, rfl, h1⟩
          case measure => simp [intOf]; omega
        · have h1 : Hid (skipL s.data.toList a = k) := by show _ = _; have := hst.out; rw [if_neg hbl, if_neg h35] at this; exact this
          rw [decide_eq_false h35] at b35
          replace hbl := hide hbl; replace h35 := hide h35
          clear hyes hn hn2 hst
          go_wp2_with fail
          go_ret
          exact ⟨by rw [h1.out]; rfl, rfl⟩
    · have hfin := hide (hb.out.trans (skip_end (by rw [hlen.out]; omega)))
      go_wp2_with fail
      go_ret
      exact ⟨by rw [hfin.out]; rfl, rfl⟩
end Go.Proofs.YtfmcgdglalljgaaGreatDoor
