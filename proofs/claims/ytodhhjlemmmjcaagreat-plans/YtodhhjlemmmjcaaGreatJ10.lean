/-
  Rows of our own of whose frozen stretch nothing lies within them: those that a conversion has made too.
-/
/-
  Numbers and texts as bytes, behind a row of our own: what the functions that write them answer.
-/
/-
  The reader of bytes: what its methods answer.
-/
import Derived.Test.YtodhhjlemmmjcaaGreatJ4
import Derived.Test.YtodhhjlemmmjcaaGreatJ6
import Derived.ArgAppend
import Derived.Lib.AppendStr
import Derived.Deep.DeepMust
import Derived.Laws.BitsAllLaws
namespace Go.Proofs.YtodhhjlemmmjcaaGreat
open Go.RowKit

/-- A row of our own; what is frozen of it lies behind its end. -/
def OwnX (w : World) (base : Nat) (e : TypeId) (size : Nat) (v : Value) (n : Nat) (xs : List Value) : Prop :=
  xs.length = n * size ∧ ((v = .slice none 0 0 ∧ n = 0) ∨ ∃ (g cap : Nat) (cur : Array Value) (fz : Nat × Nat), v = .slice (some ⟨g, 0, none⟩) n cap ∧ base ≤ g ∧ w.heap[g]? = some (.cells cur e fz) ∧ (fz.2 = 0 ∨ cur.size ≤ fz.1) ∧ n ≤ cap ∧ cap ≤ maxLen ∧ cur.size = cap * size ∧ cur.toList.take (n * size) = xs)
theorem ownX_of {w : World} {base : Nat} {e : TypeId} {size : Nat} {v : Value} {n : Nat} {xs : List Value} (h : w.ownsRow base e size v n xs) : OwnX w base e size v n xs := by
  refine ⟨h.1, ?_⟩
  rcases h.2 with h | ⟨g, cap, cur, h1, h2, h3, h4⟩
  · exact .inl h
  · exact .inr ⟨g, cap, cur, (0, 0), h1, h2, h3, .inl rfl, h4⟩
theorem OwnX.form {w : World} {base : Nat} {e : TypeId} {size : Nat} {v : Value} {n : Nat} {xs : List Value} (h : OwnX w base e size v n xs) : ∃ pa cap, v = .slice pa n cap := by
  rcases h.2 with ⟨rfl, rfl⟩ | ⟨g, cap, cur, fz, rfl, _⟩
  · exact ⟨none, 0, rfl⟩
  · exact ⟨_, cap, rfl⟩
theorem OwnX.wrote {w w' : World} {B : Nat} {T : TypeId → Prop} {base : Nat} {e : TypeId} {size : Nat} {v : Value} {n : Nat} {xs : List Value} (h : OwnX w base e size v n xs) (k : Wrote B T w w') (ht : ¬ T e) : OwnX w' base e size v n xs := by
  refine ⟨h.1, ?_⟩
  rcases h.2 with h | ⟨g, cap, cur, fz, h1, h2, h3, h4⟩
  · exact .inl h
  · exact .inr ⟨g, cap, cur, fz, h1, h2, k.keeps h3 ht, h4⟩
theorem OwnX.ext {w w' : World} {base : Nat} {e : TypeId} {size : Nat} {v : Value} {n : Nat} {xs : List Value} (h : OwnX w base e size v n xs) (k : Ext w w') : OwnX w' base e size v n xs :=
  h.wrote (Wrote.ext (B := 0) (T := fun _ => False) k) id
theorem OwnX.cells {w : World} {base : Nat} {e : TypeId} {size : Nat} {v : Value} {n : Nat} {xs : List Value} (h : OwnX w base e size v n xs) {g : Nat} (hg : v.ownBlock = some g) : ∀ j u, xs[j]? = some u → w.cell? ((⟨g, 0, none⟩ : Addr).add j) = some u := by
  intro j u hu
  rcases h.2 with ⟨rfl, _⟩ | ⟨g', cap, cur, fz, rfl, _, hgg, _, _, _, _, htake⟩
  · simp [Value.ownBlock] at hg
  · simp [Value.ownBlock] at hg
    subst hg
    rw [add_eq, Nat.zero_add]
    rw [← htake, List.getElem?_take] at hu
    split at hu
    · simp only [World.cell?, hgg]; simpa using hu
    · cases hu
theorem setCells_row (g : Nat) (t : TypeId) (fz : Nat × Nat) : ∀ (vs : List Value) (o : Nat) (cur : Array Value) (w : World), w.heap[g]? = some (.cells cur t fz) → o + vs.length ≤ cur.size → (w.setCells g o vs).heap[g]? = some (.cells (cur.toList.take o ++ vs ++ cur.toList.drop (o + vs.length)).toArray t fz)
  | [], o, cur, w, h, _ => by simpa [World.setCells] using h
  | v :: vs, o, cur, w, h, hl => by
    have h2 : (w.setCell ⟨g, o, none⟩ v).heap[g]? = some (.cells (cur.setIfInBounds o v) t fz) := by simp [World.setCell, Array.getElem?_modify, h]
    have ih := setCells_row g t fz vs (o + 1) (cur.setIfInBounds o v) _ h2 (by simp at hl ⊢; omega)
    show ((w.setCell ⟨g, o, none⟩ v).setCells g (o + 1) vs).heap[g]? = _
    rw [ih]
    simp only [Array.toList_setIfInBounds]
    have hlt : o < cur.toList.length := by simp at hl ⊢; omega
    congr 3
    have e1 : (List.take o cur.toList ++ [cur.toList[o]]).set o v = List.take o cur.toList ++ [v] := by
      have h3 : (List.take o cur.toList).length = o := by rw [List.length_take]; omega
      rw [List.set_append]
      simp [h3]
    rw [List.take_set, List.drop_set_of_lt (by omega), List.take_succ_eq_append_getElem hlt, e1]
    simp
    congr 1; omega
theorem setCells_kept (g : Nat) : ∀ (vs : List Value) (o : Nat) (w : World), Kept (· = g) w (w.setCells g o vs)
  | [], _, w => Kept.refl _ w
  | v :: vs, o, w => (kept_setCell w ⟨g, o, none⟩ v).trans (setCells_kept g vs (o + 1) _) fun _ _ h => h
theorem notFrozen {w : World} {g : Nat} {cur : Array Value} {e : TypeId} {fz : Nat × Nat} (hg : w.heap[g]? = some (.cells cur e fz)) (hf : fz.2 = 0 ∨ cur.size ≤ fz.1) {j : Nat} (hj : j < cur.size) : w.frozen? ⟨g, j, none⟩ = false := by
  obtain ⟨lo, hi⟩ := fz
  simp only [World.frozen?, hg]
  simp at hf ⊢
  omega
theorem OwnX.room {w : World} {base : Nat} {e : TypeId} {size n m g cap : Nat} {xs news : List Value} {cur : Array Value} {fz : Nat × Nat} (hx : xs.length = n * size) (hb : base ≤ g) (hg : w.heap[g]? = some (.cells cur e fz)) (hf : fz.2 = 0 ∨ cur.size ≤ fz.1) (hcm : cap ≤ maxLen) (hcs : cur.size = cap * size) (ht : cur.toList.take (n * size) = xs) (hl : news.length = m * size) (hroom : n + m ≤ cap) :
    OwnX (w.setCells g (n * size) news) base e size (.slice (some ⟨g, 0, none⟩) (n + m) cap) (n + m) (xs ++ news) := by
  have hfit : n * size + news.length ≤ cur.size := by rw [hl, hcs, ← Nat.add_mul]; exact Nat.mul_le_mul_right _ hroom
  have hlen : (xs ++ news).length = (n + m) * size := by rw [List.length_append, hx, hl, Nat.add_mul]
  refine ⟨hlen, .inr ⟨g, cap, _, fz, rfl, hb, setCells_row g e fz news _ cur w hg hfit, ?_, hroom, hcm, ?_, ?_⟩⟩
  · refine hf.imp id fun h => ?_
    simp; omega
  · simp; omega
  · simp only [List.append_assoc]
    rw [ht, ← List.append_assoc, ← hlen]; exact List.take_left
/-- append of elements that lie somewhere. -/
theorem run_append_X {P : Program} (w : World) (t ty : TypeId) (base : Nat) (e : TypeId) (i : TypeInfo) (z : Value) (size bytes : Nat) (ht : P.underlying t = some (.slice e)) (hi : P.info? e = some i) (hz : i.zero = some z)
    (hsize : i.size = size) (hby : i.bytes = bytes) (hzs : z.cells.size = size) (hsz : 0 < size)
    (v : Value) (n : Nat) (xs : List Value) (hown : OwnX w base e size v n xs)
    (ad : Addr) (m c : Nat) (news : List Value) (hl : news.length = m * size) (hnews : ∀ j u, news[j]? = some u → w.cell? (ad.add j) = some u) (h1 : ∀ u ∈ news, u.oneCell' = true)
    (hm : 0 < m) (h63 : n + m ≤ maxLen) (hbytes : (n + m) * bytes ≤ 140737488355328) (hbase : base ≤ w.heap.size) :
    ∃ g cap w', (Builtin.append_ #[t, t] ty #[v, .slice (some ad) m c]).run P w = .ok (.slice (some ⟨g, 0, none⟩) (n + m) cap) w' ∧
      OwnX w' base e size (.slice (some ⟨g, 0, none⟩) (n + m) cap) (n + m) (xs ++ news) ∧ w.grownBy w' v.ownBlock := by
  rcases hown.2 with ⟨rfl, rfl⟩ | ⟨g0, cap0, cur, fz, rfl, hbg, hg, hf, hnc, hcm, hcs, htake⟩
  · obtain ⟨g, cap, w', hr, h2, h3, _⟩ := run_append_lies (P := P) w t ty base e i z size bytes ht hi hz hsize hby hzs hsz _ _ xs ⟨hown.1, .inl ⟨rfl, rfl⟩⟩ ad m c news hl hnews h1 hm h63 hbytes hbase w.heap.size rfl
    exact ⟨g, cap, w', hr, ownX_of h2, h3⟩
  · subst hsize
    subst hby
    by_cases hroom : n + m ≤ cap0
    · have hfit : n * i.size + news.length ≤ cur.size := by rw [hl, hcs, ← Nat.add_mul]; exact Nat.mul_le_mul_right _ hroom
      have hr := run_append_room_cells (P := P) w t ty e i ht hi g0 0 n cap0 ad m c news hl hnews h1 hroom (fun j hj => by simp [World.cell?, hg]; omega) (fun j hj => notFrozen hg hf (by omega))
      rw [Nat.zero_add] at hr
      have hk := setCells_kept g0 news (n * i.size) w
      exact ⟨g0, cap0, _, hr, OwnX.room hown.1 hbg hg hf hcm hcs htake hl hroom, ⟨hk.os, hk.tape, hk.output, hk.size, fun k hk' hn => hk.block k hk' fun e => hn (by simp [Value.ownBlock, e])⟩⟩
    · obtain ⟨v', w', hr, ho, hgr⟩ := run_append_arg_grows (P := P) w t ty e i z i.size i.bytes ht hi hz rfl rfl hzs hsz ⟨g0, 0, none⟩ n cap0 xs hown.1 (hown.cells rfl) ad m c news hl hnews (by omega) h63 hbytes
      obtain ⟨ho1, ho2⟩ := ho
      rcases ho2 with ⟨_, h0⟩ | ⟨g, cap, cur', rfl, hb', rest⟩
      · omega
      · exact ⟨g, cap, w', hr, ownX_of ⟨ho1, .inr ⟨g, cap, cur', rfl, by omega, rest⟩⟩, ⟨hgr.os, hgr.tape, hgr.output, hgr.size, fun k hk _ => hgr.block k hk (by simp)⟩⟩
theorem wpList_append_X {P : Program} (w : World) {ops : Array Oper} {rest : List Oper} {o : Oper} {a : Act} {Q : Exit → Act → World → Prop} (hgd : o.guard = none) (s x : Operand) (t : TypeId)
    (ho : o.op = .call { callee := .builtin .append, args := #[s, x], argTypes := #[t, t] })
    (base : Nat) (e : TypeId) (i : TypeInfo) (z : Value) (size bytes : Nat) (ht : P.underlying t = some (.slice e)) (hi : P.info? e = some i) (hz : i.zero = some z)
    (hsize : i.size = size) (hby : i.bytes = bytes) (hzs : z.cells.size = size) (hsz : 0 < size)
    (v : Value) (n : Nat) (xs : List Value) (hs : a.eval s = v) (hown : OwnX w base e size v n xs)
    (ad : Addr) (m c : Nat) (news : List Value) (hx : a.eval x = .slice (some ad) m c) (hl : news.length = m * size) (hnews : ∀ j u, news[j]? = some u → w.cell? (ad.add j) = some u) (h1 : ∀ u ∈ news, u.oneCell' = true)
    (hm : 0 < m) (h63 : n + m ≤ maxLen) (hbytes : (n + m) * bytes ≤ 140737488355328) (hbase : base ≤ w.heap.size)
    (h : ∀ g cap w', OwnX w' base e size (.slice (some ⟨g, 0, none⟩) (n + m) cap) (n + m) (xs ++ news) → w.grownBy w' v.ownBlock → wpList P ops Q rest (a.put o.dst (.slice (some ⟨g, 0, none⟩) (n + m) cap)) w') :
    wpList P ops Q (o :: rest) a w := by
  refine wpList_plain hgd fun K hK => ?_
  obtain ⟨g, cap, w', hr, h2, h3⟩ := run_append_X (P := P) w t o.type base e i z size bytes ht hi hz hsize hby hzs hsz v n xs hown ad m c news hl hnews h1 hm h63 hbytes hbase
  unfold Oper.wp execOp
  simp only [ho, resolve, invoke, builtin, Sem.run_bind, Sem.run_pure, Result.andThen_ok, List.map_toArray, List.map_cons, List.map_nil, hs, hx, hr]
  exact hK _ _ (h g cap w' h2 h3)
/-- append of a string's bytes. -/
theorem run_append_XS {P : Program} (w : World) (t u ty : TypeId) (base : Nat) (e : TypeId) (i : TypeInfo) (ht : P.underlying t = some (.slice e)) (hu : P.underlying u = some .string) (hi : P.info? e = some i) (hz : i.zero = some (.int .u8 0)) (hsize : i.size = 1) (hby : i.bytes = 1)
    (v : Value) (n : Nat) (xs : List Value) (hown : OwnX w base e 1 v n xs) (s : ByteArray) (h63 : n + s.size ≤ maxLen) (hbytes : n + s.size ≤ 140737488355328) (hbase : base ≤ w.heap.size) :
    ∃ v' w', (Builtin.append_ #[t, u] ty #[v, .string s]).run P w = .ok v' w' ∧ OwnX w' base e 1 v' (n + s.size) (xs ++ Lib.strCells s) ∧ w.grownBy w' v.ownBlock := by
  rcases hown.2 with ⟨rfl, rfl⟩ | ⟨g0, cap0, cur, fz, rfl, hbg, hg, hf, hnc, hcm, hcs, htake⟩
  · obtain ⟨v', w', hr, h2, h3, _⟩ := Lib.run_append_own_string (P := P) w base t u ty e i ht hu hi hz hsize hby _ _ xs ⟨hown.1, .inl ⟨rfl, rfl⟩⟩ s h63 hbytes hbase
    exact ⟨v', w', hr, ownX_of h2, h3⟩
  · by_cases hroom : n + s.size ≤ cap0
    · have hfc := Lib.run_firstCells_string (P := P) w 1 s
      have hst := run_storeCells_cells (P := P) g0 n (Lib.strCells s) 0 w (fun j hj => by rw [Lib.strCells_length] at hj; simp [World.cell?, hg]; omega) (fun j hj => by rw [Lib.strCells_length] at hj; exact notFrozen hg hf (by omega)) (Lib.strCells_oneCell s)
      simp only [Nat.add_zero] at hst
      have hr : (Builtin.append_ #[t, u] ty #[.slice (some ⟨g0, 0, none⟩) n cap0, .string s]).run P w = .ok (.slice (some ⟨g0, 0, none⟩) (n + s.size) cap0) (w.setCells g0 n (Lib.strCells s)) := by
        simp [Builtin.append_, run_underlying ht, run_underlying hu, sizeOf, typeInfo, hi, hsize, Builtin.lenOf, hroom, hfc, Addr.add_lit, hst]
      have hk := setCells_kept g0 (Lib.strCells s) n w
      have hO := OwnX.room (m := s.size) hown.1 hbg hg hf hcm hcs htake (by rw [Lib.strCells_length, Nat.mul_one]) hroom
      rw [Nat.mul_one] at hO
      exact ⟨_, _, hr, hO, ⟨hk.os, hk.tape, hk.output, hk.size, fun k hk' hn => hk.block k hk' fun e => hn (by simp [Value.ownBlock, e])⟩⟩
    · have hxl : xs.length = n := by simpa using hown.1
      have hr := Lib.run_append_grow_string (P := P) w t u ty e i (.int .u8 0) ht hu hi hz ⟨g0, 0, none⟩ n cap0 xs (by rw [hsize]; simpa using hxl) (hown.cells rfl) s (by omega) (by unfold maxLen at h63; omega) (by rw [hby]; exact growslice_fits (by omega) (by omega))
      have hge := grownCap_ge w (n + s.size) cap0 e
      have hcm2 := grownCap_le_maxLen w (n + s.size) cap0 e h63
      have hlen : (xs ++ Lib.strCells s).length = (n + s.size) * 1 := by rw [List.length_append, hxl, Lib.strCells_length, Nat.mul_one]
      refine ⟨_, _, hr, ⟨hlen, .inr ⟨w.heap.size, _, _, (0, 0), rfl, hbase, heap_alloc_new w.drew _, .inl rfl, hge, hcm2, ?_, ?_⟩⟩, ⟨rfl, rfl, rfl, by simp, fun k hk _ => Below.heap_alloc w.drew _ k hk⟩⟩
      · have hz1 : (Value.int IntKind.u8 0).cells.size = 1 := rfl
        simp only [Array.size_append, List.size_toArray, size_zeroCells, hz1, hxl, Lib.strCells_length]
        omega
      · simp only [Array.toList_append]
        rw [List.append_assoc, ← List.append_assoc, ← hlen]
        exact List.take_left
theorem wpList_append_XS {P : Program} (w : World) {ops : Array Oper} {rest : List Oper} {o : Oper} {a : Act} {Q : Exit → Act → World → Prop} (hgd : o.guard = none) (sl x : Operand) (t u : TypeId)
    (ho : o.op = .call { callee := .builtin .append, args := #[sl, x], argTypes := #[t, u] })
    (base : Nat) (e : TypeId) (i : TypeInfo) (ht : P.underlying t = some (.slice e)) (hu : P.underlying u = some .string) (hi : P.info? e = some i) (hz : i.zero = some (.int .u8 0)) (hsize : i.size = 1) (hby : i.bytes = 1)
    (v : Value) (n : Nat) (xs : List Value) (hs : a.eval sl = v) (hown : OwnX w base e 1 v n xs) (s : ByteArray) (hx : a.eval x = .string s) (h63 : n + s.size ≤ maxLen) (hbytes : n + s.size ≤ 140737488355328) (hbase : base ≤ w.heap.size)
    (h : ∀ v' w', OwnX w' base e 1 v' (n + s.size) (xs ++ Lib.strCells s) → w.grownBy w' v.ownBlock → wpList P ops Q rest (a.put o.dst v') w') : wpList P ops Q (o :: rest) a w := by
  refine wpList_plain hgd fun K hK => ?_
  obtain ⟨v', w', hr, h2, h3⟩ := run_append_XS (P := P) w t u o.type base e i ht hu hi hz hsize hby v n xs hown s h63 hbytes hbase
  unfold Oper.wp execOp
  simp only [ho, resolve, invoke, builtin, Sem.run_bind, Sem.run_pure, Result.andThen_ok, List.map_toArray, List.map_cons, List.map_nil, hs, hx, hr]
  exact hK _ _ (h v' w' h2 h3)
/-- What []byte(s) gives. -/
theorem ownX_bytes (w : World) (e : TypeId) (s : ByteArray) (hs : s.size ≤ maxLen) : OwnX (Lib.bytesWorld w e s) w.heap.size e 1 (.slice (some ⟨w.heap.size, 0, none⟩) s.size (grownCap w s.size 0 e)) s.size (cellsB s.data.toList) := by
  have hge := grownCap_ge w s.size 0 e
  have hl : s.data.toList.length = s.size := Array.length_toList
  have hsz : (Lib.bytesCells w e s).size = grownCap w s.size 0 e * 1 := by
    have : s.data.size = s.size := rfl
    simp [Lib.bytesCells]; omega
  refine ⟨by rw [cellsB_length, hl, Nat.mul_one], .inr ⟨w.heap.size, _, _, _, rfl, Nat.le_refl _, Lib.bytesWorld_at_new w e s, .inr (Nat.le_refl _), hge, grownCap_le_maxLen w s.size 0 e hs, hsz, ?_⟩⟩
  have : s.data.size = s.size := rfl
  simp only [Lib.bytesCells, Array.toList_append, Array.toList_map]
  rw [List.take_left' (by simp)]
  simp [cellsB]
theorem OwnX.conv {w : World} {B g n cap : Nat} {l : List UInt8} (hn : l.length = n) (h : OwnX w B 5 1 (.slice (some ⟨g, 0, none⟩) n cap) n (cellsB l)) :
    (convert 127 9 (.slice (some ⟨g, 0, none⟩) n cap)).run Tryz.prog w = .ok (.string ⟨l.toArray⟩) w := by
  refine conv_bytes w g 0 n cap l hn fun j hj => ?_
  have := h.cells (g := g) rfl j (.int .u8 ((l[j]?.getD 0).toNat : Int)) (by simp [cellsB, hj])
  rw [add_eq] at this
  exact this
theorem Wrote.grownX {B : Nat} {T : TypeId → Prop} {w w1 w2 : World} {e : TypeId} {size : Nat} {v : Value} {n : Nat} {xs : List Value} (h : Wrote B T w w1) (hown : OwnX w1 B e size v n xs) (ht : T e) (hg : w1.grownBy w2 v.ownBlock) : Wrote B T w w2 := by
  refine h.trans ⟨hg.os, hg.tape, hg.output, hg.size, fun k hk hd => hg.block k hk ?_⟩
  rintro hv
  rcases hown.2 with ⟨rfl, _⟩ | ⟨g, cap, cur, fz, rfl, hb, hh, _⟩
  · simp [Value.ownBlock] at hv
  · simp [Value.ownBlock] at hv
    subst hv
    rcases hd with hd | hd
    · omega
    · exact hd _ _ _ hh ht
end Go.Proofs.YtodhhjlemmmjcaaGreat

namespace Go.Proofs.YtodhhjlemmmjcaaGreat
open Go.RowKit

/-- A number of so many bytes, the highest first. -/
def bigL : Nat → Int → List UInt8
  | 0, _ => []
  | k + 1, n => UInt8.ofNat (n / 2 ^ (8 * k) % 256).toNat :: bigL k n
theorem bigL_len : ∀ (k : Nat) (n : Int), (bigL k n).length = k
  | 0, _ => rfl
  | k + 1, n => by rw [bigL, List.length_cons, bigL_len k n]

/-- A row of bytes of our own. -/
structure Buf (B : Nat) (w : World) (v : Value) (l : List UInt8) : Prop where
  own : OwnX w B 5 1 v l.length (cellsB l)
  base : B ≤ w.heap.size
/-- Only rows of bytes from B on have turned. -/
abbrev Wrote8 (B : Nat) (w w' : World) : Prop := Wrote B (· = 5) w w'
theorem Buf.nil (w : World) : Buf w.heap.size w (.slice none 0 0) [] := ⟨ownX_of (World.ownsRow_nil _ _ _ _), Nat.le_refl _⟩
theorem Buf.step {B : Nat} {acc news : List UInt8} {v : Value} {wr w1 : World} {m g cap : Nat} (h : Buf B wr v acc) (hm : news.length = m)
    (hown : OwnX w1 B 5 1 (.slice (some ⟨g, 0, none⟩) (acc.length + m) cap) (acc.length + m) (cellsB acc ++ cellsB news)) {o : Obj} (hgrow : (wr.alloc o).grownBy w1 v.ownBlock) : Buf B w1 (.slice (some ⟨g, 0, none⟩) (acc.length + m) cap) (acc ++ news) := by
  have hl : (acc ++ news).length = acc.length + m := by rw [List.length_append, hm]
  refine ⟨by rw [hl, cellsB_append]; exact hown, ?_⟩
  have h1 := hgrow.size
  have h2 := h.base
  simp at h1; omega
theorem Buf.form {B : Nat} {w : World} {v : Value} {l : List UInt8} (h : Buf B w v l) : ∃ pa cap, v = .slice pa l.length cap := by
  exact h.own.form
theorem Buf.alloc {B : Nat} {w : World} {v : Value} {l : List UInt8} (h : Buf B w v l) (o : Obj) : Buf B (w.alloc o) v l := ⟨h.own.ext ((Ext.refl w).alloc o), by have := h.base; simp; omega⟩
theorem Buf.ext {B : Nat} {w w' : World} {v : Value} {l : List UInt8} (h : Buf B w v l) (e : Ext w w') : Buf B w' v l :=
  ⟨h.own.ext e, Nat.le_trans h.base e.size⟩
theorem Buf.drew {B : Nat} {w : World} {v : Value} {l : List UInt8} (h : Buf B w v l) : Buf B w.drew v l := h.ext (Ext.refl w).drew
theorem Buf.wrote {B : Nat} {w w1 w2 : World} {v : Value} {l : List UInt8} (h : Buf B w1 v l) (hb : Wrote8 B w w1) {o : Obj} (hg : (w1.alloc o).grownBy w2 v.ownBlock) : Wrote8 B w w2 := (hb.alloc o).grownX (h.own.ext ((Ext.refl w1).alloc o)) rfl hg
/-- string(b). -/
theorem Buf.conv {B : Nat} {w : World} {v : Value} {l : List UInt8} (h : Buf B w v l) (hl : 0 < l.length) : (convert 127 9 v).run Tryz.prog w = .ok (.string ⟨l.toArray⟩) w := by
  rcases h.own.2 with ⟨rfl, h0⟩ | ⟨g, cap, cur, fz, rfl, _⟩
  · omega
  · exact OwnX.conv rfl h.own
/-- What a function answers that has written bytes behind a row of our own. -/
def Wrt (B : Nat) (w : World) (l : List UInt8) (e : Ending) (w' : World) : Prop :=
  ∃ (acc : List UInt8) (pa : Option Addr) (cap : Nat), e = .returned (.slice pa acc.length cap) ∧ Hid (acc = l) ∧ Hid (Buf B w' (.slice pa acc.length cap) acc) ∧ Hid (Wrote8 B w w')
theorem Wrt.mk {B : Nat} {w w' : World} {l : List UInt8} {v : Value} (h : Buf B w' v l) (k : Wrote8 B w w') : Wrt B w l (.returned v) w' := by
  obtain ⟨pa, cap, rfl⟩ := h.form
  exact ⟨l, pa, cap, rfl, rfl, h, k⟩
theorem byte_val {z : Int} (h0 : 0 ≤ z) (h1 : z < 256) : ((UInt8.ofNat z.toNat).toNat : Int) = z := by simp; omega

theorem ownsRow_form' {w : World} {base : Nat} {e : TypeId} {size : Nat} {v : Value} {n : Nat} {xs : List Value} (h : w.ownsRow base e size v n xs) : ∃ pa cap, v = .slice pa n cap := by
  rcases h.2 with ⟨rfl, rfl⟩ | ⟨g, cap, cur, rfl, _⟩
  · exact ⟨none, 0, rfl⟩
  · exact ⟨_, cap, rfl⟩
/-- A text: its length and its bytes. -/
def textL (s : ByteArray) : List UInt8 := bigL 1 s.size ++ s.data.toList
theorem textL_len (s : ByteArray) : (textL s).length = s.size + 1 := by
  have : s.data.toList.length = s.size := Array.length_toList
  rw [textL, List.length_append, bigL_len, this]; omega
theorem strCells_eq (s : ByteArray) : Lib.strCells s = cellsB s.data.toList := by
  simp [Lib.strCells, cellsB]

end Go.Proofs.YtodhhjlemmmjcaaGreat

namespace Go.Proofs.YtodhhjlemmmjcaaGreat
open Go.RowKit

theorem ex_take (s : ByteArray) (n : Nat) : (s.extract 0 n).data.toList = s.data.toList.take n := by
  rw [ByteArray.data_extract]; simp
theorem ex_drop (s : ByteArray) (n : Nat) : (s.extract n s.size).data.toList = s.data.toList.drop n := by
  rw [ByteArray.data_extract]; simp
  rw [List.take_of_length_le]
  rw [List.length_drop]
  have : s.data.toList.length = s.size := Array.length_toList
  simp at this ⊢
theorem ba_len (s : ByteArray) : s.data.toList.length = s.size := Array.length_toList

/-- The number of bytes, the highest first. -/
def numN (l : List UInt8) : Nat := l.foldl (fun n b => n * 256 + b.toNat) 0
theorem i64_or (m c : Nat) (hm : m < 4294967296) (hc : c < 256) : bits .or .i64 ((m : Int) * 256) (c : Int) = ((m * 256 + c : Nat) : Int) := by
  have e : ∀ n : Nat, n < 9223372036854775808 → (BitVec.ofInt 64 (n : Int)).toNat = n := fun n hn => by
    rw [BitVec.ofInt_natCast, BitVec.toNat_ofNat]; exact Nat.mod_eq_of_lt (by omega)
  have e1 : ((m : Int) * 256) = ((m * 256 : Nat) : Int) := by omega
  rw [e1]
  show IntKind.i64.wrap ((BitVec.ofInt 64 ((m * 256 : Nat) : Int) ||| BitVec.ofInt 64 (c : Int)).toNat : Int) = _
  rw [BitVec.toNat_or, e _ (by omega), e c (by omega), IntKind.wrap_i64]
  have h := Nat.shiftLeft_add_eq_or_of_lt (i := 8) (b := c) (by omega) m
  rw [Nat.shiftLeft_eq] at h
  have h2 : m * 2 ^ 8 = m * 256 := by rfl
  rw [h2] at h
  rw [← h]
  omega
theorem num_lt : ∀ (k : Nat) (l : List UInt8), l.length ≤ k → numN l < 256 ^ k
  | 0, l, h => by
    obtain rfl : l = [] := List.eq_nil_of_length_eq_zero (by omega)
    decide
  | k + 1, l, h => by
    rcases List.eq_nil_or_concat l with rfl | ⟨l', c, hl⟩
    · exact Nat.pow_pos (by decide)
    · rw [List.concat_eq_append] at hl
      subst hl
      have h1 := num_lt k l' (by simp at h; omega)
      have h2 := c.toNat_lt
      simp only [numN, List.foldl_append, List.foldl_cons, List.foldl_nil] at h1 ⊢
      rw [Nat.pow_succ]; omega

end Go.Proofs.YtodhhjlemmmjcaaGreat
