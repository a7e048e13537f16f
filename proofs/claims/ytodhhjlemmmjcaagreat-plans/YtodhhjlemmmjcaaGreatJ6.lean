/-
  Memory of our own: which blocks a part of the program may have turned; copy, and stores of four cells and of two into a row.
-/
/-
  The marks: what the functions that make them answer.
-/
/-
  Plain facts on the order of texts: Go's '<' and '==' on strings against strings.Compare's number.
-/
/-
  A cell far from one that is set.
-/
import Derived.Test.YtodhhjlemmmjcaaGreatJ2
import Derived.Laws.CopyRow
import Derived.Laws.MakeOwn
import Derived.Test.YtodhhjlemmmjcaaGreatJ3
import Derived.Test.YtodhhjlemmmjcaaGreatJ1
namespace Go.Proofs.YtodhhjlemmmjcaaGreat
open Go.RowKit

/-- Of the blocks that were there those alone may have turned of which D speaks. -/
structure Kept (D : Nat → Prop) (w w' : World) : Prop where
  os : w'.os = w.os
  tape : w'.tape = w.tape
  output : w'.output = w.output
  size : w.heap.size ≤ w'.heap.size
  block : ∀ k, k < w.heap.size → ¬ D k → w'.heap[k]? = w.heap[k]?
theorem Kept.refl (D : Nat → Prop) (w : World) : Kept D w w := ⟨rfl, rfl, rfl, Nat.le_refl _, fun _ _ _ => rfl⟩
theorem Kept.mono {D D' : Nat → Prop} {w w' : World} (h : Kept D w w') (hd : ∀ k, k < w.heap.size → D k → D' k) : Kept D' w w' :=
  ⟨h.os, h.tape, h.output, h.size, fun k hk hn => h.block k hk fun hD => hn (hd k hk hD)⟩
theorem Kept.trans {D D' : Nat → Prop} {a b c : World} (h : Kept D a b) (g : Kept D' b c) (hd : ∀ k, k < a.heap.size → D' k → D k) : Kept D a c :=
  ⟨g.os.trans h.os, g.tape.trans h.tape, g.output.trans h.output, Nat.le_trans h.size g.size, fun k hk hn => (g.block k (Nat.lt_of_lt_of_le hk h.size) fun hD => hn (hd k hk hD)).trans (h.block k hk hn)⟩
theorem Ext.kept {w w' : World} (h : Ext w w') (D : Nat → Prop) : Kept D w w' := ⟨Below.os h, Below.tape h, Below.output h, Ext.size h, fun k hk _ => Below.block h k hk⟩
theorem Kept.ext {D : Nat → Prop} {w w' : World} (h : Kept D w w') (hd : ∀ k, k < w.heap.size → ¬ D k) : Ext w w' := ⟨h.os, h.tape, h.output, h.size, fun k hk => h.block k hk (hd k hk)⟩
/-- What was there in w0 is as it was, if only what was made since has turned. -/
theorem Ext.since {D : Nat → Prop} {w0 w w' : World} (h : Ext w0 w) (k : Kept D w w') (hd : ∀ j, D j → w0.heap.size ≤ j) : Ext w0 w' :=
  ⟨k.os.trans (Below.os h), k.tape.trans (Below.tape h), k.output.trans (Below.output h), Nat.le_trans (Ext.size h) k.size, fun j hj => (k.block j (Nat.lt_of_lt_of_le hj (Ext.size h)) fun hD => by have := hd j hD; omega).trans (Below.block h j hj)⟩
theorem Kept.cell {D : Nat → Prop} {w w' : World} (h : Kept D w w') {p : Addr} {v : Value} (hv : w.cell? p = some v) (hn : ¬ D p.block) : w'.cell? p = some v := by
  rw [World.cell?_of_block (h.block _ (World.block_lt_of_cell? w p hv) hn)]; exact hv
theorem Kept.heap {D : Nat → Prop} {w w' : World} (h : Kept D w w') {k : Nat} {o : Obj} (hv : w.heap[k]? = some o) (hn : ¬ D k) : w'.heap[k]? = some o := by
  rw [h.block _ (Array.getElem?_eq_some_iff.1 hv).1 hn]; exact hv
theorem ext_heap {w w' : World} {k : Nat} {o : Obj} (h : Ext w w') (hk : w.heap[k]? = some o) : w'.heap[k]? = some o := by
  rw [Below.block h _ (Array.getElem?_eq_some_iff.1 hk).1]; exact hk
theorem kept_setCell (w : World) (p : Addr) (v : Value) : Kept (· = p.block) w (w.setCell p v) :=
  ⟨rfl, rfl, rfl, by simp [World.setCell], fun k _ hk => Below.heap_setCell _ _ _ _ hk⟩
theorem kept_setRow (w : World) (g : Nat) (cs : Array Value) : Kept (· = g) w (w.setRow g cs) :=
  ⟨rfl, rfl, rfl, by simp [World.setRow], fun k _ hk => setRow_other w g k cs hk⟩

/-! copy of elements of some cells -/
theorem run_copy_rows {P : Program} (w : World) (dT sT ty elem : TypeId) (g dLen dCap : Nat) (a : Addr) (sLen sCap sz : Nat) (cur : Array Value) (t : TypeId) (cs : List Value)
    (hu : P.underlying dT = some (.slice elem)) (hs : (P.info? elem).map (·.size) = some sz)
    (hg : w.heap[g]? = some (.cells cur t (0, 0))) (hn : cs.length = Nat.min sLen dLen * sz)
    (hsrc : ∀ j v, cs[j]? = some v → w.cell? (a.add j) = some v) (hfit : cs.length ≤ cur.size) (h1 : ∀ v ∈ cs, v.oneCell' = true) :
    (Builtin.copy_ #[dT, sT] ty #[.slice (some ⟨g, 0, none⟩) dLen dCap, .slice (some a) sLen sCap]).run P w =
      .ok (goInt (Nat.min sLen dLen)) (w.setRow g (cs ++ cur.toList.drop cs.length).toArray) := by
  have hl := run_loadCells_list (P := P) w a cs hsrc
  have hst := run_storeCells_at P g 0 t cs 0 cur w hg (by simpa using hfit) h1
  simp only [Nat.zero_add, List.take_zero, List.nil_append, Nat.add_zero] at hst
  cases hq : P.info? elem with
  | none => simp [hq] at hs
  | some i =>
    have hi : i.size = sz := by simpa [hq] using hs
    simp [Builtin.copy_, run_underlying hu, Builtin.lenOf, Builtin.firstCells, sizeOf, typeInfo, hq, hi, ← hn, hl, hst]
theorem run_copy_rows_none {P : Program} (w : World) (dT sT ty elem : TypeId) (g : Addr) (dLen dCap : Nat) (a : Option Addr) (sCap sz : Nat)
    (hu : P.underlying dT = some (.slice elem)) (hs : (P.info? elem).map (·.size) = some sz) :
    (Builtin.copy_ #[dT, sT] ty #[.slice (some g) dLen dCap, .slice a 0 sCap]).run P w = .ok (goInt 0) w := by
  cases hq : P.info? elem with
  | none => simp [hq] at hs
  | some i =>
    cases a with
    | none => simp [Builtin.copy_, run_underlying hu, Builtin.lenOf, Builtin.firstCells, sizeOf, typeInfo, hq, storeCells]
    | some a =>
      have h0 := run_loadCells_list (P := P) w a [] (by simp)
      simp at h0
      simp [Builtin.copy_, run_underlying hu, Builtin.lenOf, Builtin.firstCells, sizeOf, typeInfo, hq, storeCells, h0]

/-- copy, at an operation of a plain region: the row holds what was copied, then what it held; all else is as it was. -/
theorem wpList_copy_rows {P : Program} {w : World} {ops : Array Oper} {rest : List Oper} {o : Oper} {a : Act} {Q : Exit → Act → World → Prop} (hgd : o.guard = none) (d s : Operand) (dT sT : TypeId)
    (ho : o.op = .call { callee := .builtin .copy, args := #[d, s], argTypes := #[dT, sT] }) (elem : TypeId) (sz : Nat) (hu : P.underlying dT = some (.slice elem)) (hsz : (P.info? elem).map (·.size) = some sz)
    (g dLen dCap : Nat) (sp : Option Addr) (sLen sCap : Nat) (hd : a.eval d = .slice (some ⟨g, 0, none⟩) dLen dCap) (hs : a.eval s = .slice sp sLen sCap) (hle : sLen ≤ dLen)
    (cur : List Value) (t : TypeId) (hg : w.heap[g]? = some (.cells cur.toArray t (0, 0))) (cs : List Value) (hn : cs.length = sLen * sz)
    (hsrc : sLen = 0 ∨ ∃ b off, sp = some ⟨b, off, none⟩ ∧ ∀ j v, cs[j]? = some v → w.cell? ⟨b, off + j, none⟩ = some v) (hfit : cs.length ≤ cur.length) (h1 : ∀ v ∈ cs, v.oneCell' = true)
    (h : ∀ w', w'.heap[g]? = some (.cells (cs ++ cur.drop cs.length).toArray t (0, 0)) → Kept (· = g) w w' → w'.heap.size = w.heap.size → wpList P ops Q rest (a.put o.dst (goInt sLen)) w') :
    wpList P ops Q (o :: rest) a w := by
  refine wpList_plain hgd fun K hK => ?_
  by_cases h0 : sLen = 0
  · subst h0
    have hc : cs = [] := List.eq_nil_of_length_eq_zero (by simpa using hn)
    have hrun := run_copy_rows_none (P := P) w dT sT o.type elem ⟨g, 0, none⟩ dLen dCap sp sCap sz hu hsz
    unfold Oper.wp
    simp [execOp, ho, resolve, invoke, builtin, hd, hs, hrun, Result.andThen]
    exact hK _ _ (h w (by rw [hc]; simpa using hg) (Kept.refl _ _) rfl)
  · obtain ⟨b, off, rfl, hsr⟩ := hsrc.resolve_left h0
    have hmin : Nat.min sLen dLen = sLen := Nat.min_eq_left hle
    have hrun := run_copy_rows (P := P) w dT sT o.type elem g dLen dCap ⟨b, off, none⟩ sLen sCap sz cur.toArray t cs hu hsz hg (by rw [hmin]; exact hn) (by
      intro j v hj
      have e : (⟨b, off, none⟩ : Addr).add j = ⟨b, off + j, none⟩ := by unfold Addr.add; split <;> simp_all
      rw [e]; exact hsr j v hj) (by simpa using hfit) h1
    rw [hmin] at hrun
    unfold Oper.wp
    simp [execOp, ho, resolve, invoke, builtin, hd, hs, hrun, Result.andThen]
    refine hK _ _ (h _ ?_ (kept_setRow _ _ _) (by simp [World.setRow]))
    have := setRow_heap w g cur.toArray (cs ++ cur.drop cs.length).toArray t (0, 0) hg
    simpa using this
end Go.Proofs.YtodhhjlemmmjcaaGreat

namespace Go.Proofs.YtodhhjlemmmjcaaGreat
open Go.RowKit

/-- So many digits of a number, the last one first. -/
def digs : Nat → Int → List UInt8
  | 0, _ => []
  | n + 1, k => UInt8.ofNat (48 + k % 10).toNat :: digs n (k / 10)
def markL : List UInt8 := [109, 97, 114, 107]
/-- The k-th mark. -/
def textD (k : Int) : ByteArray := ⟨(markL ++ digs 8 k).toArray⟩

set_option maxRecDepth 100000 in
set_option maxHeartbeats 800000 in
theorem textOf (k : Int) (w : World) (h0 : 0 ≤ k) (h1 : k ≤ 1000000000) :
    Calls Tryz.prog 36 #[.int .i64 k] w fun e w' => e = .returned (.string (textD k)) ∧ Ext w w' := by
  go_enter Tryz.func36, Tryz.ntmps36
  go_wp2
  go_loopw [0, 3, 4] (fun n s i wr => ∃ (j : Nat) (m : Int) (l : List UInt8), j ≤ 8 ∧ 0 ≤ m ∧ m ≤ 1000000000 ∧ i = .int .i64 j ∧ n = .int .i64 m ∧ s = .string ⟨l.toArray⟩ ∧ l.length = 4 + j ∧ Hid (l ++ digs (8 - j) m = markL ++ digs 8 k) ∧ Ext w wr) (fun _ _ i _ => 8 - (intOf i).toNat)
  case atStart => exact ⟨0, k, markL, by omega, h0, h1, rfl, rfl, rfl, rfl, rfl, Ext.refl _⟩
  case round =>
    obtain ⟨j, m, l, hj, hm0, hm1, rfl, rfl, rfl, hl, hd, he⟩ := hrel
    replace he := hide he
    by_cases hlt : j < 8
    · have hcv := fun w => conv_one w (48 + m % 10) (by omega) (by omega)
      have hl' : l.length ≤ 100 := by omega
      replace hl := hide hl
      go_wp2
      go_roundw
      case rel =>
        refine ⟨j + 1, m / 10, l ++ [UInt8.ofNat (48 + m % 10).toNat], by omega, by omega, by omega, by go_num, rfl, ?_, ?_, ?_, he.out.alloc _⟩
        · rw [ba_app2]
        · rw [List.length_append, hl.out]; rfl
        · have := hd.out
          rw [show 8 - j = (8 - (j + 1)) + 1 by omega, digs] at this
          rw [List.append_assoc]; exact this
      case measure => simp [intOf]; omega
    · obtain rfl : j = 8 := by omega
      have hd' : l = markL ++ digs 8 k := by simpa [digs] using hd.out
      replace hd' := hide hd'
      go_wp2
      go_ret
      exact ⟨retS (by rw [unhide hd']; rfl), he.out⟩

set_option maxRecDepth 100000 in
set_option maxHeartbeats 800000 in
theorem resourceOf (k : Int) (w : World) (h0 : 0 ≤ k) (h1 : k ≤ 1000000000) :
    Calls Tryz.prog 16 #[.int .i64 k] w fun e w' => e = .returned (.agg #[.string (textD k), .string ⟨#[]⟩, .slice none 0 0, .slice none 0 0]) ∧ Ext w w' := by
  go_enter Tryz.func16, Tryz.ntmps16
  go_wp2_with fail
  refine (textOf k _ h0 h1).mono ?_
  rintro e w1 ⟨rfl, he1⟩
  have c0 := he1.cells (p := ⟨w.heap.size, 0, none⟩) (v := .string ⟨#[]⟩) (by simp [go_sem])
  have c1 := he1.cells (p := ⟨w.heap.size, 1, none⟩) (v := .string ⟨#[]⟩) (by simp [go_sem])
  have c2 := he1.cells (p := ⟨w.heap.size, 2, none⟩) (v := .slice none 0 0) (by simp [go_sem])
  have c3 := he1.cells (p := ⟨w.heap.size, 3, none⟩) (v := .slice none 0 0) (by simp [go_sem])
  have f0 : ∀ o, w1.frozen? ⟨w.heap.size, o, none⟩ = false := fun o => by rw [Below.frozen he1 (by simp)]; simp [go_sem]
  replace he1 := hide he1
  go_wp2
  refine bodyPost_ret (v := .agg #[.string (textD k), .string ⟨#[]⟩, .slice none 0 0, .slice none 0 0]) (by simp [results, Tryz.results16, go_sem, c0, c1, c2, c3]) rfl ⟨rfl, ?_⟩
  exact (((((((Ext.refl _).alloc _).trans he1.out).setCell (Nat.le_refl _) _).setCell (Nat.le_refl _) _).setCell (Nat.le_refl _) _).setCell (Nat.le_refl _) _)
end Go.Proofs.YtodhhjlemmmjcaaGreat

namespace Go.Proofs.YtodhhjlemmmjcaaGreat
open Go.RowKit

theorem cmpB_self : ∀ a : List UInt8, Lib.compareBytes a a = 0
  | [] => rfl
  | a :: l => by simp [Lib.compareBytes, cmpB_self l]
theorem u8_lt_irrefl (a : UInt8) : ¬ a < a := by simp
theorem cmpB_lt : ∀ a b : List UInt8, Op.bytesLess a b = decide (Lib.compareBytes a b < 0)
  | [], [] => by simp [Op.bytesLess, Lib.compareBytes]
  | [], _ :: _ => by simp [Op.bytesLess, Lib.compareBytes]
  | _ :: _, [] => by simp [Op.bytesLess, Lib.compareBytes]
  | a :: x, b :: y => by
    have ih := cmpB_lt x y
    simp only [Op.bytesLess, Lib.compareBytes]
    by_cases h : a < b
    · simp [h]
    · by_cases h' : b < a
      · have : ¬ a = b := by rintro rfl; exact u8_lt_irrefl _ h'
        simp [h, h', this]
      · have : a = b := UInt8.le_antisymm (UInt8.not_lt.1 h') (UInt8.not_lt.1 h)
        subst this
        simp [h, ih]
theorem cmpB_eq : ∀ a b : List UInt8, (a == b) = decide (Lib.compareBytes a b = 0)
  | [], [] => by simp [Lib.compareBytes]
  | [], _ :: _ => by simp [Lib.compareBytes]
  | _ :: _, [] => by simp [Lib.compareBytes]
  | a :: x, b :: y => by
    have ih := cmpB_eq x y
    simp only [Lib.compareBytes, List.cons_beq_cons]
    by_cases h : a < b
    · have : ¬ a = b := by rintro rfl; exact u8_lt_irrefl _ h
      simp [h, this]
    · by_cases h' : b < a
      · have : ¬ a = b := by rintro rfl; exact u8_lt_irrefl _ h'
        simp [h, h', this]
      · have : a = b := UInt8.le_antisymm (UInt8.not_lt.1 h') (UInt8.not_lt.1 h)
        subst this
        simp [h, ih]
theorem cmpB_bound : ∀ a b : List UInt8, -1 ≤ Lib.compareBytes a b ∧ Lib.compareBytes a b ≤ 1
  | [], [] => by simp [Lib.compareBytes]
  | [], _ :: _ => by simp [Lib.compareBytes]
  | _ :: _, [] => by simp [Lib.compareBytes]
  | a :: x, b :: y => by
    have ih := cmpB_bound x y
    simp only [Lib.compareBytes]
    split
    · omega
    · split
      · omega
      · exact ih
theorem lessS (a b : ByteArray) : Op.bytesLess a.toList b.toList = decide (cmpS a b < 0) := by rw [ByteArray.toList_eq, ByteArray.toList_eq]; exact cmpB_lt _ _
theorem eqS (a b : ByteArray) : (a.toList == b.toList) = decide (cmpS a b = 0) := by rw [ByteArray.toList_eq, ByteArray.toList_eq]; exact cmpB_eq _ _
theorem cmpS_zero {a b : ByteArray} : cmpS a b = 0 ↔ a = b := by
  have h := cmpB_eq a.data.toList b.data.toList
  constructor
  · intro hz
    unfold cmpS at hz
    rw [hz] at h
    have : a.data.toList = b.data.toList := by simpa using h
    cases a; cases b; simpa [Array.toList_inj] using this
  · rintro rfl; exact cmpB_self _
theorem lessI_eq (a b : IDd) : lessI a b = (Op.bytesLess a.kind.toList b.kind.toList || ((a.kind.toList == b.kind.toList) && Op.bytesLess a.name.toList b.name.toList)) := by
  rw [lessS, lessS, eqS]
  unfold lessI cmpI
  by_cases h : cmpS a.kind b.kind = 0
  · simp [h]
  · simp [h]
end Go.Proofs.YtodhhjlemmmjcaaGreat

namespace Go.Proofs.YtodhhjlemmmjcaaGreat
open Go.RowKit

theorem cell_set_far {w : World} {C i b o : Nat} {u : Value} (h : ¬ b = C) : (w.setCell ⟨C, i, none⟩ u).cell? ⟨b, o, none⟩ = w.cell? ⟨b, o, none⟩ := by
  simp [World.setCell, World.cell?, Array.getElem?_modify, show ¬ C = b from fun e => h e.symm]
end Go.Proofs.YtodhhjlemmmjcaaGreat
