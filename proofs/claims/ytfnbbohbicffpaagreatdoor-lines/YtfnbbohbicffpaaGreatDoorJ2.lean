/-
  Memory of our own: which blocks a part of the program may have turned; copy, and stores of four cells and of two into a row.
-/
/-
  A slice of bytes as a string; a new row of one cell and of two.
-/
/-
  The marks: what the functions that make them answer.
-/
/-
  Plain facts on the order of texts: Go's '<' and '==' on strings against strings.Compare's number.
-/
import Derived.Test.YtfnbbohbicffpaaGreatDoorJ1
import Derived.Laws.CopyRow
import Derived.Laws.MakeOwn
namespace Go.Proofs.YtfnbbohbicffpaaGreatDoor
open Go.RowKit

/-- Of the blocks that were there those alone may have turned of which D speaks. -/
structure Kept (D : Nat → Prop) (w w' : World) : Prop where
  os : w'.os = w.os
  tape : w'.tape = w.tape
  output : w'.output = w.output
  size : w.heap.size ≤ w'.heap.size
  block : ∀ k, k < w.heap.size → ¬ D k → w'.heap[k]? = w.heap[k]?
theorem Kept.refl (D : Nat → Prop) (w : World) : Kept D w w := ⟨rfl, rfl, rfl, Nat.le_refl _, fun _ _ _ => rfl⟩
theorem Kept.mono {D D' : Nat → Prop} {w w' : World} (h : Kept D w w') (hd : ∀ k, k < w.heap.size → D k → D' k) : Kept D' w w' :=
  ⟨h.os, h.tape, h.output, h.size, fun k hk hn => h.block k hk fun hD => hn (hd k hk hD)⟩
theorem Kept.trans {D D' : Nat → Prop} {a b c : World} (h : Kept D a b) (g : Kept D' b c) (hd : ∀ k, k < a.heap.size → D' k → D k) : Kept D a c :=
  ⟨g.os.trans h.os, g.tape.trans h.tape, g.output.trans h.output, Nat.le_trans h.size g.size, fun k hk hn => (g.block k (Nat.lt_of_lt_of_le hk h.size) fun hD => hn (hd k hk hD)).trans (h.block k hk hn)⟩
theorem Ext.kept {w w' : World} (h : Ext w w') (D : Nat → Prop) : Kept D w w' := ⟨Below.os h, Below.tape h, Below.output h, Ext.size h, fun k hk _ => Below.block h k hk⟩
theorem Kept.ext {D : Nat → Prop} {w w' : World} (h : Kept D w w') (hd : ∀ k, k < w.heap.size → ¬ D k) : Ext w w' := ⟨h.os, h.tape, h.output, h.size, fun k hk => h.block k hk (hd k hk)⟩
/-- What was there in w0 is as it was, if only what was made since has turned. -/
theorem Ext.since {D : Nat → Prop} {w0 w w' : World} (h : Ext w0 w) (k : Kept D w w') (hd : ∀ j, D j → w0.heap.size ≤ j) : Ext w0 w' :=
  ⟨k.os.trans (Below.os h), k.tape.trans (Below.tape h), k.output.trans (Below.output h), Nat.le_trans (Ext.size h) k.size, fun j hj => (k.block j (Nat.lt_of_lt_of_le hj (Ext.size h)) fun hD => by have := hd j hD; omega).trans (Below.block h j hj)⟩
theorem Kept.cell {D : Nat → Prop} {w w' : World} (h : Kept D w w') {p : Addr} {v : Value} (hv : w.cell? p = some v) (hn : ¬ D p.block) : w'.cell? p = some v := by
  rw [World.cell?_of_block (h.block _ (World.block_lt_of_cell? w p hv) hn)]; exact hv
theorem Kept.heap {D : Nat → Prop} {w w' : World} (h : Kept D w w') {k : Nat} {o : Obj} (hv : w.heap[k]? = some o) (hn : ¬ D k) : w'.heap[k]? = some o := by
  rw [h.block _ (Array.getElem?_eq_some_iff.1 hv).1 hn]; exact hv
theorem ext_heap {w w' : World} {k : Nat} {o : Obj} (h : Ext w w') (hk : w.heap[k]? = some o) : w'.heap[k]? = some o := by
  rw [Below.block h _ (Array.getElem?_eq_some_iff.1 hk).1]; exact hk
theorem kept_setCell (w : World) (p : Addr) (v : Value) : Kept (· = p.block) w (w.setCell p v) :=
  ⟨rfl, rfl, rfl, by simp [World.setCell], fun k _ hk => Below.heap_setCell _ _ _ _ hk⟩
theorem kept_setRow (w : World) (g : Nat) (cs : Array Value) : Kept (· = g) w (w.setRow g cs) :=
  ⟨rfl, rfl, rfl, by simp [World.setRow], fun k _ hk => setRow_other w g k cs hk⟩

/-! copy of elements of some cells -/
end Go.Proofs.YtfnbbohbicffpaaGreatDoor

namespace Go.Proofs.YtfnbbohbicffpaaGreatDoor
open Go.RowKit

theorem ba_app (a b : ByteArray) : a ++ b = ⟨(a.data.toList ++ b.data.toList).toArray⟩ := by
  apply ByteArray.ext; simp
theorem ba_app2 (a b : Array UInt8) : (⟨a⟩ : ByteArray) ++ ⟨b⟩ = ⟨(a.toList ++ b.toList).toArray⟩ := by
  apply ByteArray.ext; simp
theorem add_eq (b off j : Nat) : (⟨b, off, none⟩ : Addr).add j = ⟨b, off + j, none⟩ := by unfold Addr.add; split <;> simp_all
theorem push_fold : ∀ (l : List UInt8) (r : List UInt8), (l.map fun c => (c.toNat : Int)).foldl (fun r n => r.push (UInt8.ofNat n.toNat)) (⟨r.toArray⟩ : ByteArray) = ⟨(r ++ l).toArray⟩
  | [], r => by simp
  | c :: l, r => by
    have e : (⟨r.toArray⟩ : ByteArray).push (UInt8.ofNat ((c.toNat : Int).toNat)) = ⟨(r ++ [c]).toArray⟩ := by
      show (⟨r.toArray.push _⟩ : ByteArray) = _
      rw [Int.toNat_natCast, UInt8.ofNat_toNat]; simp
    rw [List.map_cons, List.foldl_cons, e, push_fold l (r ++ [c])]; simp
/-- string(bs): the bytes that lie there. -/
theorem conv_bytes (w : World) (b off n cap : Nat) (l : List UInt8) (hn : l.length = n) (h : ∀ j, j < l.length → w.cell? ⟨b, off + j, none⟩ = some (.int .u8 ((l[j]?.getD 0).toNat : Int))) :
    (convert 39 9 (.slice (some ⟨b, off, none⟩) n cap)).run Tryz.prog w = .ok (.string ⟨l.toArray⟩) w := by
  subst hn
  rw [run_convert_bytes_string w 39 9 5 _ _ _ Tryz.underlying39 Tryz.underlying5 Tryz.underlying9]
  have hl : (loadCells ⟨b, off, none⟩ l.length).run Tryz.prog w = .ok ((l.map fun c => (c.toNat : Int)).map (Value.int .u8)).toArray w := by
    have := run_loadCells_list (P := Tryz.prog) (w := w) ⟨b, off, none⟩ ((l.map fun c => (c.toNat : Int)).map (Value.int .u8)) (by
      intro j v hj
      rw [add_eq]
      have hlt : j < l.length := by
        have := (List.getElem?_eq_some_iff.1 hj).1; simpa using this
      rw [h j hlt]
      simp [hlt] at hj ⊢
      exact hj)
    simpa using this
  rw [run_bytesToString w _ _ _ _ hl]
  have := push_fold l []
  simp only [List.nil_append] at this
  exact congrArg (fun x => Result.ok (Value.string x) w) this
/-- .. of a row of one byte, just made. -/
theorem conv_one (w : World) (c : Int) (h0 : 0 ≤ c) (h1 : c ≤ 255) :
    (convert 39 9 (.slice (some ⟨w.heap.size, 0, none⟩) 1 1)).run Tryz.prog (w.alloc (.cells #[.int .u8 c] 5)) = .ok (.string ⟨#[UInt8.ofNat c.toNat]⟩) (w.alloc (.cells #[.int .u8 c] 5)) := by
  refine conv_bytes _ _ 0 1 1 [UInt8.ofNat c.toNat] rfl ?_
  intro j hj
  obtain rfl : j = 0 := by simpa using hj
  have : ((UInt8.ofNat c.toNat).toNat : Int) = c := by simp; omega
  simp [go_sem]; omega
end Go.Proofs.YtfnbbohbicffpaaGreatDoor

namespace Go.Proofs.YtfnbbohbicffpaaGreatDoor
open Go.RowKit

/-- So many digits of a number, the last one first. -/
def digs : Nat → Int → List UInt8
  | 0, _ => []
  | n + 1, k => UInt8.ofNat (48 + k % 10).toNat :: digs n (k / 10)
def markL : List UInt8 := [109, 97, 114, 107]
/-- The k-th mark. -/
def textD (k : Int) : ByteArray := ⟨(markL ++ digs 8 k).toArray⟩

end Go.Proofs.YtfnbbohbicffpaaGreatDoor

namespace Go.Proofs.YtfnbbohbicffpaaGreatDoor
open Go.RowKit

theorem cmpB_self : ∀ a : List UInt8, Lib.compareBytes a a = 0
  | [] => rfl
  | a :: l => by simp [Lib.compareBytes, cmpB_self l]
theorem u8_lt_irrefl (a : UInt8) : ¬ a < a := by simp
theorem cmpB_eq : ∀ a b : List UInt8, (a == b) = decide (Lib.compareBytes a b = 0)
  | [], [] => by simp [Lib.compareBytes]
  | [], _ :: _ => by simp [Lib.compareBytes]
  | _ :: _, [] => by simp [Lib.compareBytes]
  | a :: x, b :: y => by
    have ih := cmpB_eq x y
    simp only [Lib.compareBytes, List.cons_beq_cons]
    by_cases h : a < b
    · have : ¬ a = b := by rintro rfl; exact u8_lt_irrefl _ h
      simp [h, this]
    · by_cases h' : b < a
      · have : ¬ a = b := by rintro rfl; exact u8_lt_irrefl _ h'
        simp [h, h', this]
      · have : a = b := UInt8.le_antisymm (UInt8.not_lt.1 h') (UInt8.not_lt.1 h)
        subst this
        simp [h, ih]
theorem cmpS_zero {a b : ByteArray} : cmpS a b = 0 ↔ a = b := by
  have h := cmpB_eq a.data.toList b.data.toList
  constructor
  · intro hz
    unfold cmpS at hz
    rw [hz] at h
    have : a.data.toList = b.data.toList := by simpa using h
    cases a; cases b; simpa [Array.toList_inj] using this
  · rintro rfl; exact cmpB_self _
end Go.Proofs.YtfnbbohbicffpaaGreatDoor
