/-
  Numbers and texts as bytes, behind a row of our own: what the functions that write them answer.
-/
import Derived.Test.YtmgpjbhhlbjahaaOwnX
import Derived.Lib.AppendStr
import Derived.Deep.DeepMust
namespace Go.Proofs.Ytmgpjbhhlbjahaa
open Go.RowKit

/-- A row of bytes of our own. -/
structure Buf (B : Nat) (w : World) (v : Value) (l : List UInt8) : Prop where
  own : OwnX w B 5 1 v l.length (cellsB l)
  base : B ≤ w.heap.size
/-- Only rows of bytes from B on have turned. -/
abbrev Wrote8 (B : Nat) (w w' : World) : Prop := Wrote B (· = 5) w w'
theorem Buf.nil (w : World) : Buf w.heap.size w (.slice none 0 0) [] := ⟨ownX_of (World.ownsRow_nil _ _ _ _), Nat.le_refl _⟩
theorem Buf.step {B : Nat} {acc news : List UInt8} {v : Value} {wr w1 : World} {m g cap : Nat} (h : Buf B wr v acc) (hm : news.length = m)
    (hown : OwnX w1 B 5 1 (.slice (some ⟨g, 0, none⟩) (acc.length + m) cap) (acc.length + m) (cellsB acc ++ cellsB news)) {o : Obj} (hgrow : (wr.alloc o).grownBy w1 v.ownBlock) : Buf B w1 (.slice (some ⟨g, 0, none⟩) (acc.length + m) cap) (acc ++ news) := by
  have hl : (acc ++ news).length = acc.length + m := by rw [List.length_append, hm]
  refine ⟨by rw [hl, cellsB_append]; exact hown, ?_⟩
  have h1 := hgrow.size
  have h2 := h.base
  simp at h1; omega
theorem Buf.form {B : Nat} {w : World} {v : Value} {l : List UInt8} (h : Buf B w v l) : ∃ pa cap, v = .slice pa l.length cap := by
  exact h.own.form
theorem Buf.alloc {B : Nat} {w : World} {v : Value} {l : List UInt8} (h : Buf B w v l) (o : Obj) : Buf B (w.alloc o) v l := ⟨h.own.ext ((Ext.refl w).alloc o), by have := h.base; simp; omega⟩
theorem Buf.ext {B : Nat} {w w' : World} {v : Value} {l : List UInt8} (h : Buf B w v l) (e : Ext w w') : Buf B w' v l :=
  ⟨h.own.ext e, Nat.le_trans h.base e.size⟩
theorem Buf.drew {B : Nat} {w : World} {v : Value} {l : List UInt8} (h : Buf B w v l) : Buf B w.drew v l := h.ext (Ext.refl w).drew
theorem Buf.wrote {B : Nat} {w w1 w2 : World} {v : Value} {l : List UInt8} (h : Buf B w1 v l) (hb : Wrote8 B w w1) {o : Obj} (hg : (w1.alloc o).grownBy w2 v.ownBlock) : Wrote8 B w w2 := (hb.alloc o).grownX (h.own.ext ((Ext.refl w1).alloc o)) rfl hg
/-- string(b). -/
theorem Buf.conv {B : Nat} {w : World} {v : Value} {l : List UInt8} (h : Buf B w v l) (hl : 0 < l.length) : (convert 53 9 v).run Try.prog w = .ok (.string ⟨l.toArray⟩) w := by
  rcases h.own.2 with ⟨rfl, h0⟩ | ⟨g, cap, cur, fz, rfl, _⟩
  · omega
  · exact OwnX.conv rfl h.own
/-- What a function answers that has written bytes behind a row of our own. -/
def Wrt (B : Nat) (w : World) (l : List UInt8) (e : Ending) (w' : World) : Prop :=
  ∃ (acc : List UInt8) (pa : Option Addr) (cap : Nat), e = .returned (.slice pa acc.length cap) ∧ Hid (acc = l) ∧ Hid (Buf B w' (.slice pa acc.length cap) acc) ∧ Hid (Wrote8 B w w')
theorem Wrt.mk {B : Nat} {w w' : World} {l : List UInt8} {v : Value} (h : Buf B w' v l) (k : Wrote8 B w w') : Wrt B w l (.returned v) w' := by
  obtain ⟨pa, cap, rfl⟩ := h.form
  exact ⟨l, pa, cap, rfl, rfl, h, k⟩
end Go.Proofs.Ytmgpjbhhlbjahaa
