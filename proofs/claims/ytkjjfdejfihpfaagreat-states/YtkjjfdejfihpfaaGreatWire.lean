/-
  Numbers and texts as bytes, behind a row of our own: what the functions that write them answer.
-/
import Derived.Test.YtkjjfdejfihpfaaGreatOwnX
import Derived.Lib.AppendStr
import Derived.Deep.DeepMust
namespace Go.Proofs.YtkjjfdejfihpfaaGreat
open Go.RowKit

/-- A number of so many bytes, the highest first. -/
def bigL : Nat → Int → List UInt8
  | 0, _ => []
  | k + 1, n => UInt8.ofNat (n / 2 ^ (8 * k) % 256).toNat :: bigL k n
theorem bigL_len : ∀ (k : Nat) (n : Int), (bigL k n).length = k
  | 0, _ => rfl
  | k + 1, n => by rw [bigL, List.length_cons, bigL_len k n]

/-- A row of bytes of our own. -/
structure Buf (B : Nat) (w : World) (v : Value) (l : List UInt8) : Prop where
  own : OwnX w B 5 1 v l.length (cellsB l)
  base : B ≤ w.heap.size
/-- Only rows of bytes from B on have turned. -/
abbrev Wrote8 (B : Nat) (w w' : World) : Prop := Wrote B (· = 5) w w'
theorem Buf.nil (w : World) : Buf w.heap.size w (.slice none 0 0) [] := ⟨ownX_of (World.ownsRow_nil _ _ _ _), Nat.le_refl _⟩
theorem Buf.step {B : Nat} {acc news : List UInt8} {v : Value} {wr w1 : World} {m g cap : Nat} (h : Buf B wr v acc) (hm : news.length = m)
    (hown : OwnX w1 B 5 1 (.slice (some ⟨g, 0, none⟩) (acc.length + m) cap) (acc.length + m) (cellsB acc ++ cellsB news)) {o : Obj} (hgrow : (wr.alloc o).grownBy w1 v.ownBlock) : Buf B w1 (.slice (some ⟨g, 0, none⟩) (acc.length + m) cap) (acc ++ news) := by
  have hl : (acc ++ news).length = acc.length + m := by rw [List.length_append, hm]
  refine ⟨by rw [hl, cellsB_append]; exact hown, ?_⟩
  have h1 := hgrow.size
  have h2 := h.base
  simp at h1; omega
theorem Buf.form {B : Nat} {w : World} {v : Value} {l : List UInt8} (h : Buf B w v l) : ∃ pa cap, v = .slice pa l.length cap := by
  exact h.own.form
theorem Buf.alloc {B : Nat} {w : World} {v : Value} {l : List UInt8} (h : Buf B w v l) (o : Obj) : Buf B (w.alloc o) v l := ⟨h.own.ext ((Ext.refl w).alloc o), by have := h.base; simp; omega⟩
theorem Buf.ext {B : Nat} {w w' : World} {v : Value} {l : List UInt8} (h : Buf B w v l) (e : Ext w w') : Buf B w' v l :=
  ⟨h.own.ext e, Nat.le_trans h.base e.size⟩
theorem Buf.drew {B : Nat} {w : World} {v : Value} {l : List UInt8} (h : Buf B w v l) : Buf B w.drew v l := h.ext (Ext.refl w).drew
theorem Buf.wrote {B : Nat} {w w1 w2 : World} {v : Value} {l : List UInt8} (h : Buf B w1 v l) (hb : Wrote8 B w w1) {o : Obj} (hg : (w1.alloc o).grownBy w2 v.ownBlock) : Wrote8 B w w2 := (hb.alloc o).grownX (h.own.ext ((Ext.refl w1).alloc o)) rfl hg
/-- string(b). -/
theorem Buf.conv {B : Nat} {w : World} {v : Value} {l : List UInt8} (h : Buf B w v l) (hl : 0 < l.length) : (convert 44 9 v).run Tryz.prog w = .ok (.string ⟨l.toArray⟩) w := by
  rcases h.own.2 with ⟨rfl, h0⟩ | ⟨g, cap, cur, fz, rfl, _⟩
  · omega
  · exact OwnX.conv rfl h.own
/-- What a function answers that has written bytes behind a row of our own. -/
def Wrt (B : Nat) (w : World) (l : List UInt8) (e : Ending) (w' : World) : Prop :=
  ∃ (acc : List UInt8) (pa : Option Addr) (cap : Nat), e = .returned (.slice pa acc.length cap) ∧ Hid (acc = l) ∧ Hid (Buf B w' (.slice pa acc.length cap) acc) ∧ Hid (Wrote8 B w w')
theorem Wrt.mk {B : Nat} {w w' : World} {l : List UInt8} {v : Value} (h : Buf B w' v l) (k : Wrote8 B w w') : Wrt B w l (.returned v) w' := by
  obtain ⟨pa, cap, rfl⟩ := h.form
  exact ⟨l, pa, cap, rfl, rfl, h, k⟩
theorem byte_val {z : Int} (h0 : 0 ≤ z) (h1 : z < 256) : ((UInt8.ofNat z.toNat).toNat : Int) = z := by simp; omega

set_option maxRecDepth 100000 in
set_option maxHeartbeats 3200000 in
theorem appendNumber (B : Nat) (v : Value) (l : List UInt8) (n : Int) (size : Nat) (w : World) (hv : Buf B w v l) (hl : l.length ≤ 1000000) (hs : size ≤ 4) :
    Calls Tryz.prog 11 #[v, .int .i64 n, .int .i64 size] w (Wrt B w (l ++ bigL size n)) := by
  obtain ⟨i0, hi, hz0, hz1, hz2⟩ := info_of infoByte
  replace hi := hide hi
  go_enter Tryz.func11, Tryz.ntmps11
  go_wp2
  go_loopw [0, 7] (fun v i wr => ∃ (k : Nat) (acc : List UInt8), k ≤ size ∧ i = .int .i64 ((k : Int) - 1) ∧ acc.length ≤ 1000004 - k ∧ Hid (acc ++ bigL k n = l ++ bigL size n) ∧ Buf B wr v acc ∧ Wrote8 B w wr) (fun _ i _ => (intOf i + 1).toNat)
  case atStart => exact ⟨size, l, Nat.le_refl _, rfl, by omega, rfl, hv, Wrote.refl _ _ _⟩
  case round =>
    obtain ⟨k, acc, hk, rfl, hlen, hacc, hq, hbel⟩ := hrel
    by_cases hlt : k = 0
    · subst hlt
      replace hq := hide hq; replace hbel := hide hbel
      obtain ⟨pa, cap, rfl⟩ := hq.out.form
      go_wp2
      go_ret
      refine Wrt.mk ?_ hbel.out
      have := hacc.out
      simp only [bigL, List.append_nil] at this
      rw [← this]; exact hq.out
    · obtain ⟨k, rfl⟩ : ∃ q, k = q + 1 := ⟨k - 1, by omega⟩
      replace hq := hide hq; replace hbel := hide hbel
      have e0 : (((k + 1 : Nat) : Int) - 1) = (k : Int) := by omega
      rw [e0]
      have c0 : 0 ≤ n / 2 ^ (8 * k) % 256 := by omega
      have c1 : n / 2 ^ (8 * k) % 256 < 256 := by omega
      have hbv := hide (byte_val c0 c1)
      have hbl : Hid (bigL (k + 1) n = UInt8.ofNat (n / 2 ^ (8 * k) % 256).toNat :: bigL k n) := rfl
      obtain ⟨pa, cap, rfl⟩ := hq.out.form
      have hown := hide hq.out.own
      obtain ⟨z, ez⟩ : ∃ z, n / 2 ^ (8 * k) % 256 = z := ⟨_, rfl⟩
      rw [ez] at hbv hbl c0 c1
      go_wp2_with (at_builtin; refine wpList_append_X _ rfl (.tmp 14) (.tmp 20) 44 rfl B 5 i0 (.int .u8 0) 1 1 Tryz.underlying44 hi.out hz0 hz1 hz2 rfl (by omega) _ acc.length (cellsB acc) rfl (hown.out.ext ((Ext.refl wr).alloc _)) ⟨wr.heap.size, 0, none⟩ 1 1 (cellsB [UInt8.ofNat z.toNat]) rfl rfl ?_ (one_cellB _) (by omega) (by unfold maxLen; omega) (by omega) (by have := hq.out.base; simp; omega) ?_; (intro j u hu; rw [add_eq]; (match j, hu with | 0, hu => (simp only [cellsB, List.map_cons, List.map_nil, List.getElem?_cons_zero, hbv.out, Option.some.injEq] at hu; subst hu; simp [go_sem]) | _ + 1, hu => (simp [cellsB] at hu))); intro g1 cap1 w1 hown1 hgrow1)
      go_roundw
      case rel =>
        refine ⟨k, acc ++ [UInt8.ofNat z.toNat], by omega, by go_num, by simp; omega, ?_, hq.out.step rfl hown1 hgrow1, hq.out.wrote hbel.out hgrow1⟩
        have := hacc.out
        rw [hbl.out] at this
        rw [List.append_assoc]; exact this
      case measure => simp [intOf]

theorem ownsRow_form' {w : World} {base : Nat} {e : TypeId} {size : Nat} {v : Value} {n : Nat} {xs : List Value} (h : w.ownsRow base e size v n xs) : ∃ pa cap, v = .slice pa n cap := by
  rcases h.2 with ⟨rfl, rfl⟩ | ⟨g, cap, cur, rfl, _⟩
  · exact ⟨none, 0, rfl⟩
  · exact ⟨_, cap, rfl⟩
/-- A text: its length and its bytes. -/
def textL (s : ByteArray) : List UInt8 := bigL 1 s.size ++ s.data.toList
theorem textL_len (s : ByteArray) : (textL s).length = s.size + 1 := by
  have : s.data.toList.length = s.size := Array.length_toList
  rw [textL, List.length_append, bigL_len, this]; omega
theorem strCells_eq (s : ByteArray) : Lib.strCells s = cellsB s.data.toList := by
  simp [Lib.strCells, cellsB]

set_option maxRecDepth 100000 in
set_option maxHeartbeats 3200000 in
theorem appendText (B : Nat) (v : Value) (l : List UInt8) (s : ByteArray) (w : World) (hv : Buf B w v l) (hl : l.length ≤ 900000) (hs : s.size ≤ 255) :
    Calls Tryz.prog 61 #[v, .string s] w (Wrt B w (l ++ textL s)) := by
  obtain ⟨i0, hi, hz0, hz1, hz2⟩ := info_of infoByte
  replace hi := hide hi
  obtain ⟨pa, cap, rfl⟩ := hv.form
  replace hv := hide hv
  go_enter Tryz.func61, Tryz.ntmps61
  go_wp2_with fail
  refine (appendNumber B _ l s.size 1 w hv.out (by omega) (by omega)).mono ?_
  rintro e w1 ⟨acc, pa1, cap1, rfl, hacc, hv1, hb1⟩
  have hown := hide hv1.out.own
  have hlen : acc.length ≤ 900001 := by rw [hacc.out, List.length_append, bigL_len]; omega
  go_wp2_with (at_builtin; go_must (refine wpList_append_XS _ rfl (.tmp 8) (.tmp 9) 44 9 rfl B 5 i0 Tryz.underlying44 Tryz.underlying9 hi.out hz0 hz1 hz2 _ acc.length (cellsB acc) rfl hown.out s rfl (by unfold maxLen; omega) (by omega) hv1.out.base ?_; intro v2 w2 hown2 hgrow2; obtain ⟨pa2, cap2, rfl⟩ := hown2.form))
  replace hgrow2 : w1.grownBy w2 (Value.slice pa1 acc.length cap1).ownBlock := hgrow2
  go_ret
  refine Wrt.mk ?_ (hb1.out.grownX hown.out rfl hgrow2)
  have hn : (l ++ textL s).length = acc.length + s.size := by rw [hacc.out]; simp [textL]; omega
  refine ⟨?_, by have := hgrow2.size; have := hv1.out.base; omega⟩
  rw [hn]
  rw [strCells_eq, ← cellsB_append] at hown2
  have e : acc ++ s.data.toList = l ++ textL s := by rw [hacc.out, List.append_assoc]; rfl
  rw [e] at hown2
  exact hown2
end Go.Proofs.YtkjjfdejfihpfaaGreat
