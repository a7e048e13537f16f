/-
  Numbers and texts as bytes, behind a row of our own: what the functions that write them answer.
-/
/-
  The reader of bytes: what its methods answer.
-/
/-
  Numbers and texts at a place: what the reference's functions answer.
-/
/-
  Numbers and texts as bytes: what the reference's functions answer.
-/
/-
  A row of bytes out of a text; a byte of it turned; a text out of it.
-/
/-
  Tokens: digits and the signs of strings.
-/
import Derived.Test.YtfmcgdglalljgaaGreatDoorJ7
import Derived.Lib.AppendStr
import Derived.Deep.DeepMust
import Derived.Laws.BitsAllLaws
import Derived.Test.YtfmcgdglalljgaaGreatDoorJ3
namespace Go.Proofs.YtfmcgdglalljgaaGreatDoor
open Go.RowKit

/-- A number of so many bytes, the highest first. -/
def bigL : Nat → Int → List UInt8
  | 0, _ => []
  | k + 1, n => UInt8.ofNat (n / 2 ^ (8 * k) % 256).toNat :: bigL k n
theorem bigL_len : ∀ (k : Nat) (n : Int), (bigL k n).length = k
  | 0, _ => rfl
  | k + 1, n => by rw [bigL, List.length_cons, bigL_len k n]

/-- A row of bytes of our own. -/
structure Buf (B : Nat) (w : World) (v : Value) (l : List UInt8) : Prop where
  own : OwnX w B 5 1 v l.length (cellsB l)
  base : B ≤ w.heap.size
/-- Only rows of bytes from B on have turned. -/
abbrev Wrote8 (B : Nat) (w w' : World) : Prop := Wrote B (· = 5) w w'
theorem Buf.nil (w : World) : Buf w.heap.size w (.slice none 0 0) [] := ⟨ownX_of (World.ownsRow_nil _ _ _ _), Nat.le_refl _⟩
theorem Buf.step {B : Nat} {acc news : List UInt8} {v : Value} {wr w1 : World} {m g cap : Nat} (h : Buf B wr v acc) (hm : news.length = m)
    (hown : OwnX w1 B 5 1 (.slice (some ⟨g, 0, none⟩) (acc.length + m) cap) (acc.length + m) (cellsB acc ++ cellsB news)) {o : Obj} (hgrow : (wr.alloc o).grownBy w1 v.ownBlock) : Buf B w1 (.slice (some ⟨g, 0, none⟩) (acc.length + m) cap) (acc ++ news) := by
  have hl : (acc ++ news).length = acc.length + m := by rw [List.length_append, hm]
  refine ⟨by rw [hl, cellsB_append]; exact hown, ?_⟩
  have h1 := hgrow.size
  have h2 := h.base
  simp at h1; omega
theorem Buf.form {B : Nat} {w : World} {v : Value} {l : List UInt8} (h : Buf B w v l) : ∃ pa cap, v = .slice pa l.length cap := by
  exact h.own.form
theorem Buf.alloc {B : Nat} {w : World} {v : Value} {l : List UInt8} (h : Buf B w v l) (o : Obj) : Buf B (w.alloc o) v l := ⟨h.own.ext ((Ext.refl w).alloc o), by have := h.base; simp; omega⟩
theorem Buf.ext {B : Nat} {w w' : World} {v : Value} {l : List UInt8} (h : Buf B w v l) (e : Ext w w') : Buf B w' v l :=
  ⟨h.own.ext e, Nat.le_trans h.base e.size⟩
theorem Buf.drew {B : Nat} {w : World} {v : Value} {l : List UInt8} (h : Buf B w v l) : Buf B w.drew v l := h.ext (Ext.refl w).drew
theorem Buf.wrote {B : Nat} {w w1 w2 : World} {v : Value} {l : List UInt8} (h : Buf B w1 v l) (hb : Wrote8 B w w1) {o : Obj} (hg : (w1.alloc o).grownBy w2 v.ownBlock) : Wrote8 B w w2 := (hb.alloc o).grownX (h.own.ext ((Ext.refl w1).alloc o)) rfl hg
/-- string(b). -/
theorem Buf.conv {B : Nat} {w : World} {v : Value} {l : List UInt8} (h : Buf B w v l) (hl : 0 < l.length) : (convert 45 9 v).run Tryz.prog w = .ok (.string ⟨l.toArray⟩) w := by
  rcases h.own.2 with ⟨rfl, h0⟩ | ⟨g, cap, cur, fz, rfl, _⟩
  · omega
  · exact OwnX.conv rfl h.own
/-- What a function answers that has written bytes behind a row of our own. -/
def Wrt (B : Nat) (w : World) (l : List UInt8) (e : Ending) (w' : World) : Prop :=
  ∃ (acc : List UInt8) (pa : Option Addr) (cap : Nat), e = .returned (.slice pa acc.length cap) ∧ Hid (acc = l) ∧ Hid (Buf B w' (.slice pa acc.length cap) acc) ∧ Hid (Wrote8 B w w')
theorem Wrt.mk {B : Nat} {w w' : World} {l : List UInt8} {v : Value} (h : Buf B w' v l) (k : Wrote8 B w w') : Wrt B w l (.returned v) w' := by
  obtain ⟨pa, cap, rfl⟩ := h.form
  exact ⟨l, pa, cap, rfl, rfl, h, k⟩
theorem byte_val {z : Int} (h0 : 0 ≤ z) (h1 : z < 256) : ((UInt8.ofNat z.toNat).toNat : Int) = z := by simp; omega

set_option maxRecDepth 100000 in
set_option maxHeartbeats 3200000 in
theorem appendNumber (B : Nat) (v : Value) (l : List UInt8) (n : Int) (size : Nat) (w : World) (hv : Buf B w v l) (hl : l.length ≤ 1000000) (hs : size ≤ 4) :
    Calls Tryz.prog 25 #[v, .int .i64 n, .int .i64 size] w (Wrt B w (l ++ bigL size n)) := by
  obtain ⟨i0, hi, hz0, hz1, hz2⟩ := info_of infoByte
  replace hi := hide hi
  go_enter Tryz.func25, Tryz.ntmps25
  go_wp2
  go_loopw [0, 7] (fun v i wr => ∃ (k : Nat) (acc : List UInt8), k ≤ size ∧ i = .int .i64 ((k : Int) - 1) ∧ acc.length ≤ 1000004 - k ∧ Hid (acc ++ bigL k n = l ++ bigL size n) ∧ Buf B wr v acc ∧ Wrote8 B w wr) (fun _ i _ => (intOf i + 1).toNat)
  case atStart => exact ⟨size, l, Nat.le_refl _, rfl, by omega, rfl, hv, Wrote.refl _ _ _⟩
  case round =>
    obtain ⟨k, acc, hk, rfl, hlen, hacc, hq, hbel⟩ := hrel
    by_cases hlt : k = 0
    · subst hlt
      replace hq := hide hq; replace hbel := hide hbel
      obtain ⟨pa, cap, rfl⟩ := hq.out.form
      go_wp2
      go_ret
      refine Wrt.mk ?_ hbel.out
      have := hacc.out
      simp only [bigL, List.append_nil] at this
      rw [← this]; exact hq.out
    · obtain ⟨k, rfl⟩ : ∃ q, k = q + 1 := ⟨k - 1, by omega⟩
      replace hq := hide hq; replace hbel := hide hbel
      have e0 : (((k + 1 : Nat) : Int) - 1) = (k : Int) := by omega
      rw [e0]
      have c0 : 0 ≤ n / 2 ^ (8 * k) % 256 := by omega
      have c1 : n / 2 ^ (8 * k) % 256 < 256 := by omega
      have hbv := hide (byte_val c0 c1)
      have hbl : Hid (bigL (k + 1) n = UInt8.ofNat (n / 2 ^ (8 * k) % 256).toNat :: bigL k n) := rfl
      obtain ⟨pa, cap, rfl⟩ := hq.out.form
      have hown := hide hq.out.own
      obtain ⟨z, ez⟩ : ∃ z, n / 2 ^ (8 * k) % 256 = z := ⟨_, rfl⟩
      rw [ez] at hbv hbl c0 c1
      go_wp2_with (at_builtin; refine wpList_append_X _ rfl (.tmp 14) (.tmp 20) 45 rfl B 5 i0 (.int .u8 0) 1 1 Tryz.underlying45 hi.out hz0 hz1 hz2 rfl (by omega) _ acc.length (cellsB acc) rfl (hown.out.ext ((Ext.refl wr).alloc _)) ⟨wr.heap.size, 0, none⟩ 1 1 (cellsB [UInt8.ofNat z.toNat]) rfl rfl ?_ (one_cellB _) (by omega) (by unfold maxLen; omega) (by omega) (by have := hq.out.base; simp; omega) ?_; (intro j u hu; rw [add_eq]; (match j, hu with | 0, hu => (simp only [cellsB, List.map_cons, List.map_nil, List.getElem?_cons_zero, hbv.out, Option.some.injEq] at hu; subst hu; simp [go_sem]) | _ + 1, hu => (simp [cellsB] at hu))); intro g1 cap1 w1 hown1 hgrow1)
      go_roundw
      case rel =>
        refine ⟨k, acc ++ [UInt8.ofNat z.toNat], by omega, by go_num, by simp; omega, ?_, hq.out.step rfl hown1 hgrow1, hq.out.wrote hbel.out hgrow1⟩
        have := hacc.out
        rw [hbl.out] at this
        rw [List.append_assoc]; exact this
      case measure => simp [intOf]

/-- A text: its length and its bytes. -/
def textL (s : ByteArray) : List UInt8 := bigL 1 s.size ++ s.data.toList
theorem textL_len (s : ByteArray) : (textL s).length = s.size + 1 := by
  have : s.data.toList.length = s.size := Array.length_toList
  rw [textL, List.length_append, bigL_len, this]; omega
theorem strCells_eq (s : ByteArray) : Lib.strCells s = cellsB s.data.toList := by
  simp [Lib.strCells, cellsB]

set_option maxRecDepth 100000 in
set_option maxHeartbeats 3200000 in
theorem appendText (B : Nat) (v : Value) (l : List UInt8) (s : ByteArray) (w : World) (hv : Buf B w v l) (hl : l.length ≤ 900000) (hs : s.size ≤ 255) :
    Calls Tryz.prog 91 #[v, .string s] w (Wrt B w (l ++ textL s)) := by
  obtain ⟨i0, hi, hz0, hz1, hz2⟩ := info_of infoByte
  replace hi := hide hi
  obtain ⟨pa, cap, rfl⟩ := hv.form
  replace hv := hide hv
  go_enter Tryz.func91, Tryz.ntmps91
  go_wp2_with fail
  refine (appendNumber B _ l s.size 1 w hv.out (by omega) (by omega)).mono ?_
  rintro e w1 ⟨acc, pa1, cap1, rfl, hacc, hv1, hb1⟩
  have hown := hide hv1.out.own
  have hlen : acc.length ≤ 900001 := by rw [hacc.out, List.length_append, bigL_len]; omega
  go_wp2_with (at_builtin; go_must (refine wpList_append_XS _ rfl (.tmp 8) (.tmp 9) 45 9 rfl B 5 i0 Tryz.underlying45 Tryz.underlying9 hi.out hz0 hz1 hz2 _ acc.length (cellsB acc) rfl hown.out s rfl (by unfold maxLen; omega) (by omega) hv1.out.base ?_; intro v2 w2 hown2 hgrow2; obtain ⟨pa2, cap2, rfl⟩ := hown2.form))
  replace hgrow2 : w1.grownBy w2 (Value.slice pa1 acc.length cap1).ownBlock := hgrow2
  go_ret
  refine Wrt.mk ?_ (hb1.out.grownX hown.out rfl hgrow2)
  have hn : (l ++ textL s).length = acc.length + s.size := by rw [hacc.out]; simp [textL]; omega
  refine ⟨?_, by have := hgrow2.size; have := hv1.out.base; omega⟩
  rw [hn]
  rw [strCells_eq, ← cellsB_append] at hown2
  have e : acc ++ s.data.toList = l ++ textL s := by rw [hacc.out, List.append_assoc]; rfl
  rw [e] at hown2
  exact hown2
end Go.Proofs.YtfmcgdglalljgaaGreatDoor

namespace Go.Proofs.YtfmcgdglalljgaaGreatDoor
open Go.RowKit

/-- A reader, and what it has still to read. -/
def RdAt (w : World) (R : Nat) (s : ByteArray) : Prop := w.heap[R]? = some (.cells #[.string s] 110 (0, 0))
/-- Only readers from R on have turned. -/
abbrev WroteR (R : Nat) (w w' : World) : Prop := Wrote R (· = 110) w w'
theorem RdAt.cell {w : World} {R : Nat} {s : ByteArray} (h : RdAt w R s) : w.cell? ⟨R, 0, none⟩ = some (.string s) := by unfold RdAt at h; simp [World.cell?, h]
theorem RdAt.frozen {w : World} {R : Nat} {s : ByteArray} (h : RdAt w R s) (j : Nat) : w.frozen? ⟨R, j, none⟩ = false := by unfold RdAt at h; simp [World.frozen?, h]
theorem RdAt.ext {w w' : World} {R : Nat} {s : ByteArray} (h : RdAt w R s) (e : Ext w w') : RdAt w' R s := by
  obtain ⟨_, _, _, _, h5⟩ := e
  unfold RdAt at h ⊢
  rw [h5 R (Array.getElem?_eq_some_iff.1 h).1]; exact h
theorem RdAt.set {w : World} {R : Nat} {s : ByteArray} (h : RdAt w R s) (s' : ByteArray) : RdAt (w.setCell ⟨R, 0, none⟩ (.string s')) R s' := by
  unfold RdAt at h ⊢
  simp [World.setCell, Array.getElem?_modify, h]
theorem RdAt.wrote {w : World} {R : Nat} {s : ByteArray} (h : RdAt w R s) (s' : ByteArray) : WroteR R w (w.setCell ⟨R, 0, none⟩ (.string s')) :=
  (Wrote.refl R (· = 110) w).setCell (p := ⟨R, 0, none⟩) (Nat.le_refl _) h rfl _

/-- What is left to read behind a call, and what the call has turned. -/
structure Left (w w' : World) (R : Nat) (s : ByteArray) (l : List UInt8) : Prop where
  at_ : RdAt w' R s
  list : s.data.toList = l
  wrote : WroteR R w w'
  few : s.size ≤ 9223372036854775807
theorem ex_take (s : ByteArray) (n : Nat) : (s.extract 0 n).data.toList = s.data.toList.take n := by
  rw [ByteArray.data_extract]; simp
theorem ex_drop (s : ByteArray) (n : Nat) : (s.extract n s.size).data.toList = s.data.toList.drop n := by
  rw [ByteArray.data_extract]; simp
  rw [List.take_of_length_le]
  rw [List.length_drop]
  have : s.data.toList.length = s.size := Array.length_toList
  simp at this ⊢
theorem ba_len (s : ByteArray) : s.data.toList.length = s.size := Array.length_toList

set_option maxRecDepth 100000 in
set_option maxHeartbeats 800000 in
theorem take (R : Nat) (s : ByteArray) (n : Nat) (w : World) (hR : RdAt w R s) (hs : s.size ≤ 9223372036854775807) (hn : n ≤ 4294967296) :
    Calls Tryz.prog 29 #[.pointer (some ⟨R, 0, none⟩), .int .i64 n] w fun e w' => ∃ t s' : ByteArray, e = .returned (.string t) ∧ Hid (t.data.toList = s.data.toList.take n) ∧ Hid (Left w w' R s' (s.data.toList.drop n)) := by
  have c0 := hR.cell
  have f0 := hR.frozen 0
  replace hR := hide hR
  have hlen := hide (ba_len s)
  go_enter Tryz.func29, Tryz.ntmps29
  by_cases h : s.size < n
  · go_wp2_with fail
    go_ret
    refine ⟨s, ByteArray.empty, rfl, ?_, ⟨hR.out.set _, ?_, hR.out.wrote _, by decide⟩⟩
    · show _ = _; rw [List.take_of_length_le (by rw [hlen.out]; omega)]
    · rw [List.drop_of_length_le (by rw [hlen.out]; omega)]; rfl
  · go_wp2_with fail
    go_ret
    refine ⟨s.extract 0 n, s.extract n s.size, rfl, ex_take s n, ⟨hR.out.set _, ex_drop s n, hR.out.wrote _, ?_⟩⟩
    have := ba_len (s.extract n s.size)
    rw [ex_drop, List.length_drop, ba_len] at this
    omega

/-- The number of bytes, the highest first. -/
def numN (l : List UInt8) : Nat := l.foldl (fun n b => n * 256 + b.toNat) 0
/-- What the reading of a number answers. -/
def NumIs (w : World) (R : Nat) (s : ByteArray) (size : Nat) (e : Ending) (w' : World) : Prop :=
  ∃ (n : Nat) (s' : ByteArray), e = .returned (.int .i64 n) ∧ Hid (n = numN (s.data.toList.take size)) ∧ n < 4294967296 ∧ Hid (Left w w' R s' (s.data.toList.drop size))
/-- What the reading of a text answers. -/
def TxtIs (w : World) (R : Nat) (s : ByteArray) (e : Ending) (w' : World) : Prop :=
  ∃ t s' : ByteArray, e = .returned (.string t) ∧ Hid (t.data.toList = (s.data.toList.drop 1).take (numN (s.data.toList.take 1))) ∧ t.size ≤ 255 ∧ Hid (Left w w' R s' ((s.data.toList.drop 1).drop (numN (s.data.toList.take 1))))
theorem i64_or (m c : Nat) (hm : m < 4294967296) (hc : c < 256) : bits .or .i64 ((m : Int) * 256) (c : Int) = ((m * 256 + c : Nat) : Int) := by
  have e : ∀ n : Nat, n < 9223372036854775808 → (BitVec.ofInt 64 (n : Int)).toNat = n := fun n hn => by
    rw [BitVec.ofInt_natCast, BitVec.toNat_ofNat]; exact Nat.mod_eq_of_lt (by omega)
  have e1 : ((m : Int) * 256) = ((m * 256 : Nat) : Int) := by omega
  rw [e1]
  show IntKind.i64.wrap ((BitVec.ofInt 64 ((m * 256 : Nat) : Int) ||| BitVec.ofInt 64 (c : Int)).toNat : Int) = _
  rw [BitVec.toNat_or, e _ (by omega), e c (by omega), IntKind.wrap_i64]
  have h := Nat.shiftLeft_add_eq_or_of_lt (i := 8) (b := c) (by omega) m
  rw [Nat.shiftLeft_eq] at h
  have h2 : m * 2 ^ 8 = m * 256 := by rfl
  rw [h2] at h
  rw [← h]
  omega
theorem num_lt : ∀ (k : Nat) (l : List UInt8), l.length ≤ k → numN l < 256 ^ k
  | 0, l, h => by
    obtain rfl : l = [] := List.eq_nil_of_length_eq_zero (by omega)
    decide
  | k + 1, l, h => by
    rcases List.eq_nil_or_concat l with rfl | ⟨l', c, hl⟩
    · exact Nat.pow_pos (by decide)
    · rw [List.concat_eq_append] at hl
      subst hl
      have h1 := num_lt k l' (by simp at h; omega)
      have h2 := c.toNat_lt
      simp only [numN, List.foldl_append, List.foldl_cons, List.foldl_nil] at h1 ⊢
      rw [Nat.pow_succ]; omega

set_option maxRecDepth 100000 in
set_option maxHeartbeats 1600000 in
theorem number (R : Nat) (s : ByteArray) (size : Nat) (w : World) (hR : RdAt w R s) (hs : s.size ≤ 9223372036854775807) (hn : size ≤ 4) :
    Calls Tryz.prog 30 #[.pointer (some ⟨R, 0, none⟩), .int .i64 size] w (NumIs w R s size) := by
  replace hR := hide hR
  go_enter Tryz.func30, Tryz.ntmps30
  go_wp2_with fail
  refine (take R s size _ hR.out hs (by omega)).mono ?_
  rintro e w1 ⟨t, s', rfl, ht, hL⟩
  have htz : t.size ≤ 4 := by rw [← ba_len, ht.out, List.length_take]; omega
  have hcv := fun (w : World) => Lib.run_convert_string_bytes (P := Tryz.prog) w 9 45 5 t Tryz.underlying9 Tryz.underlying45 Tryz.underlying5
  have Hc := hide fun j hj => Lib.bytesWorld_cell w1 5 t j hj
  have Hx := hide (Ext.bytes w1 5 t)
  have Hz := hide (ba_len t)
  go_wp2_with fail
  go_loop [5, 13] (fun n i => ∃ (k m : Nat), k ≤ t.size ∧ i = .int .i64 k ∧ n = .int .i64 m ∧ m < 4294967296 ∧ Hid (m = numN (t.data.toList.take k))) (fun _ i => t.size - (intOf i).toNat)
  case atStart => exact ⟨0, 0, Nat.zero_le _, rfl, rfl, by omega, rfl⟩
  case round =>
    obtain ⟨k, m, hk, rfl, rfl, hm, hacc⟩ := hrel
    by_cases hlt : k < t.size
    · have g := unhide Hc k hlt
      rw [List.getD_eq_getElem?_getD] at g
      have hlt' : k < t.data.toList.length := by rw [unhide Hz]; exact hlt
      have hs1 : numN (t.data.toList.take (k + 1)) = numN (t.data.toList.take k) * 256 + (t.data.toList[k]?.getD 0).toNat := by
        unfold numN; rw [List.take_succ_eq_append_getElem hlt', List.foldl_append, List.getElem?_eq_getElem hlt']; rfl
      have hm2 : m < 16777216 := by
        have := num_lt 3 (t.data.toList.take k) (by rw [List.length_take]; omega)
        rw [← hacc.out] at this; exact this
      rw [← hacc.out] at hs1
      have Hs := hide hs1; clear hs1
      generalize t.data.toList[k]?.getD 0 = c at *
      have hc := c.toNat_lt
      have e1 : bits .or .i64 ((m : Int) * 256) (c.toNat : Int) = ((m * 256 + c.toNat : Nat) : Int) := i64_or m c.toNat hm (by omega)
      have hm3 : m * 256 + c.toNat < 4294967296 := by omega
      generalize hq : m * 256 + c.toNat = q at *
      replace hq := hide hq
      go_wp2
      go_round
      case rel => exact ⟨k + 1, q, by omega, by go_num, rfl, hm3, Hs.out.symm⟩
      case measure => simp [intOf]; omega
    · have Hl : Hid (t.data.toList.take k = t.data.toList) := List.take_of_length_le (by rw [unhide Hz]; omega)
      go_wp2
      go_ret
      refine ⟨m, s', rfl, ?_, hm, ⟨hL.out.at_.ext Hx.out, hL.out.list, hL.out.wrote.then Hx.out, hL.out.few⟩⟩
      show _ = _
      rw [hacc.out, Hl.out, ht.out]

set_option maxRecDepth 100000 in
set_option maxHeartbeats 800000 in
theorem text (R : Nat) (s : ByteArray) (w : World) (hR : RdAt w R s) (hs : s.size ≤ 9223372036854775807) :
    Calls Tryz.prog 92 #[.pointer (some ⟨R, 0, none⟩)] w (TxtIs w R s) := by
  replace hR := hide hR
  go_enter Tryz.func92, Tryz.ntmps92
  go_wp2_with fail
  refine (number R s 1 _ hR.out hs (by omega)).mono ?_
  rintro e w1 ⟨n, s1, rfl, hn, hn2, hL⟩
  have hn3 : n < 256 := by
    have := num_lt 1 (s.data.toList.take 1) (by rw [List.length_take]; omega)
    rw [← hn.out] at this; exact this
  have hL1 := hide hL.out.list
  go_wp2_with fail
  refine (take R s1 n _ hL.out.at_ hL.out.few (by omega)).mono ?_
  rintro e w2 ⟨t, s2, rfl, ht, hL2⟩
  go_wp2
  go_ret
  refine ⟨t, s2, rfl, ?_, ?_, ⟨hL2.out.at_, ?_, hL.out.wrote.trans hL2.out.wrote, hL2.out.few⟩⟩
  · show _ = _; rw [ht.out, hL1.out, hn.out]
  · rw [← ba_len, ht.out, List.length_take]; omega
  · rw [hL2.out.list, hL1.out, hn.out]
end Go.Proofs.YtfmcgdglalljgaaGreatDoor

namespace Go.Proofs.YtfmcgdglalljgaaGreatDoor
open Go.RowKit

end Go.Proofs.YtfmcgdglalljgaaGreatDoor

namespace Go.Proofs.YtfmcgdglalljgaaGreatDoor
open Go.RowKit

theorem pow8 : (2 : Int) ^ (8 * 0) = 1 ∧ (2 : Int) ^ (8 * 1) = 256 ∧ (2 : Int) ^ (8 * 2) = 65536 ∧ (2 : Int) ^ (8 * 3) = 16777216 := by decide
end Go.Proofs.YtfmcgdglalljgaaGreatDoor

namespace Go.Proofs.YtfmcgdglalljgaaGreatDoor
open Go.RowKit

/-- Bytes in a block, from its first cell on, that may be written. -/
structure ByteRow (w : World) (b : Nat) (l : List UInt8) : Prop where
  cell : ∀ j c, l[j]? = some c → w.cell? ⟨b, j, none⟩ = some (.int .u8 (c.toNat : Int))
  free : ∀ j, j < l.length → w.frozen? ⟨b, j, none⟩ = false
theorem byteRow_new (w : World) (s : ByteArray) : ByteRow (Lib.bytesWorld w 5 s) w.heap.size s.data.toList := by
  have hlen : s.data.toList.length = s.size := Array.length_toList
  refine ⟨fun j c hj => ?_, fun j hj => ?_⟩
  · have hlt := (List.getElem?_eq_some_iff.1 hj).1
    rw [Lib.bytesWorld_cell w 5 s j (by omega), List.getD_eq_getElem?_getD, hj]; rfl
  · have h1 : (Lib.bytesWorld w 5 s).cell? ⟨w.heap.size, j, none⟩ ≠ none := by
      rw [Lib.bytesWorld_cell w 5 s j (by omega)]; simp
    have h2 := Lib.bytesWorld_at_new w 5 s
    have hsz : j < (Lib.bytesCells w 5 s).size := by
      by_cases h : j < (Lib.bytesCells w 5 s).size
      · exact h
      · exact absurd (by simp [World.cell?, h2]; omega) h1
    simp [World.frozen?, h2]
    omega
theorem ByteRow.ext {w w' : World} {b : Nat} {l : List UInt8} (h : ByteRow w b l) (e : Ext w w') (hb : b < w.heap.size) : ByteRow w' b l :=
  ⟨fun j c hj => e.cells (h.cell j c hj), fun j hj => by rw [Below.frozen e hb]; exact h.free j hj⟩
theorem ByteRow.set {w : World} {b i : Nat} {l : List UInt8} {c d : UInt8} (h : ByteRow w b l) (hc : l[i]? = some c) : ByteRow (w.setCell ⟨b, i, none⟩ (.int .u8 (d.toNat : Int))) b (l.set i d) := by
  have hi := (List.getElem?_eq_some_iff.1 hc).1
  refine ⟨fun j x hj => ?_, fun j hj => ?_⟩
  · by_cases hij : i = j
    · subst hij
      rw [List.getElem?_set_self hi] at hj
      obtain rfl : d = x := Option.some.inj hj
      exact World.cell?_setCell_same _ _ _ (h.cell i c hc)
    · rw [List.getElem?_set_ne hij] at hj
      rw [World.cell?_setCell_other _ _ _ _ (by intro e; injection e with e1 e2; exact hij e2)]
      exact h.cell j x hj
  · rw [World.frozen?_setCell]
    rw [List.length_set] at hj
    exact h.free j hj
theorem ByteRow.conv {w : World} {b n cap : Nat} {l : List UInt8} (h : ByteRow w b l) (hn : l.length = n) : (convert 45 9 (.slice (some ⟨b, 0, none⟩) n cap)).run Tryz.prog w = .ok (.string ⟨l.toArray⟩) w := by
  refine conv_bytes w b 0 n cap l hn fun j hj => ?_
  obtain ⟨c, hc⟩ : ∃ c, l[j]? = some c := ⟨_, List.getElem?_eq_getElem hj⟩
  rw [Nat.zero_add, hc]
  exact h.cell j c hc
theorem conv_six (w : World) (x0 x1 x2 x3 x4 x5 : UInt8) (c0 c1 c2 c3 c4 c5 : Int) (h0 : c0 = (x0.toNat : Int)) (h1 : c1 = (x1.toNat : Int)) (h2 : c2 = (x2.toNat : Int)) (h3 : c3 = (x3.toNat : Int)) (h4 : c4 = (x4.toNat : Int)) (h5 : c5 = (x5.toNat : Int)) :
    (convert 45 9 (.slice (some ⟨w.heap.size, 0, none⟩) 6 6)).run Tryz.prog (w.alloc (.cells #[.int .u8 c0, .int .u8 c1, .int .u8 c2, .int .u8 c3, .int .u8 c4, .int .u8 c5] 5)) = .ok (.string ⟨[x0, x1, x2, x3, x4, x5].toArray⟩) (w.alloc (.cells #[.int .u8 c0, .int .u8 c1, .int .u8 c2, .int .u8 c3, .int .u8 c4, .int .u8 c5] 5)) := by
  subst h0 h1 h2 h3 h4 h5
  refine conv_bytes _ _ 0 6 6 [x0, x1, x2, x3, x4, x5] rfl fun j hj => ?_
  have : j = 0 ∨ j = 1 ∨ j = 2 ∨ j = 3 ∨ j = 4 ∨ j = 5 := by simp at hj; omega
  rcases this with rfl | rfl | rfl | rfl | rfl | rfl <;> simp [go_sem]
/-- A byte that is turned is another one. -/
theorem byte_turn {c : UInt8} {k : Nat} (h0 : 0 < k) (h1 : k < 256) : ∃ d : UInt8, d ≠ c ∧ bits .xor .u8 (c.toNat : Int) (k : Int) = ((d.toNat : Nat) : Int) := by
  have hc := c.toNat_lt
  have hx : c.toNat ^^^ k < 2 ^ 8 := Nat.xor_lt_two_pow (by omega) (by omega)
  have e : (UInt8.ofNat (c.toNat ^^^ k)).toNat = c.toNat ^^^ k := by rw [UInt8.toNat_ofNat']; exact Nat.mod_eq_of_lt hx
  refine ⟨UInt8.ofNat (c.toNat ^^^ k), fun h => ?_, by rw [u8_xor_nat c.toNat k hc h1, e]⟩
  have h2 := congrArg UInt8.toNat h
  rw [e] at h2
  have h3 := congrArg (c.toNat ^^^ ·) h2
  simp [← Nat.xor_assoc] at h3
  omega
end Go.Proofs.YtfmcgdglalljgaaGreatDoor

namespace Go.Proofs.YtfmcgdglalljgaaGreatDoor
open Go.RowKit

theorem valN_snoc (d : List UInt8) (c : UInt8) : valN (d ++ [c]) = valN d * 10 + (c.toNat - 48) := by simp [valN]
theorem valN_more (a : List UInt8) : ∀ b : List UInt8, valN a ≤ valN (a ++ b) := fun b => by
  induction b generalizing a with
  | nil => simp
  | cons c b ih =>
    have h1 := ih (a ++ [c])
    rw [valN_snoc] at h1
    rw [List.append_assoc] at h1
    simp only [List.singleton_append] at h1
    omega
def valOf (d : List UInt8) : Int := if digitsOk d then (valN d : Int) else 0

set_option maxRecDepth 100000 in
set_option maxHeartbeats 1600000 in
theorem valueOf (s : ByteArray) (w : World) (hs : s.size ≤ 1000000) (hd : ∀ c ∈ s.data.toList, isDigitB c.toNat = true) :
    Calls Tryz.prog 130 #[.string s] w fun e w' => e = .returned (.tuple #[.int .i64 (valOf s.data.toList), .bool (digitsOk s.data.toList)]) ∧ Ext w w' := by
  have hcv := fun (w : World) => Lib.run_convert_string_bytes (P := Tryz.prog) w 9 45 5 s Tryz.underlying9 Tryz.underlying45 Tryz.underlying5
  have Hc := hide fun j hj => Lib.bytesWorld_cell w 5 s j hj
  have Hx := hide (Ext.bytes w 5 s)
  have Hz := hide (show s.data.toList.length = s.size from Array.length_toList)
  replace hd := hide hd
  go_enter Tryz.func130, Tryz.ntmps130
  go_wp2_with fail
  go_loop [4, 11] (fun n i => ∃ k m : Nat, k ≤ s.size ∧ i = .int .i64 k ∧ n = .int .i64 m ∧ m ≤ 1000000000 ∧ Hid (m = valN (s.data.toList.take k))) (fun _ i => s.size - (intOf i).toNat)
  case atStart => exact ⟨0, 0, Nat.zero_le _, rfl, rfl, by omega, rfl⟩
  case round =>
    obtain ⟨k, m, hk, rfl, rfl, hm, hacc⟩ := hrel
    by_cases hlt : k < s.size
    · have g := unhide Hc k hlt
      rw [List.getD_eq_getElem?_getD] at g
      have hlt' : k < s.data.toList.length := by rw [unhide Hz]; exact hlt
      have hs1 : valN (s.data.toList.take (k + 1)) = m * 10 + ((s.data.toList[k]?.getD 0).toNat - 48) := by
        rw [List.take_succ_eq_append_getElem hlt', valN_snoc, hacc.out, List.getElem?_eq_getElem hlt']; rfl
      have hdc := hd.out (s.data.toList[k]?.getD 0) (by rw [List.getElem?_eq_getElem hlt']; exact List.getElem_mem hlt')
      have Hs := hide hs1; clear hs1
      generalize s.data.toList[k]?.getD 0 = c at *
      have hc : 48 ≤ c.toNat ∧ c.toNat ≤ 57 := by simp [isDigitB] at hdc; omega
      obtain ⟨c1, c2⟩ := hc
      have e1 : IntKind.u8.wrap ((c.toNat : Int) - 48) = ((c.toNat - 48 : Nat) : Int) := by rw [IntKind.wrap_u8]; omega
      have e2 : (c.toNat : Int) - 48 = ((c.toNat - 48 : Nat) : Int) := by omega
      obtain ⟨d, hd2⟩ : ∃ d, c.toNat - 48 = d := ⟨_, rfl⟩
      rw [hd2] at e1 e2 Hs
      have hd9 : d ≤ 9 := by omega
      replace hd2 := hide hd2; replace hdc := hide hdc
      by_cases hbig : 1000000000 < m * 10 + d
      · have hno : Hid (digitsOk s.data.toList = false) := by
          show _ = _
          have h1 := valN_more (s.data.toList.take (k + 1)) (s.data.toList.drop (k + 1))
          rw [List.take_append_drop, Hs.out] at h1
          simp [digitsOk]; intro _; omega
        have hq : (1000000000 - (d : Int)) / 10 < (m : Int) := by omega
        go_wp2_with fail
        go_ret2
        exact ⟨by unfold valOf; rw [hno.out]; rfl, Hx.out⟩
      · have hq : ¬ (1000000000 - (d : Int)) / 10 < (m : Int) := by omega
        obtain ⟨q, hq2⟩ : ∃ q, m * 10 + d = q := ⟨_, rfl⟩
        have hq3 : (m : Int) * 10 + (d : Int) = (q : Int) := by omega
        have hq4 : q ≤ 1000000000 := by omega
        rw [hq2] at Hs
        replace hq2 := hide hq2
        go_wp2_with fail
        go_round
        case rel => exact ⟨k + 1, q, by omega, by go_num, rfl, hq4, Hs.out.symm⟩
        case measure => simp [intOf]; omega
    · have Hl : Hid (s.data.toList.take k = s.data.toList) := List.take_of_length_le (by rw [unhide Hz]; omega)
      have hv : Hid (m = valN s.data.toList) := by show _ = _; rw [hacc.out, Hl.out]
      by_cases h0 : s.data.toList = []
      · have hE : s.toList = [] := by rw [ByteArray.toList_eq]; exact h0
        have hno : Hid (digitsOk s.data.toList = false) := by show _ = _; simp [digitsOk, h0]
        have hm0 : m = 0 := by rw [hv.out, h0]; rfl
        subst hm0
        replace h0 := hide h0
        go_wp2_with fail
        go_ret2
        exact ⟨by unfold valOf; rw [hno.out]; rfl, Hx.out⟩
      · have hE : ¬ s.toList = [] := by rw [ByteArray.toList_eq]; exact h0
        have hE' : (s.toList == ([] : List UInt8)) = false := by simpa using hE
        have hyes : Hid (digitsOk s.data.toList = true) := by
          show _ = _
          unfold digitsOk
          rw [← hv.out, decide_eq_true hm, Bool.and_true]
          cases hl : s.data.toList with
          | nil => exact absurd hl h0
          | cons _ _ => rfl
        replace h0 := hide h0
        go_wp2_with fail
        go_ret2
        exact ⟨by unfold valOf; rw [hyes.out, ← hv.out]; rfl, Hx.out⟩

set_option maxRecDepth 100000 in
set_option maxHeartbeats 1600000 in
theorem readSign (s : ByteArray) (w : World) (h0 : 0 < s.size) (hs : s.size ≤ 1000000) :
    Calls Tryz.prog 131 #[.string s] w fun e w' => e = .returned (.tuple #[.int .u8 ((signL s.data.toList).1.toNat : Int), .int .i64 ((signL s.data.toList).2 : Int)]) ∧ w' = w := by
  obtain ⟨c, hc1, hc2⟩ := byteAt h0
  have key : ∀ c d : UInt8, ((c.toNat : Int) == (d.toNat : Int)) = decide (c = d) := fun c d => by
    by_cases h : c = d
    · subst h; simp
    · rw [byte_ne h]; simp [h]
  have b92 := key c 92
  rw [show ((92 : UInt8).toNat : Int) = 92 from rfl] at b92
  obtain ⟨t, ht⟩ : ∃ t, s.data.toList = c :: t := by
    cases hl : s.data.toList with
    | nil => rw [hl] at hc1; simp at hc1
    | cons x t => rw [hl] at hc1; simp at hc1; exact ⟨t, by rw [hc1]⟩
  have hlen : s.size = t.length + 1 := by
    have : s.data.toList.length = s.size := Array.length_toList
    rw [ht] at this; simpa using this.symm
  by_cases h92 : c = 92
  · rw [decide_eq_true h92] at b92
    cases t with
    | nil =>
      have hS : Hid (signL s.data.toList = (0, 0)) := by show _ = _; rw [ht]; simp [signL, h92]
      have hl1 : s.size = 1 := by simpa using hlen
      have hl2 : (s.size : Int) = 1 := by omega
      replace ht := hide ht; replace h92 := hide h92; replace hc1 := hide hc1; replace key := hide key
      clear hlen
      go_enter Tryz.func131, Tryz.ntmps131
      go_wp2_with fail
      go_ret2
      exact ⟨by rw [hS.out]; rfl, rfl⟩
    | cons d t =>
      have hl1 : 1 < s.size := by rw [hlen]; simp
      have hl2 : ¬ (s.size : Int) = 1 := by omega
      obtain ⟨d', hd1, hd2⟩ := byteAt hl1
      obtain rfl : d = d' := by rw [ht] at hd1; simpa using hd1
      have e92 := key d 92; have e34 := key d 34; have e110 := key d 110
      rw [show ((92 : UInt8).toNat : Int) = 92 from rfl] at e92
      rw [show ((34 : UInt8).toNat : Int) = 34 from rfl] at e34
      rw [show ((110 : UInt8).toNat : Int) = 110 from rfl] at e110
      have hS : Hid (signL s.data.toList = if d = 92 ∨ d = 34 then (d, 2) else if d = 110 then (10, 2) else (0, 0)) := by show _ = _; rw [ht]; simp [signL, h92]
      replace ht := hide ht; replace h92 := hide h92; replace hc1 := hide hc1; replace key := hide key; replace hd1 := hide hd1
      clear hlen
      by_cases q1 : d = 92
      · rw [decide_eq_true q1] at e92
        have hS2 : Hid (signL s.data.toList = (d, 2)) := by show _ = _; rw [hS.out, if_pos (.inl q1)]
        replace q1 := hide q1; replace e34 := hide e34; replace e110 := hide e110
        go_enter Tryz.func131, Tryz.ntmps131
        go_wp2_with fail
        go_ret2
        exact ⟨by rw [hS2.out]; rfl, rfl⟩
      · rw [decide_eq_false q1] at e92
        by_cases q2 : d = 34
        · rw [decide_eq_true q2] at e34
          have hS2 : Hid (signL s.data.toList = (d, 2)) := by show _ = _; rw [hS.out, if_pos (.inr q2)]
          replace q1 := hide q1; replace q2 := hide q2; replace e110 := hide e110
          go_enter Tryz.func131, Tryz.ntmps131
          go_wp2_with fail
          go_ret2
          exact ⟨by rw [hS2.out]; rfl, rfl⟩
        · rw [decide_eq_false q2] at e34
          by_cases q3 : d = 110
          · rw [decide_eq_true q3] at e110
            have hS2 : Hid (signL s.data.toList = (10, 2)) := by show _ = _; rw [hS.out, if_neg (by simp [q1, q2]), if_pos q3]
            replace q1 := hide q1; replace q2 := hide q2; replace q3 := hide q3
            go_enter Tryz.func131, Tryz.ntmps131
            go_wp2_with fail
            go_ret2
            exact ⟨by rw [hS2.out]; rfl, rfl⟩
          · rw [decide_eq_false q3] at e110
            have hS2 : Hid (signL s.data.toList = (0, 0)) := by show _ = _; rw [hS.out, if_neg (by simp [q1, q2]), if_neg q3]
            replace q1 := hide q1; replace q2 := hide q2; replace q3 := hide q3
            go_enter Tryz.func131, Tryz.ntmps131
            go_wp2_with fail
            go_ret2
            exact ⟨by rw [hS2.out]; rfl, rfl⟩
  · rw [decide_eq_false h92] at b92
    have hb : ((c.toNat : Int) != 92) = true := by simp only [bne, b92]; rfl
    have hS : Hid (signL s.data.toList = if isPlainB c.toNat then (c, 1) else (0, 0)) := by show _ = _; rw [ht]; simp [signL, h92]
    replace ht := hide ht; replace h92 := hide h92; replace hc1 := hide hc1; replace key := hide key
    clear hlen
    cases hp : isPlainB c.toNat
    · have hS2 : Hid (signL s.data.toList = (0, 0)) := by show _ = _; rw [hS.out, hp]; rfl
      go_enter Tryz.func131, Tryz.ntmps131
      go_wp2_with fail
      refine (isPlain _ _).mono ?_
      rintro e w' ⟨rfl, rfl⟩
      go_wp2_with fail
      go_ret2
      exact ⟨by rw [hS2.out]; rfl, rfl⟩
    · have hS2 : Hid (signL s.data.toList = (c, 1)) := by show _ = _; rw [hS.out, hp]; rfl
      go_enter Tryz.func131, Tryz.ntmps131
      go_wp2_with fail
      refine (isPlain _ _).mono ?_
      rintro e w' ⟨rfl, rfl⟩
      go_wp2_with fail
      go_ret2
      exact ⟨by rw [hS2.out]; rfl, rfl⟩
end Go.Proofs.YtfmcgdglalljgaaGreatDoor
