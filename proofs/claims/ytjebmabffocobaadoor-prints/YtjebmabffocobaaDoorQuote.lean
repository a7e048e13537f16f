/-
  A string in quotes: what the function answers.
-/
import Derived.Test.YtjebmabffocobaaDoorBytes
import Derived.Test.YtjebmabffocobaaDoorPrL
import Derived.Deep.AppendLies
import Derived.Lib.Builder
namespace Go.Proofs.YtjebmabffocobaaDoor
open Go.RowKit

theorem escL_len (c : UInt8) : (escL c).length ≤ 2 := by
  unfold escL
  split
  · simp
  · split <;> simp
theorem escs_len : ∀ l : List UInt8, (l.flatMap escL).length ≤ 2 * l.length
  | [] => by simp
  | c :: l => by
    have h1 := escL_len c
    have h2 := escs_len l
    rw [List.flatMap_cons, List.length_append, List.length_cons]; omega
theorem take_flat {l : List UInt8} {k : Nat} (h : k < l.length) : (l.take (k + 1)).flatMap escL = (l.take k).flatMap escL ++ escL l[k] := by
  rw [List.take_succ_eq_append_getElem h, List.flatMap_append, List.flatMap_cons, List.flatMap_nil, List.append_nil]

/-- What has been built so far, and the bytes that are gone through. -/
structure QRel (w : World) (s : ByteArray) (acc : List UInt8) (v : Value) (wr : World) : Prop where
  form : ∃ g cap, v = .slice (some ⟨g, 0, none⟩) acc.length cap ∧ g ≠ w.heap.size + 1
  own : wr.ownsRow w.heap.size 5 1 v acc.length (cellsB acc)
  src : ∀ j, j < s.size → wr.cell? ⟨w.heap.size + 1, j, none⟩ = some (.int .u8 ((s.data.toList[j]?.getD 0).toNat : Int))
  ext : Ext w wr
  big : w.heap.size + 1 < wr.heap.size
theorem QRel.start (w : World) (s : ByteArray) : QRel w s [34] (.slice (some ⟨w.heap.size, 0, none⟩) 1 1) (Lib.bytesWorld (w.alloc (.cells #[.int .u8 34] 5)) 5 s) := by
  have hs : (w.alloc (.cells #[.int .u8 34] 5)).heap.size = w.heap.size + 1 := by simp
  refine ⟨⟨w.heap.size, 1, rfl, by omega⟩, ⟨rfl, .inr ⟨w.heap.size, 1, #[.int .u8 34], rfl, Nat.le_refl _, ?_, Nat.le_refl _, by decide, rfl, rfl⟩⟩, ?_, ?_, ?_⟩
  · rw [Lib.bytesWorld_at_old _ _ _ _ (by omega)]; exact heap_alloc_new w _
  · intro j hj
    have := Lib.bytesWorld_cell (w.alloc (.cells #[.int .u8 34] 5)) 5 s j hj
    rw [hs] at this
    rw [this]; simp [List.getD]
  · exact ((Ext.refl _).alloc _).trans (Ext.bytes _ _ _)
  · rw [Lib.bytesWorld_size]; omega
theorem QRel.step {w : World} {s : ByteArray} {acc news : List UInt8} {v : Value} {wr w1 : World} {o : Obj} {m g cap : Nat} (h : QRel w s acc v wr) (hm : news.length = m)
    (hown : w1.ownsRow w.heap.size 5 1 (.slice (some ⟨g, 0, none⟩) (acc.length + m) cap) (acc.length + m) (cellsB acc ++ cellsB news)) (hgrow : (wr.alloc o).grownBy w1 v.ownBlock)
    (hat : v.ownBlock = some g ∨ g = wr.heap.size + 1) : QRel w s (acc ++ news) (.slice (some ⟨g, 0, none⟩) (acc.length + m) cap) w1 := by
  obtain ⟨⟨g0, c0, rfl, hne⟩, hown0, hsrc, hext, hbig⟩ := h
  have hl : (acc ++ news).length = acc.length + m := by rw [List.length_append, hm]
  have hg0 := (hown0.lt g0 rfl)
  refine ⟨⟨g, cap, by rw [hl], ?_⟩, by rw [hl, cellsB_append]; exact hown, ?_, ?_, ?_⟩
  · rcases hat with h | h
    · simp [Value.ownBlock] at h; omega
    · omega
  · intro j hj
    have h1 := ((Ext.refl wr).alloc o).cells (hsrc j hj)
    exact hgrow.cell h1 (by simp [Value.ownBlock]; omega)
  · exact Below.grown (hext.alloc o) hgrow (by have := hext.size; simp; omega) (fun k hk => by simp [Value.ownBlock] at hk; omega)
  · have := hgrow.size; simp at this; omega

set_option maxRecDepth 100000 in
set_option maxHeartbeats 3200000 in
theorem quote (s : ByteArray) (w : World) (hm : s.size ≤ 1048576) :
    Calls Tryd.prog 37 #[.string s] w fun e w' => e = .returned (.string ⟨(quoteL s.data.toList).toArray⟩) ∧ Ext w w' := by
  obtain ⟨i0, hi, hz0, hz1, hz2⟩ := info_of infoByte
  have hcv := fun (w : World) => Lib.run_convert_string_bytes (P := Tryd.prog) w 9 43 5 s Tryd.underlying9 Tryd.underlying43 Tryd.underlying5
  have hsz : s.data.toList.length = s.size := Array.length_toList
  replace hsz := hide hsz
  replace hi := hide hi
  go_enter Tryd.func37, Tryd.ntmps37
  go_wp2
  go_loopw [3, 10] (fun v i wr => ∃ (k : Nat) (acc : List UInt8), k ≤ s.size ∧ i = .int .i64 k ∧ acc.length ≤ 1 + 2 * k ∧ Hid (acc = 34 :: (s.data.toList.take k).flatMap escL) ∧ QRel w s acc v wr) (fun _ i _ => s.size - (intOf i).toNat)
  case atStart => exact ⟨0, [34], Nat.zero_le _, rfl, by simp, by simp [Hid], QRel.start w s⟩
  case round =>
    obtain ⟨k, acc, hk, rfl, hlen, hacc, hq⟩ := hrel
    obtain ⟨⟨g, cap, rfl, hne⟩, hown, hsrc, hext, hbig⟩ := id hq
    by_cases hlt : k < s.size
    · have hlt' : k < s.data.toList.length := by rw [unhide hsz]; exact hlt
      have g0 := hsrc k hlt
      have hx : s.data.toList[k]?.getD 0 = s.data.toList[k] := by rw [List.getElem?_eq_getElem hlt']; rfl
      rw [hx] at g0
      have Ht : Hid (34 :: (s.data.toList.take (k + 1)).flatMap escL = acc ++ escL s.data.toList[k]) := by rw [take_flat hlt', hacc.out]; rfl
      clear hx
      generalize s.data.toList[k] = c at *
      replace hq := hide hq; replace hown := hide hown; replace hsrc := hide hsrc; replace hext := hide hext; replace hacc := hide hacc
      by_cases h1 : c = 92
      · subst h1
        have He : Hid (escL 92 = [92, 92]) := rfl
        go_wp2_with (at_builtin; refine wpList_append_lies _ rfl (.tmp 22) (.tmp 24) 43 rfl w.heap.size 5 i0 (.int .u8 0) 1 1 Tryd.underlying43 hi.out hz0 hz1 hz2 rfl (by omega) _ acc.length (cellsB acc) rfl (hown.out.alloc _) ⟨wr.heap.size, 0, none⟩ 2 2 (cellsB [92, 92]) rfl rfl ?_ (one_cellB _) (by omega) (by unfold maxLen; omega) (by omega) (by have := hext.out.size; simp; omega) (wr.heap.size + 1) (by simp) ?_; (intro j u hu; rw [add_eq]; (match j, hu with | 0, hu => (simp [cellsB] at hu; subst hu; simp [go_sem]) | 1, hu => (simp [cellsB] at hu; subst hu; simp [go_sem]) | _ + 2, hu => (simp [cellsB] at hu))); intro g1 cap1 w1 hown1 hgrow1 hat1 hlt1)
        go_roundw
        case rel => exact ⟨k + 1, acc ++ [92, 92], by omega, by go_num, by simp; omega, by rw [unhide Ht, unhide He]; rfl, hq.out.step rfl hown1 hgrow1 hat1⟩
        case measure => simp [intOf]; omega

      by_cases h2 : c = 34
      · subst h2
        have He : Hid (escL 34 = [92, 34]) := rfl
        go_wp2_with (at_builtin; refine wpList_append_lies _ rfl (.tmp 22) (.tmp 24) 43 rfl w.heap.size 5 i0 (.int .u8 0) 1 1 Tryd.underlying43 hi.out hz0 hz1 hz2 rfl (by omega) _ acc.length (cellsB acc) rfl (hown.out.alloc _) ⟨wr.heap.size, 0, none⟩ 2 2 (cellsB [92, 34]) rfl rfl ?_ (one_cellB _) (by omega) (by unfold maxLen; omega) (by omega) (by have := hext.out.size; simp; omega) (wr.heap.size + 1) (by simp) ?_; (intro j u hu; rw [add_eq]; (match j, hu with | 0, hu => (simp [cellsB] at hu; subst hu; simp [go_sem]) | 1, hu => (simp [cellsB] at hu; subst hu; simp [go_sem]) | _ + 2, hu => (simp [cellsB] at hu))); intro g1 cap1 w1 hown1 hgrow1 hat1 hlt1)
        go_roundw
        case rel => exact ⟨k + 1, acc ++ [92, 34], by omega, by go_num, by simp; omega, by rw [unhide Ht, unhide He]; rfl, hq.out.step rfl hown1 hgrow1 hat1⟩
        case measure => simp [intOf]; omega

      by_cases h3 : c = 10
      · subst h3
        have He : Hid (escL 10 = [92, 110]) := rfl
        go_wp2_with (at_builtin; refine wpList_append_lies _ rfl (.tmp 28) (.tmp 29) 43 rfl w.heap.size 5 i0 (.int .u8 0) 1 1 Tryd.underlying43 hi.out hz0 hz1 hz2 rfl (by omega) _ acc.length (cellsB acc) rfl (hown.out.alloc _) ⟨wr.heap.size, 0, none⟩ 2 2 (cellsB [92, 110]) rfl rfl ?_ (one_cellB _) (by omega) (by unfold maxLen; omega) (by omega) (by have := hext.out.size; simp; omega) (wr.heap.size + 1) (by simp) ?_; (intro j u hu; rw [add_eq]; (match j, hu with | 0, hu => (simp [cellsB] at hu; subst hu; simp [go_sem]) | 1, hu => (simp [cellsB] at hu; subst hu; simp [go_sem]) | _ + 2, hu => (simp [cellsB] at hu))); intro g1 cap1 w1 hown1 hgrow1 hat1 hlt1)
        go_roundw
        case rel => exact ⟨k + 1, acc ++ [92, 110], by omega, by go_num, by simp; omega, by rw [unhide Ht, unhide He]; rfl, hq.out.step rfl hown1 hgrow1 hat1⟩
        case measure => simp [intOf]; omega

      have He : Hid (escL c = [c]) := by unfold escL; rw [if_neg (by simp [h1, h2]), if_neg h3]; rfl
      have b1 : ((c.toNat : Int) == 92) = false := byte_ne (d := 92) h1
      have b2 : ((c.toNat : Int) == 34) = false := byte_ne (d := 34) h2
      have b3 : ((c.toNat : Int) == 10) = false := byte_ne (d := 10) h3
      clear h1 h2 h3
      go_wp2_with (at_builtin; refine wpList_append_lies _ rfl (.tmp 15) (.tmp 17) 43 rfl w.heap.size 5 i0 (.int .u8 0) 1 1 Tryd.underlying43 hi.out hz0 hz1 hz2 rfl (by omega) _ acc.length (cellsB acc) rfl (hown.out.alloc _) ⟨wr.heap.size, 0, none⟩ 1 1 (cellsB [c]) rfl rfl ?_ (one_cellB _) (by omega) (by unfold maxLen; omega) (by omega) (by have := hext.out.size; simp; omega) (wr.heap.size + 1) (by simp) ?_; (intro j u hu; rw [add_eq]; (match j, hu with | 0, hu => (simp [cellsB] at hu; subst hu; simp [go_sem]) | _ + 1, hu => (simp [cellsB] at hu))); intro g1 cap1 w1 hown1 hgrow1 hat1 hlt1)
      go_roundw
      case rel => exact ⟨k + 1, acc ++ [c], by omega, by go_num, by simp; omega, by rw [unhide Ht, unhide He]; rfl, hq.out.step rfl hown1 hgrow1 hat1⟩
      case measure => simp [intOf]; omega
    · have Hl : Hid (s.data.toList.take k = s.data.toList) := List.take_of_length_le (by rw [unhide hsz]; omega)
      have Hfin : Hid (acc ++ [34] = quoteL s.data.toList) := by rw [hacc.out, unhide Hl]; rfl
      replace hq := hide hq; replace hown := hide hown; replace hsrc := hide hsrc; replace hext := hide hext
      go_wp2_with (at_builtin; refine wpList_append_lies _ rfl (.tmp 32) (.tmp 33) 43 rfl w.heap.size 5 i0 (.int .u8 0) 1 1 Tryd.underlying43 hi.out hz0 hz1 hz2 rfl (by omega) _ acc.length (cellsB acc) rfl (hown.out.alloc _) ⟨wr.heap.size, 0, none⟩ 1 1 (cellsB [34]) rfl rfl ?_ (one_cellB _) (by omega) (by unfold maxLen; omega) (by omega) (by have := hext.out.size; simp; omega) (wr.heap.size + 1) (by simp) ?_; (intro j u hu; rw [add_eq]; (match j, hu with | 0, hu => (simp [cellsB] at hu; subst hu; simp [go_sem]) | _ + 1, hu => (simp [cellsB] at hu))); intro g1 cap1 w1 hown1 hgrow1 hat1 hlt1; have hcv1 := own_conv2 (m := 1) (news := [34]) rfl hown1)
      go_ret
      exact ⟨retS (by rw [unhide Hfin]), (hq.out.step (news := [34]) rfl hown1 hgrow1 hat1).ext⟩
end Go.Proofs.YtjebmabffocobaaDoor
