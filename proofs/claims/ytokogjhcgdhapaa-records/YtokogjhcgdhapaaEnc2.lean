/-
  Lists and resources as bytes: what the program's functions that write them answer.
-/
import Derived.Test.YtokogjhcgdhapaaEnc
namespace Go.Proofs.Ytokogjhcgdhapaa
open Go.RowKit

set_option maxRecDepth 100000 in
set_option maxHeartbeats 800000 in
theorem appendAttrs (B : Nat) (v va : Value) (l : List UInt8) (xs : List Attrd) (w0 w : World) (hv : Buf B w v l) (hl : l.length ≤ 600000) (hA : AttrsV w0 va xs) (hE : Ext w0 w) (hB : w0.heap.size ≤ B) (hx : ∀ x ∈ xs, shA x) (hn : xs.length ≤ 255) :
    Calls Try.prog 30 #[v, va, .func (.func 31) #[] #[]] w (Wrt B w (l ++ listL attrL xs)) := by
  obtain ⟨⟨a, ca, rfl, hcap, hmax, hs⟩, hfew, hok⟩ := hA
  obtain ⟨pa, cap, rfl⟩ := hv.form
  replace hv := hide hv; replace hE := hide hE; replace hok := hide hok; replace hx := hide hx
  go_enter Try.func30, Try.ntmps30
  go_wp2_with fail
  refine (appendNumber B _ l xs.length 1 _ hv.out (by omega) (by omega)).mono ?_
  rintro e w1 ⟨acc, pa1, cap1, rfl, hacc, hv1, hb1⟩
  have hlen := bound2 (N := 600001) hacc.out (by omega)
  go_wp2
  go_loopw [0, 15] (fun b i wr => ∃ (k : Nat) (acc2 : List UInt8) (pa2 : Option Addr) (cap2 : Nat), k ≤ xs.length ∧ i = .int .i64 k ∧ b = .slice pa2 acc2.length cap2 ∧ acc2.length ≤ 600001 + k * 600 ∧ Hid (acc2 = acc ++ (xs.take k).flatMap attrL) ∧ Hid (Buf B wr (.slice pa2 acc2.length cap2) acc2) ∧ Hid (Wrote8 B w wr)) (fun _ i _ => xs.length - (intOf i).toNat)
  case atStart => exact ⟨0, acc, pa1, cap1, Nat.zero_le _, rfl, rfl, by omega, by simp [Hid], hv1, hb1⟩
  case round =>
    obtain ⟨k, acc2, pa2, cap2, hk, rfl, rfl, hlen2, hacc2, hv2, hb2⟩ := hrel
    by_cases hlt : k < xs.length
    · rcases hs with rfl | ⟨b, off, rfl, hin⟩
      · simp at hlt
      obtain ⟨x, hxk⟩ := some_of_lt hlt
      obtain ⟨g0, g1, g2, g3⟩ := (hin.ext (hE.out.wrote hb2.out hB)) k x hxk
      have hsx := hide (hx.out x (List.mem_of_getElem? hxk))
      have Hs := hide (flat_succ (f := attrL) hxk)
      replace hin := hide hin
      replace hxk := hide hxk
      go_wp2_with fail
      refine (appendAttr B _ acc2 x _ (hv2.out.alloc _) (by omega) hsx.out).mono ?_
      rintro e w3 ⟨acc3, pa3, cap3, rfl, hacc3, hv3, hb3⟩
      go_wp2_with fail
      go_roundw
      case rel =>
        refine ⟨k + 1, acc3, pa3, cap3, by omega, by go_num, rfl, ?_, ?_, hv3, (hb2.out.alloc _).trans hb3.out⟩
        · have := attrL_len hsx.out
          rw [hacc3.out, List.length_append]; omega
        · rw [hacc3.out, hacc2.out, Hs.out, List.append_assoc]; rfl
      case measure => simp [intOf]; omega
    · have Hl := hide (show xs.take k = xs from List.take_of_length_le (by omega))
      replace hs := hide hs
      go_wp2
      go_ret
      refine Wrt.mk ?_ hb2.out
      have e : acc2 = l ++ listL attrL xs := by rw [hacc2.out, Hl.out, hacc.out, List.append_assoc]; rfl
      rw [← e]; exact hv2.out

set_option maxRecDepth 100000 in
set_option maxHeartbeats 800000 in
theorem appendIDs (B : Nat) (v va : Value) (l : List UInt8) (xs : List IDd) (w0 w : World) (hv : Buf B w v l) (hl : l.length ≤ 600000) (hA : IDsV w0 va xs) (hE : Ext w0 w) (hB : w0.heap.size ≤ B) (hx : ∀ x ∈ xs, shI x) (hn : xs.length ≤ 255) :
    Calls Try.prog 32 #[v, va, .func (.func 29) #[] #[]] w (Wrt B w (l ++ listL idL xs)) := by
  obtain ⟨⟨a, ca, rfl, hcap, hmax, hs⟩, hfew, hok⟩ := hA
  obtain ⟨pa, cap, rfl⟩ := hv.form
  replace hv := hide hv; replace hE := hide hE; replace hok := hide hok; replace hx := hide hx
  go_enter Try.func32, Try.ntmps32
  go_wp2_with fail
  refine (appendNumber B _ l xs.length 1 _ hv.out (by omega) (by omega)).mono ?_
  rintro e w1 ⟨acc, pa1, cap1, rfl, hacc, hv1, hb1⟩
  have hlen := bound2 (N := 600001) hacc.out (by omega)
  go_wp2
  go_loopw [0, 15] (fun b i wr => ∃ (k : Nat) (acc2 : List UInt8) (pa2 : Option Addr) (cap2 : Nat), k ≤ xs.length ∧ i = .int .i64 k ∧ b = .slice pa2 acc2.length cap2 ∧ acc2.length ≤ 600001 + k * 600 ∧ Hid (acc2 = acc ++ (xs.take k).flatMap idL) ∧ Hid (Buf B wr (.slice pa2 acc2.length cap2) acc2) ∧ Hid (Wrote8 B w wr)) (fun _ i _ => xs.length - (intOf i).toNat)
  case atStart => exact ⟨0, acc, pa1, cap1, Nat.zero_le _, rfl, rfl, by omega, by simp [Hid], hv1, hb1⟩
  case round =>
    obtain ⟨k, acc2, pa2, cap2, hk, rfl, rfl, hlen2, hacc2, hv2, hb2⟩ := hrel
    by_cases hlt : k < xs.length
    · rcases hs with rfl | ⟨b, off, rfl, hin⟩
      · simp at hlt
      obtain ⟨x, hxk⟩ := some_of_lt hlt
      obtain ⟨g0, g1⟩ := (hin.ext (hE.out.wrote hb2.out hB)) k x hxk
      have hsx := hide (hx.out x (List.mem_of_getElem? hxk))
      have Hs := hide (flat_succ (f := idL) hxk)
      replace hin := hide hin
      replace hxk := hide hxk
      go_wp2_with fail
      refine (appendID B _ acc2 x _ (hv2.out.alloc _) (by omega) hsx.out).mono ?_
      rintro e w3 ⟨acc3, pa3, cap3, rfl, hacc3, hv3, hb3⟩
      go_wp2_with fail
      go_roundw
      case rel =>
        refine ⟨k + 1, acc3, pa3, cap3, by omega, by go_num, rfl, ?_, ?_, hv3, (hb2.out.alloc _).trans hb3.out⟩
        · have := idL_len hsx.out
          rw [hacc3.out, List.length_append]; omega
        · rw [hacc3.out, hacc2.out, Hs.out, List.append_assoc]; rfl
      case measure => simp [intOf]; omega
    · have Hl := hide (show xs.take k = xs from List.take_of_length_le (by omega))
      replace hs := hide hs
      go_wp2
      go_ret
      refine Wrt.mk ?_ hb2.out
      have e : acc2 = l ++ listL idL xs := by rw [hacc2.out, Hl.out, hacc.out, List.append_assoc]; rfl
      rw [← e]; exact hv2.out

end Go.Proofs.Ytokogjhcgdhapaa
