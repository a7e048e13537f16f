/-
  A state as bytes: what the program's function answers.
-/
import Derived.Test.YtkjjfdejfihpfaaGreatWhole
import Derived.Test.YtkjjfdejfihpfaaGreatJ9
import Derived.Test.YtkjjfdejfihpfaaGreatSum
namespace Go.Proofs.YtkjjfdejfihpfaaGreat
open Go.RowKit

/-- A state as bytes. -/
def stateB (epoch : Int) (l : List Resd) : List UInt8 := [77, 65, 83, 78] ++ bigL 3 epoch ++ listL encR l
def stateL (epoch : Int) (l : List Resd) : List UInt8 := stateB epoch l ++ bigL 4 (sumL (stateB epoch l))
noncomputable def stOk (epoch : Int) (l : List Resd) : Bool := decide (1 ≤ epoch) && decide (epoch ≤ 1000000) && fineB l
noncomputable def stS (epoch : Int) (l : List Resd) : ByteArray := if stOk epoch l then ⟨(stateL epoch l).toArray⟩ else ⟨#[]⟩
noncomputable def stE (epoch : Int) (l : List Resd) : Int := if stOk epoch l then 0 else 11
theorem encR_len {x : Resd} (h : mayB x = true) : (encR x).length ≤ 8000 := by
  have hs := may_sh h
  simp only [mayB, Bool.and_eq_true, decide_eq_true_eq] at h
  have h1 := idL_len hs.1
  have h2 := flat_le (f := attrL) (n := 600) (l := x.attrs) fun a ha => attrL_len (hs.2.1 a ha)
  have h3 := flat_le (f := idL) (n := 600) (l := x.after) fun a ha => idL_len (hs.2.2.1 a ha)
  have h4 : x.attrs.length * 600 ≤ 6 * 600 := Nat.mul_le_mul_right _ h.1.1.1.1.1.1
  have h5 : x.after.length * 600 ≤ 6 * 600 := Nat.mul_le_mul_right _ h.1.1.1.1.1.2
  simp only [encR, listL, List.length_append, bigL_len]
  omega
theorem fine_may {l : List Resd} (h : fineB l = true) : mayAllB l = true := by
  simp only [fineB, Bool.and_eq_true] at h; exact h.1
theorem mays_each {l : List Resd} (h : mayAllB l = true) : l.length ≤ 12 ∧ ∀ x ∈ l, mayB x = true := by
  simp only [mayAllB, Bool.and_eq_true, decide_eq_true_eq, List.all_eq_true] at h
  exact ⟨h.1.1, h.1.2⟩
theorem stateB_len {epoch : Int} {l : List Resd} (h : mayAllB l = true) : 8 ≤ (stateB epoch l).length ∧ (stateB epoch l).length ≤ 97000 := by
  obtain ⟨h1, h2⟩ := mays_each h
  have h3 := flat_le (f := encR) (n := 8000) (l := l) fun x hx => encR_len (h2 x hx)
  have h4 : l.length * 8000 ≤ 12 * 8000 := Nat.mul_le_mul_right _ h1
  simp only [stateB, listL, List.length_append, bigL_len, List.length_cons, List.length_nil]
  omega

set_option maxRecDepth 100000 in
set_option maxHeartbeats 800000 in
theorem appendRess (B : Nat) (v va : Value) (l : List UInt8) (xs : List Resd) (w0 w : World) (hv : Buf B w v l) (hl : l.length ≤ 100) (hA : RessV w0 va xs) (hE : Ext w0 w) (hB : w0.heap.size ≤ B) (hx : ∀ x ∈ xs, mayB x = true) (hn : xs.length ≤ 12) :
    Calls Tryz.prog 12 #[v, va, .func (.func 13) #[] #[]] w (Wrt B w (l ++ listL encR xs)) := by
  obtain ⟨⟨a, ca, rfl, hcap, hmax, hs⟩, hfew⟩ := hA
  obtain ⟨pa, cap, rfl⟩ := hv.form
  replace hv := hide hv; replace hE := hide hE; replace hx := hide hx
  go_enter Tryz.func12, Tryz.ntmps12
  go_wp2_with fail
  refine (appendNumber B _ l xs.length 1 _ hv.out (by omega) (by omega)).mono ?_
  rintro e w1 ⟨acc, pa1, cap1, rfl, hacc, hv1, hb1⟩
  have hlen := bound2 (N := 101) hacc.out (by omega)
  go_wp2
  go_loopw [0, 15] (fun b i wr => ∃ (k : Nat) (acc2 : List UInt8) (pa2 : Option Addr) (cap2 : Nat), k ≤ xs.length ∧ i = .int .i64 k ∧ b = .slice pa2 acc2.length cap2 ∧ acc2.length ≤ 101 + k * 8000 ∧ Hid (acc2 = acc ++ (xs.take k).flatMap encR) ∧ Hid (Buf B wr (.slice pa2 acc2.length cap2) acc2) ∧ Hid (Wrote8 B w wr)) (fun _ i _ => xs.length - (intOf i).toNat)
  case atStart => exact ⟨0, acc, pa1, cap1, Nat.zero_le _, rfl, rfl, by omega, by simp [Hid], hv1, hb1⟩
  case round =>
    obtain ⟨k, acc2, pa2, cap2, hk, rfl, rfl, hlen2, hacc2, hv2, hb2⟩ := hrel
    by_cases hlt : k < xs.length
    · rcases hs with rfl | ⟨b, off, rfl, hin⟩
      · simp at hlt
      obtain ⟨x, hxk⟩ := some_of_lt hlt
      obtain ⟨g0, g1, c2, c3, g2, g3, hres⟩ := (hin.ext (hE.out.wrote hb2.out hB)) k x hxk
      have hres0 := hin k x hxk
      obtain ⟨_, _, d2, d3, e2, e3, hr0⟩ := hres0
      have hr1 := (hE.out.wrote hb2.out hB)
      obtain rfl : d2 = c2 := by have := hr1.cells e2; rw [g2] at this; cases this; rfl
      obtain rfl : d3 = c3 := by have := hr1.cells e3; rw [g3] at this; cases this; rfl
      have hmx := hx.out x (List.mem_of_getElem? hxk)
      have hsx := hide (may_sh hmx)
      have hle := hide (encR_len hmx)
      have Hs := hide (flat_succ (f := encR) hxk)
      have hcall := hide (appendResource B _ d2 d3 acc2 x w0 _ (hv2.out.alloc (.cells #[.string x.id.kind, .string x.id.name, d2, d3] 40)) (by omega) hr0 (hr1.alloc _) hB hsx.out)
      obtain ⟨a2, p2, rfl⟩ := hres.attrs.form
      obtain ⟨a3, p3, rfl⟩ := hres.after.form
      clear hres e2 e3 hr0 hmx
      replace hr1 := hide hr1
      replace hin := hide hin
      replace hxk := hide hxk
      go_wp2_with fail
      refine hcall.out.mono ?_
      rintro e w3 ⟨acc3, pa3, cap3, rfl, hacc3, hv3, hb3⟩
      go_wp2_with fail
      go_roundw
      case rel =>
        refine ⟨k + 1, acc3, pa3, cap3, by omega, by go_num, rfl, ?_, ?_, hv3, (hb2.out.alloc _).trans hb3.out⟩
        · have := hle.out
          rw [hacc3.out, List.length_append]; omega
        · rw [hacc3.out, hacc2.out, Hs.out, List.append_assoc]; rfl
      case measure => simp [intOf]; omega
    · have Hl := hide (show xs.take k = xs from List.take_of_length_le (by omega))
      replace hs := hide hs
      go_wp2
      go_ret
      refine Wrt.mk ?_ hb2.out
      have e : acc2 = l ++ listL encR xs := by rw [hacc2.out, Hl.out, hacc.out, List.append_assoc]; rfl
      rw [← e]; exact hv2.out

/-- []byte of the mark: the world behind it. -/
def markW (w : World) : World := (w.alloc (.cells #[.int .u8 77, .int .u8 65, .int .u8 83, .int .u8 78] 5)).freeze ⟨w.heap.size, 4, none⟩ 1
theorem conv_mark (w : World) : (convert 44 44 (.slice (some ⟨w.heap.size, 0, none⟩) 4 4)).run Tryz.prog (w.alloc (.cells #[.int .u8 77, .int .u8 65, .int .u8 83, .int .u8 78] 5)) = .ok (.slice (some ⟨w.heap.size, 0, none⟩) 4 4) (markW w) := by
  have hsh : (w.alloc (.cells #[.int .u8 77, .int .u8 65, .int .u8 83, .int .u8 78] 5)).shape? w.heap.size = some (5, 4) := by simp only [World.shape?, heap_alloc_new]; rfl
  simp [convert, run_underlying Tryz.underlying44, run_underlying Tryz.underlying5, markStringish, hsh, markW, Result.andThen]
theorem freeze_at {w : World} {b k : Nat} {c : Array Value} {t : TypeId} (h : w.heap[b]? = some (.cells c t (0, 0))) : (w.freeze ⟨b, k, none⟩ 1).heap[b]? = some (.cells c t (k, k + 1)) := by
  unfold World.freeze
  rw [if_neg (by decide)]
  show (w.heap.modify b _)[b]? = _
  rw [Array.getElem?_modify, if_pos rfl, h]; rfl
theorem freeze_other (w : World) (b k j : Nat) (hj : j ≠ b) : (w.freeze ⟨b, k, none⟩ 1).heap[j]? = w.heap[j]? := by
  unfold World.freeze
  rw [if_neg (by decide)]
  show (w.heap.modify b _)[j]? = _
  rw [Array.getElem?_modify, if_neg (fun h => hj h.symm)]
theorem mark_new (w : World) : (markW w).heap[w.heap.size]? = some (.cells #[.int .u8 77, .int .u8 65, .int .u8 83, .int .u8 78] 5 (4, 5)) :=
  freeze_at (heap_alloc_new w _)
theorem mark_ext (w : World) : Ext w (markW w) := by
  refine ⟨rfl, rfl, rfl, by simp [markW, World.freeze], fun k hk => ?_⟩
  unfold markW
  rw [freeze_other _ _ _ _ (by omega)]
  exact Below.heap_alloc w _ k hk
theorem mark_buf (w : World) : Buf w.heap.size (markW w) (.slice (some ⟨w.heap.size, 0, none⟩) 4 4) [77, 65, 83, 78] :=
  ⟨⟨rfl, .inr ⟨w.heap.size, 4, _, (4, 5), rfl, Nat.le_refl _, mark_new w, .inr (Nat.le_refl _), Nat.le_refl _, by unfold maxLen; omega, rfl, rfl⟩⟩, (mark_ext w).size⟩

set_option maxRecDepth 100000 in
set_option maxHeartbeats 1600000 in
theorem stateP (epoch : Int) (v : Value) (l : List Resd) (w : World) (hv : RessV w v l) :
    Calls Tryz.prog 5 #[.int .i64 epoch, v] w fun e w' => e = .returned (.tuple #[.string (stS epoch l), .int .i64 (stE epoch l)]) ∧ Ext w w' := by
  have hv0 := hide hv
  have hw := hide (areWhole v l w hv)
  obtain ⟨va, vc, rfl, -, -, -⟩ := hv.shape
  clear hv
  by_cases h1 : epoch < 1
  · have H : Hid (stOk epoch l = false) := by show _ = _; simp [stOk]; omega
    go_enter Tryz.func5, Tryz.ntmps5
    go_wp2_with fail
    go_ret2
    exact ⟨by simp [stS, stE, H.out], Ext.refl _⟩
  by_cases h2 : 1000000 < epoch
  · have H : Hid (stOk epoch l = false) := by show _ = _; simp [stOk]; omega
    go_enter Tryz.func5, Tryz.ntmps5
    go_wp2_with fail
    go_ret2
    exact ⟨by simp [stS, stE, H.out], Ext.refl _⟩
  go_enter Tryz.func5, Tryz.ntmps5
  go_wp2_with fail
  refine hw.out.mono ?_
  rintro e w1 ⟨rfl, he1⟩
  cases hf : fineB l
  · have H : Hid (stOk epoch l = false) := by show _ = _; simp [stOk, hf]
    replace he1 := hide he1
    go_wp2_with fail
    go_ret2
    exact ⟨by simp [stS, stE, H.out], he1.out⟩
  have H : Hid (stOk epoch l = true) := by show _ = _; simp [stOk, hf]; omega
  have hcv := conv_mark w1
  have hmay := hide (fine_may hf)
  have hX2 := hide (he1.trans (mark_ext w1))
  have hb0 := hide (mark_buf w1)
  have hsz := hide (Ext.size he1)
  replace he1 := hide he1
  go_wp2_with fail
  refine (appendNumber w1.heap.size _ [77, 65, 83, 78] epoch 3 _ hb0.out (by decide) (by omega)).mono ?_
  rintro e w3 ⟨acc3, pa3, cap3, rfl, hacc3, hv3, hW3⟩
  have hlen3 : acc3.length ≤ 7 := by rw [hacc3.out, List.length_append, bigL_len]; decide
  have hX3 := hide (hX2.out.wrote hW3.out hsz.out)
  clear hcv
  go_wp2_with fail
  refine (appendRess w1.heap.size _ _ acc3 l w _ hv3.out (by omega) hv0.out hX3.out hsz.out (mays_each hmay.out).2 (mays_each hmay.out).1).mono ?_
  rintro e w4 ⟨acc4, pa4, cap4, rfl, hacc4, hv4, hW4⟩
  have e4 : Hid (acc4 = stateB epoch l) := by show _ = _; rw [hacc4.out, hacc3.out]; rfl
  have hlen4 : 8 ≤ acc4.length ∧ acc4.length ≤ 97000 := by rw [e4.out]; exact stateB_len hmay.out
  obtain ⟨hlo4, hhi4⟩ := hlen4
  have hcv4 := hv4.out.conv (by omega)
  have hX4 := hide (hX3.out.wrote hW4.out hsz.out)
  have hsum := hide (sum ⟨acc4.toArray⟩ w4 (by show acc4.length ≤ 9223372036854775807; omega))
  go_wp2_with fail
  refine hsum.out.mono ?_
  rintro e w5 ⟨rfl, he5⟩
  have hv5 := hide (hv4.out.ext he5)
  have hX5 := hide (hX4.out.trans he5)
  have hsl : Hid (sumL ({ data := acc4.toArray } : ByteArray).data.toList = sumL acc4) := rfl
  clear hcv4 hsum
  replace he5 := hide he5
  go_wp2_with fail
  refine (appendNumber w1.heap.size _ acc4 _ 4 _ hv5.out (by omega) (by omega)).mono ?_
  rintro e w6 ⟨acc6, pa6, cap6, rfl, hacc6, hv6, hW6⟩
  have e6 : Hid (acc6 = stateL epoch l) := by show _ = _; rw [hacc6.out, e4.out]; rfl
  have hpos : 0 < acc6.length := by rw [hacc6.out, List.length_append]; omega
  have hcv6 := hv6.out.conv hpos
  go_wp2_with fail
  go_ret2
  have hS : stS epoch l = ⟨(stateL epoch l).toArray⟩ := by simp [stS, H.out]
  have hE : stE epoch l = 0 := by simp [stE, H.out]
  exact ⟨by rw [hS, hE, ← e6.out]; rfl, hX5.out.wrote hW6.out hsz.out⟩
end Go.Proofs.YtkjjfdejfihpfaaGreat
