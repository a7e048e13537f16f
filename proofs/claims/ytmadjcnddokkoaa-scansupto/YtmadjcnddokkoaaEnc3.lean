/-
  A resource as bytes: what the program's function that writes it answers.
-/
import Derived.Test.YtmadjcnddokkoaaEnc2
namespace Go.Proofs.Ytmadjcnddokkoaa
open Go.RowKit

theorem re_keeps {B : Nat} {w w' : World} (h : Wrote8 B w w') {k : Nat} {c : Array Value} {fz : Nat × Nat} (hk : w.heap[k]? = some (.cells c 48 fz)) : w'.heap[k]? = some (.cells c 48 fz) := h.keeps hk (by decide)
theorem bound4 {acc l : List UInt8} {x : IDd} {N : Nat} (h : acc = l ++ idL x) (hx : shI x) (hl : l.length + 600 ≤ N) : acc.length ≤ N := by
  have := idL_len hx
  rw [h, List.length_append]; omega
theorem listL_len {α : Type} {f : α → List UInt8} {l : List α} {n : Nat} (h : ∀ x ∈ l, (f x).length ≤ n) (hl : l.length ≤ 255) : (listL f l).length ≤ 1 + 255 * n := by
  have h1 := flat_le h
  have h2 : l.length * n ≤ 255 * n := Nat.mul_le_mul_right n hl
  rw [listL, List.length_append, bigL_len]; omega
theorem bound5 {acc l : List UInt8} {xs : List Attrd} {N : Nat} (h : acc = l ++ listL attrL xs) (hx : ∀ x ∈ xs, shA x) (hn : xs.length ≤ 255) (hl : l.length + 153001 ≤ N) : acc.length ≤ N := by
  have := listL_len (f := attrL) (n := 600) (fun x hh => attrL_len (hx x hh)) hn
  rw [h, List.length_append]; omega
theorem bound6 {acc l : List UInt8} {xs : List IDd} {N : Nat} (h : acc = l ++ listL idL xs) (hx : ∀ x ∈ xs, shI x) (hn : xs.length ≤ 255) (hl : l.length + 153001 ≤ N) : acc.length ≤ N := by
  have := listL_len (f := idL) (n := 600) (fun x hh => idL_len (hx x hh)) hn
  rw [h, List.length_append]; omega

set_option maxRecDepth 100000 in
set_option maxHeartbeats 1600000 in
theorem appendResource (B : Nat) (v c2 c3 : Value) (l : List UInt8) (x : Resd) (w0 w : World) (hv : Buf B w v l) (hl : l.length ≤ 300000) (hr : ResV w0 c2 c3 x) (hE : Ext w0 w) (hB : w0.heap.size ≤ B) (hx : shR x) :
    Calls Try.prog 43 #[v, .agg #[.string x.id.kind, .string x.id.name, c2, c3]] w (Wrt B w (l ++ encR x)) := by
  obtain ⟨hI, hA, hF⟩ := hr
  obtain ⟨x1, x2, x3, x4, x5⟩ := hx
  obtain ⟨a2, p2, rfl⟩ := hA.form
  obtain ⟨a3, p3, rfl⟩ := hF.form
  obtain ⟨pa, cap, rfl⟩ := hv.form
  replace hv := hide hv; replace hE := hide hE; replace hI := hide hI; replace hA := hide hA; replace hF := hide hF; replace x2 := hide x2; replace x3 := hide x3; replace x1 := hide x1
  go_enter Try.func43, Try.ntmps43
  go_wp2_with fail
  refine (appendID B _ l x.id _ (hv.out.alloc _) (by omega) x1.out).mono ?_
  rintro e w1 ⟨acc, pa1, cap1, rfl, hacc, hv1, hb1⟩
  have hlen := bound4 (N := 300600) hacc.out x1.out (by omega)
  have hR := re_keeps hb1.out (heap_alloc_new w _)
  have q2 := at_c2 hR
  have q3 := at_c3 hR
  replace hR := hide hR
  have X1 := hide (hE.out.wrote (((Wrote.refl B _ _).alloc _).trans hb1.out) hB)
  go_wp2_with fail
  refine (appendAttrs B _ _ acc x.attrs w0 _ hv1.out (by omega) hA.out X1.out hB x2.out x4).mono ?_
  rintro e w2 ⟨acc2, pa2, cap2, rfl, hacc2, hv2, hb2⟩
  have hlen2 := bound5 (N := 500000) hacc2.out x2.out x4 (by omega)
  have hR2 := re_keeps hb2.out hR.out
  clear q2 q3
  have q3 := at_c3 hR2
  replace hR2 := hide hR2
  go_wp2_with fail
  refine (appendIDs B _ _ acc2 x.after w0 _ hv2.out (by omega) hF.out (X1.out.wrote hb2.out hB) hB x3.out x5).mono ?_
  rintro e w3 ⟨acc3, pa3, cap3, rfl, hacc3, hv3, hb3⟩
  go_wp2_with fail
  go_ret
  refine Wrt.mk ?_ (((Wrote.refl _ _ _).alloc _).trans (hb1.out.trans (hb2.out.trans hb3.out)))
  have e : acc3 = l ++ encR x := by rw [hacc3.out, hacc2.out, hacc.out]; simp [encR]
  rw [← e]; exact hv3.out
end Go.Proofs.Ytmadjcnddokkoaa
