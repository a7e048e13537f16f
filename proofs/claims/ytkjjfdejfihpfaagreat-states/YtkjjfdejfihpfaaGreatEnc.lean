/-
  IDs, Attrs and resources as bytes: what the program's functions that write them answer.
-/
import Derived.Test.YtkjjfdejfihpfaaGreatWire
import Derived.Test.YtkjjfdejfihpfaaGreatJ7
namespace Go.Proofs.YtkjjfdejfihpfaaGreat
open Go.RowKit

def idL (x : IDd) : List UInt8 := textL x.kind ++ textL x.name
def attrL (x : Attrd) : List UInt8 := textL x.name ++ (if x.isText then bigL 1 1 ++ textL x.text else bigL 1 0 ++ bigL 4 x.number)
def listL {α : Type} (f : α → List UInt8) (l : List α) : List UInt8 := bigL 1 l.length ++ l.flatMap f
/-- A resource as bytes. -/
def encR (x : Resd) : List UInt8 := idL x.id ++ listL attrL x.attrs ++ listL idL x.after
/-- Its texts are short. -/
def shI (x : IDd) : Prop := x.kind.size ≤ 255 ∧ x.name.size ≤ 255
def shA (x : Attrd) : Prop := x.name.size ≤ 255 ∧ x.text.size ≤ 255
def shR (x : Resd) : Prop := shI x.id ∧ (∀ a ∈ x.attrs, shA a) ∧ (∀ a ∈ x.after, shI a) ∧ x.attrs.length ≤ 255 ∧ x.after.length ≤ 255
theorem idL_len {x : IDd} (h : shI x) : (idL x).length ≤ 600 := by
  rw [idL, List.length_append, textL_len, textL_len]; have := h.1; have := h.2; omega
theorem attrL_len {x : Attrd} (h : shA x) : (attrL x).length ≤ 600 := by
  rw [attrL, List.length_append, textL_len]; have := h.1; have := h.2
  split
  · rw [List.length_append, bigL_len, textL_len]; omega
  · rw [List.length_append, bigL_len, bigL_len]; omega
theorem flat_le {α : Type} {f : α → List UInt8} {n : Nat} : ∀ {l : List α}, (∀ x ∈ l, (f x).length ≤ n) → (l.flatMap f).length ≤ l.length * n
  | [], _ => by simp
  | x :: l, h => by
    have h1 := h x (by simp)
    have h2 := flat_le (f := f) (n := n) (l := l) fun y hy => h y (by simp [hy])
    rw [List.flatMap_cons, List.length_append, List.length_cons, Nat.succ_mul]; omega
theorem flat_succ {α : Type} {f : α → List UInt8} {l : List α} {k : Nat} {x : α} (h : l[k]? = some x) : (l.take (k + 1)).flatMap f = (l.take k).flatMap f ++ f x := by
  obtain ⟨hk, rfl⟩ := List.getElem?_eq_some_iff.1 h
  rw [List.take_succ_eq_append_getElem hk, List.flatMap_append]; simp

theorem id_keeps {B : Nat} {w w' : World} (h : Wrote8 B w w') {k : Nat} {c : Array Value} {fz : Nat × Nat} (hk : w.heap[k]? = some (.cells c 37 fz)) : w'.heap[k]? = some (.cells c 37 fz) := h.keeps hk (by decide)
theorem id_c0 {w : World} {k : Nat} {a b : Value} {t : TypeId} {fz : Nat × Nat} (hk : w.heap[k]? = some (.cells #[a, b] t fz)) : w.cell? ⟨k, 0, none⟩ = some a := by simp [World.cell?, hk]
theorem id_c1 {w : World} {k : Nat} {a b : Value} {t : TypeId} {fz : Nat × Nat} (hk : w.heap[k]? = some (.cells #[a, b] t fz)) : w.cell? ⟨k, 1, none⟩ = some b := by simp [World.cell?, hk]

theorem bound1 {acc l : List UInt8} {s : ByteArray} (h : acc = l ++ textL s) (hl : l.length ≤ 800000) (hs : s.size ≤ 255) : acc.length ≤ 900000 := by
  rw [h, List.length_append, textL_len]; omega

set_option maxRecDepth 100000 in
set_option maxHeartbeats 400000 in
theorem appendID (B : Nat) (v : Value) (l : List UInt8) (x : IDd) (w : World) (hv : Buf B w v l) (hl : l.length ≤ 800000) (hx : shI x) :
    Calls Tryz.prog 33 #[v, .agg #[.string x.kind, .string x.name]] w (Wrt B w (l ++ idL x)) := by
  obtain ⟨h1, h2⟩ := hx
  obtain ⟨pa, cap, rfl⟩ := hv.form
  replace hv := hide hv
  go_enter Tryz.func33, Tryz.ntmps33
  go_wp2_with fail
  go_region_held3 (fun w' => w'.cell? ⟨w.heap.size, 0, none⟩ = some (.string x.kind) ∧ w'.cell? ⟨w.heap.size, 1, none⟩ = some (.string x.name)) (go_keep)
    ((go_at_call 61; first
      | (refine (appendText B _ acc x.name w1 hv1.out hlen h2).mono ?_; rintro e w2 ⟨acc2, pa2, cap2, rfl, hacc2, hv2, hb2⟩; go_must (have hI2 := id_keeps hb2.out hI.out; have d0 := id_c0 hI2; have d1 := id_c1 hI2; clear c0 c1; replace hI2 := hide hI2))
      | (refine (appendText B _ l x.kind _ ((hv.out.alloc _).drew) (by omega) h1).mono ?_; rintro e w1 ⟨acc, pa1, cap1, rfl, hacc, hv1, hb1⟩; go_must (have hlen : acc.length ≤ 900000 := bound1 hacc.out hl h1; have hI := id_keeps hb1.out (heap_alloc_new w _); have c0 := id_c0 hI; have c1 := id_c1 hI; replace hI := hide hI))))
  go_wp2_with fail
  go_ret
  refine Wrt.mk ?_ (((Wrote.refl _ _ _).alloc _).drew.trans (hb1.out.trans hb2.out))
  have := hv2.out
  have e : acc2 = l ++ idL x := by rw [hacc2.out, hacc.out, List.append_assoc]; rfl
  rw [← e]; exact this

theorem at_keeps {B : Nat} {w w' : World} (h : Wrote8 B w w') {k : Nat} {c : Array Value} {fz : Nat × Nat} (hk : w.heap[k]? = some (.cells c 42 fz)) : w'.heap[k]? = some (.cells c 42 fz) := h.keeps hk (by decide)
theorem at_c0 {w : World} {k : Nat} {a b c d : Value} {t : TypeId} {fz : Nat × Nat} (hk : w.heap[k]? = some (.cells #[a, b, c, d] t fz)) : w.cell? ⟨k, 0, none⟩ = some a := by simp [World.cell?, hk]
theorem at_c1 {w : World} {k : Nat} {a b c d : Value} {t : TypeId} {fz : Nat × Nat} (hk : w.heap[k]? = some (.cells #[a, b, c, d] t fz)) : w.cell? ⟨k, 1, none⟩ = some b := by simp [World.cell?, hk]
theorem at_c2 {w : World} {k : Nat} {a b c d : Value} {t : TypeId} {fz : Nat × Nat} (hk : w.heap[k]? = some (.cells #[a, b, c, d] t fz)) : w.cell? ⟨k, 2, none⟩ = some c := by simp [World.cell?, hk]
theorem at_c3 {w : World} {k : Nat} {a b c d : Value} {t : TypeId} {fz : Nat × Nat} (hk : w.heap[k]? = some (.cells #[a, b, c, d] t fz)) : w.cell? ⟨k, 3, none⟩ = some d := by simp [World.cell?, hk]
theorem bound2 {acc l : List UInt8} {n : Int} {k N : Nat} (h : acc = l ++ bigL k n) (hl : l.length + k ≤ N) : acc.length ≤ N := by
  rw [h, List.length_append, bigL_len]; omega
theorem bound3 {acc l : List UInt8} {s : ByteArray} {N : Nat} (h : acc = l ++ textL s) (hl : l.length + (s.size + 1) ≤ N) : acc.length ≤ N := by
  rw [h, List.length_append, textL_len]; omega

set_option maxRecDepth 100000 in
set_option maxHeartbeats 800000 in
theorem appendAttr (B : Nat) (v : Value) (l : List UInt8) (x : Attrd) (w : World) (hv : Buf B w v l) (hl : l.length ≤ 800000) (hx : shA x) :
    Calls Tryz.prog 35 #[v, .agg #[.string x.name, .bool x.isText, .string x.text, .int .i64 x.number]] w (Wrt B w (l ++ attrL x)) := by
  obtain ⟨n, t, s, m⟩ := x
  obtain ⟨h1, h2⟩ := hx
  dsimp only at h1 h2 ⊢
  obtain ⟨pa, cap, rfl⟩ := hv.form
  replace hv := hide hv
  go_enter Tryz.func35, Tryz.ntmps35
  go_wp2_with fail
  refine (appendText B _ l n _ (hv.out.alloc _) (by omega) h1).mono ?_
  rintro e w1 ⟨acc, pa1, cap1, rfl, hacc, hv1, hb1⟩
  have hlen := bound3 (N := 801000) hacc.out (by omega)
  have hI := at_keeps hb1.out (heap_alloc_new w _)
  have c1 := at_c1 hI
  have c2 := at_c2 hI
  have c3 := at_c3 hI
  replace hI := hide hI
  cases t
  · go_wp2_with fail
    go_region_held3 (fun w' => w'.cell? ⟨w.heap.size, 3, none⟩ = some (.int .i64 m)) (go_keep)
      ((go_at_call 11; first
        | (refine (appendNumber B _ acc2 m 4 w2 hv2.out hlen2 (by omega)).mono ?_; rintro e w3 ⟨acc3, pa3, cap3, rfl, hacc3, hv3, hb3⟩; go_must (have hI3 := at_keeps hb3.out hI2.out; clear c3; have c3 := at_c3 hI3))
        | (refine (appendNumber B _ acc 0 1 _ hv1.out.drew (by omega) (by omega)).mono ?_; rintro e w2 ⟨acc2, pa2, cap2, rfl, hacc2, hv2, hb2⟩; go_must (have hlen2 := bound2 (N := 1000000) hacc2.out (by omega); have hI2 := at_keeps hb2.out hI.out; clear c1 c2 c3; have c3 := at_c3 hI2; replace hI2 := hide hI2))))
    go_wp2_with fail
    go_ret
    refine Wrt.mk ?_ ((((Wrote.refl _ _ _).alloc _).trans hb1.out).drew.trans (hb2.out.trans hb3.out))
    have e : acc3 = l ++ attrL ⟨n, false, s, m⟩ := by rw [hacc3.out, hacc2.out, hacc.out]; simp [attrL]
    rw [← e]; exact hv3.out
  · go_wp2_with fail
    go_region_held3 (fun w' => w'.cell? ⟨w.heap.size, 2, none⟩ = some (.string s)) (go_keep)
      (first
        | (go_at_call 61; refine (appendText B _ acc2 s w2 hv2.out hlen2 h2).mono ?_; rintro e w3 ⟨acc3, pa3, cap3, rfl, hacc3, hv3, hb3⟩; go_must (have hI3 := at_keeps hb3.out hI2.out; clear c2; have c2 := at_c2 hI3))
        | (go_at_call 11; refine (appendNumber B _ acc 1 1 _ hv1.out.drew (by omega) (by omega)).mono ?_; rintro e w2 ⟨acc2, pa2, cap2, rfl, hacc2, hv2, hb2⟩; go_must (have hlen2 := bound2 (N := 900000) hacc2.out (by omega); have hI2 := at_keeps hb2.out hI.out; clear c1 c2 c3; have c2 := at_c2 hI2; replace hI2 := hide hI2)))
    go_wp2_with fail
    go_ret
    refine Wrt.mk ?_ ((((Wrote.refl _ _ _).alloc _).trans hb1.out).drew.trans (hb2.out.trans hb3.out))
    have e : acc3 = l ++ attrL ⟨n, true, s, m⟩ := by rw [hacc3.out, hacc2.out, hacc.out]; simp [attrL]
    rw [← e]; exact hv3.out
end Go.Proofs.YtkjjfdejfihpfaaGreat
