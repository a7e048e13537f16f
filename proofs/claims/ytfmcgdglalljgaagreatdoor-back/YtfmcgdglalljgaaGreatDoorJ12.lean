/-
  IDs, Attrs and resources as bytes: what the program's functions that write them answer.
-/
/-
  IDs and Attrs out of bytes: what the program's functions that read them answer.
-/
/-
  Lists out of bytes: what the program's functions that read them answer.
-/
/-
  Tokens: words, numbers, strings.
-/
import Derived.Test.YtfmcgdglalljgaaGreatDoorJ9
import Derived.Test.YtfmcgdglalljgaaGreatDoorJ6
import Derived.Deep.RegionHeld3
import Derived.Test.YtfmcgdglalljgaaGreatDoorJ10
import Derived.Test.YtfmcgdglalljgaaGreatDoorShelf
import Derived.Test.YtfmcgdglalljgaaGreatDoorJ1
import Derived.Test.YtfmcgdglalljgaaGreatDoorJ7
import Derived.Deep.DeepMust
namespace Go.Proofs.YtfmcgdglalljgaaGreatDoor
open Go.RowKit

def idL (x : IDd) : List UInt8 := textL x.kind ++ textL x.name
def attrL (x : Attrd) : List UInt8 := textL x.name ++ (if x.isText then bigL 1 1 ++ textL x.text else bigL 1 0 ++ bigL 4 x.number)
def listL {α : Type} (f : α → List UInt8) (l : List α) : List UInt8 := bigL 1 l.length ++ l.flatMap f
/-- A resource as bytes. -/
def encR (x : Resd) : List UInt8 := idL x.id ++ listL attrL x.attrs ++ listL idL x.after
/-- Its texts are short. -/
def shI (x : IDd) : Prop := x.kind.size ≤ 255 ∧ x.name.size ≤ 255
def shA (x : Attrd) : Prop := x.name.size ≤ 255 ∧ x.text.size ≤ 255
def shR (x : Resd) : Prop := shI x.id ∧ (∀ a ∈ x.attrs, shA a) ∧ (∀ a ∈ x.after, shI a) ∧ x.attrs.length ≤ 255 ∧ x.after.length ≤ 255
theorem idL_len {x : IDd} (h : shI x) : (idL x).length ≤ 600 := by
  rw [idL, List.length_append, textL_len, textL_len]; have := h.1; have := h.2; omega
theorem attrL_len {x : Attrd} (h : shA x) : (attrL x).length ≤ 600 := by
  rw [attrL, List.length_append, textL_len]; have := h.1; have := h.2
  split
  · rw [List.length_append, bigL_len, textL_len]; omega
  · rw [List.length_append, bigL_len, bigL_len]; omega
theorem flat_le {α : Type} {f : α → List UInt8} {n : Nat} : ∀ {l : List α}, (∀ x ∈ l, (f x).length ≤ n) → (l.flatMap f).length ≤ l.length * n
  | [], _ => by simp
  | x :: l, h => by
    have h1 := h x (by simp)
    have h2 := flat_le (f := f) (n := n) (l := l) fun y hy => h y (by simp [hy])
    rw [List.flatMap_cons, List.length_append, List.length_cons, Nat.succ_mul]; omega
theorem flat_succ {α : Type} {f : α → List UInt8} {l : List α} {k : Nat} {x : α} (h : l[k]? = some x) : (l.take (k + 1)).flatMap f = (l.take k).flatMap f ++ f x := by
  obtain ⟨hk, rfl⟩ := List.getElem?_eq_some_iff.1 h
  rw [List.take_succ_eq_append_getElem hk, List.flatMap_append]; simp

theorem id_keeps {B : Nat} {w w' : World} (h : Wrote8 B w w') {k : Nat} {c : Array Value} {fz : Nat × Nat} (hk : w.heap[k]? = some (.cells c 25 fz)) : w'.heap[k]? = some (.cells c 25 fz) := h.keeps hk (by decide)
theorem id_c0 {w : World} {k : Nat} {a b : Value} {t : TypeId} {fz : Nat × Nat} (hk : w.heap[k]? = some (.cells #[a, b] t fz)) : w.cell? ⟨k, 0, none⟩ = some a := by simp [World.cell?, hk]
theorem id_c1 {w : World} {k : Nat} {a b : Value} {t : TypeId} {fz : Nat × Nat} (hk : w.heap[k]? = some (.cells #[a, b] t fz)) : w.cell? ⟨k, 1, none⟩ = some b := by simp [World.cell?, hk]

theorem bound1 {acc l : List UInt8} {s : ByteArray} (h : acc = l ++ textL s) (hl : l.length ≤ 800000) (hs : s.size ≤ 255) : acc.length ≤ 900000 := by
  rw [h, List.length_append, textL_len]; omega

set_option maxRecDepth 100000 in
set_option maxHeartbeats 400000 in
theorem appendID (B : Nat) (v : Value) (l : List UInt8) (x : IDd) (w : World) (hv : Buf B w v l) (hl : l.length ≤ 800000) (hx : shI x) :
    Calls Tryz.prog 53 #[v, .agg #[.string x.kind, .string x.name]] w (Wrt B w (l ++ idL x)) := by
  obtain ⟨h1, h2⟩ := hx
  obtain ⟨pa, cap, rfl⟩ := hv.form
  replace hv := hide hv
  go_enter Tryz.func53, Tryz.ntmps53
  go_wp2_with fail
  go_region_held3 (fun w' => w'.cell? ⟨w.heap.size, 0, none⟩ = some (.string x.kind) ∧ w'.cell? ⟨w.heap.size, 1, none⟩ = some (.string x.name)) (go_keep)
    ((go_at_call 91; first
      | (refine (appendText B _ acc x.name w1 hv1.out hlen h2).mono ?_; rintro e w2 ⟨acc2, pa2, cap2, rfl, hacc2, hv2, hb2⟩; go_must (have hI2 := id_keeps hb2.out hI.out; have d0 := id_c0 hI2; have d1 := id_c1 hI2; clear c0 c1; replace hI2 := hide hI2))
      | (refine (appendText B _ l x.kind _ ((hv.out.alloc _).drew) (by omega) h1).mono ?_; rintro e w1 ⟨acc, pa1, cap1, rfl, hacc, hv1, hb1⟩; go_must (have hlen : acc.length ≤ 900000 := bound1 hacc.out hl h1; have hI := id_keeps hb1.out (heap_alloc_new w _); have c0 := id_c0 hI; have c1 := id_c1 hI; replace hI := hide hI))))
  go_wp2_with fail
  go_ret
  refine Wrt.mk ?_ (((Wrote.refl _ _ _).alloc _).drew.trans (hb1.out.trans hb2.out))
  have := hv2.out
  have e : acc2 = l ++ idL x := by rw [hacc2.out, hacc.out, List.append_assoc]; rfl
  rw [← e]; exact this

theorem at_keeps {B : Nat} {w w' : World} (h : Wrote8 B w w') {k : Nat} {c : Array Value} {fz : Nat × Nat} (hk : w.heap[k]? = some (.cells c 66 fz)) : w'.heap[k]? = some (.cells c 66 fz) := h.keeps hk (by decide)
theorem at_c0 {w : World} {k : Nat} {a b c d : Value} {t : TypeId} {fz : Nat × Nat} (hk : w.heap[k]? = some (.cells #[a, b, c, d] t fz)) : w.cell? ⟨k, 0, none⟩ = some a := by simp [World.cell?, hk]
theorem at_c1 {w : World} {k : Nat} {a b c d : Value} {t : TypeId} {fz : Nat × Nat} (hk : w.heap[k]? = some (.cells #[a, b, c, d] t fz)) : w.cell? ⟨k, 1, none⟩ = some b := by simp [World.cell?, hk]
theorem at_c2 {w : World} {k : Nat} {a b c d : Value} {t : TypeId} {fz : Nat × Nat} (hk : w.heap[k]? = some (.cells #[a, b, c, d] t fz)) : w.cell? ⟨k, 2, none⟩ = some c := by simp [World.cell?, hk]
theorem at_c3 {w : World} {k : Nat} {a b c d : Value} {t : TypeId} {fz : Nat × Nat} (hk : w.heap[k]? = some (.cells #[a, b, c, d] t fz)) : w.cell? ⟨k, 3, none⟩ = some d := by simp [World.cell?, hk]
theorem bound2 {acc l : List UInt8} {n : Int} {k N : Nat} (h : acc = l ++ bigL k n) (hl : l.length + k ≤ N) : acc.length ≤ N := by
  rw [h, List.length_append, bigL_len]; omega
theorem bound3 {acc l : List UInt8} {s : ByteArray} {N : Nat} (h : acc = l ++ textL s) (hl : l.length + (s.size + 1) ≤ N) : acc.length ≤ N := by
  rw [h, List.length_append, textL_len]; omega

set_option maxRecDepth 100000 in
set_option maxHeartbeats 800000 in
theorem appendAttr (B : Nat) (v : Value) (l : List UInt8) (x : Attrd) (w : World) (hv : Buf B w v l) (hl : l.length ≤ 800000) (hx : shA x) :
    Calls Tryz.prog 55 #[v, .agg #[.string x.name, .bool x.isText, .string x.text, .int .i64 x.number]] w (Wrt B w (l ++ attrL x)) := by
  obtain ⟨n, t, s, m⟩ := x
  obtain ⟨h1, h2⟩ := hx
  dsimp only at h1 h2 ⊢
  obtain ⟨pa, cap, rfl⟩ := hv.form
  replace hv := hide hv
  go_enter Tryz.func55, Tryz.ntmps55
  go_wp2_with fail
  refine (appendText B _ l n _ (hv.out.alloc _) (by omega) h1).mono ?_
  rintro e w1 ⟨acc, pa1, cap1, rfl, hacc, hv1, hb1⟩
  have hlen := bound3 (N := 801000) hacc.out (by omega)
  have hI := at_keeps hb1.out (heap_alloc_new w _)
  have c1 := at_c1 hI
  have c2 := at_c2 hI
  have c3 := at_c3 hI
  replace hI := hide hI
  cases t
  · go_wp2_with fail
    go_region_held3 (fun w' => w'.cell? ⟨w.heap.size, 3, none⟩ = some (.int .i64 m)) (go_keep)
      ((go_at_call 25; first
        | (refine (appendNumber B _ acc2 m 4 w2 hv2.out hlen2 (by omega)).mono ?_; rintro e w3 ⟨acc3, pa3, cap3, rfl, hacc3, hv3, hb3⟩; go_must (have hI3 := at_keeps hb3.out hI2.out; clear c3; have c3 := at_c3 hI3))
        | (refine (appendNumber B _ acc 0 1 _ hv1.out.drew (by omega) (by omega)).mono ?_; rintro e w2 ⟨acc2, pa2, cap2, rfl, hacc2, hv2, hb2⟩; go_must (have hlen2 := bound2 (N := 1000000) hacc2.out (by omega); have hI2 := at_keeps hb2.out hI.out; clear c1 c2 c3; have c3 := at_c3 hI2; replace hI2 := hide hI2))))
    go_wp2_with fail
    go_ret
    refine Wrt.mk ?_ ((((Wrote.refl _ _ _).alloc _).trans hb1.out).drew.trans (hb2.out.trans hb3.out))
    have e : acc3 = l ++ attrL ⟨n, false, s, m⟩ := by rw [hacc3.out, hacc2.out, hacc.out]; simp [attrL]
    rw [← e]; exact hv3.out
  · go_wp2_with fail
    go_region_held3 (fun w' => w'.cell? ⟨w.heap.size, 2, none⟩ = some (.string s)) (go_keep)
      (first
        | (go_at_call 91; refine (appendText B _ acc2 s w2 hv2.out hlen2 h2).mono ?_; rintro e w3 ⟨acc3, pa3, cap3, rfl, hacc3, hv3, hb3⟩; go_must (have hI3 := at_keeps hb3.out hI2.out; clear c2; have c2 := at_c2 hI3))
        | (go_at_call 25; refine (appendNumber B _ acc 1 1 _ hv1.out.drew (by omega) (by omega)).mono ?_; rintro e w2 ⟨acc2, pa2, cap2, rfl, hacc2, hv2, hb2⟩; go_must (have hlen2 := bound2 (N := 900000) hacc2.out (by omega); have hI2 := at_keeps hb2.out hI.out; clear c1 c2 c3; have c2 := at_c2 hI2; replace hI2 := hide hI2)))
    go_wp2_with fail
    go_ret
    refine Wrt.mk ?_ ((((Wrote.refl _ _ _).alloc _).trans hb1.out).drew.trans (hb2.out.trans hb3.out))
    have e : acc3 = l ++ attrL ⟨n, true, s, m⟩ := by rw [hacc3.out, hacc2.out, hacc.out]; simp [attrL]
    rw [← e]; exact hv3.out
end Go.Proofs.YtfmcgdglalljgaaGreatDoor

namespace Go.Proofs.YtfmcgdglalljgaaGreatDoor
open Go.RowKit

def rdText (l : List UInt8) : ByteArray × List UInt8 := (⟨((l.drop 1).take (numN (l.take 1))).toArray⟩, (l.drop 1).drop (numN (l.take 1)))
def rdID (l : List UInt8) : IDd × List UInt8 := (⟨(rdText l).1, (rdText (rdText l).2).1⟩, (rdText (rdText l).2).2)
/-- 32 bits, with their sign. -/
def s32 (n : Nat) : Int := if n < 2147483648 then (n : Int) else (n : Int) - 4294967296
def rdAttr (l : List UInt8) : Attrd × List UInt8 :=
  if numN ((rdText l).2.take 1) = 1 then (⟨(rdText l).1, true, (rdText ((rdText l).2.drop 1)).1, 0⟩, (rdText ((rdText l).2.drop 1)).2)
  else (⟨(rdText l).1, false, ⟨#[]⟩, s32 (numN (((rdText l).2.drop 1).take 4))⟩, ((rdText l).2.drop 1).drop 4)

theorem Wrote.setNew {B : Nat} {T : TypeId → Prop} {w w1 : World} (h : Wrote B T w w1) {p : Addr} (hp : w.heap.size ≤ p.block) (u : Value) : Wrote B T w (w1.setCell p u) := by
  refine ⟨h.os, h.tape, h.output, by have := h.size; simp [World.setCell]; exact this, fun k hk hd => ?_⟩
  rw [← h.heap k hk hd]
  simp only [World.setCell, Array.getElem?_modify]
  rw [if_neg (by omega)]
theorem RdAt.other {w : World} {R I j : Nat} {s : ByteArray} (h : RdAt w R s) (hI : I ≠ R) (u : Value) : RdAt (w.setCell ⟨I, j, none⟩ u) R s := by
  unfold RdAt at h ⊢
  simp only [World.setCell, Array.getElem?_modify]
  rw [if_neg hI]; exact h
theorem RdAt.ne {w : World} {R I : Nat} {s : ByteArray} {c : Array Value} {t : TypeId} {fz : Nat × Nat} (h : RdAt w R s) (hI : w.heap[I]? = some (.cells c t fz)) (ht : t ≠ 110) : I ≠ R := by
  rintro rfl
  unfold RdAt at h
  rw [h] at hI; cases hI; exact ht rfl
theorem row_frozen {w : World} {b : Nat} {cs : Array Value} {t : TypeId} (h : w.heap[b]? = some (.cells cs t (0, 0))) (j : Nat) : w.frozen? ⟨b, j, none⟩ = false := by simp [World.frozen?, h]
theorem row_set {w : World} {b : Nat} {cs : Array Value} {t : TypeId} {fz : Nat × Nat} (h : w.heap[b]? = some (.cells cs t fz)) (j : Nat) (v : Value) : (w.setCell ⟨b, j, none⟩ v).heap[b]? = some (.cells (cs.setIfInBounds j v) t fz) := by
  simp [World.setCell, Array.getElem?_modify, h]
theorem World.setCell_other_row {w : World} {b c : Nat} {o : Obj} (h : w.heap[b]? = some o) (hne : c ≠ b) (j : Nat) (v : Value) : (w.setCell ⟨c, j, none⟩ v).heap[b]? = some o := by
  simp only [World.setCell, Array.getElem?_modify]
  rw [if_neg hne]; exact h
theorem r_keeps {R : Nat} {w w' : World} {k : Nat} {c : Array Value} {t : TypeId} {fz : Nat × Nat} (h : WroteR R w w') (hk : w.heap[k]? = some (.cells c t fz)) (ht : t ≠ 110) : w'.heap[k]? = some (.cells c t fz) := h.keeps hk ht
theorem two_lo (w : World) (o o' : Obj) : ((w.alloc o).alloc o').heap[w.heap.size]? = some o := by
  rw [Below.heap_alloc _ _ _ (by simp)]; exact heap_alloc_new w o
theorem two_hi (w : World) (o o' : Obj) : ((w.alloc o).alloc o').heap[w.heap.size + 1]? = some o' := by
  have := heap_alloc_new (w.alloc o) o'; simpa using this
theorem pair_set0 {w : World} {k : Nat} {a b : Value} {t : TypeId} {fz : Nat × Nat} (hk : w.heap[k]? = some (.cells #[a, b] t fz)) (v : Value) : (w.setCell ⟨k, 0, none⟩ v).heap[k]? = some (.cells #[v, b] t fz) := by
  have := row_set hk 0 v; simpa using this
theorem txt_eq {t : ByteArray} {l : List UInt8} (h : t.data.toList = (l.drop 1).take (numN (l.take 1))) : t = (rdText l).1 := by
  apply ByteArray.ext; apply Array.toList_inj.1; rw [h]; rfl
/-- What the reading of an ID answers. -/
def IdIs (w : World) (R : Nat) (s : ByteArray) (e : Ending) (w' : World) : Prop :=
  ∃ (x : IDd) (s' : ByteArray), e = .returned (.agg #[.string x.kind, .string x.name]) ∧ Hid (rdID s.data.toList = (x, s'.data.toList)) ∧ shI x ∧ Hid (Left w w' R s' s'.data.toList)

set_option maxRecDepth 100000 in
set_option maxHeartbeats 1600000 in
theorem readID (R : Nat) (s : ByteArray) (w : World) (hR : RdAt w R s) (hs : s.size ≤ 9223372036854775807) :
    Calls Tryz.prog 57 #[.pointer (some ⟨R, 0, none⟩)] w (IdIs w R s) := by
  replace hR := hide hR
  go_enter Tryz.func57, Tryz.ntmps57
  go_wp2_with fail
  refine (text R s _ (hR.out.ext (((Ext.refl w).alloc _).alloc _)) hs).mono ?_
  rintro e w1 ⟨t1, s1, rfl, ht1, hz1, hL1⟩
  have hO := r_keeps (t := 25) hL1.out.wrote (two_lo w _ _) (by decide)
  have hI := r_keeps (t := 25) hL1.out.wrote (two_hi w _ _) (by decide)
  have a0 := id_c0 hO; have a1 := id_c1 hO; have b0 := id_c0 hI; have b1 := id_c1 hI
  have fO := row_frozen hO; have fI := row_frozen hI
  have hL1l := hide hL1.out.list
  have hR1 := hide (hL1.out.at_.other (j := 0) (hL1.out.at_.ne hI (by decide)) (.string t1))
  have hO1 := (World.setCell_other_row hO (show w.heap.size + 1 ≠ w.heap.size by omega) 0 (.string t1))
  have hI1 := pair_set0 hI (.string t1)
  replace hO := hide hO; replace hI := hide hI; replace hO1 := hide hO1; replace hI1 := hide hI1
  go_wp2_with fail
  refine (text R s1 _ hR1.out hL1.out.few).mono ?_
  rintro e w2 ⟨t2, s2, rfl, ht2, hz2, hL2⟩
  have hO2 := r_keeps (t := 25) hL2.out.wrote hO1.out (by decide)
  have hI2 := r_keeps (t := 25) hL2.out.wrote hI1.out (by decide)
  clear a0 a1 b0 b1 fO fI
  have a0 := id_c0 hO2; have a1 := id_c1 hO2; have b0 := id_c0 hI2; have b1 := id_c1 hI2
  have fO := row_frozen hO2; have fI := row_frozen hI2
  have hR2 := hide (((hL2.out.at_.other (j := 1) (hL2.out.at_.ne hI2 (by decide)) (.string t2)).other (j := 0) (hL2.out.at_.ne hO2 (by decide)) (.string t1)).other (j := 1) (hL2.out.at_.ne hO2 (by decide)) (.string t2))
  have W2 : Hid (WroteR R w (((w2.setCell ⟨w.heap.size + 1, 1, none⟩ (.string t2)).setCell ⟨w.heap.size, 0, none⟩ (.string t1)).setCell ⟨w.heap.size, 1, none⟩ (.string t2))) :=
    ((((((Wrote.refl R _ w).alloc _).alloc _).trans hL1.out.wrote).setNew (p := ⟨w.heap.size + 1, 0, none⟩) (by simp) (.string t1)).trans hL2.out.wrote |>.setNew (p := ⟨w.heap.size + 1, 1, none⟩) (by simp) (.string t2) |>.setNew (p := ⟨w.heap.size, 0, none⟩) (by simp) (.string t1)).setNew (p := ⟨w.heap.size, 1, none⟩) (by simp) (.string t2)
  have hno : ¬ w.heap.size + 1 = w.heap.size := by omega
  replace hO2 := hide hO2; replace hI2 := hide hI2
  go_wp2
  refine bodyPost_ret (v := .agg #[.string t1, .string t2]) (by simp [results, Tryz.results57, go_sem, a0, a1]) rfl ⟨⟨t1, t2⟩, s2, rfl, ?_, ⟨hz1, hz2⟩, ⟨?_, rfl, ?_, hL2.out.few⟩⟩
  · show _ = _
    unfold rdID
    rw [← txt_eq ht1.out]
    have e1 : (rdText s.data.toList).2 = s1.data.toList := hL1l.out.symm
    rw [e1, ← txt_eq ht2.out]
    have e2 : (rdText s1.data.toList).2 = s2.data.toList := hL2.out.list.symm
    rw [e2]
  · exact hR2.out
  · exact W2.out

theorem wrap_s32 (m : Nat) (h : m < 4294967296) : IntKind.i32.wrap (m : Int) = s32 m := by
  have e1 : (m : Int) % 4294967296 = (m : Int) := by omega
  by_cases hh : m < 2147483648
  · have h2 : ¬ (2147483648 : Int) ≤ (m : Int) := by omega
    simp [IntKind.wrap, IntKind.signed, IntKind.bits, s32, hh, e1, h2]
  · have h2 : (2147483648 : Int) ≤ (m : Int) := by omega
    simp [IntKind.wrap, IntKind.signed, IntKind.bits, s32, hh, e1, h2]
theorem four_set0 {w : World} {k : Nat} {a b c d : Value} {t : TypeId} {fz : Nat × Nat} (hk : w.heap[k]? = some (.cells #[a, b, c, d] t fz)) (v : Value) : (w.setCell ⟨k, 0, none⟩ v).heap[k]? = some (.cells #[v, b, c, d] t fz) := by
  have := row_set hk 0 v; simpa using this
theorem four_set1 {w : World} {k : Nat} {a b c d : Value} {t : TypeId} {fz : Nat × Nat} (hk : w.heap[k]? = some (.cells #[a, b, c, d] t fz)) (v : Value) : (w.setCell ⟨k, 1, none⟩ v).heap[k]? = some (.cells #[a, v, c, d] t fz) := by
  have := row_set hk 1 v; simpa using this
theorem four_set2 {w : World} {k : Nat} {a b c d : Value} {t : TypeId} {fz : Nat × Nat} (hk : w.heap[k]? = some (.cells #[a, b, c, d] t fz)) (v : Value) : (w.setCell ⟨k, 2, none⟩ v).heap[k]? = some (.cells #[a, b, v, d] t fz) := by
  have := row_set hk 2 v; simpa using this
theorem four_cells {w : World} {k : Nat} {a b c d : Value} {t : TypeId} {fz : Nat × Nat} (hk : w.heap[k]? = some (.cells #[a, b, c, d] t fz)) :
    w.cell? ⟨k, 0, none⟩ = some a ∧ w.cell? ⟨k, 1, none⟩ = some b ∧ w.cell? ⟨k, 2, none⟩ = some c ∧ w.cell? ⟨k, 3, none⟩ = some d := ⟨at_c0 hk, at_c1 hk, at_c2 hk, at_c3 hk⟩
/-- Four cells of a row are stored. -/
theorem Wrote.set4 {B : Nat} {T : TypeId → Prop} {w w1 : World} (h : Wrote B T w w1) {O : Nat} (hO : w.heap.size ≤ O) (v0 v1 v2 v3 : Value) :
    Wrote B T w ((((w1.setCell ⟨O, 0, none⟩ v0).setCell ⟨O, 1, none⟩ v1).setCell ⟨O, 2, none⟩ v2).setCell ⟨O, 3, none⟩ v3) :=
  (((h.setNew (p := ⟨O, 0, none⟩) hO v0).setNew (p := ⟨O, 1, none⟩) hO v1).setNew (p := ⟨O, 2, none⟩) hO v2).setNew (p := ⟨O, 3, none⟩) hO v3
theorem RdAt.set4 {w : World} {R O : Nat} {s : ByteArray} (h : RdAt w R s) (hI : O ≠ R) (v0 v1 v2 v3 : Value) :
    RdAt ((((w.setCell ⟨O, 0, none⟩ v0).setCell ⟨O, 1, none⟩ v1).setCell ⟨O, 2, none⟩ v2).setCell ⟨O, 3, none⟩ v3) R s :=
  (((h.other hI v0).other hI v1).other hI v2).other hI v3
/-- What the reading of an Attr answers. -/
def AtIs (w : World) (R : Nat) (s : ByteArray) (e : Ending) (w' : World) : Prop :=
  ∃ (x : Attrd) (s' : ByteArray), e = .returned (.agg #[.string x.name, .bool x.isText, .string x.text, .int .i64 x.number]) ∧ Hid (rdAttr s.data.toList = (x, s'.data.toList)) ∧ shA x ∧ -2147483648 ≤ x.number ∧ x.number < 2147483648 ∧ Hid (Left w w' R s' s'.data.toList)

set_option maxRecDepth 100000 in
set_option maxHeartbeats 3200000 in
theorem readAttr (R : Nat) (s : ByteArray) (w : World) (hR : RdAt w R s) (hs : s.size ≤ 9223372036854775807) :
    Calls Tryz.prog 59 #[.pointer (some ⟨R, 0, none⟩)] w (AtIs w R s) := by
  replace hR := hide hR
  have hno : ¬ w.heap.size + 1 = w.heap.size := by omega
  have hno' : ¬ w.heap.size = w.heap.size + 1 := by omega
  go_enter Tryz.func59, Tryz.ntmps59
  go_wp2_with fail
  refine (text R s _ (hR.out.ext (((Ext.refl w).alloc _).alloc _)) hs).mono ?_
  rintro e w1 ⟨t1, s1, rfl, ht1, hz1, hL1⟩
  have hO := r_keeps (t := 66) hL1.out.wrote (two_lo w _ _) (by decide)
  have hI := r_keeps (t := 66) hL1.out.wrote (two_hi w _ _) (by decide)
  obtain ⟨b0, b1, b2, b3⟩ := four_cells hI
  have fI := row_frozen hI
  have e1 : Hid ((rdText s.data.toList) = (t1, s1.data.toList)) := by show _ = _; rw [hL1.out.list, txt_eq ht1.out]; rfl
  have hR1 := hide (hL1.out.at_.other (j := 0) (hL1.out.at_.ne hI (by decide)) (.string t1))
  have hO1 := hide (World.setCell_other_row hO hno 0 (.string t1))
  have hI1 := hide (four_set0 hI (.string t1))
  have W1 := hide (((((Wrote.refl R (· = 110) w).alloc _).alloc _).trans hL1.out.wrote).setNew (p := ⟨w.heap.size + 1, 0, none⟩) (by simp) (.string t1))
  clear hO hI
  go_wp2_with fail
  refine (number R s1 1 _ hR1.out hL1.out.few (by omega)).mono ?_
  rintro e w2 ⟨n, s2, rfl, hn, hn2, hL2⟩
  have hO2 := r_keeps (t := 66) hL2.out.wrote hO1.out (by decide)
  have hI2 := r_keeps (t := 66) hL2.out.wrote hI1.out (by decide)
  clear b0 b1 b2 b3 fI
  obtain ⟨b0, b1, b2, b3⟩ := four_cells hI2
  have fI := row_frozen hI2
  have hl2 := hide hL2.out.list
  by_cases h1 : n = 1
  · have h1' : ((n : Int) == 1) = true := by simp; omega
    have hR2 := hide (hL2.out.at_.other (j := 1) (hL2.out.at_.ne hI2 (by decide)) (.bool true))
    have hO3 := hide (World.setCell_other_row hO2 hno 1 (.bool true))
    have hI3 := hide (four_set1 hI2 (.bool true))
    have W3 := hide ((W1.out.trans hL2.out.wrote).setNew (p := ⟨w.heap.size + 1, 1, none⟩) (by simp) (.bool true))
    clear hO2 hI2
    replace h1 := hide h1
    go_wp2_with fail
    refine (text R s2 _ hR2.out hL2.out.few).mono ?_
    rintro e w4 ⟨t4, s4, rfl, ht4, hz4, hL4⟩
    have hO4 := r_keeps (t := 66) hL4.out.wrote hO3.out (by decide)
    have hI4 := r_keeps (t := 66) hL4.out.wrote hI3.out (by decide)
    clear b0 b1 b2 b3 fI
    obtain ⟨b0, b1, b2, b3⟩ := four_cells hI4
    obtain ⟨a0, a1, a2, a3⟩ := four_cells hO4
    have fI := row_frozen hI4
    have fO := row_frozen hO4
    have hR4 := hide ((hL4.out.at_.other (j := 2) (hL4.out.at_.ne hI4 (by decide)) (.string t4)).set4 (hL4.out.at_.ne hO4 (by decide)) (.string t1) (.bool true) (.string t4) (.int .i64 0))
    have W4 := hide (((W3.out.trans hL4.out.wrote).setNew (p := ⟨w.heap.size + 1, 2, none⟩) (by simp) (.string t4)).set4 (Nat.le_refl _) (.string t1) (.bool true) (.string t4) (.int .i64 0))
    replace hO4 := hide hO4; replace hI4 := hide hI4
    go_wp2
    refine bodyPost_ret (v := .agg #[.string t1, .bool true, .string t4, .int .i64 0]) (by simp [results, Tryz.results59, go_sem, a0, a1, a2, a3]) rfl ⟨⟨t1, true, t4, 0⟩, s4, rfl, ?_, ⟨hz1, hz4⟩, by dsimp only; omega, by dsimp only; omega, ⟨hR4.out, rfl, W4.out, hL4.out.few⟩⟩
    show _ = _
    have e4 : rdText s2.data.toList = (t4, s4.data.toList) := by rw [hL4.out.list, txt_eq ht4.out]; rfl
    have en : numN (s1.data.toList.take 1) = 1 := by rw [← hn.out]; exact h1.out
    unfold rdAttr
    rw [e1.out]
    dsimp only
    rw [en, if_pos rfl, ← hl2.out, e4]
  · have h1' : ((n : Int) == 1) = false := by simp; omega
    have hR2 := hide (hL2.out.at_.other (j := 1) (hL2.out.at_.ne hI2 (by decide)) (.bool false))
    have hO3 := hide (World.setCell_other_row hO2 hno 1 (.bool false))
    have hI3 := hide (four_set1 hI2 (.bool false))
    have W3 := hide ((W1.out.trans hL2.out.wrote).setNew (p := ⟨w.heap.size + 1, 1, none⟩) (by simp) (.bool false))
    clear hO2 hI2
    replace h1 := hide h1
    go_wp2_with fail
    refine (number R s2 4 _ hR2.out hL2.out.few (by omega)).mono ?_
    rintro e w4 ⟨m, s4, rfl, hm, hm2, hL4⟩
    have hO4 := r_keeps (t := 66) hL4.out.wrote hO3.out (by decide)
    have hI4 := r_keeps (t := 66) hL4.out.wrote hI3.out (by decide)
    clear b0 b1 b2 b3 fI
    obtain ⟨b0, b1, b2, b3⟩ := four_cells hI4
    obtain ⟨a0, a1, a2, a3⟩ := four_cells hO4
    have fI := row_frozen hI4
    have fO := row_frozen hO4
    have em : IntKind.i32.wrap (m : Int) = s32 m := wrap_s32 m hm2
    have hb1 : -2147483648 ≤ s32 m := by unfold s32; split <;> omega
    have hb2 : s32 m < 2147483648 := by unfold s32; split <;> omega
    have hR4 := hide ((hL4.out.at_.other (j := 3) (hL4.out.at_.ne hI4 (by decide)) (.int .i64 (s32 m))).set4 (hL4.out.at_.ne hO4 (by decide)) (.string t1) (.bool false) (.string ⟨#[]⟩) (.int .i64 (s32 m)))
    have W4 := hide (((W3.out.trans hL4.out.wrote).setNew (p := ⟨w.heap.size + 1, 3, none⟩) (by simp) (.int .i64 (s32 m))).set4 (Nat.le_refl _) (.string t1) (.bool false) (.string ⟨#[]⟩) (.int .i64 (s32 m)))
    replace hO4 := hide hO4; replace hI4 := hide hI4
    go_wp2
    refine bodyPost_ret (v := .agg #[.string t1, .bool false, .string ⟨#[]⟩, .int .i64 (s32 m)]) (by simp [results, Tryz.results59, go_sem, a0, a1, a2, a3]) rfl ⟨⟨t1, false, ⟨#[]⟩, s32 m⟩, s4, rfl, ?_, ⟨hz1, Nat.zero_le _⟩, hb1, hb2, ⟨hR4.out, rfl, W4.out, hL4.out.few⟩⟩
    show _ = _
    have en : ¬ numN (s1.data.toList.take 1) = 1 := by rw [← hn.out]; exact h1.out
    unfold rdAttr
    rw [e1.out]
    dsimp only
    rw [if_neg en, ← hl2.out, ← hm.out, ← hL4.out.list]
end Go.Proofs.YtfmcgdglalljgaaGreatDoor

namespace Go.Proofs.YtfmcgdglalljgaaGreatDoor
open Go.RowKit

def rdMany {α : Type} (rd : List UInt8 → α × List UInt8) : Nat → List UInt8 → List α × List UInt8
  | 0, l => ([], l)
  | k + 1, l => ((rd l).1 :: (rdMany rd k (rd l).2).1, (rdMany rd k (rd l).2).2)
def rdList {α : Type} (rd : List UInt8 → α × List UInt8) (l : List UInt8) : List α × List UInt8 := rdMany rd (numN (l.take 1)) (l.drop 1)
def okN (x : Attrd) : Prop := shA x ∧ -2147483648 ≤ x.number ∧ x.number < 2147483648
theorem Wrote.grownNew {B : Nat} {T : TypeId → Prop} {w w1 w2 : World} {e : TypeId} {size : Nat} {v : Value} {n : Nat} {xs : List Value} (h : Wrote B T w w1) (hown : w1.ownsRow w.heap.size e size v n xs) {o : Obj} (hg : (w1.alloc o).grownBy w2 v.ownBlock) : Wrote B T w w2 := by
  have h' := h.alloc o
  refine ⟨hg.os.trans h'.os, hg.tape.trans h'.tape, hg.output.trans h'.output, Nat.le_trans h'.size hg.size, fun k hk hd => ?_⟩
  rw [← h'.heap k hk hd]
  refine hg.block k (Nat.lt_of_lt_of_le hk h'.size) ?_
  intro hv
  rcases hown.2 with ⟨rfl, _⟩ | ⟨g, cap, cur, rfl, hb, _⟩
  · simp [Value.ownBlock] at hv
  · simp [Value.ownBlock] at hv; omega
theorem RdAt.grown {w1 w2 : World} {R : Nat} {s : ByteArray} {base : Nat} {e : TypeId} {size : Nat} {v : Value} {n : Nat} {xs : List Value} (h : RdAt w1 R s) (hown : w1.ownsRow base e size v n xs) (he : e ≠ 110) {o : Obj} (hg : (w1.alloc o).grownBy w2 v.ownBlock) : RdAt w2 R s := by
  have h1 : RdAt (w1.alloc o) R s := h.ext ((Ext.refl w1).alloc o)
  unfold RdAt at h1 ⊢
  rw [hg.block R (Array.getElem?_eq_some_iff.1 h1).1 ?_]; exact h1
  intro hv
  rcases hown.2 with ⟨rfl, _⟩ | ⟨g, cap, cur, rfl, hb, hh, _⟩
  · simp [Value.ownBlock] at hv
  · simp [Value.ownBlock] at hv
    subst hv
    unfold RdAt at h
    rw [h] at hh; cases hh; exact he rfl

theorem cA_one (x : Attrd) : ∀ u ∈ cA x, u.oneCell' = true := by
  intro u hu
  simp [cA] at hu
  rcases hu with rfl | rfl | rfl | rfl <;> rfl
theorem cI_one (x : IDd) : ∀ u ∈ cI x, u.oneCell' = true := by
  intro u hu
  simp [cI] at hu
  rcases hu with rfl | rfl <;> rfl
theorem cellsA_app (l : List Attrd) (x : Attrd) : cellsA (l ++ [x]) = cellsA l ++ cA x := by simp [cellsA]
theorem cellsI_app (l : List IDd) (x : IDd) : cellsI (l ++ [x]) = cellsI l ++ cI x := by simp [cellsI]

/-- What the reading of such a list answers. -/
def AtsIs (w : World) (R : Nat) (s : ByteArray) (e : Ending) (w' : World) : Prop :=
  ∃ (xs : List Attrd) (pa : Option Addr) (cap : Nat) (s' : ByteArray), e = .returned (.slice pa xs.length cap) ∧ Hid (rdList rdAttr s.data.toList = (xs, s'.data.toList)) ∧ xs.length ≤ 255 ∧ Hid (∀ x ∈ xs, okN x) ∧ Hid (w'.ownsRow w.heap.size 66 4 (.slice pa xs.length cap) xs.length (cellsA xs)) ∧ Hid (Left w w' R s' s'.data.toList)

set_option maxRecDepth 100000 in
set_option maxHeartbeats 1600000 in
theorem readAttrs (R : Nat) (s : ByteArray) (w : World) (hR : RdAt w R s) (hs : s.size ≤ 9223372036854775807) :
    Calls Tryz.prog 58 #[.pointer (some ⟨R, 0, none⟩), .func (.func 59) #[] #[]] w (AtsIs w R s) := by
  obtain ⟨i0, hi, hz0, hz1, hz2⟩ := info_of infoAttr
  replace hi := hide hi
  replace hR := hide hR
  go_enter Tryz.func58, Tryz.ntmps58
  go_wp2_with fail
  refine (number R s 1 _ hR.out hs (by omega)).mono ?_
  rintro e w1 ⟨n, s1, rfl, hn, hn2, hL1⟩
  have hn3 : n < 256 := by
    have := num_lt 1 (s.data.toList.take 1) (by rw [List.length_take]; omega)
    rw [← hn.out] at this; exact this
  go_wp2_with fail
  go_loopw [5, 8] (fun v i wr => ∃ (xs : List Attrd) (pa : Option Addr) (cap : Nat) (sk : ByteArray), xs.length ≤ n ∧ i = .int .i64 xs.length ∧ v = .slice pa xs.length cap ∧ Hid (∀ x ∈ xs, okN x) ∧ Hid (rdMany rdAttr n s1.data.toList = (xs ++ (rdMany rdAttr (n - xs.length) sk.data.toList).1, (rdMany rdAttr (n - xs.length) sk.data.toList).2)) ∧ Hid (wr.ownsRow w.heap.size 66 4 (.slice pa xs.length cap) xs.length (cellsA xs)) ∧ Hid (Left w wr R sk sk.data.toList)) (fun _ i _ => n - (intOf i).toNat)
  case atStart => exact ⟨[], none, 0, s1, Nat.zero_le _, rfl, rfl, fun x hx => (by cases hx), rfl, World.ownsRow_nil _ _ _ _, ⟨hL1.out.at_, rfl, hL1.out.wrote, hL1.out.few⟩⟩
  case round =>
    obtain ⟨xs, pa, cap, sk, hk, rfl, rfl, hok, hrd, hown, hL⟩ := hrel
    by_cases hlt : xs.length < n
    · go_wp2_with (first
        | (go_at_call 59; refine (readAttr R sk _ hL.out.at_ hL.out.few).mono ?_; rintro e w2 ⟨x, s2, rfl, hx, hsh, hb1, hb2, hL2⟩; go_must (have hown2 := hide (ownsRow_wrote hown.out hL2.out.wrote (by decide) rfl); have hsz2 := Nat.le_trans hL.out.wrote.size hL2.out.wrote.size))
        | (at_builtin; go_must (refine wpList_append_lies _ rfl (.tmp 10) (.tmp 14) 26 rfl w.heap.size 66 i0 (.agg #[.string ⟨#[]⟩, .bool false, .string ⟨#[]⟩, .int .i64 0]) 4 48 Tryz.underlying26 hi.out hz0 hz1 hz2 rfl (by omega) _ xs.length (cellsA xs) rfl (hown2.out.alloc _) ⟨w2.heap.size, 0, none⟩ 1 1 (cA x) rfl rfl ?_ (cA_one x) (by omega) (by unfold maxLen; omega) (by omega) (by simp; omega) (w2.heap.size + 1) (by simp) ?_; (intro j u hu; rw [add_eq]; (match j, hu with | 0, hu => (simp [cA] at hu; subst hu; simp [go_sem]) | 1, hu => (simp [cA] at hu; subst hu; simp [go_sem]) | 2, hu => (simp [cA] at hu; subst hu; simp [go_sem]) | 3, hu => (simp [cA] at hu; subst hu; simp [go_sem]) | _ + 4, hu => (simp [cA] at hu))); intro g1 cap1 w3 hown3 hgrow3 hat3 hlt3)))
      replace hgrow3 : (w2.alloc (.cells (cA x).toArray 66)).grownBy w3 (Value.slice pa xs.length cap).ownBlock := hgrow3
      go_roundw
      case rel =>
        have hl : (xs ++ [x]).length = xs.length + 1 := by simp
        refine ⟨xs ++ [x], some ⟨g1, 0, none⟩, cap1, s2, by rw [hl]; omega, by rw [hl]; go_num, by rw [hl], ?_, ?_, ?_, ?_⟩
        · intro y hy
          rcases List.mem_append.1 hy with hy | hy
          · exact hok.out y hy
          · obtain rfl : y = x := by simpa using hy
            exact ⟨hsh, hb1, hb2⟩
        · show _ = _
          rw [hrd.out, hl]
          obtain ⟨q, hq⟩ : ∃ q, n - xs.length = q + 1 := ⟨n - xs.length - 1, by omega⟩
          rw [hq, show n - (xs.length + 1) = q by omega]
          simp only [rdMany]
          rw [hx.out]; simp
        · show World.ownsRow _ _ _ _ _ _ _
          rw [hl, cellsA_app]; exact hown3
        · exact ⟨hL2.out.at_.grown hown2.out (by decide) hgrow3, rfl, (hL.out.wrote.trans hL2.out.wrote).grownNew hown2.out hgrow3, hL2.out.few⟩
      case measure => simp [intOf]; omega
    · obtain hnx : xs.length = n := by omega
      have hfin : Hid (rdList rdAttr s.data.toList = (xs, sk.data.toList)) := by
        show _ = _
        unfold rdList
        rw [← hn.out, ← hL1.out.list, hrd.out, hnx, Nat.sub_self]
        simp [rdMany]
      replace hnx := hide hnx
      go_wp2
      go_ret
      exact ⟨xs, pa, cap, sk, rfl, hfin, by have := hnx.out; omega, hok, hown, hL⟩

/-- What the reading of such a list answers. -/
def IdsIs (w : World) (R : Nat) (s : ByteArray) (e : Ending) (w' : World) : Prop :=
  ∃ (xs : List IDd) (pa : Option Addr) (cap : Nat) (s' : ByteArray), e = .returned (.slice pa xs.length cap) ∧ Hid (rdList rdID s.data.toList = (xs, s'.data.toList)) ∧ xs.length ≤ 255 ∧ Hid (∀ x ∈ xs, shI x) ∧ Hid (w'.ownsRow w.heap.size 25 2 (.slice pa xs.length cap) xs.length (cellsI xs)) ∧ Hid (Left w w' R s' s'.data.toList)

set_option maxRecDepth 100000 in
set_option maxHeartbeats 1600000 in
theorem readIDs (R : Nat) (s : ByteArray) (w : World) (hR : RdAt w R s) (hs : s.size ≤ 9223372036854775807) :
    Calls Tryz.prog 60 #[.pointer (some ⟨R, 0, none⟩), .func (.func 57) #[] #[]] w (IdsIs w R s) := by
  obtain ⟨i0, hi, hz0, hz1, hz2⟩ := info_of infoID
  replace hi := hide hi
  replace hR := hide hR
  go_enter Tryz.func60, Tryz.ntmps60
  go_wp2_with fail
  refine (number R s 1 _ hR.out hs (by omega)).mono ?_
  rintro e w1 ⟨n, s1, rfl, hn, hn2, hL1⟩
  have hn3 : n < 256 := by
    have := num_lt 1 (s.data.toList.take 1) (by rw [List.length_take]; omega)
    rw [← hn.out] at this; exact this
  go_wp2_with fail
  go_loopw [5, 8] (fun v i wr => ∃ (xs : List IDd) (pa : Option Addr) (cap : Nat) (sk : ByteArray), xs.length ≤ n ∧ i = .int .i64 xs.length ∧ v = .slice pa xs.length cap ∧ Hid (∀ x ∈ xs, shI x) ∧ Hid (rdMany rdID n s1.data.toList = (xs ++ (rdMany rdID (n - xs.length) sk.data.toList).1, (rdMany rdID (n - xs.length) sk.data.toList).2)) ∧ Hid (wr.ownsRow w.heap.size 25 2 (.slice pa xs.length cap) xs.length (cellsI xs)) ∧ Hid (Left w wr R sk sk.data.toList)) (fun _ i _ => n - (intOf i).toNat)
  case atStart => exact ⟨[], none, 0, s1, Nat.zero_le _, rfl, rfl, fun x hx => (by cases hx), rfl, World.ownsRow_nil _ _ _ _, ⟨hL1.out.at_, rfl, hL1.out.wrote, hL1.out.few⟩⟩
  case round =>
    obtain ⟨xs, pa, cap, sk, hk, rfl, rfl, hok, hrd, hown, hL⟩ := hrel
    by_cases hlt : xs.length < n
    · go_wp2_with (first
        | (go_at_call 57; refine (readID R sk _ hL.out.at_ hL.out.few).mono ?_; rintro e w2 ⟨x, s2, rfl, hx, hsh, hL2⟩; go_must (have hown2 := hide (ownsRow_wrote hown.out hL2.out.wrote (by decide) rfl); have hsz2 := Nat.le_trans hL.out.wrote.size hL2.out.wrote.size))
        | (at_builtin; go_must (refine wpList_append_lies _ rfl (.tmp 10) (.tmp 14) 27 rfl w.heap.size 25 i0 (.agg #[.string ⟨#[]⟩, .string ⟨#[]⟩]) 2 32 Tryz.underlying27 hi.out hz0 hz1 hz2 rfl (by omega) _ xs.length (cellsI xs) rfl (hown2.out.alloc _) ⟨w2.heap.size, 0, none⟩ 1 1 (cI x) rfl rfl ?_ (cI_one x) (by omega) (by unfold maxLen; omega) (by omega) (by simp; omega) (w2.heap.size + 1) (by simp) ?_; (intro j u hu; rw [add_eq]; (match j, hu with | 0, hu => (simp [cI] at hu; subst hu; simp [go_sem]) | 1, hu => (simp [cI] at hu; subst hu; simp [go_sem]) | _ + 2, hu => (simp [cI] at hu))); intro g1 cap1 w3 hown3 hgrow3 hat3 hlt3)))
      replace hgrow3 : (w2.alloc (.cells (cI x).toArray 25)).grownBy w3 (Value.slice pa xs.length cap).ownBlock := hgrow3
      go_roundw
      case rel =>
        have hl : (xs ++ [x]).length = xs.length + 1 := by simp
        refine ⟨xs ++ [x], some ⟨g1, 0, none⟩, cap1, s2, by rw [hl]; omega, by rw [hl]; go_num, by rw [hl], ?_, ?_, ?_, ?_⟩
        · intro y hy
          rcases List.mem_append.1 hy with hy | hy
          · exact hok.out y hy
          · obtain rfl : y = x := by simpa using hy
            exact hsh
        · show _ = _
          rw [hrd.out, hl]
          obtain ⟨q, hq⟩ : ∃ q, n - xs.length = q + 1 := ⟨n - xs.length - 1, by omega⟩
          rw [hq, show n - (xs.length + 1) = q by omega]
          simp only [rdMany]
          rw [hx.out]; simp
        · show World.ownsRow _ _ _ _ _ _ _
          rw [hl, cellsI_app]; exact hown3
        · exact ⟨hL2.out.at_.grown hown2.out (by decide) hgrow3, rfl, (hL.out.wrote.trans hL2.out.wrote).grownNew hown2.out hgrow3, hL2.out.few⟩
      case measure => simp [intOf]; omega
    · obtain hnx : xs.length = n := by omega
      have hfin : Hid (rdList rdID s.data.toList = (xs, sk.data.toList)) := by
        show _ = _
        unfold rdList
        rw [← hn.out, ← hL1.out.list, hrd.out, hnx, Nat.sub_self]
        simp [rdMany]
      replace hnx := hide hnx
      go_wp2
      go_ret
      exact ⟨xs, pa, cap, sk, rfl, hfin, by have := hnx.out; omega, hok, hown, hL⟩

end Go.Proofs.YtfmcgdglalljgaaGreatDoor

namespace Go.Proofs.YtfmcgdglalljgaaGreatDoor
open Go.RowKit

/-- What the reading of a token answers: its place is still 0. -/
def TkIs (w : World) (r : (Tok × Nat) ⊕ Int) (e : Ending) (w' : World) : Prop :=
  Hid (Ext w w') ∧ ((∃ t b, Hid (r = .inl (t, b)) ∧ e = .returned (.tuple #[.agg #[.int .i64 t.kind, .int .i64 0, .string t.text, .int .i64 t.value], .int .i64 b, .int .i64 0])) ∨
    ∃ en : Int, Hid (r = .inr en) ∧ en ≠ 0 ∧ e = .returned (.tuple #[.agg #[.int .i64 0, .int .i64 0, .string ⟨#[]⟩, .int .i64 0], .int .i64 0, .int .i64 en]))
theorem Ext.set4 {w w1 : World} (h : Ext w w1) (v0 v1 v2 v3 : Value) : Ext w ((((w1.setCell ⟨w.heap.size, 0, none⟩ v0).setCell ⟨w.heap.size, 1, none⟩ v1).setCell ⟨w.heap.size, 2, none⟩ v2).setCell ⟨w.heap.size, 3, none⟩ v3) :=
  (((h.setCell (p := ⟨w.heap.size, 0, none⟩) (Nat.le_refl _) _).setCell (p := ⟨w.heap.size, 1, none⟩) (Nat.le_refl _) _).setCell (p := ⟨w.heap.size, 2, none⟩) (Nat.le_refl _) _).setCell (p := ⟨w.heap.size, 3, none⟩) (Nat.le_refl _) _
theorem ex_size (s : ByteArray) {a b : Nat} (h : a ≤ b) (hb : b ≤ s.size) : (s.extract a b).size = b - a := by
  simp [ByteArray.size_extract]; omega
theorem ex_midT (s : ByteArray) (a b : Nat) (h : a ≤ b) : (s.extract a b).data.toList = (s.data.toList.drop a).take (b - a) := by
  rw [ByteArray.data_extract]; simp [List.take_drop, Nat.add_sub_cancel' h]

set_option maxRecDepth 100000 in
set_option maxHeartbeats 800000 in
theorem cloneP (s : ByteArray) (w : World) (hs : s.size ≤ 1000000) :
    Calls Tryz.prog 129 #[.string s] w fun e w' => e = .returned (.string s) ∧ Ext w w' := by
  have hc := hide (Tryz.stringslite_Clone s w (by omega))
  go_enter Tryz.func129, Tryz.ntmps129
  go_wp2_with fail
  refine hc.out.mono ?_
  rintro e w1 ⟨rfl, he⟩
  replace he := hide he
  go_wp2
  go_ret
  exact ⟨rfl, he.out⟩

set_option maxRecDepth 100000 in
set_option maxHeartbeats 1600000 in
theorem readWord (s : ByteArray) (a : Nat) (c : UInt8) (w : World) (hs : s.size ≤ 1000000) (ha : a < s.size) (hl : isLetterB c.toNat = true) :
    Calls Tryz.prog 97 #[.string s, .int .i64 a] w (TkIs w (tokL s.data.toList a c)) := by
  have hlen : s.data.toList.length = s.size := Array.length_toList
  have hbl := behind_le (p := fun b => isInnerB b.toNat) (l := s.data.toList) (a := a) (by omega)
  have hT : Hid (tokL s.data.toList a c = if behindL (fun b => isInnerB b.toNat) s.data.toList a - a ≤ 12 then .inl (⟨1, a, baOf ((s.data.toList.drop a).take (behindL (fun b => isInnerB b.toNat) s.data.toList a - a)), 0⟩, behindL (fun b => isInnerB b.toNat) s.data.toList a) else .inr 5) := by show _ = _; unfold tokL; rw [if_pos hl]
  have hcall := hide (behindWord s a (w.alloc (.cells #[.int .i64 0, .int .i64 0, .string ⟨#[]⟩, .int .i64 0] 120)) hs (by omega))
  rw [hlen] at hbl
  generalize behindL (fun b => isInnerB b.toNat) s.data.toList a = m at *
  obtain ⟨m1, m2⟩ := hbl
  replace hlen := hide hlen
  go_enter Tryz.func97, Tryz.ntmps97
  go_wp2_with fail
  refine hcall.out.mono ?_
  rintro e w' ⟨rfl, rfl⟩
  by_cases h12 : m - a ≤ 12
  · have h12' : ¬ (12 : Int) < (m : Int) - (a : Int) := by omega
    have hx : Hid ((s.extract a m) = baOf ((s.data.toList.drop a).take (m - a))) := by
      show _ = _
      apply ByteArray.ext; apply Array.toList_inj.1
      rw [ex_midT s a m m1]; rfl
    have hz : (s.extract a m).size ≤ 1000000 := by rw [ex_size s m1 m2]; omega
    have hcl := hide (cloneP (s.extract a m) (w.alloc (.cells #[.int .i64 0, .int .i64 0, .string ⟨#[]⟩, .int .i64 0] 120)) hz)
    have hT2 : Hid (tokL s.data.toList a c = .inl (⟨1, a, s.extract a m, 0⟩, m)) := by show _ = _; rw [hT.out, if_pos h12, hx.out]
    have j1 : (a : Int) ≤ (m : Int) := by omega
    have j2 : (m : Int) ≤ (s.size : Int) := by omega
    have j3 : (0 : Int) ≤ (a : Int) := by omega
    go_wp2_with fail
    refine hcl.out.mono ?_
    rintro e w1 ⟨rfl, he1⟩
    have hO := ext_heap he1 (heap_alloc_new w _)
    obtain ⟨o0, o1, o2, o3⟩ := four_cells hO
    have fO := row_frozen hO
    replace hO := hide hO
    have X1 := hide (((Ext.refl w).alloc _).trans he1)
    replace he1 := hide he1
    go_wp2_with fail
    refine bodyPost_ret (v := .tuple #[.agg #[.int .i64 1, .int .i64 0, .string (s.extract a m), .int .i64 0], .int .i64 m, .int .i64 0]) (by simp [results, Tryz.results97, go_sem, o0, o1, o2, o3]) rfl ?_
    exact ⟨X1.out.set4 _ _ _ _, .inl ⟨_, _, hT2, rfl⟩⟩
  · have h12' : (12 : Int) < (m : Int) - (a : Int) := by omega
    have hT2 : Hid (tokL s.data.toList a c = .inr 5) := by show _ = _; rw [hT.out, if_neg h12]
    go_wp2_with fail
    refine bodyPost_ret (v := .tuple #[.agg #[.int .i64 0, .int .i64 0, .string ⟨#[]⟩, .int .i64 0], .int .i64 0, .int .i64 5]) (by simp [results, Tryz.results97, go_sem]) rfl ?_
    exact ⟨(Ext.refl w).alloc _, .inr ⟨5, hT2, by decide, rfl⟩⟩

theorem take_while (p : UInt8 → Bool) (l : List UInt8) : l.take (l.takeWhile p).length = l.takeWhile p := by
  have := List.takeWhile_append_dropWhile (p := p) (l := l)
  conv => lhs; rw [← this]
  exact List.take_left' (by rw [this])
theorem while_all (p : UInt8 → Bool) : ∀ (l : List UInt8), ∀ c ∈ l.takeWhile p, p c = true := fun l c h => by
  have := List.all_takeWhile (p := p) (l := l)
  exact List.all_eq_true.1 this c h

set_option maxRecDepth 100000 in
set_option maxHeartbeats 1600000 in
theorem readNumber (s : ByteArray) (a : Nat) (c : UInt8) (w : World) (hs : s.size ≤ 1000000) (ha : a < s.size) (hc : s.data.toList[a]? = some c) (hl : isLetterB c.toNat = false) (hd : (isDigitB c.toNat || c == 45) = true) :
    Calls Tryz.prog 99 #[.string s, .int .i64 a] w (TkIs w (tokL s.data.toList a c)) := by
  have hlen : s.data.toList.length = s.size := Array.length_toList
  obtain ⟨c', hc1, hc2⟩ := byteAt ha
  obtain rfl : c = c' := by rw [hc] at hc1; simpa using hc1
  have b45 : ((c.toNat : Int) == 45) = decide (c = 45) := by
    by_cases h : c = 45
    · subst h; rfl
    · rw [show (45 : Int) = ((45 : UInt8).toNat : Int) from rfl, byte_ne h]; simp [h]
  have key : ∀ (f : Nat) (sg : Int), (if c = 45 then a + 1 else a) = f → (if c = 45 then (-1 : Int) else 1) = sg → f ≤ s.size →
      Hid (tokL s.data.toList a c = if digitsOk ((s.data.toList.drop f).takeWhile fun b => isDigitB b.toNat) then .inl (⟨2, a, ⟨#[]⟩, sg * (valN ((s.data.toList.drop f).takeWhile fun b => isDigitB b.toNat) : Int)⟩, behindL (fun b => isDigitB b.toNat) s.data.toList f) else .inr 4) := by
    intro f sg h1 h2 _
    show _ = _
    unfold tokL
    rw [hl, if_neg (by decide), if_pos hd, h1, h2]
  obtain ⟨f, sg, hf, hsg, hfs, hfa, hs1⟩ : ∃ (f : Nat) (sg : Int), (if c = 45 then a + 1 else a) = f ∧ (if c = 45 then (-1 : Int) else 1) = sg ∧ f ≤ s.size ∧ (c = 45 ∧ f = a + 1 ∧ sg = -1 ∨ c ≠ 45 ∧ f = a ∧ sg = 1) ∧ (sg = -1 ∨ sg = 1) := by
    by_cases h : c = 45
    · exact ⟨a + 1, -1, if_pos h, if_pos h, by omega, .inl ⟨h, rfl, rfl⟩, .inl rfl⟩
    · exact ⟨a, 1, if_neg h, if_neg h, by omega, .inr ⟨h, rfl, rfl⟩, .inr rfl⟩
  have hT := key f sg hf hsg hfs
  clear key hf hsg
  have hbl := behind_le (p := fun b => isDigitB b.toNat) (l := s.data.toList) (a := f) (by omega)
  have hcall := hide (behindDigits s f (w.alloc (.cells #[.int .i64 0, .int .i64 0, .string ⟨#[]⟩, .int .i64 0] 120)) hs hfs)
  have hdig : Hid ((s.extract f (behindL (fun b => isDigitB b.toNat) s.data.toList f)).data.toList = (s.data.toList.drop f).takeWhile fun b => isDigitB b.toNat) := by
    show _ = _
    rw [ex_midT s f _ hbl.1]
    unfold behindL
    rw [Nat.add_sub_cancel_left]
    exact take_while _ _
  have hall := hide (while_all (fun b => isDigitB b.toNat) (s.data.toList.drop f))
  rw [← hdig.out] at hT hall
  rw [hlen] at hbl
  generalize behindL (fun b => isDigitB b.toNat) s.data.toList f = m at *
  obtain ⟨m1, m2⟩ := hbl
  have hz : (s.extract f m).size ≤ 1000000 := by rw [ex_size s m1 m2]; omega
  have hval := hide (valueOf (s.extract f m) (w.alloc (.cells #[.int .i64 0, .int .i64 0, .string ⟨#[]⟩, .int .i64 0] 120)) hz hall.out)
  have hdo : digitsOk (s.extract f m).data.toList = true → valN (s.extract f m).data.toList ≤ 1000000000 := by
    intro h; unfold digitsOk at h; rw [Bool.and_eq_true] at h; exact of_decide_eq_true h.2
  have hvo : valOf (s.extract f m).data.toList = if digitsOk (s.extract f m).data.toList then (valN (s.extract f m).data.toList : Int) else 0 := rfl
  generalize valOf (s.extract f m).data.toList = vv at *
  generalize hvn : valN (s.extract f m).data.toList = vn at *
  generalize hdk : digitsOk (s.extract f m).data.toList = dk at *
  replace hlen := hide hlen; replace hdig := hide hdig; replace hvn := hide hvn; replace hdk := hide hdk
  replace hc := hide hc; replace hc1 := hide hc1; replace hl := hide hl; replace hd := hide hd
  have j1 : (f : Int) ≤ (m : Int) := by omega
  have j2 : (m : Int) ≤ (s.size : Int) := by omega
  have j3 : (0 : Int) ≤ (f : Int) := by omega
  have ka : (a : Int) < (s.size : Int) := by omega
  have fin : ∀ w1 : World, Ext (w.alloc (.cells #[.int .i64 0, .int .i64 0, .string ⟨#[]⟩, .int .i64 0] 120)) w1 → ∀ dk', dk' = dk → dk' = true → TkIs w (tokL s.data.toList a c) (.returned (.tuple #[.agg #[.int .i64 2, .int .i64 0, .string ⟨#[]⟩, .int .i64 (sg * (vn : Int))], .int .i64 m, .int .i64 0])) ((((w1.setCell ⟨w.heap.size, 0, none⟩ (.int .i64 2)).setCell ⟨w.heap.size, 1, none⟩ (.int .i64 0)).setCell ⟨w.heap.size, 2, none⟩ (.string ⟨#[]⟩)).setCell ⟨w.heap.size, 3, none⟩ (.int .i64 (sg * (vn : Int)))) := by
    intro w1 he1 dk' e1 e2
    refine ⟨(((Ext.refl w).alloc _).trans he1).set4 _ _ _ _, .inl ⟨⟨2, a, ⟨#[]⟩, sg * (vn : Int)⟩, m, ?_, rfl⟩⟩
    show _ = _
    rw [hT.out, ← e1, e2]; rfl
  replace fin := hide fin
  rcases hfa with ⟨h45, rfl, rfl⟩ | ⟨h45, rfl, rfl⟩
  · rw [decide_eq_true h45] at b45
    replace h45 := hide h45
    go_enter Tryz.func99, Tryz.ntmps99
    go_wp2_with fail
    refine hcall.out.mono ?_
    rintro e w' ⟨rfl, rfl⟩
    go_wp2_with fail
    refine hval.out.mono ?_
    rintro e w1 ⟨rfl, he1⟩
    have hO := ext_heap he1 (heap_alloc_new w _)
    obtain ⟨o0, o1, o2, o3⟩ := four_cells hO
    have fO := row_frozen hO
    replace hO := hide hO
    have X1 := hide (((Ext.refl w).alloc _).trans he1)
    replace he1 := hide he1
    cases dk
    · have hT2 : Hid (tokL s.data.toList a c = .inr 4) := by show _ = _; rw [hT.out]; rfl
      go_wp2_with fail
      refine bodyPost_ret (v := .tuple #[.agg #[.int .i64 0, .int .i64 0, .string ⟨#[]⟩, .int .i64 0], .int .i64 0, .int .i64 4]) (by simp [results, Tryz.results99, go_sem, o0, o1, o2, o3]) rfl ?_
      exact ⟨X1.out.set4 _ _ _ _, .inr ⟨4, hT2, by decide, rfl⟩⟩
    · have hvb := hdo rfl
      obtain rfl : vv = (vn : Int) := hvo
      go_wp2_with fail
      refine bodyPost_ret (v := .tuple #[.agg #[.int .i64 2, .int .i64 0, .string ⟨#[]⟩, .int .i64 (-1 * (vn : Int))], .int .i64 m, .int .i64 0]) (by simp [results, Tryz.results99, go_sem, o0, o1, o2, o3]) rfl ?_
      have := fin.out w1 he1.out true rfl rfl
      simpa using this
  · rw [decide_eq_false h45] at b45
    replace h45 := hide h45
    go_enter Tryz.func99, Tryz.ntmps99
    go_wp2_with fail
    refine hcall.out.mono ?_
    rintro e w' ⟨rfl, rfl⟩
    go_wp2_with fail
    refine hval.out.mono ?_
    rintro e w1 ⟨rfl, he1⟩
    have hO := ext_heap he1 (heap_alloc_new w _)
    obtain ⟨o0, o1, o2, o3⟩ := four_cells hO
    have fO := row_frozen hO
    replace hO := hide hO
    have X1 := hide (((Ext.refl w).alloc _).trans he1)
    replace he1 := hide he1
    cases dk
    · have hT2 : Hid (tokL s.data.toList f c = .inr 4) := by show _ = _; rw [hT.out]; rfl
      go_wp2_with fail
      refine bodyPost_ret (v := .tuple #[.agg #[.int .i64 0, .int .i64 0, .string ⟨#[]⟩, .int .i64 0], .int .i64 0, .int .i64 4]) (by simp [results, Tryz.results99, go_sem, o0, o1, o2, o3]) rfl ?_
      exact ⟨X1.out.set4 _ _ _ _, .inr ⟨4, hT2, by decide, rfl⟩⟩
    · have hvb := hdo rfl
      obtain rfl : vv = (vn : Int) := hvo
      go_wp2_with fail
      refine bodyPost_ret (v := .tuple #[.agg #[.int .i64 2, .int .i64 0, .string ⟨#[]⟩, .int .i64 (1 * (vn : Int))], .int .i64 m, .int .i64 0]) (by simp [results, Tryz.results99, go_sem, o0, o1, o2, o3]) rfl ?_
      have := fin.out w1 he1.out true rfl rfl
      simpa using this
end Go.Proofs.YtfmcgdglalljgaaGreatDoor
