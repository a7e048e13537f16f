/-
  Resources out of bytes: what the program's function that reads them answers.
-/
/-
  Lists and resources as bytes: what the program's functions that write them answer.
-/
/-
  A resource as bytes: what the program's function that writes it answers.
-/
/-
  What may be is short.
-/
/-
  Resources whose lists are our own: plain facts.
-/
/-
  A resource as bytes: what the reference's function answers.
-/
/-
  A record as bytes: what the program's function answers.
-/
/-
  Records out of bytes: what the program's function that reads them answers.
-/
/-
  Steps in memory.
-/
/-
  Tokens: strings, and the token that begins at a place.
-/
import Derived.Test.YtfmcgdglalljgaaGreatDoorJ12
import Derived.Test.YtfmcgdglalljgaaGreatDoorJ9
import Derived.Deep.RegionHeld3
import Derived.Deep.QuietTactic
import Derived.BigQuiet
import Derived.Test.YtfmcgdglalljgaaGreatDoorJ10
import Derived.Test.YtfmcgdglalljgaaGreatDoorJ1
import Derived.Test.YtfmcgdglalljgaaGreatDoorJ7
namespace Go.Proofs.YtfmcgdglalljgaaGreatDoor
open Go.RowKit

def rdRes (l : List UInt8) : Resd × List UInt8 :=
  (⟨(rdID l).1, (rdList rdAttr (rdID l).2).1, (rdList rdID (rdList rdAttr (rdID l).2).2).1⟩, (rdList rdID (rdList rdAttr (rdID l).2).2).2)
/-- A resource that was read: it is short. -/
def okS (x : Resd) : Prop := shI x.id ∧ (∀ a ∈ x.attrs, okN a) ∧ (∀ a ∈ x.after, shI a) ∧ x.attrs.length ≤ 255 ∧ x.after.length ≤ 255
/-- Its lists are our own. -/
structure OwnR (B : Nat) (w : World) (c2 c3 : Value) (x : Resd) : Prop where
  f2 : ∃ pa cap, c2 = .slice pa x.attrs.length cap
  f3 : ∃ pa cap, c3 = .slice pa x.after.length cap
  attrs : w.ownsRow B 66 4 c2 x.attrs.length (cellsA x.attrs)
  after : w.ownsRow B 25 2 c3 x.after.length (cellsI x.after)
/-- What the reading of a resource answers. -/
def ResIs (w : World) (R : Nat) (s : ByteArray) (e : Ending) (w' : World) : Prop :=
  ∃ (x : Resd) (pa2 pa3 : Option Addr) (cap2 cap3 : Nat) (s' : ByteArray), e = .returned (.agg #[.string x.id.kind, .string x.id.name, .slice pa2 x.attrs.length cap2, .slice pa3 x.after.length cap3]) ∧ Hid (rdRes s.data.toList = (x, s'.data.toList)) ∧ Hid (okS x) ∧ Hid (OwnR w.heap.size w' (.slice pa2 x.attrs.length cap2) (.slice pa3 x.after.length cap3) x) ∧ Hid (Left w w' R s' s'.data.toList)
theorem ownsRow_low {w : World} {base base' : Nat} {e : TypeId} {size : Nat} {v : Value} {n : Nat} {xs : List Value} (h : w.ownsRow base e size v n xs) (hb : base' ≤ base) : w.ownsRow base' e size v n xs := by
  obtain ⟨h1, h2⟩ := h
  refine ⟨h1, h2.imp id ?_⟩
  rintro ⟨g, cap, cur, hv, hg, r⟩
  exact ⟨g, cap, cur, hv, Nat.le_trans hb hg, r⟩
theorem ownsRow_set {w : World} {I j : Nat} {c : Array Value} {t : TypeId} {fz : Nat × Nat} {base : Nat} {e : TypeId} {size : Nat} {v : Value} {n : Nat} {xs : List Value} (h : w.ownsRow base e size v n xs) (hI : w.heap[I]? = some (.cells c t fz)) (hne : t ≠ e) (u : Value) : (w.setCell ⟨I, j, none⟩ u).ownsRow base e size v n xs :=
  ownsRow_wrote h ((Wrote.refl 0 (· = t) w).setCell (p := ⟨I, j, none⟩) (Nat.zero_le _) hI rfl u) (fun h => hne h.symm) rfl

set_option maxRecDepth 100000 in
set_option maxHeartbeats 3200000 in
theorem readResource (R : Nat) (s : ByteArray) (w : World) (hR : RdAt w R s) (hs : s.size ≤ 9223372036854775807) :
    Calls Tryz.prog 32 #[.pointer (some ⟨R, 0, none⟩)] w (ResIs w R s) := by
  replace hR := hide hR
  have hno : ¬ w.heap.size + 1 = w.heap.size := by omega
  have hno' : ¬ w.heap.size = w.heap.size + 1 := by omega
  go_enter Tryz.func32, Tryz.ntmps32
  go_wp2_with fail
  refine (readID R s _ (hR.out.ext (((Ext.refl w).alloc _).alloc _)) hs).mono ?_
  rintro e w1 ⟨i, s1, rfl, hx1, hsh1, hL1⟩
  have hO := r_keeps (t := 29) hL1.out.wrote (two_lo w _ _) (by decide)
  have hI := r_keeps (t := 29) hL1.out.wrote (two_hi w _ _) (by decide)
  obtain ⟨b0, b1, b2, b3⟩ := four_cells hI
  have fI := row_frozen hI
  have hne := hL1.out.at_.ne hI (by decide)
  have hR1 := hide ((hL1.out.at_.other (j := 0) hne (.string i.kind)).other (j := 1) hne (.string i.name))
  have hO1 := hide (World.setCell_other_row (World.setCell_other_row hO hno 0 (.string i.kind)) hno 1 (.string i.name))
  have hI1 := hide (four_set1 (four_set0 hI (.string i.kind)) (.string i.name))
  have W1 := hide ((((((Wrote.refl R (· = 110) w).alloc _).alloc _).trans hL1.out.wrote).setNew (p := ⟨w.heap.size + 1, 0, none⟩) (by simp) (.string i.kind)).setNew (p := ⟨w.heap.size + 1, 1, none⟩) (by simp) (.string i.name))
  clear hO hI
  replace hne := hide hne
  go_wp2_with fail
  refine (readAttrs R s1 _ hR1.out hL1.out.few).mono ?_
  rintro e w2 ⟨al, pa2, cap2, s2, rfl, hx2, hn2, hok2, hown2, hL2⟩
  have hO2 := r_keeps (t := 29) hL2.out.wrote hO1.out (by decide)
  have hI2 := r_keeps (t := 29) hL2.out.wrote hI1.out (by decide)
  clear b0 b1 b2 b3 fI
  obtain ⟨b0, b1, b2, b3⟩ := four_cells hI2
  have fI := row_frozen hI2
  have hR2 := hide (hL2.out.at_.other (j := 2) hne.out (.slice pa2 al.length cap2))
  have hO3 := hide (World.setCell_other_row hO2 hno 2 (.slice pa2 al.length cap2))
  have hI3 := hide (four_set2 hI2 (.slice pa2 al.length cap2))
  have W3 := hide ((W1.out.trans hL2.out.wrote).setNew (p := ⟨w.heap.size + 1, 2, none⟩) (by simp) (.slice pa2 al.length cap2))
  have own2 := hide (ownsRow_low (ownsRow_set (j := 2) hown2.out hI2 (by decide) (.slice pa2 al.length cap2)) W1.out.size)
  clear hO2 hI2
  go_wp2_with fail
  refine (readIDs R s2 _ hR2.out hL2.out.few).mono ?_
  rintro e w4 ⟨fs, pa4, cap4, s4, rfl, hx4, hn4, hok4, hown4, hL4⟩
  have hO4 := r_keeps (t := 29) hL4.out.wrote hO3.out (by decide)
  have hI4 := r_keeps (t := 29) hL4.out.wrote hI3.out (by decide)
  clear b0 b1 b2 b3 fI
  obtain ⟨b0, b1, b2, b3⟩ := four_cells hI4
  obtain ⟨a0, a1, a2, a3⟩ := four_cells hO4
  have fI := row_frozen hI4
  have fO := row_frozen hO4
  have hI5 := hide (World.setCell_other_row hO4 hno 3 (.slice pa4 fs.length cap4))
  have hR4 := hide ((hL4.out.at_.other (j := 3) hne.out (.slice pa4 fs.length cap4)).set4 (hL4.out.at_.ne hO4 (by decide)) (.string i.kind) (.string i.name) (.slice pa2 al.length cap2) (.slice pa4 fs.length cap4))
  have W4 := hide (((W3.out.trans hL4.out.wrote).setNew (p := ⟨w.heap.size + 1, 3, none⟩) (by simp) (.slice pa4 fs.length cap4)).set4 (Nat.le_refl _) (.string i.kind) (.string i.name) (.slice pa2 al.length cap2) (.slice pa4 fs.length cap4))
  have own4 := hide (ownsRow_low (ownsRow_set (j := 3) hown4.out hI4 (by decide) (.slice pa4 fs.length cap4)) W3.out.size)
  have own24 := hide (ownsRow_set (j := 3) (ownsRow_wrote own2.out hL4.out.wrote (by decide) rfl) hI4 (by decide) (.slice pa4 fs.length cap4))
  have K4 : Hid (Wrote 0 (· = 29) (w4.setCell ⟨w.heap.size + 1, 3, none⟩ (.slice pa4 fs.length cap4)) (((((w4.setCell ⟨w.heap.size + 1, 3, none⟩ (.slice pa4 fs.length cap4)).setCell ⟨w.heap.size, 0, none⟩ (.string i.kind)).setCell ⟨w.heap.size, 1, none⟩ (.string i.name)).setCell ⟨w.heap.size, 2, none⟩ (.slice pa2 al.length cap2)).setCell ⟨w.heap.size, 3, none⟩ (.slice pa4 fs.length cap4))) := by
    have h0 := hI5.out
    have h1 := four_set0 h0 (.string i.kind)
    have h2 := four_set1 h1 (.string i.name)
    have h3 := four_set2 h2 (.slice pa2 al.length cap2)
    exact ((((Wrote.refl 0 (· = 29) _).setCell (p := ⟨w.heap.size, 0, none⟩) (Nat.zero_le _) h0 rfl _).setCell (p := ⟨w.heap.size, 1, none⟩) (Nat.zero_le _) h1 rfl _).setCell (p := ⟨w.heap.size, 2, none⟩) (Nat.zero_le _) h2 rfl _).setCell (p := ⟨w.heap.size, 3, none⟩) (Nat.zero_le _) h3 rfl _
  replace hO4 := hide hO4; replace hI4 := hide hI4
  go_wp2
  refine bodyPost_ret (v := .agg #[.string i.kind, .string i.name, .slice pa2 al.length cap2, .slice pa4 fs.length cap4]) (by simp [results, Tryz.results32, go_sem, a0, a1, a2, a3]) rfl ⟨⟨i, al, fs⟩, pa2, pa4, cap2, cap4, s4, rfl, ?_, ⟨hsh1, hok2.out, hok4.out, hn2, hn4⟩, ⟨⟨_, _, rfl⟩, ⟨_, _, rfl⟩, ownsRow_wrote own24.out K4.out (by decide) rfl, ownsRow_wrote own4.out K4.out (by decide) rfl⟩, ⟨hR4.out, rfl, W4.out, hL4.out.few⟩⟩
  show _ = _
  unfold rdRes
  rw [hx1.out]
  dsimp only
  rw [hx2.out]
  dsimp only
  rw [hx4.out]
end Go.Proofs.YtfmcgdglalljgaaGreatDoor

namespace Go.Proofs.YtfmcgdglalljgaaGreatDoor
open Go.RowKit

set_option maxRecDepth 100000 in
set_option maxHeartbeats 800000 in
theorem appendAttrs (B : Nat) (v va : Value) (l : List UInt8) (xs : List Attrd) (w0 w : World) (hv : Buf B w v l) (hl : l.length ≤ 600000) (hA : AttrsV w0 va xs) (hE : Ext w0 w) (hB : w0.heap.size ≤ B) (hx : ∀ x ∈ xs, shA x) (hn : xs.length ≤ 255) :
    Calls Tryz.prog 54 #[v, va, .func (.func 55) #[] #[]] w (Wrt B w (l ++ listL attrL xs)) := by
  obtain ⟨⟨a, ca, rfl, hcap, hmax, hs⟩, hfew, hok⟩ := hA
  obtain ⟨pa, cap, rfl⟩ := hv.form
  replace hv := hide hv; replace hE := hide hE; replace hok := hide hok; replace hx := hide hx
  go_enter Tryz.func54, Tryz.ntmps54
  go_wp2_with fail
  refine (appendNumber B _ l xs.length 1 _ hv.out (by omega) (by omega)).mono ?_
  rintro e w1 ⟨acc, pa1, cap1, rfl, hacc, hv1, hb1⟩
  have hlen := bound2 (N := 600001) hacc.out (by omega)
  go_wp2
  go_loopw [0, 15] (fun b i wr => ∃ (k : Nat) (acc2 : List UInt8) (pa2 : Option Addr) (cap2 : Nat), k ≤ xs.length ∧ i = .int .i64 k ∧ b = .slice pa2 acc2.length cap2 ∧ acc2.length ≤ 600001 + k * 600 ∧ Hid (acc2 = acc ++ (xs.take k).flatMap attrL) ∧ Hid (Buf B wr (.slice pa2 acc2.length cap2) acc2) ∧ Hid (Wrote8 B w wr)) (fun _ i _ => xs.length - (intOf i).toNat)
  case atStart => exact ⟨0, acc, pa1, cap1, Nat.zero_le _, rfl, rfl, by omega, by simp [Hid], hv1, hb1⟩
  case round =>
    obtain ⟨k, acc2, pa2, cap2, hk, rfl, rfl, hlen2, hacc2, hv2, hb2⟩ := hrel
    by_cases hlt : k < xs.length
    · rcases hs with rfl | ⟨b, off, rfl, hin⟩
      · simp at hlt
      obtain ⟨x, hxk⟩ := some_of_lt hlt
      obtain ⟨g0, g1, g2, g3⟩ := (hin.ext (hE.out.wrote hb2.out hB)) k x hxk
      have hsx := hide (hx.out x (List.mem_of_getElem? hxk))
      have Hs := hide (flat_succ (f := attrL) hxk)
      replace hin := hide hin
      replace hxk := hide hxk
      go_wp2_with fail
      refine (appendAttr B _ acc2 x _ (hv2.out.alloc _) (by omega) hsx.out).mono ?_
      rintro e w3 ⟨acc3, pa3, cap3, rfl, hacc3, hv3, hb3⟩
      go_wp2_with fail
      go_roundw
      case rel =>
        refine ⟨k + 1, acc3, pa3, cap3, by omega, by go_num, rfl, ?_, ?_, hv3, (hb2.out.alloc _).trans hb3.out⟩
        · have := attrL_len hsx.out
          rw [hacc3.out, List.length_append]; omega
        · rw [hacc3.out, hacc2.out, Hs.out, List.append_assoc]; rfl
      case measure => simp [intOf]; omega
    · have Hl := hide (show xs.take k = xs from List.take_of_length_le (by omega))
      replace hs := hide hs
      go_wp2
      go_ret
      refine Wrt.mk ?_ hb2.out
      have e : acc2 = l ++ listL attrL xs := by rw [hacc2.out, Hl.out, hacc.out, List.append_assoc]; rfl
      rw [← e]; exact hv2.out

set_option maxRecDepth 100000 in
set_option maxHeartbeats 800000 in
theorem appendIDs (B : Nat) (v va : Value) (l : List UInt8) (xs : List IDd) (w0 w : World) (hv : Buf B w v l) (hl : l.length ≤ 600000) (hA : IDsV w0 va xs) (hE : Ext w0 w) (hB : w0.heap.size ≤ B) (hx : ∀ x ∈ xs, shI x) (hn : xs.length ≤ 255) :
    Calls Tryz.prog 56 #[v, va, .func (.func 53) #[] #[]] w (Wrt B w (l ++ listL idL xs)) := by
  obtain ⟨⟨a, ca, rfl, hcap, hmax, hs⟩, hfew, hok⟩ := hA
  obtain ⟨pa, cap, rfl⟩ := hv.form
  replace hv := hide hv; replace hE := hide hE; replace hok := hide hok; replace hx := hide hx
  go_enter Tryz.func56, Tryz.ntmps56
  go_wp2_with fail
  refine (appendNumber B _ l xs.length 1 _ hv.out (by omega) (by omega)).mono ?_
  rintro e w1 ⟨acc, pa1, cap1, rfl, hacc, hv1, hb1⟩
  have hlen := bound2 (N := 600001) hacc.out (by omega)
  go_wp2
  go_loopw [0, 15] (fun b i wr => ∃ (k : Nat) (acc2 : List UInt8) (pa2 : Option Addr) (cap2 : Nat), k ≤ xs.length ∧ i = .int .i64 k ∧ b = .slice pa2 acc2.length cap2 ∧ acc2.length ≤ 600001 + k * 600 ∧ Hid (acc2 = acc ++ (xs.take k).flatMap idL) ∧ Hid (Buf B wr (.slice pa2 acc2.length cap2) acc2) ∧ Hid (Wrote8 B w wr)) (fun _ i _ => xs.length - (intOf i).toNat)
  case atStart => exact ⟨0, acc, pa1, cap1, Nat.zero_le _, rfl, rfl, by omega, by simp [Hid], hv1, hb1⟩
  case round =>
    obtain ⟨k, acc2, pa2, cap2, hk, rfl, rfl, hlen2, hacc2, hv2, hb2⟩ := hrel
    by_cases hlt : k < xs.length
    · rcases hs with rfl | ⟨b, off, rfl, hin⟩
      · simp at hlt
      obtain ⟨x, hxk⟩ := some_of_lt hlt
      obtain ⟨g0, g1⟩ := (hin.ext (hE.out.wrote hb2.out hB)) k x hxk
      have hsx := hide (hx.out x (List.mem_of_getElem? hxk))
      have Hs := hide (flat_succ (f := idL) hxk)
      replace hin := hide hin
      replace hxk := hide hxk
      go_wp2_with fail
      refine (appendID B _ acc2 x _ (hv2.out.alloc _) (by omega) hsx.out).mono ?_
      rintro e w3 ⟨acc3, pa3, cap3, rfl, hacc3, hv3, hb3⟩
      go_wp2_with fail
      go_roundw
      case rel =>
        refine ⟨k + 1, acc3, pa3, cap3, by omega, by go_num, rfl, ?_, ?_, hv3, (hb2.out.alloc _).trans hb3.out⟩
        · have := idL_len hsx.out
          rw [hacc3.out, List.length_append]; omega
        · rw [hacc3.out, hacc2.out, Hs.out, List.append_assoc]; rfl
      case measure => simp [intOf]; omega
    · have Hl := hide (show xs.take k = xs from List.take_of_length_le (by omega))
      replace hs := hide hs
      go_wp2
      go_ret
      refine Wrt.mk ?_ hb2.out
      have e : acc2 = l ++ listL idL xs := by rw [hacc2.out, Hl.out, hacc.out, List.append_assoc]; rfl
      rw [← e]; exact hv2.out

end Go.Proofs.YtfmcgdglalljgaaGreatDoor

namespace Go.Proofs.YtfmcgdglalljgaaGreatDoor
open Go.RowKit

theorem re_keeps {B : Nat} {w w' : World} (h : Wrote8 B w w') {k : Nat} {c : Array Value} {fz : Nat × Nat} (hk : w.heap[k]? = some (.cells c 29 fz)) : w'.heap[k]? = some (.cells c 29 fz) := h.keeps hk (by decide)
theorem bound4 {acc l : List UInt8} {x : IDd} {N : Nat} (h : acc = l ++ idL x) (hx : shI x) (hl : l.length + 600 ≤ N) : acc.length ≤ N := by
  have := idL_len hx
  rw [h, List.length_append]; omega
theorem listL_len {α : Type} {f : α → List UInt8} {l : List α} {n : Nat} (h : ∀ x ∈ l, (f x).length ≤ n) (hl : l.length ≤ 255) : (listL f l).length ≤ 1 + 255 * n := by
  have h1 := flat_le h
  have h2 : l.length * n ≤ 255 * n := Nat.mul_le_mul_right n hl
  rw [listL, List.length_append, bigL_len]; omega
theorem bound5 {acc l : List UInt8} {xs : List Attrd} {N : Nat} (h : acc = l ++ listL attrL xs) (hx : ∀ x ∈ xs, shA x) (hn : xs.length ≤ 255) (hl : l.length + 153001 ≤ N) : acc.length ≤ N := by
  have := listL_len (f := attrL) (n := 600) (fun x hh => attrL_len (hx x hh)) hn
  rw [h, List.length_append]; omega
set_option maxRecDepth 100000 in
set_option maxHeartbeats 1600000 in
theorem appendResource (B : Nat) (v c2 c3 : Value) (l : List UInt8) (x : Resd) (w0 w : World) (hv : Buf B w v l) (hl : l.length ≤ 300000) (hr : ResV w0 c2 c3 x) (hE : Ext w0 w) (hB : w0.heap.size ≤ B) (hx : shR x) :
    Calls Tryz.prog 27 #[v, .agg #[.string x.id.kind, .string x.id.name, c2, c3]] w (Wrt B w (l ++ encR x)) := by
  obtain ⟨hI, hA, hF⟩ := hr
  obtain ⟨x1, x2, x3, x4, x5⟩ := hx
  obtain ⟨a2, p2, rfl⟩ := hA.form
  obtain ⟨a3, p3, rfl⟩ := hF.form
  obtain ⟨pa, cap, rfl⟩ := hv.form
  replace hv := hide hv; replace hE := hide hE; replace hI := hide hI; replace hA := hide hA; replace hF := hide hF; replace x2 := hide x2; replace x3 := hide x3; replace x1 := hide x1
  go_enter Tryz.func27, Tryz.ntmps27
  go_wp2_with fail
  refine (appendID B _ l x.id _ (hv.out.alloc _) (by omega) x1.out).mono ?_
  rintro e w1 ⟨acc, pa1, cap1, rfl, hacc, hv1, hb1⟩
  have hlen := bound4 (N := 300600) hacc.out x1.out (by omega)
  have hR := re_keeps hb1.out (heap_alloc_new w _)
  have q2 := at_c2 hR
  have q3 := at_c3 hR
  replace hR := hide hR
  have X1 := hide (hE.out.wrote (((Wrote.refl B _ _).alloc _).trans hb1.out) hB)
  go_wp2_with fail
  refine (appendAttrs B _ _ acc x.attrs w0 _ hv1.out (by omega) hA.out X1.out hB x2.out x4).mono ?_
  rintro e w2 ⟨acc2, pa2, cap2, rfl, hacc2, hv2, hb2⟩
  have hlen2 := bound5 (N := 500000) hacc2.out x2.out x4 (by omega)
  have hR2 := re_keeps hb2.out hR.out
  clear q2 q3
  have q3 := at_c3 hR2
  replace hR2 := hide hR2
  go_wp2_with fail
  refine (appendIDs B _ _ acc2 x.after w0 _ hv2.out (by omega) hF.out (X1.out.wrote hb2.out hB) hB x3.out x5).mono ?_
  rintro e w3 ⟨acc3, pa3, cap3, rfl, hacc3, hv3, hb3⟩
  go_wp2_with fail
  go_ret
  refine Wrt.mk ?_ (((Wrote.refl _ _ _).alloc _).trans (hb1.out.trans (hb2.out.trans hb3.out)))
  have e : acc3 = l ++ encR x := by rw [hacc3.out, hacc2.out, hacc.out]; simp [encR]
  rw [← e]; exact hv3.out
end Go.Proofs.YtfmcgdglalljgaaGreatDoor

namespace Go.Proofs.YtfmcgdglalljgaaGreatDoor
open Go.RowKit

theorem word_sh {l : List UInt8} (h : wordB l = true) : l.length ≤ 12 := by
  rcases Nat.lt_or_ge 12 l.length with h1 | h1
  · rw [wordB_long h1] at h; cases h
  · exact h1
theorem size_dl (s : ByteArray) : s.data.toList.length = s.size := Array.length_toList
theorem id_sh {x : IDd} (h : idB x = true) : shI x := by
  simp only [idB, Bool.and_eq_true] at h
  have h1 := word_sh h.1; have h2 := word_sh h.2
  rw [size_dl] at h1 h2
  exact ⟨by omega, by omega⟩
theorem attr_sh {x : Attrd} (h : attrB x = true) : shA x := by
  simp only [attrB, Bool.and_eq_true] at h
  obtain ⟨⟨h1, _⟩, h2⟩ := h
  have h1 := word_sh h1
  rw [size_dl] at h1
  refine ⟨by omega, ?_⟩
  split at h2
  · simp only [stringB, Bool.and_eq_true, decide_eq_true_eq] at h2
    have := h2.1.1; rw [size_dl] at this; omega
  · simp only [Bool.and_eq_true, List.isEmpty_iff] at h2
    have := size_dl x.text; rw [h2.1] at this; simp at this; omega
theorem may_sh {x : Resd} (h : mayB x = true) : shR x := by
  simp only [mayB, Bool.and_eq_true, decide_eq_true_eq, List.all_eq_true] at h
  obtain ⟨⟨⟨⟨⟨⟨h1, h2⟩, h3⟩, h4⟩, _⟩, h5⟩, _⟩ := h
  exact ⟨id_sh h3, fun a ha => attr_sh (h4 a ha), fun a ha => id_sh (h5 a ha), by omega, by omega⟩
theorem ext_heap0 {w w' : World} (h : Ext w w') {k : Nat} {o : Obj} (hk : w.heap[k]? = some o) : w'.heap[k]? = some o := by
  obtain ⟨_, _, _, _, h5⟩ := h
  rw [h5 k (Array.getElem?_eq_some_iff.1 hk).1]; exact hk
end Go.Proofs.YtfmcgdglalljgaaGreatDoor

namespace Go.Proofs.YtfmcgdglalljgaaGreatDoor
open Go.RowKit

theorem take_split {cur : Array Value} {k : Nat} {xs : List Value} (h : cur.toList.take k = xs) : cur = (xs ++ cur.toList.drop k).toArray := by
  apply Array.toList_inj.1; rw [← h]; simp
theorem OwnR.resV {B : Nat} {w : World} {c2 c3 : Value} {x : Resd} (h : OwnR B w c2 c3 x) (hs : okS x) : ResV w c2 c3 x := by
  obtain ⟨_, _, h2, h3⟩ := h
  obtain ⟨s1, s2, s3, s4, s5⟩ := hs
  refine ⟨⟨by have := s1.1; omega, by have := s1.2; omega⟩, ⟨?_, by omega, fun a ha => ?_⟩, ⟨?_, by omega, fun a ha => ?_⟩⟩
  · rcases h2.2 with ⟨rfl, h0⟩ | ⟨g, cap, cur, rfl, _, hh, hc, hm, _, ht⟩
    · rw [List.eq_nil_of_length_eq_zero h0]; exact ⟨none, 0, rfl, Nat.le_refl _, by omega, .inl rfl⟩
    · rw [take_split ht] at hh
      exact ⟨some ⟨g, 0, none⟩, cap, rfl, hc, by unfold maxLen at hm; omega, .inr ⟨g, 0, rfl, attrsIn_of hh⟩⟩
  · obtain ⟨⟨k1, k2⟩, k3, k4⟩ := s2 a ha
    exact ⟨by omega, by omega, by omega, by omega⟩
  · rcases h3.2 with ⟨rfl, h0⟩ | ⟨g, cap, cur, rfl, _, hh, hc, hm, _, ht⟩
    · rw [List.eq_nil_of_length_eq_zero h0]; exact ⟨none, 0, rfl, Nat.le_refl _, by omega, .inl rfl⟩
    · rw [take_split ht] at hh
      exact ⟨some ⟨g, 0, none⟩, cap, rfl, hc, by unfold maxLen at hm; omega, .inr ⟨g, 0, rfl, idsIn_of hh⟩⟩
  · obtain ⟨k1, k2⟩ := s3 a ha
    exact ⟨by omega, by omega⟩
theorem OwnR.ext {B : Nat} {w w' : World} {c2 c3 : Value} {x : Resd} (h : OwnR B w c2 c3 x) (e : Ext w w') : OwnR B w' c2 c3 x :=
  ⟨h.f2, h.f3, ownsRow_wrote h.attrs (Wrote.ext (B := 0) (T := fun _ => False) e) id rfl, ownsRow_wrote h.after (Wrote.ext (B := 0) (T := fun _ => False) e) id rfl⟩
theorem OwnR.low {B B' : Nat} {w : World} {c2 c3 : Value} {x : Resd} (h : OwnR B w c2 c3 x) (hb : B' ≤ B) : OwnR B' w c2 c3 x := ⟨h.f2, h.f3, ownsRow_low h.attrs hb, ownsRow_low h.after hb⟩
def noRes : Resd := ⟨⟨⟨#[]⟩, ⟨#[]⟩⟩, [], []⟩
theorem OwnR.nil (B : Nat) (w : World) : OwnR B w (.slice none 0 0) (.slice none 0 0) noRes := ⟨⟨_, _, rfl⟩, ⟨_, _, rfl⟩, World.ownsRow_nil _ _ _ _, World.ownsRow_nil _ _ _ _⟩
theorem okS_nil : okS noRes := ⟨⟨Nat.zero_le _, Nat.zero_le _⟩, fun a h => (by cases h), fun a h => (by cases h), Nat.zero_le _, Nat.zero_le _⟩

set_option maxRecDepth 100000 in
set_option maxHeartbeats 1600000 in
theorem newReader (s : ByteArray) (w : World) :
    Calls Tryz.prog 28 #[.string s] w fun e w' => e = .returned (.pointer (some ⟨w.heap.size, 0, none⟩)) ∧ w' = w.alloc (.cells #[.string s] 110) := by
  go_enter Tryz.func28, Tryz.ntmps28
  go_wp2
  go_ret
  exact ⟨rfl, rfl⟩

end Go.Proofs.YtfmcgdglalljgaaGreatDoor

namespace Go.Proofs.YtfmcgdglalljgaaGreatDoor
open Go.RowKit

/-- It answers a text, and all is as it was. -/
def StrIs (w : World) (l : List UInt8) (N : Nat) (e : Ending) (w' : World) : Prop := ∃ t : ByteArray, e = .returned (.string t) ∧ Hid (t.data.toList = l) ∧ t.size ≤ N ∧ Hid (Ext w w')
theorem StrIs.mk {w w' : World} {l : List UInt8} {N : Nat} {e : Ending} (h : e = .returned (.string ⟨l.toArray⟩)) (hl : l.length ≤ N) (he : Ext w w') : StrIs w l N e w' :=
  ⟨⟨l.toArray⟩, h, rfl, hl, he⟩
end Go.Proofs.YtfmcgdglalljgaaGreatDoor

namespace Go.Proofs.YtfmcgdglalljgaaGreatDoor
open Go.RowKit

/-- A record as bytes. -/
def recL (r : Recd) : List UInt8 := bigL 1 r.kind ++ bigL 3 r.epoch ++ bigL 3 r.number ++ (if r.kind = 2 then bigL 1 r.op ++ encR r.res else [])
def encS (r : Recd) : ByteArray := if recB r then ⟨(recL r).toArray⟩ else ⟨#[]⟩
def encE (r : Recd) : Int := if recB r then 0 else 11
theorem rec_step {r : Recd} (h : recB r = true) (hk : r.kind = 2) : mayB r.res = true ∧ 1 ≤ r.op ∧ r.op ≤ 3 := by
  simp only [recB, Bool.and_eq_true] at h
  have h2 := h.2
  rw [if_neg (by omega), if_pos hk] at h2
  simp only [stepB, Bool.and_eq_true, decide_eq_true_eq] at h2
  exact ⟨h2.2, h2.1.1, h2.1.2⟩

theorem rec_cells {w : World} {k : Nat} {r : Recd} {c2 c3 : Value} {t : TypeId} {fz : Nat × Nat} (h : w.heap[k]? = some (.cells #[.int .i64 r.kind, .int .i64 r.epoch, .int .i64 r.number, .int .i64 r.op, .string r.res.id.kind, .string r.res.id.name, c2, c3] t fz)) :
    w.cell? ⟨k, 0, none⟩ = some (.int .i64 r.kind) ∧ w.cell? ⟨k, 1, none⟩ = some (.int .i64 r.epoch) ∧ w.cell? ⟨k, 2, none⟩ = some (.int .i64 r.number) ∧ w.cell? ⟨k, 3, none⟩ = some (.int .i64 r.op) ∧ w.cell? ⟨k, 4, none⟩ = some (.string r.res.id.kind) ∧ w.cell? ⟨k, 5, none⟩ = some (.string r.res.id.name) ∧ w.cell? ⟨k, 6, none⟩ = some c2 ∧ w.cell? ⟨k, 7, none⟩ = some c3 := by
  simp [World.cell?, h]
theorem rc_keeps {B : Nat} {w w' : World} (h : Wrote8 B w w') {k : Nat} {c : Array Value} {fz : Nat × Nat} (hk : w.heap[k]? = some (.cells c 33 fz)) : w'.heap[k]? = some (.cells c 33 fz) := h.keeps hk (by decide)

set_option maxRecDepth 100000 in
set_option maxHeartbeats 1600000 in
theorem encode (r : Recd) (c2 c3 : Value) (w : World) (hr : ResV w c2 c3 r.res) :
    Calls Tryz.prog 10 #[.agg #[.int .i64 r.kind, .int .i64 r.epoch, .int .i64 r.number, .int .i64 r.op, .string r.res.id.kind, .string r.res.id.name, c2, c3]] w fun e w' => e = .returned (.tuple #[.string (encS r), .int .i64 (encE r)]) ∧ Ext w w' := by
  have hr0 := hide hr
  obtain ⟨hI, hA, hF⟩ := hr
  obtain ⟨a2, p2, rfl⟩ := hA.form
  obtain ⟨a3, p3, rfl⟩ := hF.form
  replace hA := hide hA; replace hF := hide hF; replace hI := hide hI
  go_enter Tryz.func10, Tryz.ntmps10
  go_wp2_with fail
  refine (recMay r _ _ _ (hr0.out.ext ((Ext.refl _).alloc _))).mono ?_
  rintro e w1 ⟨rfl, he1⟩
  have hR := ext_heap0 he1 (heap_alloc_new w _)
  have X1 := hide (((Ext.refl w).alloc _).trans he1)
  clear he1
  obtain ⟨q0, q1, q2, q3, q4, q5, q6, q7⟩ := rec_cells hR
  replace hR := hide hR
  cases hm : recB r
  · have H1 : Hid (encS r = ⟨#[]⟩) := by unfold encS; rw [hm]; rfl
    have H2 : Hid (encE r = 11) := by unfold encE; rw [hm]; rfl
    go_wp2_with fail
    go_ret2
    exact ⟨by rw [H1.out, H2.out]; rfl, X1.out⟩
  have H1 : Hid (encS r = ⟨(recL r).toArray⟩) := by unfold encS; rw [hm]; rfl
  have H2 : Hid (encE r = 0) := by unfold encE; rw [hm]; rfl
  have Hst := hide (@rec_step r hm)
  replace hm := hide hm
  go_wp2_with fail
  refine (appendNumber w1.heap.size _ [] r.kind 1 _ (Buf.nil _) (by simp) (by omega)).mono ?_
  rintro e w2 ⟨acc2, pa2, cap2, rfl, hacc2, hv2, hb2⟩
  have hlen2 : acc2.length ≤ 1 := by rw [hacc2.out, List.length_append, bigL_len]; simp
  have hR2 := rc_keeps hb2.out hR.out
  clear q0 q1 q2 q3 q4 q5 q6 q7
  obtain ⟨q0, q1, q2, q3, q4, q5, q6, q7⟩ := rec_cells hR2
  replace hR2 := hide hR2
  go_wp2_with fail
  refine (appendNumber w1.heap.size _ acc2 r.epoch 3 _ hv2.out (by omega) (by omega)).mono ?_
  rintro e w3 ⟨acc3, pa3, cap3, rfl, hacc3, hv3, hb3⟩
  have hlen3 : acc3.length ≤ 4 := by rw [hacc3.out, List.length_append, bigL_len]; omega
  have hR3 := rc_keeps hb3.out hR2.out
  clear q0 q1 q2 q3 q4 q5 q6 q7
  obtain ⟨q0, q1, q2, q3, q4, q5, q6, q7⟩ := rec_cells hR3
  replace hR3 := hide hR3
  go_wp2_with fail
  refine (appendNumber w1.heap.size _ acc3 r.number 3 _ hv3.out (by omega) (by omega)).mono ?_
  rintro e w4 ⟨acc4, pa4, cap4, rfl, hacc4, hv4, hb4⟩
  have hlen4 : acc4.length ≤ 7 := by rw [hacc4.out, List.length_append, bigL_len]; omega
  have hpos4 : 0 < acc4.length := by rw [hacc4.out, List.length_append, bigL_len]; omega
  have hR4 := rc_keeps hb4.out hR3.out
  clear q0 q1 q2 q3 q4 q5 q6 q7
  obtain ⟨q0, q1, q2, q3, q4, q5, q6, q7⟩ := rec_cells hR4
  replace hR4 := hide hR4
  have W4 := hide (hb2.out.trans (hb3.out.trans hb4.out))
  have e4 : Hid (acc4 = bigL 1 r.kind ++ bigL 3 r.epoch ++ bigL 3 r.number) := by rw [hacc4.out, hacc3.out, hacc2.out]; rfl
  by_cases k2 : r.kind = 2
  · have k2' : (r.kind == 2) = true := by simpa using k2
    have Hrl : Hid (recL r = acc4 ++ (bigL 1 r.op ++ encR r.res)) := by unfold recL; rw [if_pos k2, e4.out]; rfl
    have Hsh := hide (may_sh (Hst.out k2).1)
    clear k2
    go_wp2_with fail
    refine (appendNumber w1.heap.size _ acc4 r.op 1 _ hv4.out (by omega) (by omega)).mono ?_
    rintro e w5 ⟨acc5, pa5, cap5, rfl, hacc5, hv5, hb5⟩
    have hlen5 : acc5.length ≤ 8 := by rw [hacc5.out, List.length_append, bigL_len]; omega
    have hR5 := rc_keeps hb5.out hR4.out
    clear q0 q1 q2 q3 q4 q5 q6 q7
    obtain ⟨q0, q1, q2, q3, q4, q5, q6, q7⟩ := rec_cells hR5
    replace hR5 := hide hR5
    have W5 := hide (W4.out.trans hb5.out)
    go_wp2_with fail
    refine (appendResource w1.heap.size _ _ _ acc5 r.res w1 _ hv5.out (by omega) (hr0.out.ext X1.out) W5.out.toExt (Nat.le_refl _) Hsh.out).mono ?_
    rintro e w6 ⟨acc6, pa6, cap6, rfl, hacc6, hv6, hb6⟩
    have hpos6 : 0 < acc6.length := by rw [hacc6.out, hacc5.out, List.length_append, List.length_append]; omega
    have hcv := hv6.out.conv hpos6
    have e6 : Hid (acc6 = recL r) := by rw [Hrl.out, hacc6.out, hacc5.out, List.append_assoc]; rfl
    go_wp2_with fail
    go_ret2
    exact ⟨by rw [H1.out, H2.out, ← e6.out]; rfl, X1.out.trans (W5.out.trans hb6.out).toExt⟩
  · have k2' : (r.kind == 2) = false := by simpa using k2
    have hcv := hv4.out.conv hpos4
    have e6 : Hid (acc4 = recL r) := by unfold recL; rw [if_neg k2, e4.out, List.append_nil]; rfl
    clear k2
    go_wp2_with fail
    go_ret2
    exact ⟨by rw [H1.out, H2.out, ← e6.out]; rfl, X1.out.trans W4.out.toExt⟩
end Go.Proofs.YtfmcgdglalljgaaGreatDoor

namespace Go.Proofs.YtfmcgdglalljgaaGreatDoor
open Go.RowKit

theorem es0 {w : World} {k : Nat} {a b c d e f g h : Value} {t : TypeId} {fz : Nat × Nat} (hk : w.heap[k]? = some (.cells #[a, b, c, d, e, f, g, h] t fz)) (v : Value) : (w.setCell ⟨k, 0, none⟩ v).heap[k]? = some (.cells #[v, b, c, d, e, f, g, h] t fz) := by
  have := row_set hk 0 v; simpa using this
theorem es1 {w : World} {k : Nat} {a b c d e f g h : Value} {t : TypeId} {fz : Nat × Nat} (hk : w.heap[k]? = some (.cells #[a, b, c, d, e, f, g, h] t fz)) (v : Value) : (w.setCell ⟨k, 1, none⟩ v).heap[k]? = some (.cells #[a, v, c, d, e, f, g, h] t fz) := by
  have := row_set hk 1 v; simpa using this
theorem es2 {w : World} {k : Nat} {a b c d e f g h : Value} {t : TypeId} {fz : Nat × Nat} (hk : w.heap[k]? = some (.cells #[a, b, c, d, e, f, g, h] t fz)) (v : Value) : (w.setCell ⟨k, 2, none⟩ v).heap[k]? = some (.cells #[a, b, v, d, e, f, g, h] t fz) := by
  have := row_set hk 2 v; simpa using this
theorem es3 {w : World} {k : Nat} {a b c d e f g h : Value} {t : TypeId} {fz : Nat × Nat} (hk : w.heap[k]? = some (.cells #[a, b, c, d, e, f, g, h] t fz)) (v : Value) : (w.setCell ⟨k, 3, none⟩ v).heap[k]? = some (.cells #[a, b, c, v, e, f, g, h] t fz) := by
  have := row_set hk 3 v; simpa using this
theorem es4 {w : World} {k : Nat} {a b c d e f g h : Value} {t : TypeId} {fz : Nat × Nat} (hk : w.heap[k]? = some (.cells #[a, b, c, d, e, f, g, h] t fz)) (v : Value) : (w.setCell ⟨k, 4, none⟩ v).heap[k]? = some (.cells #[a, b, c, d, v, f, g, h] t fz) := by
  have := row_set hk 4 v; simpa using this
theorem es5 {w : World} {k : Nat} {a b c d e f g h : Value} {t : TypeId} {fz : Nat × Nat} (hk : w.heap[k]? = some (.cells #[a, b, c, d, e, f, g, h] t fz)) (v : Value) : (w.setCell ⟨k, 5, none⟩ v).heap[k]? = some (.cells #[a, b, c, d, e, v, g, h] t fz) := by
  have := row_set hk 5 v; simpa using this
theorem es6 {w : World} {k : Nat} {a b c d e f g h : Value} {t : TypeId} {fz : Nat × Nat} (hk : w.heap[k]? = some (.cells #[a, b, c, d, e, f, g, h] t fz)) (v : Value) : (w.setCell ⟨k, 6, none⟩ v).heap[k]? = some (.cells #[a, b, c, d, e, f, v, h] t fz) := by
  have := row_set hk 6 v; simpa using this
theorem ecells {w : World} {k : Nat} {a b c d e f g h : Value} {t : TypeId} {fz : Nat × Nat} (hk : w.heap[k]? = some (.cells #[a, b, c, d, e, f, g, h] t fz)) :
    w.cell? ⟨k, 0, none⟩ = some a ∧ w.cell? ⟨k, 1, none⟩ = some b ∧ w.cell? ⟨k, 2, none⟩ = some c ∧ w.cell? ⟨k, 3, none⟩ = some d ∧ w.cell? ⟨k, 4, none⟩ = some e ∧ w.cell? ⟨k, 5, none⟩ = some f ∧ w.cell? ⟨k, 6, none⟩ = some g ∧ w.cell? ⟨k, 7, none⟩ = some h := by simp [World.cell?, hk]
/-- Eight cells of a row are stored. -/
theorem Wrote.set8 {B : Nat} {T : TypeId → Prop} {w w1 : World} (h : Wrote B T w w1) {O : Nat} (hO : w.heap.size ≤ O) (v0 v1 v2 v3 v4 v5 v6 v7 : Value) :
    Wrote B T w ((((((((w1.setCell ⟨O, 0, none⟩ v0).setCell ⟨O, 1, none⟩ v1).setCell ⟨O, 2, none⟩ v2).setCell ⟨O, 3, none⟩ v3).setCell ⟨O, 4, none⟩ v4).setCell ⟨O, 5, none⟩ v5).setCell ⟨O, 6, none⟩ v6).setCell ⟨O, 7, none⟩ v7) :=
  (((((((h.setNew (p := ⟨O, 0, none⟩) hO v0).setNew (p := ⟨O, 1, none⟩) hO v1).setNew (p := ⟨O, 2, none⟩) hO v2).setNew (p := ⟨O, 3, none⟩) hO v3).setNew (p := ⟨O, 4, none⟩) hO v4).setNew (p := ⟨O, 5, none⟩) hO v5).setNew (p := ⟨O, 6, none⟩) hO v6).setNew (p := ⟨O, 7, none⟩) hO v7
theorem ownsRow_set8 {w : World} {O : Nat} {a b c d e f g h : Value} {t : TypeId} {fz : Nat × Nat} {base : Nat} {el : TypeId} {size : Nat} {v : Value} {n : Nat} {xs : List Value} (hw : w.ownsRow base el size v n xs) (hk : w.heap[O]? = some (.cells #[a, b, c, d, e, f, g, h] t fz)) (hne : t ≠ el) (v0 v1 v2 v3 v4 v5 v6 v7 : Value) :
    (((((((((w.setCell ⟨O, 0, none⟩ v0).setCell ⟨O, 1, none⟩ v1).setCell ⟨O, 2, none⟩ v2).setCell ⟨O, 3, none⟩ v3).setCell ⟨O, 4, none⟩ v4).setCell ⟨O, 5, none⟩ v5).setCell ⟨O, 6, none⟩ v6).setCell ⟨O, 7, none⟩ v7)).ownsRow base el size v n xs := by
  have k0 := hk
  have k1 := es0 k0 v0
  have k2 := es1 k1 v1
  have k3 := es2 k2 v2
  have k4 := es3 k3 v3
  have k5 := es4 k4 v4
  have k6 := es5 k5 v5
  have k7 := es6 k6 v6
  exact ownsRow_set (ownsRow_set (ownsRow_set (ownsRow_set (ownsRow_set (ownsRow_set (ownsRow_set (ownsRow_set hw k0 hne v0) k1 hne v1) k2 hne v2) k3 hne v3) k4 hne v4) k5 hne v5) k6 hne v6) k7 hne v7
def rdRec (l : List UInt8) : Recd :=
  if numN (l.take 1) = 2 then ⟨numN (l.take 1), numN ((l.drop 1).take 3), numN (((l.drop 1).drop 3).take 3), numN ((((l.drop 1).drop 3).drop 3).take 1), (rdRes ((((l.drop 1).drop 3).drop 3).drop 1)).1⟩
  else ⟨numN (l.take 1), numN ((l.drop 1).take 3), numN (((l.drop 1).drop 3).take 3), 0, noRes⟩
/-- What the reading of a record answers. -/
def RecIs (w : World) (R : Nat) (s : ByteArray) (e : Ending) (w' : World) : Prop :=
  ∃ (r : Recd) (pa2 pa3 : Option Addr) (cap2 cap3 : Nat), e = .returned (.agg #[.int .i64 r.kind, .int .i64 r.epoch, .int .i64 r.number, .int .i64 r.op, .string r.res.id.kind, .string r.res.id.name, .slice pa2 r.res.attrs.length cap2, .slice pa3 r.res.after.length cap3]) ∧ Hid (rdRec s.data.toList = r) ∧ Hid (okS r.res) ∧ Hid (OwnR w.heap.size w' (.slice pa2 r.res.attrs.length cap2) (.slice pa3 r.res.after.length cap3) r.res) ∧ Hid (WroteR R w w')

set_option maxRecDepth 100000 in
set_option maxHeartbeats 3200000 in
theorem readRecord (R : Nat) (s : ByteArray) (w : World) (hR : RdAt w R s) (hs : s.size ≤ 9223372036854775807) :
    Calls Tryz.prog 35 #[.pointer (some ⟨R, 0, none⟩)] w (RecIs w R s) := by
  replace hR := hide hR
  have hno : ¬ w.heap.size + 1 = w.heap.size := by omega
  have hno' : ¬ w.heap.size = w.heap.size + 1 := by omega
  go_enter Tryz.func35, Tryz.ntmps35
  go_wp2_with fail
  refine (number R s 1 _ (hR.out.ext (((Ext.refl w).alloc _).alloc _)) hs (by omega)).mono ?_
  rintro e w1 ⟨n1, s1, rfl, hn1, hm1, hL1⟩
  have hO := r_keeps (t := 33) hL1.out.wrote (two_lo w _ _) (by decide)
  have hI := r_keeps (t := 33) hL1.out.wrote (two_hi w _ _) (by decide)
  obtain ⟨b0, b1, b2, b3, b4, b5, b6, b7⟩ := ecells hI
  have fI := row_frozen hI
  have hne := hL1.out.at_.ne hI (by decide)
  have hR1 := hide (hL1.out.at_.other (j := 0) hne (.int .i64 n1))
  have hO1 := hide (World.setCell_other_row hO hno 0 (.int .i64 n1))
  have hI1 := hide (es0 hI (.int .i64 n1))
  have W1 := hide (((((Wrote.refl R (· = 110) w).alloc _).alloc _).trans hL1.out.wrote).setNew (p := ⟨w.heap.size + 1, 0, none⟩) (by simp) (.int .i64 n1))
  have l1 := hide hL1.out.list
  clear hO hI
  replace hne := hide hne
  go_wp2_with fail
  refine (number R s1 3 _ hR1.out hL1.out.few (by omega)).mono ?_
  rintro e w2 ⟨n2, s2, rfl, hn2, hm2, hL2⟩
  have hO2 := r_keeps (t := 33) hL2.out.wrote hO1.out (by decide)
  have hI2 := r_keeps (t := 33) hL2.out.wrote hI1.out (by decide)
  clear b0 b1 b2 b3 b4 b5 b6 b7 fI
  obtain ⟨b0, b1, b2, b3, b4, b5, b6, b7⟩ := ecells hI2
  have fI := row_frozen hI2
  have hR2 := hide (hL2.out.at_.other (j := 1) hne.out (.int .i64 n2))
  have hO3 := hide (World.setCell_other_row hO2 hno 1 (.int .i64 n2))
  have hI3 := hide (es1 hI2 (.int .i64 n2))
  have W3 := hide ((W1.out.trans hL2.out.wrote).setNew (p := ⟨w.heap.size + 1, 1, none⟩) (by simp) (.int .i64 n2))
  have l2 := hide hL2.out.list
  clear hO2 hI2
  go_wp2_with fail
  refine (number R s2 3 _ hR2.out hL2.out.few (by omega)).mono ?_
  rintro e w4 ⟨n4, s4, rfl, hn4, hm4, hL4⟩
  have hO4 := r_keeps (t := 33) hL4.out.wrote hO3.out (by decide)
  have hI4 := r_keeps (t := 33) hL4.out.wrote hI3.out (by decide)
  clear b0 b1 b2 b3 b4 b5 b6 b7 fI
  obtain ⟨b0, b1, b2, b3, b4, b5, b6, b7⟩ := ecells hI4
  obtain ⟨a0, a1, a2, a3, a4, a5, a6, a7⟩ := ecells hO4
  have fI := row_frozen hI4
  have fO := row_frozen hO4
  have hR4 := hide (hL4.out.at_.other (j := 2) hne.out (.int .i64 n4))
  have hO5 := hide (World.setCell_other_row hO4 hno 2 (.int .i64 n4))
  have hI5 := hide (es2 hI4 (.int .i64 n4))
  have W5 := hide ((W3.out.trans hL4.out.wrote).setNew (p := ⟨w.heap.size + 1, 2, none⟩) (by simp) (.int .i64 n4))
  have l4 := hide hL4.out.list
  have e1 : Hid (n2 = numN ((s.data.toList.drop 1).take 3)) := by show _ = _; rw [hn2.out, l1.out]
  have e2 : Hid (n4 = numN (((s.data.toList.drop 1).drop 3).take 3)) := by show _ = _; rw [hn4.out, l2.out, l1.out]
  have e3 : Hid (s4.data.toList = ((s.data.toList.drop 1).drop 3).drop 3) := by show _ = _; rw [l4.out, l2.out, l1.out]
  replace hO4 := hide hO4; replace hI4 := hide hI4
  by_cases hk : n1 = 2
  · have hk' : ((n1 : Int) == 2) = true := by simp; omega
    replace hk := hide hk
    go_wp2_with fail
    refine (number R s4 1 _ hR4.out hL4.out.few (by omega)).mono ?_
    rintro e w6 ⟨n6, s6, rfl, hn6, hm6, hL6⟩
    have hO6 := r_keeps (t := 33) hL6.out.wrote hO5.out (by decide)
    have hI6 := r_keeps (t := 33) hL6.out.wrote hI5.out (by decide)
    clear b0 b1 b2 b3 b4 b5 b6 b7 fI a0 a1 a2 a3 a4 a5 a6 a7 fO
    obtain ⟨b0, b1, b2, b3, b4, b5, b6, b7⟩ := ecells hI6
    have fI := row_frozen hI6
    have hR6 := hide (hL6.out.at_.other (j := 3) hne.out (.int .i64 n6))
    have hO7 := hide (World.setCell_other_row hO6 hno 3 (.int .i64 n6))
    have hI7 := hide (es3 hI6 (.int .i64 n6))
    have W7 := hide ((W5.out.trans hL6.out.wrote).setNew (p := ⟨w.heap.size + 1, 3, none⟩) (by simp) (.int .i64 n6))
    have l6 := hide hL6.out.list
    clear hO6 hI6
    go_wp2_with fail
    refine (readResource R s6 _ hR6.out hL6.out.few).mono ?_
    rintro e w8 ⟨x, pa2, pa3, cap2, cap3, s8, rfl, hx, hok, hown, hL8⟩
    have hO8 := r_keeps (t := 33) hL8.out.wrote hO7.out (by decide)
    have hI8 := r_keeps (t := 33) hL8.out.wrote hI7.out (by decide)
    clear b0 b1 b2 b3 b4 b5 b6 b7 fI
    obtain ⟨b0, b1, b2, b3, b4, b5, b6, b7⟩ := ecells hI8
    obtain ⟨a0, a1, a2, a3, a4, a5, a6, a7⟩ := ecells hO8
    have fI := row_frozen hI8
    have fO := row_frozen hO8
    have hIa := es4 hI8 (.string x.id.kind)
    have hIb := es5 hIa (.string x.id.name)
    have hIc := es6 hIb (.slice pa2 x.attrs.length cap2)
    have hOa := World.setCell_other_row (World.setCell_other_row (World.setCell_other_row (World.setCell_other_row hO8 hno 4 (.string x.id.kind)) hno 5 (.string x.id.name)) hno 6 (.slice pa2 x.attrs.length cap2)) hno 7 (.slice pa3 x.after.length cap3)
    have own2 := hide (ownsRow_low (ownsRow_set8 (ownsRow_set (j := 7) (ownsRow_set (j := 6) (ownsRow_set (j := 5) (ownsRow_set (j := 4) hown.out.attrs hI8 (by decide) (.string x.id.kind)) hIa (by decide) (.string x.id.name)) hIb (by decide) (.slice pa2 x.attrs.length cap2)) hIc (by decide) (.slice pa3 x.after.length cap3)) hOa (by decide) (.int .i64 n1) (.int .i64 n2) (.int .i64 n4) (.int .i64 n6) (.string x.id.kind) (.string x.id.name) (.slice pa2 x.attrs.length cap2) (.slice pa3 x.after.length cap3)) W7.out.size)
    have own3 := hide (ownsRow_low (ownsRow_set8 (ownsRow_set (j := 7) (ownsRow_set (j := 6) (ownsRow_set (j := 5) (ownsRow_set (j := 4) hown.out.after hI8 (by decide) (.string x.id.kind)) hIa (by decide) (.string x.id.name)) hIb (by decide) (.slice pa2 x.attrs.length cap2)) hIc (by decide) (.slice pa3 x.after.length cap3)) hOa (by decide) (.int .i64 n1) (.int .i64 n2) (.int .i64 n4) (.int .i64 n6) (.string x.id.kind) (.string x.id.name) (.slice pa2 x.attrs.length cap2) (.slice pa3 x.after.length cap3)) W7.out.size)
    have W8 := hide ((((((W7.out.trans hL8.out.wrote).setNew (p := ⟨w.heap.size + 1, 4, none⟩) (by simp) (.string x.id.kind)).setNew (p := ⟨w.heap.size + 1, 5, none⟩) (by simp) (.string x.id.name)).setNew (p := ⟨w.heap.size + 1, 6, none⟩) (by simp) (.slice pa2 x.attrs.length cap2)).setNew (p := ⟨w.heap.size + 1, 7, none⟩) (by simp) (.slice pa3 x.after.length cap3)).set8 (Nat.le_refl _) (.int .i64 n1) (.int .i64 n2) (.int .i64 n4) (.int .i64 n6) (.string x.id.kind) (.string x.id.name) (.slice pa2 x.attrs.length cap2) (.slice pa3 x.after.length cap3))
    clear hIa hIb hIc hOa
    replace hO8 := hide hO8; replace hI8 := hide hI8
    go_wp2
    refine bodyPost_ret (v := .agg #[.int .i64 n1, .int .i64 n2, .int .i64 n4, .int .i64 n6, .string x.id.kind, .string x.id.name, .slice pa2 x.attrs.length cap2, .slice pa3 x.after.length cap3]) (by simp [results, Tryz.results35, go_sem, a0, a1, a2, a3, a4, a5, a6, a7]) rfl ⟨⟨n1, n2, n4, n6, x⟩, pa2, pa3, cap2, cap3, rfl, ?_, hok, ⟨⟨_, _, rfl⟩, ⟨_, _, rfl⟩, own2.out, own3.out⟩, W8⟩
    show _ = _
    unfold rdRec
    rw [← hn1.out, if_pos hk.out, ← e1.out, ← e2.out, ← e3.out, ← hn6.out, ← l6.out, hx.out]
  · have hk' : ((n1 : Int) == 2) = false := by simp; omega
    replace hk := hide hk
    have hOa := hO5.out
    have W8 := hide (W5.out.set8 (Nat.le_refl _) (.int .i64 n1) (.int .i64 n2) (.int .i64 n4) (.int .i64 0) (.string ⟨#[]⟩) (.string ⟨#[]⟩) (.slice none 0 0) (.slice none 0 0))
    replace hOa := hide hOa
    go_wp2
    refine bodyPost_ret (v := .agg #[.int .i64 n1, .int .i64 n2, .int .i64 n4, .int .i64 0, .string ⟨#[]⟩, .string ⟨#[]⟩, .slice none 0 0, .slice none 0 0]) (by simp [results, Tryz.results35, go_sem, a0, a1, a2, a3, a4, a5, a6, a7]) rfl ⟨⟨n1, n2, n4, 0, noRes⟩, none, none, 0, 0, rfl, ?_, okS_nil, OwnR.nil _ _, W8⟩
    show _ = _
    unfold rdRec
    rw [← hn1.out, if_neg hk.out, ← e1.out, ← e2.out]
end Go.Proofs.YtfmcgdglalljgaaGreatDoor

namespace Go.Proofs.YtfmcgdglalljgaaGreatDoor
open Go.RowKit

/-- A step in memory: what is done; a resource, and where its lists are. -/
structure StepP where
  op : Nat
  x : Resd
  c2 : Value
  c3 : Value
/-- Steps lie in a block, from a place on. -/
def StepsIn (w : World) (b off : Nat) (l : List StepD) : Prop :=
  ∀ (i : Nat) s, l[i]? = some s → w.cell? ⟨b, off + i * 5, none⟩ = some (.int .i64 s.op) ∧ w.cell? ⟨b, off + i * 5 + 1, none⟩ = some (.string s.x.id.kind) ∧ w.cell? ⟨b, off + i * 5 + 2, none⟩ = some (.string s.x.id.name) ∧
    ∃ c2 c3, w.cell? ⟨b, off + i * 5 + 3, none⟩ = some c2 ∧ w.cell? ⟨b, off + i * 5 + 4, none⟩ = some c3 ∧ ResV w c2 c3 s.x
/-- A slice leads to a list of steps. -/
structure StepsV (w : World) (v : Value) (l : List StepD) : Prop where
  shape : ∃ a cap, v = .slice a l.length cap ∧ l.length ≤ cap ∧ cap ≤ 9223372036854775807 ∧ (l = [] ∨ ∃ b off, a = some ⟨b, off, none⟩ ∧ StepsIn w b off l)
  few : l.length ≤ 2000000
theorem StepsIn.ext {w w' : World} {b off : Nat} {l : List StepD} (h : StepsIn w b off l) (e : Ext w w') : StepsIn w' b off l := by
  intro i s hs
  obtain ⟨h0, h1, h2, c2, c3, h3, h4, h5⟩ := h i s hs
  exact ⟨e.cells h0, e.cells h1, e.cells h2, c2, c3, e.cells h3, e.cells h4, h5.ext e⟩
theorem StepsV.ext {w w' : World} {v : Value} {l : List StepD} (h : StepsV w v l) (e : Ext w w') : StepsV w' v l := by
  obtain ⟨⟨a, cap, hv, hc, hm, hs⟩, h2⟩ := h
  refine ⟨⟨a, cap, hv, hc, hm, ?_⟩, h2⟩
  rcases hs with hs | ⟨b, off, ha, hi⟩
  · exact .inl hs
  · exact .inr ⟨b, off, ha, hi.ext e⟩
end Go.Proofs.YtfmcgdglalljgaaGreatDoor

namespace Go.Proofs.YtfmcgdglalljgaaGreatDoor
open Go.RowKit

theorem drop_extract (s : ByteArray) (k : Nat) : (s.extract k s.size).data.toList = s.data.toList.drop k := by
  rw [ByteArray.data_extract]; simp
  rw [List.take_of_length_le]
  rw [List.length_drop]
  have : s.data.toList.length = s.size := Array.length_toList
  simp at this ⊢

theorem conv_own {w : World} {B n cap : Nat} {pa : Option Addr} {l : List UInt8} (h : w.ownsRow B 5 1 (.slice pa n cap) l.length (cellsB l)) :
    (convert 45 9 (.slice pa n cap)).run Tryz.prog w = .ok (.string ⟨l.toArray⟩) w := by
  rcases h.2 with ⟨h1, h2⟩ | ⟨g, c, cur, h1, _⟩
  · cases h1
    obtain rfl : l = [] := List.eq_nil_of_length_eq_zero h2
    simp [convert, run_underlying Tryz.underlying45, run_underlying Tryz.underlying9, run_underlying Tryz.underlying5, Conv.bytesToString, Result.andThen]
    rfl
  · cases h1
    exact own_conv rfl h

set_option maxRecDepth 100000 in
set_option maxHeartbeats 3200000 in
theorem readString (s : ByteArray) (a : Nat) (c : UInt8) (w : World) (hs : s.size ≤ 1000000) (ha : a < s.size) (h34 : c = 34) :
    Calls Tryz.prog 100 #[.string s, .int .i64 a] w (TkIs w (tokL s.data.toList a c)) := by
  have hlen : s.data.toList.length = s.size := Array.length_toList
  obtain ⟨i0, hi, hz0, hz1, hz2⟩ := info_of infoByte
  have hT : Hid (tokL s.data.toList a c = match strL s.data.toList (a + 1) with
    | none => .inr 3
    | some (m, e) => if m.length ≤ 20 then .inl (⟨3, a, baOf m, 0⟩, e + 1) else .inr 3) := by
    show _ = _; subst h34; rfl
  replace hi := hide hi; replace hlen := hide hlen; replace h34 := hide h34
  go_enter Tryz.func100, Tryz.ntmps100
  go_wp2_with fail
  go_loopw [1, 7] (fun at_ v wr => ∃ (k : Nat) (acc : List UInt8) (pa : Option Addr) (cap : Nat), k ≤ s.size ∧ acc.length + a + 1 ≤ k ∧ at_ = .int .i64 k ∧ v = .slice pa acc.length cap ∧ Hid (strL s.data.toList (a + 1) = (strL s.data.toList k).map fun r => (acc ++ r.1, r.2)) ∧ Hid (wr.ownsRow (w.alloc (.cells #[.int .i64 0, .int .i64 0, .string ⟨#[]⟩, .int .i64 0] 120)).heap.size 5 1 (.slice pa acc.length cap) acc.length (cellsB acc)) ∧ Hid (Ext (w.alloc (.cells #[.int .i64 0, .int .i64 0, .string ⟨#[]⟩, .int .i64 0] 120)) wr)) (fun at_ _ _ => s.size - (intOf at_).toNat)
  case atStart =>
    refine ⟨a + 1, [], none, 0, by omega, by simp, by go_num, rfl, ?_, World.ownsRow_nil _ _ _ _, Ext.refl _⟩
    show _ = _
    cases strL s.data.toList (a + 1) <;> simp
  case round =>
    obtain ⟨k, acc, pa, cap, hk, hka, rfl, rfl, hst, hown, hx⟩ := hrel
    have hO := ext_heap hx.out (heap_alloc_new w _)
    obtain ⟨o0, o1, o2, o3⟩ := four_cells hO
    have fO := row_frozen hO
    replace hO := hide hO
    have X0 := hide (((Ext.refl w).alloc _).trans hx.out)
    by_cases hlt : k < s.size
    · obtain ⟨d, hd1, hd2⟩ := byteAt hlt
      have b34 : ((d.toNat : Int) == 34) = decide (d = 34) := by
        by_cases h : d = 34
        · subst h; rfl
        · rw [show (34 : Int) = ((34 : UInt8).toNat : Int) from rfl, byte_ne h]; simp [h]
      have hstep := hide (str_step hd1)
      by_cases hq : d = 34
      · rw [decide_eq_true hq] at b34
        have b34' : ((d.toNat : Int) != 34) = false := by simp only [bne, b34]; rfl
        have hne : ¬ (k : Int) = (s.size : Int) := by omega
        have hres : Hid (strL s.data.toList (a + 1) = some (acc, k)) := by show _ = _; rw [hst.out, hstep.out, if_pos hq]; simp
        replace hd1 := hide hd1; replace hq := hide hq
        by_cases h20 : acc.length ≤ 20
        · have h20' : ¬ (20 : Int) < (acc.length : Int) := by omega
          have hT2 : Hid (tokL s.data.toList a c = .inl (⟨3, a, baOf acc, 0⟩, k + 1)) := by show _ = _; rw [hT.out, hres.out]; simp [h20]
          have hcv : (convert 45 9 (.slice pa acc.length cap)).run Tryz.prog wr = .ok (.string ⟨acc.toArray⟩) wr := conv_own hown.out
          clear o0 o1 o2 o3
          obtain ⟨o0, o1, o2, o3⟩ := four_cells hO.out
          go_wp2_with fail
          refine bodyPost_ret (v := .tuple #[.agg #[.int .i64 3, .int .i64 0, .string ⟨acc.toArray⟩, .int .i64 0], .int .i64 ((k + 1 : Nat) : Int), .int .i64 0]) (by simp [results, Tryz.results100, go_sem, o0, o1, o2, o3]) rfl ?_
          exact ⟨X0.out.set4 _ _ _ _, .inl ⟨_, _, hT2, rfl⟩⟩
        · have h20' : (20 : Int) < (acc.length : Int) := by omega
          have hT2 : Hid (tokL s.data.toList a c = .inr 3) := by show _ = _; rw [hT.out, hres.out]; simp [h20]
          go_wp2_with fail
          refine bodyPost_ret (v := .tuple #[.agg #[.int .i64 0, .int .i64 0, .string ⟨#[]⟩, .int .i64 0], .int .i64 0, .int .i64 3]) (by simp [results, Tryz.results100, go_sem, o0, o1, o2, o3]) rfl ?_
          exact ⟨X0.out.set4 _ _ _ _, .inr ⟨3, hT2, by decide, rfl⟩⟩
      · rw [decide_eq_false hq] at b34
        have b34' : ((d.toNat : Int) != 34) = true := by simp only [bne, b34]; rfl
        have hxs : Hid ((s.extract k s.size).data.toList = s.data.toList.drop k) := drop_extract s k
        have hxz : (s.extract k s.size).size = s.size - k := ex_size s (by omega) (Nat.le_refl _)
        have hsign := hide (readSign (s.extract k s.size) wr (by omega) (by omega))
        rw [hxs.out] at hsign
        have hused := sign_used (s.data.toList.drop k)
        rw [List.length_drop, hlen.out] at hused
        generalize hsg : signL (s.data.toList.drop k) = sg at *
        obtain ⟨sb, su⟩ := sg
        dsimp only at *
        have j1 : (k : Int) ≤ (s.size : Int) := by omega
        have j3 : (0 : Int) ≤ (k : Int) := by omega
        replace hd1 := hide hd1; replace hxz := hide hxz; replace hsg := hide hsg
        go_wp2_with fail
        refine hsign.out.mono ?_
        rintro e w' ⟨rfl, rfl⟩
        by_cases hu : su = 0
        · have hres : Hid (strL s.data.toList (a + 1) = none) := by show _ = _; rw [hst.out, hstep.out, if_neg hq]; simp [hu]
          have hT2 : Hid (tokL s.data.toList a c = .inr 3) := by show _ = _; rw [hT.out, hres.out]
          subst hu
          replace hq := hide hq
          go_wp2_with fail
          refine bodyPost_ret (v := .tuple #[.agg #[.int .i64 0, .int .i64 0, .string ⟨#[]⟩, .int .i64 0], .int .i64 0, .int .i64 3]) (by simp [results, Tryz.results100, go_sem, o0, o1, o2, o3]) rfl ?_
          exact ⟨X0.out.set4 _ _ _ _, .inr ⟨3, hT2, by decide, rfl⟩⟩
        · have hu' : ((su : Int) == 0) = false := by simp; omega
          have hres : Hid (strL s.data.toList (a + 1) = (strL s.data.toList (k + su)).map fun r => ((acc ++ [sb]) ++ r.1, r.2)) := by
            show _ = _
            rw [hst.out, hstep.out, if_neg hq, if_neg hu]
            cases strL s.data.toList (k + su) with
            | none => rfl
            | some r => simp
          have hsz := hide (Ext.size hx.out)
          replace hq := hide hq; replace hu := hide hu; replace hstep := hide hstep
          go_wp2_with (at_builtin; go_must (refine wpList_append_lies _ rfl _ _ 45 rfl (w.alloc (.cells #[.int .i64 0, .int .i64 0, .string ⟨#[]⟩, .int .i64 0] 120)).heap.size 5 i0 (.int .u8 0) 1 1 Tryz.underlying45 hi.out hz0 hz1 hz2 rfl (by omega) _ acc.length (cellsB acc) rfl (hown.out.alloc _) ⟨w'.heap.size, 0, none⟩ 1 1 (cellsB [sb]) rfl rfl ?_ (one_cellB _) (by omega) (by unfold maxLen; omega) (by omega) (by have := hsz.out; simp at this ⊢; omega) (w'.heap.size + 1) (by simp) ?_; (intro j u hu; rw [add_eq]; (match j, hu with | 0, hu => (simp [cellsB] at hu; subst hu; simp [go_sem]) | _ + 1, hu => (simp [cellsB] at hu))); intro g1 cap1 w1 hown1 hgrow1 hat1 hlt1))
          replace hgrow1 : (w'.alloc (.cells (cellsB [sb]).toArray 5)).grownBy w1 (Value.slice pa acc.length cap).ownBlock := hgrow1
          have hl : (acc ++ [sb]).length = acc.length + 1 := by simp
          have hx1 : Ext (w.alloc (.cells #[.int .i64 0, .int .i64 0, .string ⟨#[]⟩, .int .i64 0] 120)) w1 := ((Wrote.ext (B := (w.alloc (.cells #[.int .i64 0, .int .i64 0, .string ⟨#[]⟩, .int .i64 0] 120)).heap.size) (T := (· = 5)) hx.out).grownAt hown.out rfl hgrow1).toExt
          go_roundw
          case rel =>
            refine ⟨k + su, acc ++ [sb], some ⟨g1, 0, none⟩, cap1, by omega, by rw [hl]; have := hu.out; omega, by go_num, by rw [hl], hres, ?_, hx1⟩
            show World.ownsRow _ _ _ _ _ _ _
            rw [hl, cellsB_append]; exact hown1
          case measure => have := hu.out; simp [intOf]; omega
    · have heq : k = s.size := by omega
      have hres : Hid (strL s.data.toList (a + 1) = none) := by show _ = _; rw [hst.out, str_end (by rw [hlen.out]; omega)]; rfl
      have hT2 : Hid (tokL s.data.toList a c = .inr 3) := by show _ = _; rw [hT.out, hres.out]
      subst heq
      go_wp2_with fail
      refine bodyPost_ret (v := .tuple #[.agg #[.int .i64 0, .int .i64 0, .string ⟨#[]⟩, .int .i64 0], .int .i64 0, .int .i64 3]) (by simp [results, Tryz.results100, go_sem, o0, o1, o2, o3]) rfl ?_
      exact ⟨X0.out.set4 _ _ _ _, .inr ⟨3, hT2, by decide, rfl⟩⟩
end Go.Proofs.YtfmcgdglalljgaaGreatDoor
