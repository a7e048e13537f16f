/-
  Resources out of bytes: what the program's function that reads them answers.
-/
/-
  Lists and resources as bytes: what the program's functions that write them answer.
-/
import Derived.Test.YtkjjfdejfihpfaaGreatRead2
import Derived.Test.YtkjjfdejfihpfaaGreatEnc
namespace Go.Proofs.YtkjjfdejfihpfaaGreat
open Go.RowKit

def rdRes (l : List UInt8) : Resd × List UInt8 :=
  (⟨(rdID l).1, (rdList rdAttr (rdID l).2).1, (rdList rdID (rdList rdAttr (rdID l).2).2).1⟩, (rdList rdID (rdList rdAttr (rdID l).2).2).2)
/-- A resource that was read: it is short. -/
def okS (x : Resd) : Prop := shI x.id ∧ (∀ a ∈ x.attrs, okN a) ∧ (∀ a ∈ x.after, shI a) ∧ x.attrs.length ≤ 255 ∧ x.after.length ≤ 255
/-- Its lists are our own. -/
structure OwnR (B : Nat) (w : World) (c2 c3 : Value) (x : Resd) : Prop where
  f2 : ∃ pa cap, c2 = .slice pa x.attrs.length cap
  f3 : ∃ pa cap, c3 = .slice pa x.after.length cap
  attrs : w.ownsRow B 42 4 c2 x.attrs.length (cellsA x.attrs)
  after : w.ownsRow B 37 2 c3 x.after.length (cellsI x.after)
/-- What the reading of a resource answers. -/
def ResIs (w : World) (R : Nat) (s : ByteArray) (e : Ending) (w' : World) : Prop :=
  ∃ (x : Resd) (pa2 pa3 : Option Addr) (cap2 cap3 : Nat) (s' : ByteArray), e = .returned (.agg #[.string x.id.kind, .string x.id.name, .slice pa2 x.attrs.length cap2, .slice pa3 x.after.length cap3]) ∧ Hid (rdRes s.data.toList = (x, s'.data.toList)) ∧ Hid (okS x) ∧ Hid (OwnR w.heap.size w' (.slice pa2 x.attrs.length cap2) (.slice pa3 x.after.length cap3) x) ∧ Hid (Left w w' R s' s'.data.toList)
theorem ownsRow_low {w : World} {base base' : Nat} {e : TypeId} {size : Nat} {v : Value} {n : Nat} {xs : List Value} (h : w.ownsRow base e size v n xs) (hb : base' ≤ base) : w.ownsRow base' e size v n xs := by
  obtain ⟨h1, h2⟩ := h
  refine ⟨h1, h2.imp id ?_⟩
  rintro ⟨g, cap, cur, hv, hg, r⟩
  exact ⟨g, cap, cur, hv, Nat.le_trans hb hg, r⟩
theorem ownsRow_set {w : World} {I j : Nat} {c : Array Value} {t : TypeId} {fz : Nat × Nat} {base : Nat} {e : TypeId} {size : Nat} {v : Value} {n : Nat} {xs : List Value} (h : w.ownsRow base e size v n xs) (hI : w.heap[I]? = some (.cells c t fz)) (hne : t ≠ e) (u : Value) : (w.setCell ⟨I, j, none⟩ u).ownsRow base e size v n xs :=
  ownsRow_wrote h ((Wrote.refl 0 (· = t) w).setCell (p := ⟨I, j, none⟩) (Nat.zero_le _) hI rfl u) (fun h => hne h.symm) rfl

set_option maxRecDepth 100000 in
set_option maxHeartbeats 3200000 in
theorem readResource (R : Nat) (s : ByteArray) (w : World) (hR : RdAt w R s) (hs : s.size ≤ 9223372036854775807) :
    Calls Tryz.prog 49 #[.pointer (some ⟨R, 0, none⟩)] w (ResIs w R s) := by
  replace hR := hide hR
  have hno : ¬ w.heap.size + 1 = w.heap.size := by omega
  have hno' : ¬ w.heap.size = w.heap.size + 1 := by omega
  go_enter Tryz.func49, Tryz.ntmps49
  go_wp2_with fail
  refine (readID R s _ (hR.out.ext (((Ext.refl w).alloc _).alloc _)) hs).mono ?_
  rintro e w1 ⟨i, s1, rfl, hx1, hsh1, hL1⟩
  have hO := r_keeps (t := 40) hL1.out.wrote (two_lo w _ _) (by decide)
  have hI := r_keeps (t := 40) hL1.out.wrote (two_hi w _ _) (by decide)
  obtain ⟨b0, b1, b2, b3⟩ := four_cells hI
  have fI := row_frozen hI
  have hne := hL1.out.at_.ne hI (by decide)
  have hR1 := hide ((hL1.out.at_.other (j := 0) hne (.string i.kind)).other (j := 1) hne (.string i.name))
  have hO1 := hide (World.setCell_other_row (World.setCell_other_row hO hno 0 (.string i.kind)) hno 1 (.string i.name))
  have hI1 := hide (four_set1 (four_set0 hI (.string i.kind)) (.string i.name))
  have W1 := hide ((((((Wrote.refl R (· = 118) w).alloc _).alloc _).trans hL1.out.wrote).setNew (p := ⟨w.heap.size + 1, 0, none⟩) (by simp) (.string i.kind)).setNew (p := ⟨w.heap.size + 1, 1, none⟩) (by simp) (.string i.name))
  clear hO hI
  replace hne := hide hne
  go_wp2_with fail
  refine (readAttrs R s1 _ hR1.out hL1.out.few).mono ?_
  rintro e w2 ⟨al, pa2, cap2, s2, rfl, hx2, hn2, hok2, hown2, hL2⟩
  have hO2 := r_keeps (t := 40) hL2.out.wrote hO1.out (by decide)
  have hI2 := r_keeps (t := 40) hL2.out.wrote hI1.out (by decide)
  clear b0 b1 b2 b3 fI
  obtain ⟨b0, b1, b2, b3⟩ := four_cells hI2
  have fI := row_frozen hI2
  have hR2 := hide (hL2.out.at_.other (j := 2) hne.out (.slice pa2 al.length cap2))
  have hO3 := hide (World.setCell_other_row hO2 hno 2 (.slice pa2 al.length cap2))
  have hI3 := hide (four_set2 hI2 (.slice pa2 al.length cap2))
  have W3 := hide ((W1.out.trans hL2.out.wrote).setNew (p := ⟨w.heap.size + 1, 2, none⟩) (by simp) (.slice pa2 al.length cap2))
  have own2 := hide (ownsRow_low (ownsRow_set (j := 2) hown2.out hI2 (by decide) (.slice pa2 al.length cap2)) W1.out.size)
  clear hO2 hI2
  go_wp2_with fail
  refine (readIDs R s2 _ hR2.out hL2.out.few).mono ?_
  rintro e w4 ⟨fs, pa4, cap4, s4, rfl, hx4, hn4, hok4, hown4, hL4⟩
  have hO4 := r_keeps (t := 40) hL4.out.wrote hO3.out (by decide)
  have hI4 := r_keeps (t := 40) hL4.out.wrote hI3.out (by decide)
  clear b0 b1 b2 b3 fI
  obtain ⟨b0, b1, b2, b3⟩ := four_cells hI4
  obtain ⟨a0, a1, a2, a3⟩ := four_cells hO4
  have fI := row_frozen hI4
  have fO := row_frozen hO4
  have hI5 := hide (World.setCell_other_row hO4 hno 3 (.slice pa4 fs.length cap4))
  have hR4 := hide ((hL4.out.at_.other (j := 3) hne.out (.slice pa4 fs.length cap4)).set4 (hL4.out.at_.ne hO4 (by decide)) (.string i.kind) (.string i.name) (.slice pa2 al.length cap2) (.slice pa4 fs.length cap4))
  have W4 := hide (((W3.out.trans hL4.out.wrote).setNew (p := ⟨w.heap.size + 1, 3, none⟩) (by simp) (.slice pa4 fs.length cap4)).set4 (Nat.le_refl _) (.string i.kind) (.string i.name) (.slice pa2 al.length cap2) (.slice pa4 fs.length cap4))
  have own4 := hide (ownsRow_low (ownsRow_set (j := 3) hown4.out hI4 (by decide) (.slice pa4 fs.length cap4)) W3.out.size)
  have own24 := hide (ownsRow_set (j := 3) (ownsRow_wrote own2.out hL4.out.wrote (by decide) rfl) hI4 (by decide) (.slice pa4 fs.length cap4))
  have K4 : Hid (Wrote 0 (· = 40) (w4.setCell ⟨w.heap.size + 1, 3, none⟩ (.slice pa4 fs.length cap4)) (((((w4.setCell ⟨w.heap.size + 1, 3, none⟩ (.slice pa4 fs.length cap4)).setCell ⟨w.heap.size, 0, none⟩ (.string i.kind)).setCell ⟨w.heap.size, 1, none⟩ (.string i.name)).setCell ⟨w.heap.size, 2, none⟩ (.slice pa2 al.length cap2)).setCell ⟨w.heap.size, 3, none⟩ (.slice pa4 fs.length cap4))) := by
    have h0 := hI5.out
    have h1 := four_set0 h0 (.string i.kind)
    have h2 := four_set1 h1 (.string i.name)
    have h3 := four_set2 h2 (.slice pa2 al.length cap2)
    exact ((((Wrote.refl 0 (· = 40) _).setCell (p := ⟨w.heap.size, 0, none⟩) (Nat.zero_le _) h0 rfl _).setCell (p := ⟨w.heap.size, 1, none⟩) (Nat.zero_le _) h1 rfl _).setCell (p := ⟨w.heap.size, 2, none⟩) (Nat.zero_le _) h2 rfl _).setCell (p := ⟨w.heap.size, 3, none⟩) (Nat.zero_le _) h3 rfl _
  replace hO4 := hide hO4; replace hI4 := hide hI4
  go_wp2
  refine bodyPost_ret (v := .agg #[.string i.kind, .string i.name, .slice pa2 al.length cap2, .slice pa4 fs.length cap4]) (by simp [results, Tryz.results49, go_sem, a0, a1, a2, a3]) rfl ⟨⟨i, al, fs⟩, pa2, pa4, cap2, cap4, s4, rfl, ?_, ⟨hsh1, hok2.out, hok4.out, hn2, hn4⟩, ⟨⟨_, _, rfl⟩, ⟨_, _, rfl⟩, ownsRow_wrote own24.out K4.out (by decide) rfl, ownsRow_wrote own4.out K4.out (by decide) rfl⟩, ⟨hR4.out, rfl, W4.out, hL4.out.few⟩⟩
  show _ = _
  unfold rdRes
  rw [hx1.out]
  dsimp only
  rw [hx2.out]
  dsimp only
  rw [hx4.out]
end Go.Proofs.YtkjjfdejfihpfaaGreat

namespace Go.Proofs.YtkjjfdejfihpfaaGreat
open Go.RowKit

set_option maxRecDepth 100000 in
set_option maxHeartbeats 800000 in
theorem appendAttrs (B : Nat) (v va : Value) (l : List UInt8) (xs : List Attrd) (w0 w : World) (hv : Buf B w v l) (hl : l.length ≤ 600000) (hA : AttrsV w0 va xs) (hE : Ext w0 w) (hB : w0.heap.size ≤ B) (hx : ∀ x ∈ xs, shA x) (hn : xs.length ≤ 255) :
    Calls Tryz.prog 34 #[v, va, .func (.func 35) #[] #[]] w (Wrt B w (l ++ listL attrL xs)) := by
  obtain ⟨⟨a, ca, rfl, hcap, hmax, hs⟩, hfew, hok⟩ := hA
  obtain ⟨pa, cap, rfl⟩ := hv.form
  replace hv := hide hv; replace hE := hide hE; replace hok := hide hok; replace hx := hide hx
  go_enter Tryz.func34, Tryz.ntmps34
  go_wp2_with fail
  refine (appendNumber B _ l xs.length 1 _ hv.out (by omega) (by omega)).mono ?_
  rintro e w1 ⟨acc, pa1, cap1, rfl, hacc, hv1, hb1⟩
  have hlen := bound2 (N := 600001) hacc.out (by omega)
  go_wp2
  go_loopw [0, 15] (fun b i wr => ∃ (k : Nat) (acc2 : List UInt8) (pa2 : Option Addr) (cap2 : Nat), k ≤ xs.length ∧ i = .int .i64 k ∧ b = .slice pa2 acc2.length cap2 ∧ acc2.length ≤ 600001 + k * 600 ∧ Hid (acc2 = acc ++ (xs.take k).flatMap attrL) ∧ Hid (Buf B wr (.slice pa2 acc2.length cap2) acc2) ∧ Hid (Wrote8 B w wr)) (fun _ i _ => xs.length - (intOf i).toNat)
  case atStart => exact ⟨0, acc, pa1, cap1, Nat.zero_le _, rfl, rfl, by omega, by simp [Hid], hv1, hb1⟩
  case round =>
    obtain ⟨k, acc2, pa2, cap2, hk, rfl, rfl, hlen2, hacc2, hv2, hb2⟩ := hrel
    by_cases hlt : k < xs.length
    · rcases hs with rfl | ⟨b, off, rfl, hin⟩
      · simp at hlt
      obtain ⟨x, hxk⟩ := some_of_lt hlt
      obtain ⟨g0, g1, g2, g3⟩ := (hin.ext (hE.out.wrote hb2.out hB)) k x hxk
      have hsx := hide (hx.out x (List.mem_of_getElem? hxk))
      have Hs := hide (flat_succ (f := attrL) hxk)
      replace hin := hide hin
      replace hxk := hide hxk
      go_wp2_with fail
      refine (appendAttr B _ acc2 x _ (hv2.out.alloc _) (by omega) hsx.out).mono ?_
      rintro e w3 ⟨acc3, pa3, cap3, rfl, hacc3, hv3, hb3⟩
      go_wp2_with fail
      go_roundw
      case rel =>
        refine ⟨k + 1, acc3, pa3, cap3, by omega, by go_num, rfl, ?_, ?_, hv3, (hb2.out.alloc _).trans hb3.out⟩
        · have := attrL_len hsx.out
          rw [hacc3.out, List.length_append]; omega
        · rw [hacc3.out, hacc2.out, Hs.out, List.append_assoc]; rfl
      case measure => simp [intOf]; omega
    · have Hl := hide (show xs.take k = xs from List.take_of_length_le (by omega))
      replace hs := hide hs
      go_wp2
      go_ret
      refine Wrt.mk ?_ hb2.out
      have e : acc2 = l ++ listL attrL xs := by rw [hacc2.out, Hl.out, hacc.out, List.append_assoc]; rfl
      rw [← e]; exact hv2.out

set_option maxRecDepth 100000 in
set_option maxHeartbeats 800000 in
theorem appendIDs (B : Nat) (v va : Value) (l : List UInt8) (xs : List IDd) (w0 w : World) (hv : Buf B w v l) (hl : l.length ≤ 600000) (hA : IDsV w0 va xs) (hE : Ext w0 w) (hB : w0.heap.size ≤ B) (hx : ∀ x ∈ xs, shI x) (hn : xs.length ≤ 255) :
    Calls Tryz.prog 36 #[v, va, .func (.func 33) #[] #[]] w (Wrt B w (l ++ listL idL xs)) := by
  obtain ⟨⟨a, ca, rfl, hcap, hmax, hs⟩, hfew, hok⟩ := hA
  obtain ⟨pa, cap, rfl⟩ := hv.form
  replace hv := hide hv; replace hE := hide hE; replace hok := hide hok; replace hx := hide hx
  go_enter Tryz.func36, Tryz.ntmps36
  go_wp2_with fail
  refine (appendNumber B _ l xs.length 1 _ hv.out (by omega) (by omega)).mono ?_
  rintro e w1 ⟨acc, pa1, cap1, rfl, hacc, hv1, hb1⟩
  have hlen := bound2 (N := 600001) hacc.out (by omega)
  go_wp2
  go_loopw [0, 15] (fun b i wr => ∃ (k : Nat) (acc2 : List UInt8) (pa2 : Option Addr) (cap2 : Nat), k ≤ xs.length ∧ i = .int .i64 k ∧ b = .slice pa2 acc2.length cap2 ∧ acc2.length ≤ 600001 + k * 600 ∧ Hid (acc2 = acc ++ (xs.take k).flatMap idL) ∧ Hid (Buf B wr (.slice pa2 acc2.length cap2) acc2) ∧ Hid (Wrote8 B w wr)) (fun _ i _ => xs.length - (intOf i).toNat)
  case atStart => exact ⟨0, acc, pa1, cap1, Nat.zero_le _, rfl, rfl, by omega, by simp [Hid], hv1, hb1⟩
  case round =>
    obtain ⟨k, acc2, pa2, cap2, hk, rfl, rfl, hlen2, hacc2, hv2, hb2⟩ := hrel
    by_cases hlt : k < xs.length
    · rcases hs with rfl | ⟨b, off, rfl, hin⟩
      · simp at hlt
      obtain ⟨x, hxk⟩ := some_of_lt hlt
      obtain ⟨g0, g1⟩ := (hin.ext (hE.out.wrote hb2.out hB)) k x hxk
      have hsx := hide (hx.out x (List.mem_of_getElem? hxk))
      have Hs := hide (flat_succ (f := idL) hxk)
      replace hin := hide hin
      replace hxk := hide hxk
      go_wp2_with fail
      refine (appendID B _ acc2 x _ (hv2.out.alloc _) (by omega) hsx.out).mono ?_
      rintro e w3 ⟨acc3, pa3, cap3, rfl, hacc3, hv3, hb3⟩
      go_wp2_with fail
      go_roundw
      case rel =>
        refine ⟨k + 1, acc3, pa3, cap3, by omega, by go_num, rfl, ?_, ?_, hv3, (hb2.out.alloc _).trans hb3.out⟩
        · have := idL_len hsx.out
          rw [hacc3.out, List.length_append]; omega
        · rw [hacc3.out, hacc2.out, Hs.out, List.append_assoc]; rfl
      case measure => simp [intOf]; omega
    · have Hl := hide (show xs.take k = xs from List.take_of_length_le (by omega))
      replace hs := hide hs
      go_wp2
      go_ret
      refine Wrt.mk ?_ hb2.out
      have e : acc2 = l ++ listL idL xs := by rw [hacc2.out, Hl.out, hacc.out, List.append_assoc]; rfl
      rw [← e]; exact hv2.out

end Go.Proofs.YtkjjfdejfihpfaaGreat
