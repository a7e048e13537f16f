/-
  Resources out of bytes: what the program's function that reads them answers.
-/
import Derived.Test.YtokogjhcgdhapaaRead2
namespace Go.Proofs.Ytokogjhcgdhapaa
open Go.RowKit

def rdRes (l : List UInt8) : Resd × List UInt8 :=
  (⟨(rdID l).1, (rdList rdAttr (rdID l).2).1, (rdList rdID (rdList rdAttr (rdID l).2).2).1⟩, (rdList rdID (rdList rdAttr (rdID l).2).2).2)
/-- A resource that was read: it is short. -/
def okS (x : Resd) : Prop := shI x.id ∧ (∀ a ∈ x.attrs, okN a) ∧ (∀ a ∈ x.after, shI a) ∧ x.attrs.length ≤ 255 ∧ x.after.length ≤ 255
/-- Its lists are our own. -/
structure OwnR (B : Nat) (w : World) (c2 c3 : Value) (x : Resd) : Prop where
  f2 : ∃ pa cap, c2 = .slice pa x.attrs.length cap
  f3 : ∃ pa cap, c3 = .slice pa x.after.length cap
  attrs : w.ownsRow B 52 4 c2 x.attrs.length (cellsA x.attrs)
  after : w.ownsRow B 25 2 c3 x.after.length (cellsI x.after)
/-- What the reading of a resource answers. -/
def ResIs (w : World) (R : Nat) (s : ByteArray) (e : Ending) (w' : World) : Prop :=
  ∃ (x : Resd) (pa2 pa3 : Option Addr) (cap2 cap3 : Nat) (s' : ByteArray), e = .returned (.agg #[.string x.id.kind, .string x.id.name, .slice pa2 x.attrs.length cap2, .slice pa3 x.after.length cap3]) ∧ Hid (rdRes s.data.toList = (x, s'.data.toList)) ∧ Hid (okS x) ∧ Hid (OwnR w.heap.size w' (.slice pa2 x.attrs.length cap2) (.slice pa3 x.after.length cap3) x) ∧ Hid (Left w w' R s' s'.data.toList)
theorem ownsRow_low {w : World} {base base' : Nat} {e : TypeId} {size : Nat} {v : Value} {n : Nat} {xs : List Value} (h : w.ownsRow base e size v n xs) (hb : base' ≤ base) : w.ownsRow base' e size v n xs := by
  obtain ⟨h1, h2⟩ := h
  refine ⟨h1, h2.imp id ?_⟩
  rintro ⟨g, cap, cur, hv, hg, r⟩
  exact ⟨g, cap, cur, hv, Nat.le_trans hb hg, r⟩
theorem ownsRow_set {w : World} {I j : Nat} {c : Array Value} {t : TypeId} {fz : Nat × Nat} {base : Nat} {e : TypeId} {size : Nat} {v : Value} {n : Nat} {xs : List Value} (h : w.ownsRow base e size v n xs) (hI : w.heap[I]? = some (.cells c t fz)) (hne : t ≠ e) (u : Value) : (w.setCell ⟨I, j, none⟩ u).ownsRow base e size v n xs :=
  ownsRow_wrote h ((Wrote.refl 0 (· = t) w).setCell (p := ⟨I, j, none⟩) (Nat.zero_le _) hI rfl u) (fun h => hne h.symm) rfl

set_option maxRecDepth 100000 in
set_option maxHeartbeats 3200000 in
theorem readResource (R : Nat) (s : ByteArray) (w : World) (hR : RdAt w R s) (hs : s.size ≤ 9223372036854775807) :
    Calls Try.prog 52 #[.pointer (some ⟨R, 0, none⟩)] w (ResIs w R s) := by
  replace hR := hide hR
  have hno : ¬ w.heap.size + 1 = w.heap.size := by omega
  have hno' : ¬ w.heap.size = w.heap.size + 1 := by omega
  go_enter Try.func52, Try.ntmps52
  go_wp2_with fail
  refine (readID R s _ (hR.out.ext (((Ext.refl w).alloc _).alloc _)) hs).mono ?_
  rintro e w1 ⟨i, s1, rfl, hx1, hsh1, hL1⟩
  have hO := r_keeps (t := 29) hL1.out.wrote (two_lo w _ _) (by decide)
  have hI := r_keeps (t := 29) hL1.out.wrote (two_hi w _ _) (by decide)
  obtain ⟨b0, b1, b2, b3⟩ := four_cells hI
  have fI := row_frozen hI
  have hne := hL1.out.at_.ne hI (by decide)
  have hR1 := hide ((hL1.out.at_.other (j := 0) hne (.string i.kind)).other (j := 1) hne (.string i.name))
  have hO1 := hide (World.setCell_other_row (World.setCell_other_row hO hno 0 (.string i.kind)) hno 1 (.string i.name))
  have hI1 := hide (four_set1 (four_set0 hI (.string i.kind)) (.string i.name))
  have W1 := hide ((((((Wrote.refl R (· = 111) w).alloc _).alloc _).trans hL1.out.wrote).setNew (p := ⟨w.heap.size + 1, 0, none⟩) (by simp) (.string i.kind)).setNew (p := ⟨w.heap.size + 1, 1, none⟩) (by simp) (.string i.name))
  clear hO hI
  replace hne := hide hne
  go_wp2_with fail
  refine (readAttrs R s1 _ hR1.out hL1.out.few).mono ?_
  rintro e w2 ⟨al, pa2, cap2, s2, rfl, hx2, hn2, hok2, hown2, hL2⟩
  have hO2 := r_keeps (t := 29) hL2.out.wrote hO1.out (by decide)
  have hI2 := r_keeps (t := 29) hL2.out.wrote hI1.out (by decide)
  clear b0 b1 b2 b3 fI
  obtain ⟨b0, b1, b2, b3⟩ := four_cells hI2
  have fI := row_frozen hI2
  have hR2 := hide (hL2.out.at_.other (j := 2) hne.out (.slice pa2 al.length cap2))
  have hO3 := hide (World.setCell_other_row hO2 hno 2 (.slice pa2 al.length cap2))
  have hI3 := hide (four_set2 hI2 (.slice pa2 al.length cap2))
  have W3 := hide ((W1.out.trans hL2.out.wrote).setNew (p := ⟨w.heap.size + 1, 2, none⟩) (by simp) (.slice pa2 al.length cap2))
  have own2 := hide (ownsRow_low (ownsRow_set (j := 2) hown2.out hI2 (by decide) (.slice pa2 al.length cap2)) W1.out.size)
  clear hO2 hI2
  go_wp2_with fail
  refine (readIDs R s2 _ hR2.out hL2.out.few).mono ?_
  rintro e w4 ⟨fs, pa4, cap4, s4, rfl, hx4, hn4, hok4, hown4, hL4⟩
  have hO4 := r_keeps (t := 29) hL4.out.wrote hO3.out (by decide)
  have hI4 := r_keeps (t := 29) hL4.out.wrote hI3.out (by decide)
  clear b0 b1 b2 b3 fI
  obtain ⟨b0, b1, b2, b3⟩ := four_cells hI4
  obtain ⟨a0, a1, a2, a3⟩ := four_cells hO4
  have fI := row_frozen hI4
  have fO := row_frozen hO4
  have hI5 := hide (World.setCell_other_row hO4 hno 3 (.slice pa4 fs.length cap4))
  have hR4 := hide ((hL4.out.at_.other (j := 3) hne.out (.slice pa4 fs.length cap4)).set4 (hL4.out.at_.ne hO4 (by decide)) (.string i.kind) (.string i.name) (.slice pa2 al.length cap2) (.slice pa4 fs.length cap4))
  have W4 := hide (((W3.out.trans hL4.out.wrote).setNew (p := ⟨w.heap.size + 1, 3, none⟩) (by simp) (.slice pa4 fs.length cap4)).set4 (Nat.le_refl _) (.string i.kind) (.string i.name) (.slice pa2 al.length cap2) (.slice pa4 fs.length cap4))
  have own4 := hide (ownsRow_low (ownsRow_set (j := 3) hown4.out hI4 (by decide) (.slice pa4 fs.length cap4)) W3.out.size)
  have own24 := hide (ownsRow_set (j := 3) (ownsRow_wrote own2.out hL4.out.wrote (by decide) rfl) hI4 (by decide) (.slice pa4 fs.length cap4))
  have K4 : Hid (Wrote 0 (· = 29) (w4.setCell ⟨w.heap.size + 1, 3, none⟩ (.slice pa4 fs.length cap4)) (((((w4.setCell ⟨w.heap.size + 1, 3, none⟩ (.slice pa4 fs.length cap4)).setCell ⟨w.heap.size, 0, none⟩ (.string i.kind)).setCell ⟨w.heap.size, 1, none⟩ (.string i.name)).setCell ⟨w.heap.size, 2, none⟩ (.slice pa2 al.length cap2)).setCell ⟨w.heap.size, 3, none⟩ (.slice pa4 fs.length cap4))) := by
    have h0 := hI5.out
    have h1 := four_set0 h0 (.string i.kind)
    have h2 := four_set1 h1 (.string i.name)
    have h3 := four_set2 h2 (.slice pa2 al.length cap2)
    exact ((((Wrote.refl 0 (· = 29) _).setCell (p := ⟨w.heap.size, 0, none⟩) (Nat.zero_le _) h0 rfl _).setCell (p := ⟨w.heap.size, 1, none⟩) (Nat.zero_le _) h1 rfl _).setCell (p := ⟨w.heap.size, 2, none⟩) (Nat.zero_le _) h2 rfl _).setCell (p := ⟨w.heap.size, 3, none⟩) (Nat.zero_le _) h3 rfl _
  replace hO4 := hide hO4; replace hI4 := hide hI4
  go_wp2
  refine bodyPost_ret (v := .agg #[.string i.kind, .string i.name, .slice pa2 al.length cap2, .slice pa4 fs.length cap4]) (by simp [results, Try.results52, go_sem, a0, a1, a2, a3]) rfl ⟨⟨i, al, fs⟩, pa2, pa4, cap2, cap4, s4, rfl, ?_, ⟨hsh1, hok2.out, hok4.out, hn2, hn4⟩, ⟨⟨_, _, rfl⟩, ⟨_, _, rfl⟩, ownsRow_wrote own24.out K4.out (by decide) rfl, ownsRow_wrote own4.out K4.out (by decide) rfl⟩, ⟨hR4.out, rfl, W4.out, hL4.out.few⟩⟩
  show _ = _
  unfold rdRes
  rw [hx1.out]
  dsimp only
  rw [hx2.out]
  dsimp only
  rw [hx4.out]
end Go.Proofs.Ytokogjhcgdhapaa
