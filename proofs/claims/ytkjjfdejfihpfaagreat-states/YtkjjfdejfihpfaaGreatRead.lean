/-
  IDs and Attrs out of bytes: what the program's functions that read them answer.
-/
import Derived.Test.YtkjjfdejfihpfaaGreatReader
import Derived.Test.YtkjjfdejfihpfaaGreatEnc
import Derived.Deep.RegionHeld3
namespace Go.Proofs.YtkjjfdejfihpfaaGreat
open Go.RowKit

def rdText (l : List UInt8) : ByteArray × List UInt8 := (⟨((l.drop 1).take (numN (l.take 1))).toArray⟩, (l.drop 1).drop (numN (l.take 1)))
def rdID (l : List UInt8) : IDd × List UInt8 := (⟨(rdText l).1, (rdText (rdText l).2).1⟩, (rdText (rdText l).2).2)
/-- 32 bits, with their sign. -/
def s32 (n : Nat) : Int := if n < 2147483648 then (n : Int) else (n : Int) - 4294967296
def rdAttr (l : List UInt8) : Attrd × List UInt8 :=
  if numN ((rdText l).2.take 1) = 1 then (⟨(rdText l).1, true, (rdText ((rdText l).2.drop 1)).1, 0⟩, (rdText ((rdText l).2.drop 1)).2)
  else (⟨(rdText l).1, false, ⟨#[]⟩, s32 (numN (((rdText l).2.drop 1).take 4))⟩, ((rdText l).2.drop 1).drop 4)

theorem Wrote.setNew {B : Nat} {T : TypeId → Prop} {w w1 : World} (h : Wrote B T w w1) {p : Addr} (hp : w.heap.size ≤ p.block) (u : Value) : Wrote B T w (w1.setCell p u) := by
  refine ⟨h.os, h.tape, h.output, by have := h.size; simp [World.setCell]; exact this, fun k hk hd => ?_⟩
  rw [← h.heap k hk hd]
  simp only [World.setCell, Array.getElem?_modify]
  rw [if_neg (by omega)]
theorem RdAt.other {w : World} {R I j : Nat} {s : ByteArray} (h : RdAt w R s) (hI : I ≠ R) (u : Value) : RdAt (w.setCell ⟨I, j, none⟩ u) R s := by
  unfold RdAt at h ⊢
  simp only [World.setCell, Array.getElem?_modify]
  rw [if_neg hI]; exact h
theorem RdAt.ne {w : World} {R I : Nat} {s : ByteArray} {c : Array Value} {t : TypeId} {fz : Nat × Nat} (h : RdAt w R s) (hI : w.heap[I]? = some (.cells c t fz)) (ht : t ≠ 118) : I ≠ R := by
  rintro rfl
  unfold RdAt at h
  rw [h] at hI; cases hI; exact ht rfl
theorem row_frozen {w : World} {b : Nat} {cs : Array Value} {t : TypeId} (h : w.heap[b]? = some (.cells cs t (0, 0))) (j : Nat) : w.frozen? ⟨b, j, none⟩ = false := by simp [World.frozen?, h]
theorem row_set {w : World} {b : Nat} {cs : Array Value} {t : TypeId} {fz : Nat × Nat} (h : w.heap[b]? = some (.cells cs t fz)) (j : Nat) (v : Value) : (w.setCell ⟨b, j, none⟩ v).heap[b]? = some (.cells (cs.setIfInBounds j v) t fz) := by
  simp [World.setCell, Array.getElem?_modify, h]
theorem World.setCell_other_row {w : World} {b c : Nat} {o : Obj} (h : w.heap[b]? = some o) (hne : c ≠ b) (j : Nat) (v : Value) : (w.setCell ⟨c, j, none⟩ v).heap[b]? = some o := by
  simp only [World.setCell, Array.getElem?_modify]
  rw [if_neg hne]; exact h
theorem r_keeps {R : Nat} {w w' : World} {k : Nat} {c : Array Value} {t : TypeId} {fz : Nat × Nat} (h : WroteR R w w') (hk : w.heap[k]? = some (.cells c t fz)) (ht : t ≠ 118) : w'.heap[k]? = some (.cells c t fz) := h.keeps hk ht
theorem two_lo (w : World) (o o' : Obj) : ((w.alloc o).alloc o').heap[w.heap.size]? = some o := by
  rw [Below.heap_alloc _ _ _ (by simp)]; exact heap_alloc_new w o
theorem two_hi (w : World) (o o' : Obj) : ((w.alloc o).alloc o').heap[w.heap.size + 1]? = some o' := by
  have := heap_alloc_new (w.alloc o) o'; simpa using this
theorem pair_set0 {w : World} {k : Nat} {a b : Value} {t : TypeId} {fz : Nat × Nat} (hk : w.heap[k]? = some (.cells #[a, b] t fz)) (v : Value) : (w.setCell ⟨k, 0, none⟩ v).heap[k]? = some (.cells #[v, b] t fz) := by
  have := row_set hk 0 v; simpa using this
theorem txt_eq {t : ByteArray} {l : List UInt8} (h : t.data.toList = (l.drop 1).take (numN (l.take 1))) : t = (rdText l).1 := by
  apply ByteArray.ext; apply Array.toList_inj.1; rw [h]; rfl
/-- What the reading of an ID answers. -/
def IdIs (w : World) (R : Nat) (s : ByteArray) (e : Ending) (w' : World) : Prop :=
  ∃ (x : IDd) (s' : ByteArray), e = .returned (.agg #[.string x.kind, .string x.name]) ∧ Hid (rdID s.data.toList = (x, s'.data.toList)) ∧ shI x ∧ Hid (Left w w' R s' s'.data.toList)

set_option maxRecDepth 100000 in
set_option maxHeartbeats 1600000 in
theorem readID (R : Nat) (s : ByteArray) (w : World) (hR : RdAt w R s) (hs : s.size ≤ 9223372036854775807) :
    Calls Tryz.prog 64 #[.pointer (some ⟨R, 0, none⟩)] w (IdIs w R s) := by
  replace hR := hide hR
  go_enter Tryz.func64, Tryz.ntmps64
  go_wp2_with fail
  refine (text R s _ (hR.out.ext (((Ext.refl w).alloc _).alloc _)) hs).mono ?_
  rintro e w1 ⟨t1, s1, rfl, ht1, hz1, hL1⟩
  have hO := r_keeps (t := 37) hL1.out.wrote (two_lo w _ _) (by decide)
  have hI := r_keeps (t := 37) hL1.out.wrote (two_hi w _ _) (by decide)
  have a0 := id_c0 hO; have a1 := id_c1 hO; have b0 := id_c0 hI; have b1 := id_c1 hI
  have fO := row_frozen hO; have fI := row_frozen hI
  have hL1l := hide hL1.out.list
  have hR1 := hide (hL1.out.at_.other (j := 0) (hL1.out.at_.ne hI (by decide)) (.string t1))
  have hO1 := (World.setCell_other_row hO (show w.heap.size + 1 ≠ w.heap.size by omega) 0 (.string t1))
  have hI1 := pair_set0 hI (.string t1)
  replace hO := hide hO; replace hI := hide hI; replace hO1 := hide hO1; replace hI1 := hide hI1
  go_wp2_with fail
  refine (text R s1 _ hR1.out hL1.out.few).mono ?_
  rintro e w2 ⟨t2, s2, rfl, ht2, hz2, hL2⟩
  have hO2 := r_keeps (t := 37) hL2.out.wrote hO1.out (by decide)
  have hI2 := r_keeps (t := 37) hL2.out.wrote hI1.out (by decide)
  clear a0 a1 b0 b1 fO fI
  have a0 := id_c0 hO2; have a1 := id_c1 hO2; have b0 := id_c0 hI2; have b1 := id_c1 hI2
  have fO := row_frozen hO2; have fI := row_frozen hI2
  have hR2 := hide (((hL2.out.at_.other (j := 1) (hL2.out.at_.ne hI2 (by decide)) (.string t2)).other (j := 0) (hL2.out.at_.ne hO2 (by decide)) (.string t1)).other (j := 1) (hL2.out.at_.ne hO2 (by decide)) (.string t2))
  have W2 : Hid (WroteR R w (((w2.setCell ⟨w.heap.size + 1, 1, none⟩ (.string t2)).setCell ⟨w.heap.size, 0, none⟩ (.string t1)).setCell ⟨w.heap.size, 1, none⟩ (.string t2))) :=
    ((((((Wrote.refl R _ w).alloc _).alloc _).trans hL1.out.wrote).setNew (p := ⟨w.heap.size + 1, 0, none⟩) (by simp) (.string t1)).trans hL2.out.wrote |>.setNew (p := ⟨w.heap.size + 1, 1, none⟩) (by simp) (.string t2) |>.setNew (p := ⟨w.heap.size, 0, none⟩) (by simp) (.string t1)).setNew (p := ⟨w.heap.size, 1, none⟩) (by simp) (.string t2)
  have hno : ¬ w.heap.size + 1 = w.heap.size := by omega
  replace hO2 := hide hO2; replace hI2 := hide hI2
  go_wp2
  refine bodyPost_ret (v := .agg #[.string t1, .string t2]) (by simp [results, Tryz.results64, go_sem, a0, a1]) rfl ⟨⟨t1, t2⟩, s2, rfl, ?_, ⟨hz1, hz2⟩, ⟨?_, rfl, ?_, hL2.out.few⟩⟩
  · show _ = _
    unfold rdID
    rw [← txt_eq ht1.out]
    have e1 : (rdText s.data.toList).2 = s1.data.toList := hL1l.out.symm
    rw [e1, ← txt_eq ht2.out]
    have e2 : (rdText s1.data.toList).2 = s2.data.toList := hL2.out.list.symm
    rw [e2]
  · exact hR2.out
  · exact W2.out

theorem wrap_s32 (m : Nat) (h : m < 4294967296) : IntKind.i32.wrap (m : Int) = s32 m := by
  have e1 : (m : Int) % 4294967296 = (m : Int) := by omega
  by_cases hh : m < 2147483648
  · have h2 : ¬ (2147483648 : Int) ≤ (m : Int) := by omega
    simp [IntKind.wrap, IntKind.signed, IntKind.bits, s32, hh, e1, h2]
  · have h2 : (2147483648 : Int) ≤ (m : Int) := by omega
    simp [IntKind.wrap, IntKind.signed, IntKind.bits, s32, hh, e1, h2]
theorem four_set0 {w : World} {k : Nat} {a b c d : Value} {t : TypeId} {fz : Nat × Nat} (hk : w.heap[k]? = some (.cells #[a, b, c, d] t fz)) (v : Value) : (w.setCell ⟨k, 0, none⟩ v).heap[k]? = some (.cells #[v, b, c, d] t fz) := by
  have := row_set hk 0 v; simpa using this
theorem four_set1 {w : World} {k : Nat} {a b c d : Value} {t : TypeId} {fz : Nat × Nat} (hk : w.heap[k]? = some (.cells #[a, b, c, d] t fz)) (v : Value) : (w.setCell ⟨k, 1, none⟩ v).heap[k]? = some (.cells #[a, v, c, d] t fz) := by
  have := row_set hk 1 v; simpa using this
theorem four_set2 {w : World} {k : Nat} {a b c d : Value} {t : TypeId} {fz : Nat × Nat} (hk : w.heap[k]? = some (.cells #[a, b, c, d] t fz)) (v : Value) : (w.setCell ⟨k, 2, none⟩ v).heap[k]? = some (.cells #[a, b, v, d] t fz) := by
  have := row_set hk 2 v; simpa using this
theorem four_set3 {w : World} {k : Nat} {a b c d : Value} {t : TypeId} {fz : Nat × Nat} (hk : w.heap[k]? = some (.cells #[a, b, c, d] t fz)) (v : Value) : (w.setCell ⟨k, 3, none⟩ v).heap[k]? = some (.cells #[a, b, c, v] t fz) := by
  have := row_set hk 3 v; simpa using this
theorem four_cells {w : World} {k : Nat} {a b c d : Value} {t : TypeId} {fz : Nat × Nat} (hk : w.heap[k]? = some (.cells #[a, b, c, d] t fz)) :
    w.cell? ⟨k, 0, none⟩ = some a ∧ w.cell? ⟨k, 1, none⟩ = some b ∧ w.cell? ⟨k, 2, none⟩ = some c ∧ w.cell? ⟨k, 3, none⟩ = some d := ⟨at_c0 hk, at_c1 hk, at_c2 hk, at_c3 hk⟩
/-- Four cells of a row are stored. -/
theorem Wrote.set4 {B : Nat} {T : TypeId → Prop} {w w1 : World} (h : Wrote B T w w1) {O : Nat} (hO : w.heap.size ≤ O) (v0 v1 v2 v3 : Value) :
    Wrote B T w ((((w1.setCell ⟨O, 0, none⟩ v0).setCell ⟨O, 1, none⟩ v1).setCell ⟨O, 2, none⟩ v2).setCell ⟨O, 3, none⟩ v3) :=
  (((h.setNew (p := ⟨O, 0, none⟩) hO v0).setNew (p := ⟨O, 1, none⟩) hO v1).setNew (p := ⟨O, 2, none⟩) hO v2).setNew (p := ⟨O, 3, none⟩) hO v3
theorem RdAt.set4 {w : World} {R O : Nat} {s : ByteArray} (h : RdAt w R s) (hI : O ≠ R) (v0 v1 v2 v3 : Value) :
    RdAt ((((w.setCell ⟨O, 0, none⟩ v0).setCell ⟨O, 1, none⟩ v1).setCell ⟨O, 2, none⟩ v2).setCell ⟨O, 3, none⟩ v3) R s :=
  (((h.other hI v0).other hI v1).other hI v2).other hI v3
/-- What the reading of an Attr answers. -/
def AtIs (w : World) (R : Nat) (s : ByteArray) (e : Ending) (w' : World) : Prop :=
  ∃ (x : Attrd) (s' : ByteArray), e = .returned (.agg #[.string x.name, .bool x.isText, .string x.text, .int .i64 x.number]) ∧ Hid (rdAttr s.data.toList = (x, s'.data.toList)) ∧ shA x ∧ -2147483648 ≤ x.number ∧ x.number < 2147483648 ∧ Hid (Left w w' R s' s'.data.toList)

set_option maxRecDepth 100000 in
set_option maxHeartbeats 3200000 in
theorem readAttr (R : Nat) (s : ByteArray) (w : World) (hR : RdAt w R s) (hs : s.size ≤ 9223372036854775807) :
    Calls Tryz.prog 66 #[.pointer (some ⟨R, 0, none⟩)] w (AtIs w R s) := by
  replace hR := hide hR
  have hno : ¬ w.heap.size + 1 = w.heap.size := by omega
  have hno' : ¬ w.heap.size = w.heap.size + 1 := by omega
  go_enter Tryz.func66, Tryz.ntmps66
  go_wp2_with fail
  refine (text R s _ (hR.out.ext (((Ext.refl w).alloc _).alloc _)) hs).mono ?_
  rintro e w1 ⟨t1, s1, rfl, ht1, hz1, hL1⟩
  have hO := r_keeps (t := 42) hL1.out.wrote (two_lo w _ _) (by decide)
  have hI := r_keeps (t := 42) hL1.out.wrote (two_hi w _ _) (by decide)
  obtain ⟨b0, b1, b2, b3⟩ := four_cells hI
  have fI := row_frozen hI
  have e1 : Hid ((rdText s.data.toList) = (t1, s1.data.toList)) := by show _ = _; rw [hL1.out.list, txt_eq ht1.out]; rfl
  have hR1 := hide (hL1.out.at_.other (j := 0) (hL1.out.at_.ne hI (by decide)) (.string t1))
  have hO1 := hide (World.setCell_other_row hO hno 0 (.string t1))
  have hI1 := hide (four_set0 hI (.string t1))
  have W1 := hide (((((Wrote.refl R (· = 118) w).alloc _).alloc _).trans hL1.out.wrote).setNew (p := ⟨w.heap.size + 1, 0, none⟩) (by simp) (.string t1))
  clear hO hI
  go_wp2_with fail
  refine (number R s1 1 _ hR1.out hL1.out.few (by omega)).mono ?_
  rintro e w2 ⟨n, s2, rfl, hn, hn2, hL2⟩
  have hO2 := r_keeps (t := 42) hL2.out.wrote hO1.out (by decide)
  have hI2 := r_keeps (t := 42) hL2.out.wrote hI1.out (by decide)
  clear b0 b1 b2 b3 fI
  obtain ⟨b0, b1, b2, b3⟩ := four_cells hI2
  have fI := row_frozen hI2
  have hl2 := hide hL2.out.list
  by_cases h1 : n = 1
  · have h1' : ((n : Int) == 1) = true := by simp; omega
    have hR2 := hide (hL2.out.at_.other (j := 1) (hL2.out.at_.ne hI2 (by decide)) (.bool true))
    have hO3 := hide (World.setCell_other_row hO2 hno 1 (.bool true))
    have hI3 := hide (four_set1 hI2 (.bool true))
    have W3 := hide ((W1.out.trans hL2.out.wrote).setNew (p := ⟨w.heap.size + 1, 1, none⟩) (by simp) (.bool true))
    clear hO2 hI2
    replace h1 := hide h1
    go_wp2_with fail
    refine (text R s2 _ hR2.out hL2.out.few).mono ?_
    rintro e w4 ⟨t4, s4, rfl, ht4, hz4, hL4⟩
    have hO4 := r_keeps (t := 42) hL4.out.wrote hO3.out (by decide)
    have hI4 := r_keeps (t := 42) hL4.out.wrote hI3.out (by decide)
    clear b0 b1 b2 b3 fI
    obtain ⟨b0, b1, b2, b3⟩ := four_cells hI4
    obtain ⟨a0, a1, a2, a3⟩ := four_cells hO4
    have fI := row_frozen hI4
    have fO := row_frozen hO4
    have hR4 := hide ((hL4.out.at_.other (j := 2) (hL4.out.at_.ne hI4 (by decide)) (.string t4)).set4 (hL4.out.at_.ne hO4 (by decide)) (.string t1) (.bool true) (.string t4) (.int .i64 0))
    have W4 := hide (((W3.out.trans hL4.out.wrote).setNew (p := ⟨w.heap.size + 1, 2, none⟩) (by simp) (.string t4)).set4 (Nat.le_refl _) (.string t1) (.bool true) (.string t4) (.int .i64 0))
    replace hO4 := hide hO4; replace hI4 := hide hI4
    go_wp2
    refine bodyPost_ret (v := .agg #[.string t1, .bool true, .string t4, .int .i64 0]) (by simp [results, Tryz.results66, go_sem, a0, a1, a2, a3]) rfl ⟨⟨t1, true, t4, 0⟩, s4, rfl, ?_, ⟨hz1, hz4⟩, by dsimp only; omega, by dsimp only; omega, ⟨hR4.out, rfl, W4.out, hL4.out.few⟩⟩
    show _ = _
    have e4 : rdText s2.data.toList = (t4, s4.data.toList) := by rw [hL4.out.list, txt_eq ht4.out]; rfl
    have en : numN (s1.data.toList.take 1) = 1 := by rw [← hn.out]; exact h1.out
    unfold rdAttr
    rw [e1.out]
    dsimp only
    rw [en, if_pos rfl, ← hl2.out, e4]
  · have h1' : ((n : Int) == 1) = false := by simp; omega
    have hR2 := hide (hL2.out.at_.other (j := 1) (hL2.out.at_.ne hI2 (by decide)) (.bool false))
    have hO3 := hide (World.setCell_other_row hO2 hno 1 (.bool false))
    have hI3 := hide (four_set1 hI2 (.bool false))
    have W3 := hide ((W1.out.trans hL2.out.wrote).setNew (p := ⟨w.heap.size + 1, 1, none⟩) (by simp) (.bool false))
    clear hO2 hI2
    replace h1 := hide h1
    go_wp2_with fail
    refine (number R s2 4 _ hR2.out hL2.out.few (by omega)).mono ?_
    rintro e w4 ⟨m, s4, rfl, hm, hm2, hL4⟩
    have hO4 := r_keeps (t := 42) hL4.out.wrote hO3.out (by decide)
    have hI4 := r_keeps (t := 42) hL4.out.wrote hI3.out (by decide)
    clear b0 b1 b2 b3 fI
    obtain ⟨b0, b1, b2, b3⟩ := four_cells hI4
    obtain ⟨a0, a1, a2, a3⟩ := four_cells hO4
    have fI := row_frozen hI4
    have fO := row_frozen hO4
    have em : IntKind.i32.wrap (m : Int) = s32 m := wrap_s32 m hm2
    have hb1 : -2147483648 ≤ s32 m := by unfold s32; split <;> omega
    have hb2 : s32 m < 2147483648 := by unfold s32; split <;> omega
    have hR4 := hide ((hL4.out.at_.other (j := 3) (hL4.out.at_.ne hI4 (by decide)) (.int .i64 (s32 m))).set4 (hL4.out.at_.ne hO4 (by decide)) (.string t1) (.bool false) (.string ⟨#[]⟩) (.int .i64 (s32 m)))
    have W4 := hide (((W3.out.trans hL4.out.wrote).setNew (p := ⟨w.heap.size + 1, 3, none⟩) (by simp) (.int .i64 (s32 m))).set4 (Nat.le_refl _) (.string t1) (.bool false) (.string ⟨#[]⟩) (.int .i64 (s32 m)))
    replace hO4 := hide hO4; replace hI4 := hide hI4
    go_wp2
    refine bodyPost_ret (v := .agg #[.string t1, .bool false, .string ⟨#[]⟩, .int .i64 (s32 m)]) (by simp [results, Tryz.results66, go_sem, a0, a1, a2, a3]) rfl ⟨⟨t1, false, ⟨#[]⟩, s32 m⟩, s4, rfl, ?_, ⟨hz1, Nat.zero_le _⟩, hb1, hb2, ⟨hR4.out, rfl, W4.out, hL4.out.few⟩⟩
    show _ = _
    have en : ¬ numN (s1.data.toList.take 1) = 1 := by rw [← hn.out]; exact h1.out
    unfold rdAttr
    rw [e1.out]
    dsimp only
    rw [if_neg en, ← hl2.out, ← hm.out, ← hL4.out.list]
end Go.Proofs.YtkjjfdejfihpfaaGreat
