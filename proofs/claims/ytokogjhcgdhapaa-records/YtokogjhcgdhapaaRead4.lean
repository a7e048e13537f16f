/-
  Records out of bytes: what the program's function that reads them answers.
-/
import Derived.Test.YtokogjhcgdhapaaJ7
import Derived.Test.YtokogjhcgdhapaaEncode
namespace Go.Proofs.Ytokogjhcgdhapaa
open Go.RowKit

theorem es0 {w : World} {k : Nat} {a b c d e f g h : Value} {t : TypeId} {fz : Nat × Nat} (hk : w.heap[k]? = some (.cells #[a, b, c, d, e, f, g, h] t fz)) (v : Value) : (w.setCell ⟨k, 0, none⟩ v).heap[k]? = some (.cells #[v, b, c, d, e, f, g, h] t fz) := by
  have := row_set hk 0 v; simpa using this
theorem es1 {w : World} {k : Nat} {a b c d e f g h : Value} {t : TypeId} {fz : Nat × Nat} (hk : w.heap[k]? = some (.cells #[a, b, c, d, e, f, g, h] t fz)) (v : Value) : (w.setCell ⟨k, 1, none⟩ v).heap[k]? = some (.cells #[a, v, c, d, e, f, g, h] t fz) := by
  have := row_set hk 1 v; simpa using this
theorem es2 {w : World} {k : Nat} {a b c d e f g h : Value} {t : TypeId} {fz : Nat × Nat} (hk : w.heap[k]? = some (.cells #[a, b, c, d, e, f, g, h] t fz)) (v : Value) : (w.setCell ⟨k, 2, none⟩ v).heap[k]? = some (.cells #[a, b, v, d, e, f, g, h] t fz) := by
  have := row_set hk 2 v; simpa using this
theorem es3 {w : World} {k : Nat} {a b c d e f g h : Value} {t : TypeId} {fz : Nat × Nat} (hk : w.heap[k]? = some (.cells #[a, b, c, d, e, f, g, h] t fz)) (v : Value) : (w.setCell ⟨k, 3, none⟩ v).heap[k]? = some (.cells #[a, b, c, v, e, f, g, h] t fz) := by
  have := row_set hk 3 v; simpa using this
theorem es4 {w : World} {k : Nat} {a b c d e f g h : Value} {t : TypeId} {fz : Nat × Nat} (hk : w.heap[k]? = some (.cells #[a, b, c, d, e, f, g, h] t fz)) (v : Value) : (w.setCell ⟨k, 4, none⟩ v).heap[k]? = some (.cells #[a, b, c, d, v, f, g, h] t fz) := by
  have := row_set hk 4 v; simpa using this
theorem es5 {w : World} {k : Nat} {a b c d e f g h : Value} {t : TypeId} {fz : Nat × Nat} (hk : w.heap[k]? = some (.cells #[a, b, c, d, e, f, g, h] t fz)) (v : Value) : (w.setCell ⟨k, 5, none⟩ v).heap[k]? = some (.cells #[a, b, c, d, e, v, g, h] t fz) := by
  have := row_set hk 5 v; simpa using this
theorem es6 {w : World} {k : Nat} {a b c d e f g h : Value} {t : TypeId} {fz : Nat × Nat} (hk : w.heap[k]? = some (.cells #[a, b, c, d, e, f, g, h] t fz)) (v : Value) : (w.setCell ⟨k, 6, none⟩ v).heap[k]? = some (.cells #[a, b, c, d, e, f, v, h] t fz) := by
  have := row_set hk 6 v; simpa using this
theorem es7 {w : World} {k : Nat} {a b c d e f g h : Value} {t : TypeId} {fz : Nat × Nat} (hk : w.heap[k]? = some (.cells #[a, b, c, d, e, f, g, h] t fz)) (v : Value) : (w.setCell ⟨k, 7, none⟩ v).heap[k]? = some (.cells #[a, b, c, d, e, f, g, v] t fz) := by
  have := row_set hk 7 v; simpa using this
theorem ecells {w : World} {k : Nat} {a b c d e f g h : Value} {t : TypeId} {fz : Nat × Nat} (hk : w.heap[k]? = some (.cells #[a, b, c, d, e, f, g, h] t fz)) :
    w.cell? ⟨k, 0, none⟩ = some a ∧ w.cell? ⟨k, 1, none⟩ = some b ∧ w.cell? ⟨k, 2, none⟩ = some c ∧ w.cell? ⟨k, 3, none⟩ = some d ∧ w.cell? ⟨k, 4, none⟩ = some e ∧ w.cell? ⟨k, 5, none⟩ = some f ∧ w.cell? ⟨k, 6, none⟩ = some g ∧ w.cell? ⟨k, 7, none⟩ = some h := by simp [World.cell?, hk]
/-- Eight cells of a row are stored. -/
theorem Wrote.set8 {B : Nat} {T : TypeId → Prop} {w w1 : World} (h : Wrote B T w w1) {O : Nat} (hO : w.heap.size ≤ O) (v0 v1 v2 v3 v4 v5 v6 v7 : Value) :
    Wrote B T w ((((((((w1.setCell ⟨O, 0, none⟩ v0).setCell ⟨O, 1, none⟩ v1).setCell ⟨O, 2, none⟩ v2).setCell ⟨O, 3, none⟩ v3).setCell ⟨O, 4, none⟩ v4).setCell ⟨O, 5, none⟩ v5).setCell ⟨O, 6, none⟩ v6).setCell ⟨O, 7, none⟩ v7) :=
  (((((((h.setNew (p := ⟨O, 0, none⟩) hO v0).setNew (p := ⟨O, 1, none⟩) hO v1).setNew (p := ⟨O, 2, none⟩) hO v2).setNew (p := ⟨O, 3, none⟩) hO v3).setNew (p := ⟨O, 4, none⟩) hO v4).setNew (p := ⟨O, 5, none⟩) hO v5).setNew (p := ⟨O, 6, none⟩) hO v6).setNew (p := ⟨O, 7, none⟩) hO v7
theorem ownsRow_set8 {w : World} {O : Nat} {a b c d e f g h : Value} {t : TypeId} {fz : Nat × Nat} {base : Nat} {el : TypeId} {size : Nat} {v : Value} {n : Nat} {xs : List Value} (hw : w.ownsRow base el size v n xs) (hk : w.heap[O]? = some (.cells #[a, b, c, d, e, f, g, h] t fz)) (hne : t ≠ el) (v0 v1 v2 v3 v4 v5 v6 v7 : Value) :
    (((((((((w.setCell ⟨O, 0, none⟩ v0).setCell ⟨O, 1, none⟩ v1).setCell ⟨O, 2, none⟩ v2).setCell ⟨O, 3, none⟩ v3).setCell ⟨O, 4, none⟩ v4).setCell ⟨O, 5, none⟩ v5).setCell ⟨O, 6, none⟩ v6).setCell ⟨O, 7, none⟩ v7)).ownsRow base el size v n xs := by
  have k0 := hk
  have k1 := es0 k0 v0
  have k2 := es1 k1 v1
  have k3 := es2 k2 v2
  have k4 := es3 k3 v3
  have k5 := es4 k4 v4
  have k6 := es5 k5 v5
  have k7 := es6 k6 v6
  exact ownsRow_set (ownsRow_set (ownsRow_set (ownsRow_set (ownsRow_set (ownsRow_set (ownsRow_set (ownsRow_set hw k0 hne v0) k1 hne v1) k2 hne v2) k3 hne v3) k4 hne v4) k5 hne v5) k6 hne v6) k7 hne v7
def rdRec (l : List UInt8) : Recd :=
  if numN (l.take 1) = 2 then ⟨numN (l.take 1), numN ((l.drop 1).take 3), numN (((l.drop 1).drop 3).take 3), numN ((((l.drop 1).drop 3).drop 3).take 1), (rdRes ((((l.drop 1).drop 3).drop 3).drop 1)).1⟩
  else ⟨numN (l.take 1), numN ((l.drop 1).take 3), numN (((l.drop 1).drop 3).take 3), 0, noRes⟩
/-- What the reading of a record answers. -/
def RecIs (w : World) (R : Nat) (s : ByteArray) (e : Ending) (w' : World) : Prop :=
  ∃ (r : Recd) (pa2 pa3 : Option Addr) (cap2 cap3 : Nat), e = .returned (.agg #[.int .i64 r.kind, .int .i64 r.epoch, .int .i64 r.number, .int .i64 r.op, .string r.res.id.kind, .string r.res.id.name, .slice pa2 r.res.attrs.length cap2, .slice pa3 r.res.after.length cap3]) ∧ Hid (rdRec s.data.toList = r) ∧ Hid (okS r.res) ∧ Hid (OwnR w.heap.size w' (.slice pa2 r.res.attrs.length cap2) (.slice pa3 r.res.after.length cap3) r.res) ∧ Hid (WroteR R w w')

set_option maxRecDepth 100000 in
set_option maxHeartbeats 3200000 in
theorem readRecord (R : Nat) (s : ByteArray) (w : World) (hR : RdAt w R s) (hs : s.size ≤ 9223372036854775807) :
    Calls Try.prog 39 #[.pointer (some ⟨R, 0, none⟩)] w (RecIs w R s) := by
  replace hR := hide hR
  have hno : ¬ w.heap.size + 1 = w.heap.size := by omega
  have hno' : ¬ w.heap.size = w.heap.size + 1 := by omega
  go_enter Try.func39, Try.ntmps39
  go_wp2_with fail
  refine (number R s 1 _ (hR.out.ext (((Ext.refl w).alloc _).alloc _)) hs (by omega)).mono ?_
  rintro e w1 ⟨n1, s1, rfl, hn1, hm1, hL1⟩
  have hO := r_keeps (t := 33) hL1.out.wrote (two_lo w _ _) (by decide)
  have hI := r_keeps (t := 33) hL1.out.wrote (two_hi w _ _) (by decide)
  obtain ⟨b0, b1, b2, b3, b4, b5, b6, b7⟩ := ecells hI
  have fI := row_frozen hI
  have hne := hL1.out.at_.ne hI (by decide)
  have hR1 := hide (hL1.out.at_.other (j := 0) hne (.int .i64 n1))
  have hO1 := hide (World.setCell_other_row hO hno 0 (.int .i64 n1))
  have hI1 := hide (es0 hI (.int .i64 n1))
  have W1 := hide (((((Wrote.refl R (· = 111) w).alloc _).alloc _).trans hL1.out.wrote).setNew (p := ⟨w.heap.size + 1, 0, none⟩) (by simp) (.int .i64 n1))
  have l1 := hide hL1.out.list
  clear hO hI
  replace hne := hide hne
  go_wp2_with fail
  refine (number R s1 3 _ hR1.out hL1.out.few (by omega)).mono ?_
  rintro e w2 ⟨n2, s2, rfl, hn2, hm2, hL2⟩
  have hO2 := r_keeps (t := 33) hL2.out.wrote hO1.out (by decide)
  have hI2 := r_keeps (t := 33) hL2.out.wrote hI1.out (by decide)
  clear b0 b1 b2 b3 b4 b5 b6 b7 fI
  obtain ⟨b0, b1, b2, b3, b4, b5, b6, b7⟩ := ecells hI2
  have fI := row_frozen hI2
  have hR2 := hide (hL2.out.at_.other (j := 1) hne.out (.int .i64 n2))
  have hO3 := hide (World.setCell_other_row hO2 hno 1 (.int .i64 n2))
  have hI3 := hide (es1 hI2 (.int .i64 n2))
  have W3 := hide ((W1.out.trans hL2.out.wrote).setNew (p := ⟨w.heap.size + 1, 1, none⟩) (by simp) (.int .i64 n2))
  have l2 := hide hL2.out.list
  clear hO2 hI2
  go_wp2_with fail
  refine (number R s2 3 _ hR2.out hL2.out.few (by omega)).mono ?_
  rintro e w4 ⟨n4, s4, rfl, hn4, hm4, hL4⟩
  have hO4 := r_keeps (t := 33) hL4.out.wrote hO3.out (by decide)
  have hI4 := r_keeps (t := 33) hL4.out.wrote hI3.out (by decide)
  clear b0 b1 b2 b3 b4 b5 b6 b7 fI
  obtain ⟨b0, b1, b2, b3, b4, b5, b6, b7⟩ := ecells hI4
  obtain ⟨a0, a1, a2, a3, a4, a5, a6, a7⟩ := ecells hO4
  have fI := row_frozen hI4
  have fO := row_frozen hO4
  have hR4 := hide (hL4.out.at_.other (j := 2) hne.out (.int .i64 n4))
  have hO5 := hide (World.setCell_other_row hO4 hno 2 (.int .i64 n4))
  have hI5 := hide (es2 hI4 (.int .i64 n4))
  have W5 := hide ((W3.out.trans hL4.out.wrote).setNew (p := ⟨w.heap.size + 1, 2, none⟩) (by simp) (.int .i64 n4))
  have l4 := hide hL4.out.list
  have e1 : Hid (n2 = numN ((s.data.toList.drop 1).take 3)) := by show _ = _; rw [hn2.out, l1.out]
  have e2 : Hid (n4 = numN (((s.data.toList.drop 1).drop 3).take 3)) := by show _ = _; rw [hn4.out, l2.out, l1.out]
  have e3 : Hid (s4.data.toList = ((s.data.toList.drop 1).drop 3).drop 3) := by show _ = _; rw [l4.out, l2.out, l1.out]
  replace hO4 := hide hO4; replace hI4 := hide hI4
  by_cases hk : n1 = 2
  · have hk' : ((n1 : Int) == 2) = true := by simp; omega
    replace hk := hide hk
    go_wp2_with fail
    refine (number R s4 1 _ hR4.out hL4.out.few (by omega)).mono ?_
    rintro e w6 ⟨n6, s6, rfl, hn6, hm6, hL6⟩
    have hO6 := r_keeps (t := 33) hL6.out.wrote hO5.out (by decide)
    have hI6 := r_keeps (t := 33) hL6.out.wrote hI5.out (by decide)
    clear b0 b1 b2 b3 b4 b5 b6 b7 fI a0 a1 a2 a3 a4 a5 a6 a7 fO
    obtain ⟨b0, b1, b2, b3, b4, b5, b6, b7⟩ := ecells hI6
    have fI := row_frozen hI6
    have hR6 := hide (hL6.out.at_.other (j := 3) hne.out (.int .i64 n6))
    have hO7 := hide (World.setCell_other_row hO6 hno 3 (.int .i64 n6))
    have hI7 := hide (es3 hI6 (.int .i64 n6))
    have W7 := hide ((W5.out.trans hL6.out.wrote).setNew (p := ⟨w.heap.size + 1, 3, none⟩) (by simp) (.int .i64 n6))
    have l6 := hide hL6.out.list
    clear hO6 hI6
    go_wp2_with fail
    refine (readResource R s6 _ hR6.out hL6.out.few).mono ?_
    rintro e w8 ⟨x, pa2, pa3, cap2, cap3, s8, rfl, hx, hok, hown, hL8⟩
    have hO8 := r_keeps (t := 33) hL8.out.wrote hO7.out (by decide)
    have hI8 := r_keeps (t := 33) hL8.out.wrote hI7.out (by decide)
    clear b0 b1 b2 b3 b4 b5 b6 b7 fI
    obtain ⟨b0, b1, b2, b3, b4, b5, b6, b7⟩ := ecells hI8
    obtain ⟨a0, a1, a2, a3, a4, a5, a6, a7⟩ := ecells hO8
    have fI := row_frozen hI8
    have fO := row_frozen hO8
    have hIa := es4 hI8 (.string x.id.kind)
    have hIb := es5 hIa (.string x.id.name)
    have hIc := es6 hIb (.slice pa2 x.attrs.length cap2)
    have hOa := World.setCell_other_row (World.setCell_other_row (World.setCell_other_row (World.setCell_other_row hO8 hno 4 (.string x.id.kind)) hno 5 (.string x.id.name)) hno 6 (.slice pa2 x.attrs.length cap2)) hno 7 (.slice pa3 x.after.length cap3)
    have own2 := hide (ownsRow_low (ownsRow_set8 (ownsRow_set (j := 7) (ownsRow_set (j := 6) (ownsRow_set (j := 5) (ownsRow_set (j := 4) hown.out.attrs hI8 (by decide) (.string x.id.kind)) hIa (by decide) (.string x.id.name)) hIb (by decide) (.slice pa2 x.attrs.length cap2)) hIc (by decide) (.slice pa3 x.after.length cap3)) hOa (by decide) (.int .i64 n1) (.int .i64 n2) (.int .i64 n4) (.int .i64 n6) (.string x.id.kind) (.string x.id.name) (.slice pa2 x.attrs.length cap2) (.slice pa3 x.after.length cap3)) W7.out.size)
    have own3 := hide (ownsRow_low (ownsRow_set8 (ownsRow_set (j := 7) (ownsRow_set (j := 6) (ownsRow_set (j := 5) (ownsRow_set (j := 4) hown.out.after hI8 (by decide) (.string x.id.kind)) hIa (by decide) (.string x.id.name)) hIb (by decide) (.slice pa2 x.attrs.length cap2)) hIc (by decide) (.slice pa3 x.after.length cap3)) hOa (by decide) (.int .i64 n1) (.int .i64 n2) (.int .i64 n4) (.int .i64 n6) (.string x.id.kind) (.string x.id.name) (.slice pa2 x.attrs.length cap2) (.slice pa3 x.after.length cap3)) W7.out.size)
    have W8 := hide ((((((W7.out.trans hL8.out.wrote).setNew (p := ⟨w.heap.size + 1, 4, none⟩) (by simp) (.string x.id.kind)).setNew (p := ⟨w.heap.size + 1, 5, none⟩) (by simp) (.string x.id.name)).setNew (p := ⟨w.heap.size + 1, 6, none⟩) (by simp) (.slice pa2 x.attrs.length cap2)).setNew (p := ⟨w.heap.size + 1, 7, none⟩) (by simp) (.slice pa3 x.after.length cap3)).set8 (Nat.le_refl _) (.int .i64 n1) (.int .i64 n2) (.int .i64 n4) (.int .i64 n6) (.string x.id.kind) (.string x.id.name) (.slice pa2 x.attrs.length cap2) (.slice pa3 x.after.length cap3))
    clear hIa hIb hIc hOa
    replace hO8 := hide hO8; replace hI8 := hide hI8
    go_wp2
    refine bodyPost_ret (v := .agg #[.int .i64 n1, .int .i64 n2, .int .i64 n4, .int .i64 n6, .string x.id.kind, .string x.id.name, .slice pa2 x.attrs.length cap2, .slice pa3 x.after.length cap3]) (by simp [results, Try.results39, go_sem, a0, a1, a2, a3, a4, a5, a6, a7]) rfl ⟨⟨n1, n2, n4, n6, x⟩, pa2, pa3, cap2, cap3, rfl, ?_, hok, ⟨⟨_, _, rfl⟩, ⟨_, _, rfl⟩, own2.out, own3.out⟩, W8⟩
    show _ = _
    unfold rdRec
    rw [← hn1.out, if_pos hk.out, ← e1.out, ← e2.out, ← e3.out, ← hn6.out, ← l6.out, hx.out]
  · have hk' : ((n1 : Int) == 2) = false := by simp; omega
    replace hk := hide hk
    have hOa := hO5.out
    have W8 := hide (W5.out.set8 (Nat.le_refl _) (.int .i64 n1) (.int .i64 n2) (.int .i64 n4) (.int .i64 0) (.string ⟨#[]⟩) (.string ⟨#[]⟩) (.slice none 0 0) (.slice none 0 0))
    replace hOa := hide hOa
    go_wp2
    refine bodyPost_ret (v := .agg #[.int .i64 n1, .int .i64 n2, .int .i64 n4, .int .i64 0, .string ⟨#[]⟩, .string ⟨#[]⟩, .slice none 0 0, .slice none 0 0]) (by simp [results, Try.results39, go_sem, a0, a1, a2, a3, a4, a5, a6, a7]) rfl ⟨⟨n1, n2, n4, 0, noRes⟩, none, none, 0, 0, rfl, ?_, okS_nil, OwnR.nil _ _, W8⟩
    show _ = _
    unfold rdRec
    rw [← hn1.out, if_neg hk.out, ← e1.out, ← e2.out]
end Go.Proofs.Ytokogjhcgdhapaa
