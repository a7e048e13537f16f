/-
  A step is taken out of the table of those that are to come.
-/
import Derived.Test.YtodhhjlemmmjcaaGreatJ24
namespace Go.Proofs.YtodhhjlemmmjcaaGreat
open Go.RowKit

attribute [local go_sem] Go.World.cell?_alloc_some
theorem five_at {w : World} {k : Nat} {a b c d f : Value} {t : TypeId} {fz : Nat × Nat} (hk : w.heap[k]? = some (.cells #[a, b, c, d, f] t fz)) :
    w.cell? ⟨k, 0, none⟩ = some a ∧ w.cell? ⟨k, 1, none⟩ = some b ∧ w.cell? ⟨k, 2, none⟩ = some c ∧ w.cell? ⟨k, 3, none⟩ = some d ∧ w.cell? ⟨k, 4, none⟩ = some f := by
  refine ⟨?_, ?_, ?_, ?_, ?_⟩ <;> simp [World.cell?, hk]
theorem five_sets {B k : Nat} {w : World} {c : Array Value} {t : TypeId} {fz : Nat × Nat} (hk : w.heap[k]? = some (.cells c t fz)) (hb : B ≤ k) (v0 v1 v2 v3 v4 : Value) : Wrote B (· = t) w (((((w.setCell ⟨k, 0, none⟩ v0).setCell ⟨k, 1, none⟩ v1).setCell ⟨k, 2, none⟩ v2).setCell ⟨k, 3, none⟩ v3).setCell ⟨k, 4, none⟩ v4) :=
  (((((Wrote.refl B (· = t) w).setCell (p := ⟨k, 0, none⟩) hb hk rfl v0).setCell (p := ⟨k, 1, none⟩) hb (set_at hk v0) rfl v1).setCell (p := ⟨k, 2, none⟩) hb (set_at (set_at hk v0) v1) rfl v2).setCell (p := ⟨k, 3, none⟩) hb (set_at (set_at (set_at hk v0) v1) v2) rfl v3).setCell (p := ⟨k, 4, none⟩) hb (set_at (set_at (set_at (set_at hk v0) v1) v2) v3) rfl v4
theorem eraseIdx_td {α : Type} (l : List α) (i : Nat) : l.eraseIdx i = l.take i ++ l.drop (i + 1) := List.eraseIdx_eq_take_drop_succ l i
theorem heap_set_far {w : World} {C i b : Nat} {u : Value} (h : ¬ b = C) : (w.setCell ⟨C, i, none⟩ u).heap[b]? = w.heap[b]? := by
  simp [World.setCell, Array.getElem?_modify, show ¬ C = b from fun e => h e.symm]
/-- What is left when a step was taken. -/
def TakeIs (B C : Nat) (w : World) (t : Nat) (ss : List StepC) (i : Nat) (s : StepC) (e : Ending) (w' : World) : Prop :=
  e = .returned (.tuple #[.agg #[.int .i64 s.op, .string s.r.x.id.kind, .string s.r.x.id.name, .slice s.r.a2 s.r.n2 s.r.p2, .slice s.r.a3 s.r.n3 s.r.p3], .bool true]) ∧ Hid (TodoAt B w' t (ss.eraseIdx i)) ∧ Hid (OwnR B w' s.r.c2 s.r.c3 s.r.x) ∧ Hid (WroteTSt B w w') ∧ Hid (TabLow C w' t) ∧ Hid (Upper C w w')

set_option maxRecDepth 100000 in
set_option maxHeartbeats 3200000 in
theorem takeSt (B C : Nat) (ss : List StepC) (i : Nat) (s : StepC) (t : Nat) (w : World) (hT : TodoAt B w t ss) (hi : ss[i]? = some s) (hC : TabLow C w t) :
    Calls Tryz.prog 51 #[.pointer (some ⟨t, 0, none⟩), .agg #[.string s.r.x.id.kind, .string s.r.x.id.name]] w (TakeIs B C w t ss i s) := by
  obtain ⟨v, hTb⟩ := hT.tab
  obtain ⟨pa, cap, rfl⟩ := ownsRow_form hTb.rows
  have E0 := hide (((Ext.refl w).alloc (.cells #[.string s.r.x.id.kind, .string s.r.x.id.name] 52)).alloc (.cells #[.int .i64 0, .string ⟨#[]⟩, .string ⟨#[]⟩, .slice none 0 0, .slice none 0 0] 60))
  have B0 := hide (two_new w (.cells #[.string s.r.x.id.kind, .string s.r.x.id.name] 52) (.cells #[.int .i64 0, .string ⟨#[]⟩, .string ⟨#[]⟩, .slice none 0 0, .slice none 0 0] 60))
  have hf := hide (tabFindSt B _ (ss.map rowS) s.r.x.id t _ (hTb.ext E0.out))
  replace hTb := hide hTb; replace hT := hide hT; replace hC := hide hC
  go_enter Tryz.func51, Tryz.ntmps51
  go_wp2_with fail
  refine hf.out.mono ?_
  rintro e1 w1 ⟨j, b, rfl, hj, hs1, hs2, hs3, he1⟩
  obtain rfl : b = true := hs2.out.2 (hasS_iff.2 ⟨s, List.mem_of_getElem? hi, rfl⟩)
  have hyi : (ss.map rowS)[i]? = some (rowS s) := by rw [List.getElem?_map, hi]; rfl
  obtain rfl : j = i := by
    obtain ⟨y, hy, hk⟩ := hs3.out rfl
    exact hTb.out.up.one ordI hy hyi hk
  have EX := hide (E0.out.trans he1.out)
  have hlt : j < ss.length := (List.getElem?_eq_some_iff.1 hi).1
  obtain ⟨n, hnn⟩ : ∃ n, ss.length = n + 1 := ⟨ss.length - 1, by omega⟩
  have hml : (ss.map rowS).length = n + 1 := by rw [List.length_map, hnn]
  have hT1 := hTb.out.ext EX.out
  have c1 := tabSt_c1 hT1.at_
  rw [hml] at c1
  obtain ⟨-, hc1, hc2, hin⟩ := rowsSt_in hT1.rows
  rw [hml] at hc1
  have hrows := hT1.rows
  rcases hrows.2 with ⟨hv, h0⟩ | ⟨g, cap', cur, hv, hbg, hgg, hcc, hcm, hcs, hcur⟩
  · rw [hml] at h0; cases h0
  obtain ⟨rfl, rfl⟩ : pa = some ⟨g, 0, none⟩ ∧ cap = cap' := by simpa using hv
  rw [hml] at hcc hcur
  rcases hin with hnil | ⟨g', hg', hI⟩
  · rw [hnil] at hml; cases hml
  obtain rfl : g = g' := by simpa using hg'
  have hI := hI j (rowS s) hyi
  have k2 := hI 2 _ rfl; have k3 := hI 3 _ rfl; have k4 := hI 4 _ rfl; have k5 := hI 5 _ rfl; have k6 := hI 6 _ rfl
  unfold maxLen at hc2
  have i2 : (j : Int) < (n : Int) + 1 := by omega
  have i4 : (0 : Int) ≤ (j : Int) := by omega
  have w1s : Hid (w.heap.size + 2 ≤ w1.heap.size) := by have := Ext.size he1.out; simp at this; exact this
  have Bx := hide (heap_alloc_new w1 (.cells #[.int .i64 s.op, .string s.r.x.id.kind, .string s.r.x.id.name, .slice s.r.a2 s.r.n2 s.r.p2, .slice s.r.a3 s.r.n3 s.r.p3] 60))
  have Eb := hide ((Ext.refl w1).alloc (.cells #[.int .i64 s.op, .string s.r.x.id.kind, .string s.r.x.id.name, .slice s.r.a2 s.r.n2 s.r.p2, .slice s.r.a3 s.r.n3 s.r.p3] 60))
  have B1 := hide (ext_at (he1.out.trans Eb.out) B0.out)
  have At := hide (ext_at Eb.out hT1.at_)
  have hdel := hide (delSt g n cap j cur (cellsG cRowSt (ss.map rowS)) _ (by omega) hcc (by unfold maxLen at hcm; omega) (ext_at Eb.out hgg) hcs hcur (cellsRowSt_one _))
  have c1b := tabSt_c1 At.out
  rw [hml] at c1b
  replace hml := hide hml; replace hnn := hide hnn
  dsimp only [rowS] at k2 k3 k4 k5 k6
  replace hT1 := hide hT1; replace hgg := hide hgg; replace hI := hide hI; replace hyi := hide hyi; replace hi := hide hi; replace hrows := hide hrows; replace hcur := hide hcur
  clear hf hv
  go_wp2_with fail
  refine hdel.out.mono ?_
  rintro e2 w2 ⟨row, rfl, hr1, hr2, hr3, hk⟩
  have hgl : g < w1.heap.size := (Array.getElem?_eq_some_iff.1 hgg.out).1
  have tg : ¬ t = g := by
    rintro rfl
    have h1 := hT1.out.at_
    rw [hgg.out] at h1
    simp only [Option.some.injEq, Obj.cells.injEq] at h1
    exact absurd h1.2.1 (by decide)
  have htl : t < w1.heap.size := (Array.getElem?_eq_some_iff.1 hT1.out.at_).1
  have At2 := hk.heap At.out tg
  have Bx2 := hk.heap Bx.out (show ¬ w1.heap.size = g by omega)
  have rg : ¬ w.heap.size + 1 = g := by
    rintro rfl
    have h1 := ext_at he1.out B0.out
    rw [hgg.out] at h1
    simp only [Option.some.injEq, Obj.cells.injEq] at h1
    exact absurd h1.2.1 (by decide)
  have rt : ¬ w.heap.size + 1 = t := by
    rintro rfl
    have h1 := ext_at he1.out B0.out
    rw [hT1.out.at_] at h1
    simp only [Option.some.injEq, Obj.cells.injEq] at h1
    exact absurd h1.2.1 (by decide)
  have B2 := hk.heap B1.out rg
  have f2 := row_frozen At2
  have d1 := tabSt_c1 At2
  have Bx3 := (heap_set_far (i := 1) (u := .slice (some ⟨g, 0, none⟩) n cap) (show ¬ w1.heap.size = t by omega)).trans Bx2
  have B3 := (heap_set_far (i := 1) (u := .slice (some ⟨g, 0, none⟩) n cap) rt).trans B2
  obtain ⟨x0, x1, x2, x3, x4⟩ := five_at Bx3
  obtain ⟨r0, r1, r2, r3, r4⟩ := five_at B3
  have f3 := row_frozen B3
  replace Bx3 := hide Bx3; replace B3 := hide B3; replace At2 := hide At2; replace Bx2 := hide Bx2; replace B2 := hide B2; replace hr1 := hide hr1; replace hk := hide hk; replace rg := hide rg; replace rt := hide rt; replace tg := hide tg; replace hr2 := hide hr2; replace hr3 := hide hr3
  clear k2 k3 k4 k5 k6 c1 c1b
  go_wp2_with fail
  have hnw : w.heap.size ≤ w.heap.size + 1 := by omega
  have hgC : Hid (g < C) := by
    obtain ⟨v', hv', hlow⟩ := hC.out.2
    have := hTb.out.at_
    rw [hv'] at this
    obtain rfl : v' = _ := by simpa using this
    exact hlow g (by simp [Value.ownBlock])
  have WR2 : WroteTSt B w w2 := (((Wrote.ext EX.out).then Eb.out).trans ((Wrote.keptG (T := (· = 140)) hk.out (ext_at Eb.out hgg.out) rfl hbg).mono (Nat.le_refl _) fun _ h => .inl h))
  have WR3 := WR2.setCell (p := ⟨t, 1, none⟩) hT1.out.base At2.out (.inr rfl) (.slice (some ⟨g, 0, none⟩) n cap)
  have WR := hide (((((WR3.setNew (p := ⟨w.heap.size + 1, 0, none⟩) hnw (.int .i64 s.op)).setNew (p := ⟨w.heap.size + 1, 1, none⟩) hnw (.string s.r.x.id.kind)).setNew (p := ⟨w.heap.size + 1, 2, none⟩) hnw (.string s.r.x.id.name)).setNew (p := ⟨w.heap.size + 1, 3, none⟩) hnw (.slice s.r.a2 s.r.n2 s.r.p2)).setNew (p := ⟨w.heap.size + 1, 4, none⟩) hnw (.slice s.r.a3 s.r.n3 s.r.p3))
  have hfar : ∀ b, ¬ b = w.heap.size + 1 → ((((((w2.setCell ⟨t, 1, none⟩ (.slice (some ⟨g, 0, none⟩) n cap)).setCell ⟨w.heap.size + 1, 0, none⟩ (.int .i64 s.op)).setCell ⟨w.heap.size + 1, 1, none⟩ (.string s.r.x.id.kind)).setCell ⟨w.heap.size + 1, 2, none⟩ (.string s.r.x.id.name)).setCell ⟨w.heap.size + 1, 3, none⟩ (.slice s.r.a2 s.r.n2 s.r.p2)).setCell ⟨w.heap.size + 1, 4, none⟩ (.slice s.r.a3 s.r.n3 s.r.p3)).heap[b]? = (w2.setCell ⟨t, 1, none⟩ (.slice (some ⟨g, 0, none⟩) n cap)).heap[b]? := fun b hb => by
    rw [heap_set_far hb, heap_set_far hb, heap_set_far hb, heap_set_far hb, heap_set_far hb]
  replace hfar := hide hfar
  have hmap : (ss.eraseIdx j).map rowS = (ss.map rowS).take j ++ (ss.map rowS).drop (j + 1) := by rw [eraseIdx_td, List.map_append, List.map_take, List.map_drop]
  have hel : ((ss.eraseIdx j).map rowS).length = n := by rw [List.length_map, List.length_eraseIdx, if_pos (by rw [hnn.out]; omega), hnn.out]; omega
  have hcel : Hid (row.toList.take (n * 7) = cellsG cRowSt ((ss.eraseIdx j).map rowS)) := by
    show _ = _
    rw [hr3.out, cellsG_take cRowSt_len, cellsG_drop cRowSt_len, hmap]
    simp [cellsG, List.flatMap_append]
  refine bodyPost_ret (v := .tuple #[.agg #[.int .i64 s.op, .string s.r.x.id.kind, .string s.r.x.id.name, .slice s.r.a2 s.r.n2 s.r.p2, .slice s.r.a3 s.r.n3 s.r.p3], .bool true]) (by simp [results, Tryz.results51, go_sem, r0, r1, r2, r3, r4]) rfl ⟨rfl, ⟨⟨.slice (some ⟨g, 0, none⟩) n cap, ⟨?_, ⟨?_, .inr ⟨g, cap, row, by rw [hel], hbg, ?_, by rw [hel]; omega, hcm, hr2.out, by rw [hel]; exact hcel.out⟩⟩, ?_, by rw [hel]; have := hT1.out.few; rw [hml.out] at this; omega, hT1.out.base⟩⟩, ?_, ?_⟩, (hT.out.each s (List.mem_of_getElem? hi.out)).1.put WR.out (by decide) (by decide), WR, ⟨hC.out.1, .slice (some ⟨g, 0, none⟩) n cap, ?_, ?_⟩, ?_⟩
  · rw [hfar.out t (fun e => rt.out e.symm)]; exact tabSt_set At2.out _
  · exact cellsG_len cRowSt_len _
  · rw [hfar.out g (fun e => rg.out e.symm), heap_set_far (fun e => tg.out e.symm)]; exact hr1.out
  · rw [show (ss.eraseIdx j).map rowS = (ss.map rowS).eraseIdx j by rw [hmap, ← eraseIdx_td]]
    exact List.Pairwise.sublist (List.eraseIdx_sublist _ _) hT1.out.up
  · intro q hq
    have hq' := (List.eraseIdx_sublist _ _).subset hq
    exact ⟨(hT.out.each q hq').1.put WR.out (by decide) (by decide), (hT.out.each q hq').2⟩
  · exact List.Pairwise.sublist (List.eraseIdx_sublist _ _) hT.out.apart
  · rw [hfar.out t (fun e => rt.out e.symm)]; exact tabSt_set At2.out _
  · intro g' hg'
    obtain rfl : g = g' := by simpa [Value.ownBlock] using hg'
    exact hgC.out
  · refine ⟨WR.out.size, fun b hb hbw => ?_⟩
    have hbt : ¬ b = t := by have := hC.out.1; omega
    have hbg' : ¬ b = g := by have := hgC.out; omega
    rw [hfar.out b (by omega), heap_set_far hbt, hk.out.block b (by have := Ext.size (EX.out.trans Eb.out); omega) hbg', Below.block (EX.out.trans Eb.out) b hbw]
end Go.Proofs.YtodhhjlemmmjcaaGreat
