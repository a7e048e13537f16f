/-
  A key is put into its place among the others: one law for all cases.
-/
/-
  The table St: what a key that is put into it leaves.
-/
import Derived.Test.YtodhhjlemmmjcaaGreatJ16
import Derived.Test.YtodhhjlemmmjcaaGreatJ21
namespace Go.Proofs.YtodhhjlemmmjcaaGreat
open Go.RowKit

theorem cellsI_take : ∀ (l : List IDd) (i : Nat), (cellsI l).take (i * 2) = cellsI (l.take i)
  | [], i => by simp [cellsI]
  | _ :: _, 0 => by simp [cellsI]
  | x :: l, i + 1 => by
    have := cellsI_take l i
    rw [show (i + 1) * 2 = i * 2 + 2 by omega]
    simp only [cellsI, List.flatMap_cons, cI, List.take_succ_cons, List.cons_append, List.nil_append] at this ⊢
    rw [this]
theorem cellsI_drop : ∀ (l : List IDd) (i : Nat), (cellsI l).drop (i * 2) = cellsI (l.drop i)
  | [], i => by simp [cellsI]
  | _ :: _, 0 => by simp [cellsI]
  | x :: l, i + 1 => by
    have := cellsI_drop l i
    rw [show (i + 1) * 2 = i * 2 + 2 by omega]
    simp only [cellsI, List.flatMap_cons, cI, List.drop_succ_cons, List.cons_append, List.nil_append] at this ⊢
    rw [this]
theorem cellsI_ins (l : List IDd) (i : Nat) (a : IDd) : (cellsI l).take (i * 2) ++ [Value.string a.kind, Value.string a.name] ++ (cellsI l).drop (i * 2) = cellsI (insL l i a) := by
  rw [cellsI_take, cellsI_drop]; simp [cellsI, insL, List.flatMap_append, cI]
/-- Only rows of keys from B on have turned. -/
abbrev WroteK (B : Nat) (w w' : World) : Prop := Wrote B (· = 158) w w'
/-- The rows of a table: keys in a row of our own. -/
abbrev KeysV (B : Nat) (w : World) (v : Value) (ks : List IDd) : Prop := w.ownsRow B 158 2 v ks.length (cellsI ks)
/-- What is answered when a key was put into its place. -/
def InsIs (B : Nat) (w : World) (ks : List IDd) (e : Ending) (w' : World) : Prop :=
  ∃ (pa : Option Addr) (cap n : Nat), e = .returned (.slice pa n cap) ∧ Hid (n = ks.length) ∧ Hid (KeysV B w' (.slice pa n cap) ks) ∧ Hid (WroteK B w w')
theorem Wrote.kept {g B : Nat} {T : TypeId → Prop} {w w' : World} {c : Array Value} {t : TypeId} {fz : Nat × Nat} (h : Kept (· = g) w w') (hg : w.heap[g]? = some (.cells c t fz)) (ht : T t) (hb : B ≤ g) : Wrote B T w w' :=
  ⟨h.os, h.tape, h.output, h.size, fun k hk hd => h.block k hk (fun e => by
    subst e
    rcases hd with hd | hd
    · omega
    · exact hd _ _ _ hg ht)⟩

set_option maxRecDepth 100000 in
set_option maxHeartbeats 1600000 in
theorem insKey (B : Nat) (v : Value) (ks : List IDd) (a : IDd) (i vb : Nat) (w : World) (hv : KeysV B w v ks) (hB : B ≤ w.heap.size) (hi : i ≤ ks.length) (hn : ks.length ≤ 1000000)
    (hvb : w.heap[vb]? = some (.cells #[.string a.kind, .string a.name] 158 (0, 0))) (hne : some vb ≠ v.ownBlock) :
    Calls Tryz.prog 89 #[v, .int .i64 i, .slice (some ⟨vb, 0, none⟩) 1 1] w (InsIs B w (insL ks i a)) := by
  have hlen := ins_len (a := a) hi
  by_cases hin : i = ks.length
  · subst hin
    obtain ⟨i0, hi0, hz0, hz1, hz2⟩ := info_of infoRow
    obtain ⟨pa, cap, rfl⟩ := ownsRow_form hv
    have hcap : ks.length ≤ cap := by
      rcases hv.2 with ⟨h, h'⟩ | ⟨g, c, cur, h, _, _, h', _⟩
      · omega
      · cases h; exact h'
    have hc0 : w.cell? ⟨vb, 0, none⟩ = some (.string a.kind) := by simp [World.cell?, hvb]
    have hc1 : w.cell? ⟨vb, 1, none⟩ = some (.string a.name) := by simp [World.cell?, hvb]
    have hE : Hid (cellsI ks ++ [Value.string a.kind, Value.string a.name] = cellsI (insL ks ks.length a)) := by
      show _ = _
      simp [cellsI, insL, cI]
    have hlen' : Hid ((insL ks ks.length a).length = ks.length + 1) := hlen
    clear hlen
    replace hv := hide hv; replace hi0 := hide hi0; replace hvb := hide hvb; replace hne := hide hne
    go_enter Tryz.func89, Tryz.ntmps89
    go_wp2_with (at_builtin; go_must (refine wpList_append_lies _ rfl _ _ 151 rfl B 158 i0 (.agg #[.string ⟨#[]⟩, .string ⟨#[]⟩]) 2 40 Tryz.underlying151 hi0.out hz0 hz1 hz2 rfl (by omega) _ ks.length (cellsI ks) rfl hv.out ⟨vb, 0, none⟩ 1 1 [Value.string a.kind, Value.string a.name] rfl rfl ?_ (by simp [Value.oneCell']) (by omega) (by unfold maxLen; omega) (by omega) hB w.heap.size rfl ?_; (intro j u hu; rw [add_eq]; (match j, hu with | 0, hu => (simp at hu; subst hu; exact hc0) | 1, hu => (simp at hu; subst hu; exact hc1) | _ + 2, hu => (simp at hu))); intro g1 cap1 w1 hown1 hgrow1 hat1 hlt1))
    all_goals
      go_ret
      refine ⟨_, _, _, rfl, hlen'.out.symm, ?_, ?_⟩
      · show World.ownsRow _ _ _ _ _ _ _
        rw [hlen'.out, ← hE.out]; exact hown1
      · exact (Wrote.refl B _ w).grown hv.out rfl hgrow1
  · have hlt : i < ks.length := by omega
    rcases hv.2 with ⟨rfl, h0⟩ | ⟨g, cap, cur, rfl, hbg, hg, hcap, hcm, hcs, hcur⟩
    · omega
    have hne' : vb ≠ g := fun e => hne (by simp [Value.ownBlock, e])
    by_cases hroom : ks.length + 1 ≤ cap
    · refine (insShift g ks.length cap i vb cur (cellsI ks) a w hlt hroom (by unfold maxLen at hcm; omega) hg hcs hcur (cellsI_one ks) hvb hne').mono ?_
      rintro e w1 ⟨row, rfl, hr1, hr2, hr3, hk⟩
      refine ⟨_, _, _, rfl, hlen.symm, ?_, Wrote.kept hk hg rfl hbg⟩
      rw [cellsI_ins] at hr3
      refine ⟨cellsI_len _, .inr ⟨g, cap, row, by rw [hlen], hbg, hr1, by omega, hcm, hr2, by rw [hlen]; exact hr3⟩⟩
    · refine (insGrow g ks.length cap i vb cur (cellsI ks) a w hlt hcap (by omega) (by omega) hg hcs hcur (cellsI_one ks) hvb).mono ?_
      rintro e w1 ⟨row, N, c, rfl, hr1, hr2, hr3, hr4, hr5, hx, hN⟩
      refine ⟨_, _, _, rfl, hlen.symm, ?_, Wrote.ext hx⟩
      rw [cellsI_ins] at hr5
      refine ⟨cellsI_len _, .inr ⟨N, c, row, by rw [hlen], by omega, hr1, by omega, hr4, hr2, by rw [hlen]; exact hr5⟩⟩
end Go.Proofs.YtodhhjlemmmjcaaGreat

namespace Go.Proofs.YtodhhjlemmmjcaaGreat
open Go.RowKit

attribute [local go_sem] Go.World.cell?_alloc_some
/-- Only rows and tables from B on have turned. -/
abbrev WroteTSt (B : Nat) (w w' : World) : Prop := Wrote B (fun t => t = 140 ∨ t = 143) w w'
/-- What a key put into a table leaves. -/
def PutIsSt (B : Nat) (w : World) (t : Nat) (rs : List RowSt) (x : RowSt) (e : Ending) (w' : World) : Prop :=
  ∃ (i : Nat) (pa : Option Addr) (cap n : Nat), e = .returned (.tuple #[]) ∧ Hid (StandsG cmpI RowSt.key rs x.key i) ∧ Hid (TabAtSt B w' t (.slice pa n cap) (insG rs i x)) ∧ Hid (WroteTSt B w w')

set_option maxRecDepth 100000 in
set_option maxHeartbeats 3200000 in
theorem tabPutSt (B : Nat) (u : Value) (rs : List RowSt) (a : IDd) (v : StepC) (t : Nat) (w : World) (ht : TabAtSt B w t u rs) (ha : ¬ HasK RowSt.key rs a) (hB : B ≤ w.heap.size) (hfew : rs.length + 1 ≤ 1000000) :
    Calls Tryz.prog 45 #[.pointer (some ⟨t, 0, none⟩), .agg #[.string a.kind, .string a.name], .agg #[.int .i64 v.op, .string v.r.x.id.kind, .string v.r.x.id.name, .slice v.r.a2 v.r.n2 v.r.p2, .slice v.r.a3 v.r.n3 v.r.p3]] w (PutIsSt B w t rs ⟨a, v⟩) := by
  obtain ⟨pa, cap, rfl⟩ := ownsRow_form ht.rows
  have XP := hide (((Ext.refl w).alloc (.cells #[.string a.kind, .string a.name] 52)).alloc (.cells #[.int .i64 v.op, .string v.r.x.id.kind, .string v.r.x.id.name, .slice v.r.a2 v.r.n2 v.r.p2, .slice v.r.a3 v.r.n3 v.r.p3] 60))
  have ht3 := hide (ht.ext XP.out)
  have hf := hide (tabFindSt B _ rs a t _ ht3.out)
  replace ht := hide ht
  go_enter Tryz.func45, Tryz.ntmps45
  go_wp2_with fail
  refine hf.out.mono ?_
  rintro e w1 ⟨i, b, rfl, hi, hs1, hs2, hs3, he1⟩
  obtain rfl : b = false := by
    cases b
    · rfl
    · exact absurd (hs2.out.1 rfl) ha
  have hk1 := ht3.out.ext he1.out
  have c1 := tabSt_c1 hk1.at_
  have f1 := row_frozen hk1.at_
  have k4 := ext_heap he1.out (ext_heap ((Ext.refl _).alloc _) (heap_alloc_new w _))
  have b00 := block_cell' k4 0
  have b01 := block_cell' k4 1
  simp only [List.getElem?_toArray, List.getElem?_cons_zero, List.getElem?_cons_succ] at b00 b01
  replace k4 := hide k4
  have k5 := ext_heap he1.out (heap_alloc_new (w.alloc (.cells #[.string a.kind, .string a.name] 52)) _)
  have ks : (w.alloc (.cells #[.string a.kind, .string a.name] 52)).heap.size = w.heap.size + 1 := by simp
  rw [ks] at k5
  clear ks
  have b10 := block_cell' k5 0
  have b11 := block_cell' k5 1
  have b12 := block_cell' k5 2
  have b13 := block_cell' k5 3
  have b14 := block_cell' k5 4
  simp only [List.getElem?_toArray, List.getElem?_cons_zero, List.getElem?_cons_succ] at b10 b11 b12 b13 b14
  replace k5 := hide k5
  have hin := hide (insRowSt B _ rs ⟨a, v⟩ i w1.heap.size (w1.drew.alloc (.cells #[.string a.kind, .string a.name, .int .i64 v.op, .string v.r.x.id.kind, .string v.r.x.id.name, .slice v.r.a2 v.r.n2 v.r.p2, .slice v.r.a3 v.r.n3 v.r.p3] 140)) ((hk1.ext ((Ext.refl w1).drew.alloc _)).rows) (by have := Ext.size XP.out; have := Ext.size he1.out; simp at *; omega) hi (by omega) (heap_alloc_new w1.drew _) (by
    intro e
    rcases hk1.rows.2 with ⟨h, _⟩ | ⟨g, c, cur, h, _, hg, _⟩
    · rw [h] at e; simp [Value.ownBlock] at e
    · rw [h] at e; simp [Value.ownBlock] at e
      have := (Array.getElem?_eq_some_iff.1 hg).1
      omega))
  replace hk1 := hide hk1
  go_wp2_with fail
  go_region_with (go_at_call 77; refine hin.out.mono ?_; rintro e w2 ⟨pa2, cap2, n2, rfl, hn2, hK2, hW2⟩; go_must (have ht2 := Wrote.keeps (hW2.out) (ext_heap ((Ext.refl w1).drew.alloc _) hk1.out.at_) (by decide); have f2 := row_frozen ht2; have d1 := tabSt_c1 ht2; replace ht2 := hide ht2))
  all_goals go_wp2
  all_goals
    refine ⟨rfl, .tuple #[], by simp [results, Tryz.results45], ?_⟩
    have hup := ht.out.up
    refine ⟨i, pa2, cap2, n2, rfl, hs1, ⟨tabSt_set ht2.out _, ownsRow_set hK2.out ht2.out (by decide) _, hup.insert ordI hs1.out ha, by rw [insG_len hi]; exact hfew, ht.out.base⟩, ?_⟩
    refine Wrote.setCell (p := ⟨t, 1, none⟩) ?_ ht.out.base ht2.out (.inr rfl) _
    exact (((Wrote.ext XP.out).then he1.out).then ((Ext.refl w1).drew.alloc _)).trans (hW2.out.mono (Nat.le_refl _) fun _ h => .inl h)
end Go.Proofs.YtodhhjlemmmjcaaGreat
