/-
  The table A: what its methods answer.
-/
/-
  The table A: what a key that is put into it leaves.
-/
/-
  A row is put into its place among the others (table Rs).
-/
/-
  A key is looked for among the rows (table Rs).
-/
import Derived.Test.YtfoelahabalbpaaGreatDoorJ15
import Derived.Test.YtfoelahabalbpaaGreatDoorJ1
import Derived.Test.YtfoelahabalbpaaGreatDoorJ14
import Derived.Test.YtfoelahabalbpaaGreatDoorJ13
import Derived.Test.YtfoelahabalbpaaGreatDoorJ7
import Derived.Laws.BitsAllLaws
namespace Go.Proofs.YtfoelahabalbpaaGreatDoor
open Go.RowKit

/-- A table lies in memory. -/
structure TabAtA (B : Nat) (w : World) (t : Nat) (v : Value) (rs : List RowA) : Prop where
  at_ : w.heap[t]? = some (.cells #[.func (.func 104) #[] #[], v] 235 (0, 0))
  rows : RowsA B w v rs
  up : UpG cmpS RowA.key rs
  few : rs.length ≤ 1000000
  base : B ≤ t
theorem tabA_c0 {w : World} {k : Nat} {a b : Value} {t : TypeId} {fz : Nat × Nat} (hk : w.heap[k]? = some (.cells #[a, b] t fz)) : w.cell? ⟨k, 0, none⟩ = some a := by simp [World.cell?, hk]
theorem tabA_c1 {w : World} {k : Nat} {a b : Value} {t : TypeId} {fz : Nat × Nat} (hk : w.heap[k]? = some (.cells #[a, b] t fz)) : w.cell? ⟨k, 1, none⟩ = some b := by simp [World.cell?, hk]
theorem tabA_set {w : World} {k : Nat} {a b : Value} {t : TypeId} {fz : Nat × Nat} (hk : w.heap[k]? = some (.cells #[a, b] t fz)) (v : Value) : (w.setCell ⟨k, 1, none⟩ v).heap[k]? = some (.cells #[a, v] t fz) := by
  simp [World.setCell, Array.getElem?_modify, hk]
theorem TabAtA.ext {B : Nat} {w w' : World} {t : Nat} {v : Value} {rs : List RowA} (h : TabAtA B w t v rs) (e : Ext w w') : TabAtA B w' t v rs :=
  ⟨ext_heap e h.at_, ownsRow_wrote h.rows (Wrote.ext (B := 0) (T := fun _ => False) e) id rfl, h.up, h.few, h.base⟩
theorem TabAtA.low {B B' : Nat} {w : World} {t : Nat} {v : Value} {rs : List RowA} (h : TabAtA B w t v rs) (hb : B' ≤ B) : TabAtA B' w t v rs := ⟨h.at_, ownsRow_low h.rows hb, h.up, h.few, Nat.le_trans hb h.base⟩
theorem TabAtA.wrote {B B' : Nat} {T : TypeId → Prop} {w w' : World} {t : Nat} {v : Value} {rs : List RowA} (h : TabAtA B w t v rs) (k : Wrote B' T w w') (hT : ¬ T 237 ∧ ¬ T 235) : TabAtA B w' t v rs :=
  ⟨k.keeps h.at_ hT.2, ownsRow_wrote h.rows k hT.1 rfl, h.up, h.few, h.base⟩

set_option maxRecDepth 100000 in
set_option maxHeartbeats 800000 in
theorem tabFindA (B : Nat) (v : Value) (rs : List RowA) (a : ByteArray) (t : Nat) (w : World) (ht : TabAtA B w t v rs) :
    Calls Tryz.prog 189 #[.pointer (some ⟨t, 0, none⟩), .string a] w (SrcIsA w rs a) := by
  obtain ⟨pa, cap, rfl⟩ := ownsRow_form ht.rows
  have hw : t < w.heap.size := (Array.getElem?_eq_some_iff.1 ht.at_).1
  have X2 := hide ((Ext.refl w).alloc (.cells #[.pointer (some ⟨t, 0, none⟩)] 133))
  have ht2 := hide (ht.ext X2.out)
  have c1 := X2.out.cells (tabA_c1 ht.at_)
  have c0 := hide (X2.out.cells (tabA_c0 ht.at_))
  replace ht := hide ht
  go_enter Tryz.func189, Tryz.ntmps189
  go_wp2_with fail
  refine (searchA B _ rs a w.heap.size t _ ht2.out.rows ht2.out.up ht2.out.few (by simp [go_sem]) c0.out).mono ?_
  rintro e w1 ⟨i, b, rfl, hi, hs1, hs2, hs3, he1⟩
  go_wp2
  go_ret2
  exact ⟨i, b, rfl, hi, hs1, hs2, hs3, X2.out.trans he1.out⟩

set_option maxRecDepth 100000 in
set_option maxHeartbeats 800000 in
theorem tabHasA (B : Nat) (v : Value) (rs : List RowA) (a : ByteArray) (t : Nat) (w : World) (ht : TabAtA B w t v rs) :
    Calls Tryz.prog 178 #[.pointer (some ⟨t, 0, none⟩), .string a] w fun e w' => ∃ b : Bool, e = .returned (.bool b) ∧ Hid (b = true ↔ HasK RowA.key rs a) ∧ Hid (Ext w w') := by
  have hf := hide (tabFindA B v rs a t _ (ht.ext (Ext.refl w)))
  replace ht := hide ht
  go_enter Tryz.func178, Tryz.ntmps178
  go_wp2_with fail
  refine hf.out.mono ?_
  rintro e w1 ⟨i, b, rfl, hi, hs1, hs2, hs3, he1⟩
  go_wp2
  go_ret
  exact ⟨b, rfl, hs2, (Ext.refl w).trans he1.out⟩

set_option maxRecDepth 100000 in
set_option maxHeartbeats 800000 in
theorem tabLenA (B : Nat) (v : Value) (rs : List RowA) (t : Nat) (w : World) (ht : TabAtA B w t v rs) :
    Calls Tryz.prog 177 #[.pointer (some ⟨t, 0, none⟩)] w fun e w' => e = .returned (.int .i64 rs.length) ∧ w' = w := by
  obtain ⟨pa, cap, rfl⟩ := ownsRow_form ht.rows
  have c1 := tabA_c1 ht.at_
  replace ht := hide ht
  go_enter Tryz.func177, Tryz.ntmps177
  go_wp2
  go_ret
  exact ⟨rfl, rfl⟩

set_option maxRecDepth 100000 in
set_option maxHeartbeats 800000 in
theorem tabNewA (w : World) :
    Calls Tryz.prog 175 #[.func (.func 104) #[] #[]] w fun e w' => e = .returned (.pointer (some ⟨w.heap.size, 0, none⟩)) ∧ Hid (TabAtA w.heap.size w' w.heap.size (.slice none 0 0) []) ∧ Hid (w' = w.alloc (.cells #[.func (.func 104) #[] #[], .slice none 0 0] 235)) := by
  go_enter Tryz.func175, Tryz.ntmps175
  go_wp2
  go_ret
  exact ⟨rfl, ⟨heap_alloc_new _ _, World.ownsRow_nil _ _ _ _, List.Pairwise.nil, Nat.zero_le _, Nat.le_refl _⟩, rfl⟩
end Go.Proofs.YtfoelahabalbpaaGreatDoor

namespace Go.Proofs.YtfoelahabalbpaaGreatDoor
open Go.RowKit

attribute [local go_sem] Go.World.cell?_alloc_some
/-- Only rows and tables from B on have turned. -/
abbrev WroteTA (B : Nat) (w w' : World) : Prop := Wrote B (fun t => t = 237 ∨ t = 235) w w'
/-- What a key put into a table leaves. -/
def PutIsA (B : Nat) (w : World) (t : Nat) (rs : List RowA) (x : RowA) (e : Ending) (w' : World) : Prop :=
  ∃ (i : Nat) (pa : Option Addr) (cap n : Nat), e = .returned (.tuple #[]) ∧ Hid (StandsG cmpS RowA.key rs x.key i) ∧ Hid (TabAtA B w' t (.slice pa n cap) (insG rs i x)) ∧ Hid (WroteTA B w w')

set_option maxRecDepth 100000 in
set_option maxHeartbeats 3200000 in
theorem tabPutA (B : Nat) (u : Value) (rs : List RowA) (a : ByteArray) (v : Attrd) (t : Nat) (w : World) (ht : TabAtA B w t u rs) (ha : ¬ HasK RowA.key rs a) (hB : B ≤ w.heap.size) (hfew : rs.length + 1 ≤ 1000000) :
    Calls Tryz.prog 180 #[.pointer (some ⟨t, 0, none⟩), .string a, .agg #[.string v.name, .bool v.isText, .string v.text, .int .i64 v.number]] w (PutIsA B w t rs ⟨a, v⟩) := by
  obtain ⟨pa, cap, rfl⟩ := ownsRow_form ht.rows
  have XP := hide ((Ext.refl w).alloc (.cells #[.string v.name, .bool v.isText, .string v.text, .int .i64 v.number] 56))
  have ht3 := hide (ht.ext XP.out)
  have hf := hide (tabFindA B _ rs a t _ ht3.out)
  replace ht := hide ht
  go_enter Tryz.func180, Tryz.ntmps180
  go_wp2_with fail
  refine hf.out.mono ?_
  rintro e w1 ⟨i, b, rfl, hi, hs1, hs2, hs3, he1⟩
  obtain rfl : b = false := by
    cases b
    · rfl
    · exact absurd (hs2.out.1 rfl) ha
  have hk1 := ht3.out.ext he1.out
  have c1 := tabA_c1 hk1.at_
  have f1 := row_frozen hk1.at_
  have k4 := ext_heap he1.out (heap_alloc_new w _)
  have b00 := block_cell' k4 0
  have b01 := block_cell' k4 1
  have b02 := block_cell' k4 2
  have b03 := block_cell' k4 3
  simp only [List.getElem?_toArray, List.getElem?_cons_zero, List.getElem?_cons_succ] at b00 b01 b02 b03
  replace k4 := hide k4
  have hin := hide (insRowA B _ rs ⟨a, v⟩ i w1.heap.size (w1.drew.alloc (.cells #[.string a, .string v.name, .bool v.isText, .string v.text, .int .i64 v.number] 237)) ((hk1.ext ((Ext.refl w1).drew.alloc _)).rows) (by have := Ext.size XP.out; have := Ext.size he1.out; simp at *; omega) hi (by omega) (heap_alloc_new w1.drew _) (by
    intro e
    rcases hk1.rows.2 with ⟨h, _⟩ | ⟨g, c, cur, h, _, hg, _⟩
    · rw [h] at e; simp [Value.ownBlock] at e
    · rw [h] at e; simp [Value.ownBlock] at e
      have := (Array.getElem?_eq_some_iff.1 hg).1
      omega))
  replace hk1 := hide hk1
  go_wp2_with fail
  go_region_with (go_at_call 191; refine hin.out.mono ?_; rintro e w2 ⟨pa2, cap2, n2, rfl, hn2, hK2, hW2⟩; go_must (have ht2 := Wrote.keeps (hW2.out) (ext_heap ((Ext.refl w1).drew.alloc _) hk1.out.at_) (by decide); have f2 := row_frozen ht2; have d1 := tabA_c1 ht2; replace ht2 := hide ht2))
  all_goals go_wp2
  all_goals
    refine ⟨rfl, .tuple #[], by simp [results, Tryz.results180], ?_⟩
    have hup := ht.out.up
    refine ⟨i, pa2, cap2, n2, rfl, hs1, ⟨tabA_set ht2.out _, ownsRow_set hK2.out ht2.out (by decide) _, hup.insert ordS hs1.out ha, by rw [insG_len hi]; exact hfew, ht.out.base⟩, ?_⟩
    refine Wrote.setCell (p := ⟨t, 1, none⟩) ?_ ht.out.base ht2.out (.inr rfl) _
    exact (((Wrote.ext XP.out).then he1.out).then ((Ext.refl w1).drew.alloc _)).trans (hW2.out.mono (Nat.le_refl _) fun _ h => .inl h)
end Go.Proofs.YtfoelahabalbpaaGreatDoor

namespace Go.Proofs.YtfoelahabalbpaaGreatDoor
open Go.RowKit

structure RowRs where
  key : IDd
  val : ResC
def cRowRs (x : RowRs) : List Value := [.string x.key.kind, .string x.key.name, .string x.val.x.id.kind, .string x.val.x.id.name, .slice x.val.a2 x.val.n2 x.val.p2, .slice x.val.a3 x.val.n3 x.val.p3]
theorem cRowRs_len (x : RowRs) : (cRowRs x).length = 6 := rfl
theorem cRowRs_one (x : RowRs) : ∀ u ∈ cRowRs x, u.oneCell' = true := by
  intro u hu
  simp [cRowRs] at hu
  rcases hu with rfl | rfl | rfl | rfl | rfl | rfl <;> rfl
theorem cellsRowRs_one (l : List RowRs) : ∀ u ∈ cellsG cRowRs l, u.oneCell' = true := by
  intro u hu
  obtain ⟨x, _, hx⟩ := List.mem_flatMap.1 hu
  exact cRowRs_one x u hx
theorem infoRowRs : (Tryz.prog.info? 154).map (fun i => (i.zero, i.size, i.bytes)) = some (some (.agg #[.string ⟨#[]⟩, .string ⟨#[]⟩, .string ⟨#[]⟩, .string ⟨#[]⟩, .slice none 0 0, .slice none 0 0]), 6, 112) := by kernel_rfl
def ShiftedRs (w : World) (g n c i : Nat) (xs : List Value) (x : RowRs) (e : Ending) (w' : World) : Prop :=
  ∃ row : Array Value, e = .returned (.slice (some ⟨g, 0, none⟩) (n + 1) c) ∧ w'.heap[g]? = some (.cells row 154 (0, 0)) ∧ row.size = c * 6 ∧ row.toList.take ((n + 1) * 6) = xs.take (i * 6) ++ cRowRs x ++ xs.drop (i * 6) ∧ Kept (· = g) w w'

set_option maxRecDepth 100000 in
set_option maxHeartbeats 4000000 in
theorem insShiftRs (g n c i vb : Nat) (cur : Array Value) (xs : List Value) (x : RowRs) (w : World) (hi : i < n) (hroom : n + 1 ≤ c) (hc : c ≤ 9223372036854775807)
    (hg : w.heap[g]? = some (.cells cur 154 (0, 0))) (hcs : cur.size = c * 6) (hxs : cur.toList.take (n * 6) = xs) (h1 : ∀ v ∈ xs, v.oneCell' = true)
    (hv : w.heap[vb]? = some (.cells #[.string x.key.kind, .string x.key.name, .string x.val.x.id.kind, .string x.val.x.id.name, .slice x.val.a2 x.val.n2 x.val.p2, .slice x.val.a3 x.val.n3 x.val.p3] 154 (0, 0))) (hne : vb ≠ g) :
    Calls Tryz.prog 139 #[.slice (some ⟨g, 0, none⟩) n c, .int .i64 i, .slice (some ⟨vb, 0, none⟩) 1 1] w (ShiftedRs w g n c i xs x) := by
  obtain ⟨i0, hi0, hz0, hz1, hz2⟩ := info_of infoRowRs
  have hsz : (Tryz.prog.info? 154).map (·.size) = some 6 := by rw [hi0]; simp [hz1]
  have hov : ∀ lb cb, (callFunc 168 #[.slice (some ⟨vb, 0, none⟩) 1 1, .slice (some ⟨g, (i + 1) * 6, none⟩) lb cb]).run Tryz.prog w = .ok (.value (.bool false)) w := fun lb cb => by
    rw [run_callFunc_extern Tryz.func168 (by kernel_rfl) (by kernel_rfl) (by kernel_rfl) (e := Extern.SlicesOverlaps.overlaps #[155, 155] #[4]) (by kernel_rfl),
      Lib.run_overlaps_apart w 155 4 154 Tryz.underlying155 6 (fun w => by simp [sizeOf, typeInfo, hi0, hz1]) ⟨vb, 0, none⟩ ⟨g, (i + 1) * 6, none⟩ 1 1 lb cb hne 154 154 6 (c * 6) (by simp [World.shape?, hv]) (by simp [World.shape?, hg, hcs]) (by omega) (row_frozen hv 0) (row_frozen hv 6)]
    rfl
  have hlx : xs.length = n * 6 := by rw [← hxs]; simp; omega
  have hcu : ∀ j v, (xs.drop (i * 6))[j]? = some v → w.cell? ⟨g, i * 6 + j, none⟩ = some v := fun j v hj => by
    rw [List.getElem?_drop, ← hxs, List.getElem?_take] at hj
    split at hj
    · simp only [World.cell?, hg]; simpa using hj
    · cases hj
  obtain ⟨r1, hr1⟩ : ∃ r1 : Array Value, r1 = (cur.toList.take ((i + 1) * 6) ++ xs.drop (i * 6) ++ cur.toList.drop ((i + 1) * 6 + (xs.drop (i * 6)).length)).toArray := ⟨_, rfl⟩
  have hs1 : r1.size = c * 6 := by rw [hr1]; simp; omega
  obtain ⟨W1, hW1⟩ : ∃ W1, W1 = w.drew.setRow g r1 := ⟨_, rfl⟩
  have hg1 : W1.heap[g]? = some (.cells r1 154 (0, 0)) := by rw [hW1]; exact setRow_heap w.drew g cur r1 _ (0, 0) hg
  have hv1 : W1.heap[vb]? = some (.cells #[.string x.key.kind, .string x.key.name, .string x.val.x.id.kind, .string x.val.x.id.name, .slice x.val.a2 x.val.n2 x.val.p2, .slice x.val.a3 x.val.n3 x.val.p3] 154 (0, 0)) := by rw [hW1, setRow_other w.drew g vb r1 hne]; exact hv
  have hK1 : Kept (· = g) w W1 := by rw [hW1]; exact ((Ext.refl w).drew.kept _).trans (kept_setRow w.drew g r1) (fun _ _ h => h)
  have hcp1 : ∀ ty dc sc, (Builtin.copy_ #[155, 155] ty #[.slice (some ⟨g, (i + 1) * 6, none⟩) (n - i) dc, .slice (some ⟨g, i * 6, none⟩) (n + 1 - i) sc]).run Tryz.prog w.drew = .ok (goInt ((n - i : Nat) : Int)) W1 := fun ty dc sc => by
    have hm : Nat.min (n + 1 - i) (n - i) = n - i := Nat.min_eq_right (by omega)
    have := run_copy_into (P := Tryz.prog) w.drew _ 155 ty 154 g ((i + 1) * 6) (n - i) dc ⟨g, i * 6, none⟩ (n + 1 - i) sc 6 cur _ (xs.drop (i * 6)) Tryz.underlying155 hsz hg (by rw [hm]; simp; omega) (fun j v hj => by rw [add_eq]; exact hcu j v hj) (by simp; omega) (fun v hv => h1 v (List.mem_of_mem_drop hv))
    rw [this, hm, hW1, hr1]
  obtain ⟨r2, hr2⟩ : ∃ r2 : Array Value, r2 = (r1.toList.take (i * 6) ++ cRowRs x ++ r1.toList.drop (i * 6 + 6)).toArray := ⟨_, rfl⟩
  have hs2 : r2.size = c * 6 := by rw [hr2]; simp [cRowRs]; omega
  have hcp2 : ∀ W : World, W.heap = W1.heap → ∀ ty dc, (Builtin.copy_ #[155, 155] ty #[.slice (some ⟨g, i * 6, none⟩) (n + 1 - i) dc, .slice (some ⟨vb, 0, none⟩) 1 1]).run Tryz.prog W = .ok (goInt 1) (W.setRow g r2) := fun W hW ty dc => by
    have hm : Nat.min 1 (n + 1 - i) = 1 := Nat.min_eq_left (by omega)
    have := run_copy_into (P := Tryz.prog) W _ 155 ty 154 g (i * 6) (n + 1 - i) dc ⟨vb, 0, none⟩ 1 1 6 r1 _ (cRowRs x) Tryz.underlying155 hsz (by rw [hW]; exact hg1) (by rw [hm]; rfl) (fun j v hj => by
      rw [add_eq]; simp only [World.cell?, hW, hv1]
      rw [Nat.zero_add]; simpa [cRowRs] using hj) (by rw [hs1]; simp [cRowRs]; omega) (cRowRs_one x)
    rw [this, hm, hr2]; rfl
  have hend : r2.toList.take ((n + 1) * 6) = xs.take (i * 6) ++ cRowRs x ++ xs.drop (i * 6) := by
    rw [hr2, hr1, ← hxs, show (n + 1) * 6 = n * 6 + 6 by omega, show (i + 1) * 6 = i * 6 + 6 by omega]
    exact ins_rowsG cur.toList (cRowRs x) (i * 6) (n * 6) 6 (by omega) (by simp; omega) rfl
  have hK2 : ∀ W : World, W.heap = W1.heap → W.os = W1.os → W.tape = W1.tape → W.output = W1.output → Kept (· = g) w (W.setRow g r2) ∧ (W.setRow g r2).heap[g]? = some (.cells r2 154 (0, 0)) := fun W e1 e2 e3 e4 => by
    refine ⟨⟨e2.trans hK1.os, e3.trans hK1.tape, e4.trans hK1.output, ?_, fun k hk hn => ?_⟩, setRow_heap W g r1 r2 _ (0, 0) (by rw [e1]; exact hg1)⟩
    · have := hK1.size; simp [World.setRow, e1]; exact this
    · rw [setRow_other W g k r2 hn, e1]; exact hK1.block k hk hn
  have i2 : (i : Int) ≤ (n : Int) := by omega
  have i3 : ¬ ((i : Int) = (n : Int)) := by omega
  have i4 : ¬ ((c : Int) < (n : Int) + 1) := by omega
  have i5 : (i : Int) + 1 ≤ (n : Int) + 1 := by omega
  have i6 : (i : Int) ≤ (n : Int) + 1 := by omega
  have mixed : Tryz.prog.follows Departure.mixedOrders = true := by kernel_rfl
  have hw1 : IntKind.i64.wrap ((i : Int) + 1) = (i : Int) + 1 := by rw [IntKind.wrap_i64]; omega
  have hb1 : (0 : Int) ≤ (i : Int) + 1 := by omega
  have htn : ((i : Int) + 1).toNat = i + 1 := by omega
  have hb2 : ¬ (c = i + 1) := by omega
  have hb4 : ¬ (c = i) := by omega
  clear hr1 hr2 hW1 hs1 hg1 hv1 hK1 hsz hz0 hz1 hz2 hi0 hlx hcu
  replace hg := hide hg; replace hcs := hide hcs; replace hxs := hide hxs; replace hv := hide hv; replace hend := hide hend; replace hs2 := hide hs2
  go_enter Tryz.func139, Tryz.ntmps139
  go_wp2_with (simp only [hov])
  go_region_law_o (refine step_copy_runI rfl _ _ 155 155 rfl _ _ (by simp [Act.eval, Act.put]) (by simp [Act.eval, Act.put]) (hcp1 _ _ _) ?_)
  go_wp2_with (at_builtin; refine wpList_copy_runI _ rfl _ _ 155 155 rfl _ _ rfl rfl (hcp2 _ rfl _ _) ?_)
  go_ret
  obtain ⟨k1, k2⟩ := hK2 _ rfl rfl rfl rfl
  exact ⟨r2, rfl, k2, hs2.out, hend.out, k1⟩

def GrownRs (w : World) (n i : Nat) (xs : List Value) (x : RowRs) (e : Ending) (w' : World) : Prop :=
  ∃ (row : Array Value) (N c : Nat), e = .returned (.slice (some ⟨N, 0, none⟩) (n + 1) c) ∧ w'.heap[N]? = some (.cells row 154 (0, 0)) ∧ row.size = c * 6 ∧ n + 1 ≤ c ∧ c ≤ maxLen ∧ row.toList.take ((n + 1) * 6) = xs.take (i * 6) ++ cRowRs x ++ xs.drop (i * 6) ∧ Ext w w' ∧ w.heap.size ≤ N

set_option maxRecDepth 100000 in
set_option maxHeartbeats 4000000 in
theorem insGrowRs (g n c i vb : Nat) (cur : Array Value) (xs : List Value) (x : RowRs) (w : World) (hi : i < n) (hnc : n ≤ c) (hroom : c < n + 1) (hn : n ≤ 1000000)
    (hg : w.heap[g]? = some (.cells cur 154 (0, 0))) (hcs : cur.size = c * 6) (hxs : cur.toList.take (n * 6) = xs) (h1 : ∀ v ∈ xs, v.oneCell' = true)
    (hv : w.heap[vb]? = some (.cells #[.string x.key.kind, .string x.key.name, .string x.val.x.id.kind, .string x.val.x.id.name, .slice x.val.a2 x.val.n2 x.val.p2, .slice x.val.a3 x.val.n3 x.val.p3] 154 (0, 0))) :
    Calls Tryz.prog 139 #[.slice (some ⟨g, 0, none⟩) n c, .int .i64 i, .slice (some ⟨vb, 0, none⟩) 1 1] w (GrownRs w n i xs x) := by
  obtain ⟨i0, hi0, hz0, hz1, hz2⟩ := info_of infoRowRs
  have hsz : (Tryz.prog.info? 154).map (·.size) = some 6 := by rw [hi0]; simp [hz1]
  have hlx : xs.length = n * 6 := by rw [← hxs]; simp; omega
  have hcu : ∀ j v, xs[j]? = some v → w.cell? ⟨g, j, none⟩ = some v := fun j v hj => by
    rw [← hxs, List.getElem?_take] at hj
    split at hj
    · simp only [World.cell?, hg]; simpa using hj
    · cases hj
  have hgw : g < w.heap.size := (Array.getElem?_eq_some_iff.1 hg).1
  have hvw : vb < w.heap.size := (Array.getElem?_eq_some_iff.1 hv).1
  have hold : (Builtin.firstCells i0.size i (.slice (some ⟨g, 0, none⟩) i c)).run Tryz.prog w.drew = .ok (xs.take (i * 6)).toArray w.drew := by
    rw [hz1]
    exact run_firstCells_some w.drew 6 i ⟨g, 0, none⟩ i c (xs.take (i * 6)) (by rw [List.length_take]; omega) (fun j v hj => by
      rw [add_eq]
      rw [List.getElem?_take] at hj
      split at hj
      · rw [Nat.zero_add]; exact hcu j v hj
      · cases hj)
  have hik : i + (n + 1 - i) = n + 1 := by omega
  have hkk : (n : Int) + 1 - (i : Int) = ((n + 1 - i : Nat) : Int) := by omega
  obtain ⟨G, hG⟩ : ∃ G, G = grownCap w (n + 1) c 154 := ⟨_, rfl⟩
  have hGn : n + 1 ≤ G := by rw [hG]; exact grownCap_ge w _ _ _
  have hGm : G ≤ maxLen := by rw [hG]; exact grownCap_le_maxLen w (n + 1) c _ (by unfold maxLen; omega)
  obtain ⟨N, hN⟩ : ∃ N, N = w.heap.size := ⟨_, rfl⟩
  obtain ⟨Z, hZ⟩ : ∃ Z : List Value, Z = (Builtin.zeroCells (Value.cells (.agg #[.string ⟨#[]⟩, .string ⟨#[]⟩, .string ⟨#[]⟩, .string ⟨#[]⟩, .slice none 0 0, .slice none 0 0])) (n + 1 - i) ++ Builtin.zeroCells (Value.cells (.agg #[.string ⟨#[]⟩, .string ⟨#[]⟩, .string ⟨#[]⟩, .string ⟨#[]⟩, .slice none 0 0, .slice none 0 0])) (G - (n + 1))).toList := ⟨_, rfl⟩
  have hZl : Z.length = (G - i) * 6 := by
    rw [hZ]; simp [Builtin.zeroCells, Value.cells]; omega
  obtain ⟨r1, hr1⟩ : ∃ r1 : Array Value, r1 = (xs.take (i * 6) ++ Z).toArray := ⟨_, rfl⟩
  have hs1 : r1.size = G * 6 := by rw [hr1]; simp; omega
  obtain ⟨W1, hW1⟩ : ∃ W1, W1 = w.drew.alloc (.cells r1 154) := ⟨_, rfl⟩
  have hX1 : Ext w W1 := by rw [hW1]; exact (Ext.refl w).drew.alloc _
  have hg1 : W1.heap[N]? = some (.cells r1 154 (0, 0)) := by rw [hW1, hN]; exact heap_alloc_new w.drew _
  have hrz : ∀ ty, (Builtin.append_ #[155, 3] ty #[.slice (some ⟨g, 0, none⟩) i c, .int .i64 ((n : Int) + 1 - (i : Int))]).run Tryz.prog w = .ok (.slice (some ⟨N, 0, none⟩) (n + 1) G) W1 := fun ty => by
    have h := Lib.run_append_grow_zeros w 155 3 ty 154 i0 _ .i64 .i64 Tryz.underlying155 Tryz.underlying3 hi0 hz0 (some ⟨g, 0, none⟩) i c (xs.take (i * 6)) hold (n + 1 - i) (by omega) (by omega) (by omega) (by omega) (by rw [hz2]; omega) (by rw [hz2, hik]; exact growslice_fits hroom (by omega))
    rw [hik] at h
    rw [hkk, h, hW1, hr1, hZ, hN, ← hG, arr_appG]
  obtain ⟨r2, hr2⟩ : ∃ r2 : Array Value, r2 = (r1.toList.take (i * 6) ++ cRowRs x ++ r1.toList.drop (i * 6 + 6)).toArray := ⟨_, rfl⟩
  have hs2 : r2.size = G * 6 := by rw [hr2]; simp [cRowRs]; omega
  have hcpA : ∀ W : World, W.heap = W1.heap → ∀ ty dc, (Builtin.copy_ #[155, 155] ty #[.slice (some ⟨N, i * 6, none⟩) (n + 1 - i) dc, .slice (some ⟨vb, 0, none⟩) 1 1]).run Tryz.prog W = .ok (goInt 1) (W.setRow N r2) := fun W hW ty dc => by
    have hm : Nat.min 1 (n + 1 - i) = 1 := Nat.min_eq_left (by omega)
    have hv1 : W1.heap[vb]? = some (.cells #[.string x.key.kind, .string x.key.name, .string x.val.x.id.kind, .string x.val.x.id.name, .slice x.val.a2 x.val.n2 x.val.p2, .slice x.val.a3 x.val.n3 x.val.p3] 154 (0, 0)) := ext_heap hX1 hv
    have := run_copy_into (P := Tryz.prog) W _ 155 ty 154 N (i * 6) (n + 1 - i) dc ⟨vb, 0, none⟩ 1 1 6 r1 _ (cRowRs x) Tryz.underlying155 hsz (by rw [hW]; exact hg1) (by rw [hm]; rfl) (fun j v hj => by
      rw [add_eq]; simp only [World.cell?, hW, hv1]
      rw [Nat.zero_add]; simpa [cRowRs] using hj) (by rw [hs1]; simp [cRowRs]; omega) (cRowRs_one x)
    rw [this, hm, hr2]; rfl
  have hNg : g ≠ N := by omega
  obtain ⟨r3, hr3⟩ : ∃ r3 : Array Value, r3 = (r2.toList.take ((i + 1) * 6) ++ xs.drop (i * 6) ++ r2.toList.drop ((i + 1) * 6 + (xs.drop (i * 6)).length)).toArray := ⟨_, rfl⟩
  have hs3 : r3.size = G * 6 := by rw [hr3]; simp; omega
  have hcpB : ∀ W V : World, V.heap = W1.heap → W.heap = (V.setRow N r2).heap → ∀ ty dc sc, (Builtin.copy_ #[155, 155] ty #[.slice (some ⟨N, (i + 1) * 6, none⟩) (n - i) dc, .slice (some ⟨g, i * 6, none⟩) (n - i) sc]).run Tryz.prog W = .ok (goInt ((n - i : Nat) : Int)) (W.setRow N r3) := fun W V hV hW ty dc sc => by
    have hm : Nat.min (n - i) (n - i) = n - i := Nat.min_self _
    have hgW : W.heap[N]? = some (.cells r2 154 (0, 0)) := by rw [hW]; exact setRow_heap V N r1 r2 _ (0, 0) (by rw [hV]; exact hg1)
    have hgg : W.heap[g]? = some (.cells cur 154 (0, 0)) := by rw [hW, setRow_other V N g r2 hNg, hV]; exact ext_heap hX1 hg
    have := run_copy_into (P := Tryz.prog) W _ 155 ty 154 N ((i + 1) * 6) (n - i) dc ⟨g, i * 6, none⟩ (n - i) sc 6 r2 _ (xs.drop (i * 6)) Tryz.underlying155 hsz hgW (by rw [hm]; simp; omega) (fun j v hj => by
      rw [add_eq]
      have h2 := hcu (i * 6 + j) v (by rwa [List.getElem?_drop] at hj)
      simp only [World.cell?, hg] at h2
      simp only [World.cell?, hgg]
      exact h2) (by rw [hs2]; simp; omega) (fun v hv => h1 v (List.mem_of_mem_drop hv))
    rw [this, hm, hr3]
  have hend : r3.toList.take ((n + 1) * 6) = xs.take (i * 6) ++ cRowRs x ++ xs.drop (i * 6) := by
    rw [hr3, hr2, hr1, show (n + 1) * 6 = n * 6 + 6 by omega, show (i + 1) * 6 = i * 6 + 6 by omega]
    exact grow_rowsG xs (cRowRs x) Z (i * 6) (n * 6) 6 (by omega) hlx rfl
  have hK2 : ∀ W V : World, V.heap = W1.heap → W.heap = (V.setRow N r2).heap → W.os = W1.os → W.tape = W1.tape → W.output = W1.output → Ext w (W.setRow N r3) ∧ (W.setRow N r3).heap[N]? = some (.cells r3 154 (0, 0)) := fun W V hV hW e2 e3 e4 => by
    refine ⟨⟨e2.trans (Below.os hX1), e3.trans (Below.tape hX1), e4.trans (Below.output hX1), ?_, fun k hk => ?_⟩, setRow_heap W N r2 r3 _ (0, 0) (by rw [hW]; exact setRow_heap V N r1 r2 _ (0, 0) (by rw [hV]; exact hg1))⟩
    · have := Ext.size hX1; simp [World.setRow, hW, hV]; exact this
    · rw [setRow_other W N k r3 (by omega), hW, setRow_other V N k r2 (by omega), hV]; exact Below.block hX1 k hk
  have i2 : (i : Int) ≤ (n : Int) := by omega
  have i3 : ¬ ((i : Int) = (n : Int)) := by omega
  have i4 : (c : Int) < (n : Int) + 1 := by omega
  have i5 : (i : Int) + 1 ≤ (n : Int) + 1 := by omega
  have i6 : (i : Int) ≤ (n : Int) + 1 := by omega
  have mixed : Tryz.prog.follows Departure.mixedOrders = true := by kernel_rfl
  have hw1 : IntKind.i64.wrap ((i : Int) + 1) = (i : Int) + 1 := by rw [IntKind.wrap_i64]; omega
  have hb1 : (0 : Int) ≤ (i : Int) + 1 := by omega
  have htn : ((i : Int) + 1).toNat = i + 1 := by omega
  have hb2 : ¬ (G = i + 1) := by omega
  have hb4 : ¬ (c = i) := by omega
  have hb5 : ¬ (G = i) := by omega
  have hG63 : G ≤ 9223372036854775807 := by unfold maxLen at hGm; omega
  clear hr1 hr2 hr3 hW1 hs1 hs2 hg1 hsz hz0 hz1 hz2 hi0 hlx hcu hold hik hkk hZ hZl hX1
  replace hg := hide hg; replace hcs := hide hcs; replace hxs := hide hxs; replace hv := hide hv; replace hend := hide hend; replace hs3 := hide hs3; replace hG := hide hG; replace hN := hide hN
  go_enter Tryz.func139, Tryz.ntmps139
  go_wp2_with (first
    | (at_builtin; refine Lib.wpList_append_run _ rfl _ _ _ _ rfl _ _ rfl rfl _ _ (hrz _) ?_)
    | (at_builtin; refine wpList_copy_runI _ rfl _ _ 155 155 rfl _ _ rfl rfl (hcpA _ rfl _ _) ?_))
  go_region_law_o (refine step_copy_runI rfl _ _ 155 155 rfl (.slice (some ⟨N, (i + 1) * 6, none⟩) (n - i) (G - (i + 1))) (.slice (some ⟨g, i * 6, none⟩) (n - i) (c - i)) (by simp [Act.eval, Act.put]) (by simp [Act.eval, Act.put]) (hcpB (W1.setRow N r2).drew W1 rfl rfl 3 (G - (i + 1)) (c - i)) ?_)
  go_wp2
  go_ret
  obtain ⟨k1, k2⟩ := hK2 (W1.setRow N r2).drew W1 rfl rfl rfl rfl rfl
  exact ⟨r3, N, G, rfl, k2, hs3.out, hGn, hGm, hend.out, k1, by rw [hN.out]; exact Nat.le_refl _⟩

/-- Only rows from B on have turned. -/
abbrev WroteKRs (B : Nat) (w w' : World) : Prop := Wrote B (· = 154) w w'
/-- The rows of a table, in a row of our own. -/
abbrev RowsRs (B : Nat) (w : World) (v : Value) (rs : List RowRs) : Prop := w.ownsRow B 154 6 v rs.length (cellsG cRowRs rs)
/-- What is answered when a row was put into its place. -/
def InsIsRs (B : Nat) (w : World) (rs : List RowRs) (e : Ending) (w' : World) : Prop :=
  ∃ (pa : Option Addr) (cap n : Nat), e = .returned (.slice pa n cap) ∧ Hid (n = rs.length) ∧ Hid (RowsRs B w' (.slice pa n cap) rs) ∧ Hid (WroteKRs B w w')

set_option maxRecDepth 100000 in
set_option maxHeartbeats 1600000 in
theorem insRowRs (B : Nat) (v : Value) (rs : List RowRs) (x : RowRs) (i vb : Nat) (w : World) (hv : RowsRs B w v rs) (hB : B ≤ w.heap.size) (hi : i ≤ rs.length) (hn : rs.length ≤ 1000000)
    (hvb : w.heap[vb]? = some (.cells #[.string x.key.kind, .string x.key.name, .string x.val.x.id.kind, .string x.val.x.id.name, .slice x.val.a2 x.val.n2 x.val.p2, .slice x.val.a3 x.val.n3 x.val.p3] 154 (0, 0))) (hne : some vb ≠ v.ownBlock) :
    Calls Tryz.prog 139 #[v, .int .i64 i, .slice (some ⟨vb, 0, none⟩) 1 1] w (InsIsRs B w (insG rs i x)) := by
  have hlen := insG_len (a := x) hi
  by_cases hin : i = rs.length
  · subst hin
    obtain ⟨i0, hi0, hz0, hz1, hz2⟩ := info_of infoRowRs
    obtain ⟨pa, cap, rfl⟩ := ownsRow_form hv
    have hcap : rs.length ≤ cap := by
      rcases hv.2 with ⟨h, h'⟩ | ⟨g, c, cur, h, _, _, h', _⟩
      · omega
      · cases h; exact h'
    have hE : Hid (cellsG cRowRs rs ++ cRowRs x = cellsG cRowRs (insG rs rs.length x)) := by
      show _ = _
      simp [cellsG, insG]
    have hlen' : Hid ((insG rs rs.length x).length = rs.length + 1) := hlen
    have hcell : Hid (∀ j u, (cRowRs x)[j]? = some u → w.cell? ((⟨vb, 0, none⟩ : Addr).add j) = some u) := fun j u hu => by
      rw [add_eq]; simp only [World.cell?, hvb]; rw [Nat.zero_add]; simpa [cRowRs] using hu
    clear hlen
    replace hv := hide hv; replace hi0 := hide hi0; replace hvb := hide hvb; replace hne := hide hne
    go_enter Tryz.func139, Tryz.ntmps139
    go_wp2_with (at_builtin; go_must (refine wpList_append_lies _ rfl _ _ 155 rfl B 154 i0 (.agg #[.string ⟨#[]⟩, .string ⟨#[]⟩, .string ⟨#[]⟩, .string ⟨#[]⟩, .slice none 0 0, .slice none 0 0]) 6 112 Tryz.underlying155 hi0.out hz0 hz1 hz2 rfl (by omega) _ rs.length (cellsG cRowRs rs) rfl hv.out ⟨vb, 0, none⟩ 1 1 (cRowRs x) rfl rfl hcell.out (cRowRs_one x) (by omega) (by unfold maxLen; omega) (by omega) hB w.heap.size rfl ?_; intro g1 cap1 w1 hown1 hgrow1 hat1 hlt1))
    all_goals
      go_ret
      refine ⟨_, _, _, rfl, hlen'.out.symm, ?_, ?_⟩
      · show World.ownsRow _ _ _ _ _ _ _
        rw [hlen'.out, ← hE.out]; exact hown1
      · exact (Wrote.refl B _ w).grown hv.out rfl hgrow1
  · have hlt : i < rs.length := by omega
    rcases hv.2 with ⟨rfl, h0⟩ | ⟨g, cap, cur, rfl, hbg, hg, hcap, hcm, hcs, hcur⟩
    · omega
    have hne' : vb ≠ g := fun e => hne (by simp [Value.ownBlock, e])
    by_cases hroom : rs.length + 1 ≤ cap
    · refine (insShiftRs g rs.length cap i vb cur (cellsG cRowRs rs) x w hlt hroom (by unfold maxLen at hcm; omega) hg hcs hcur (cellsRowRs_one rs) hvb hne').mono ?_
      rintro e w1 ⟨row, rfl, hr1, hr2, hr3, hk⟩
      refine ⟨_, _, _, rfl, hlen.symm, ?_, Wrote.keptG hk hg rfl hbg⟩
      rw [cellsG_ins cRowRs_len] at hr3
      refine ⟨cellsG_len cRowRs_len _, .inr ⟨g, cap, row, by rw [hlen], hbg, hr1, by omega, hcm, hr2, by rw [hlen]; exact hr3⟩⟩
    · refine (insGrowRs g rs.length cap i vb cur (cellsG cRowRs rs) x w hlt hcap (by omega) (by omega) hg hcs hcur (cellsRowRs_one rs) hvb).mono ?_
      rintro e w1 ⟨row, N, c, rfl, hr1, hr2, hr3, hr4, hr5, hx, hN⟩
      refine ⟨_, _, _, rfl, hlen.symm, ?_, Wrote.ext hx⟩
      rw [cellsG_ins cRowRs_len] at hr5
      refine ⟨cellsG_len cRowRs_len _, .inr ⟨N, c, row, by rw [hlen], by omega, hr1, by omega, hr4, hr2, by rw [hlen]; exact hr5⟩⟩
end Go.Proofs.YtfoelahabalbpaaGreatDoor

namespace Go.Proofs.YtfoelahabalbpaaGreatDoor
open Go.RowKit

theorem rowsRs_in {B : Nat} {w : World} {pa : Option Addr} {n cap : Nat} {rs : List RowRs} (h : RowsRs B w (.slice pa n cap) rs) : n = rs.length ∧ n ≤ cap ∧ cap ≤ maxLen ∧ (rs = [] ∨ ∃ g, pa = some ⟨g, 0, none⟩ ∧ ∀ (i : Nat) x, rs[i]? = some x → ∀ r u, (cRowRs x)[r]? = some u → w.cell? ⟨g, i * 6 + r, none⟩ = some u) := by
  rcases h.2 with ⟨h1, h2⟩ | ⟨g, c, cur, h1, _, hg, hc, hm, hs, ht⟩
  · cases h1
    exact ⟨h2.symm, Nat.le_refl _, by unfold maxLen; omega, .inl (List.eq_nil_of_length_eq_zero h2)⟩
  · cases h1
    refine ⟨rfl, hc, hm, .inr ⟨g, rfl, fun i x hx r u hu => ?_⟩⟩
    have hlt : i < rs.length := (List.getElem?_eq_some_iff.1 hx).1
    have hr : r < 6 := (List.getElem?_eq_some_iff.1 hu).1
    have h1 : (cellsG cRowRs rs)[i * 6 + r]? = (cRowRs x)[r]? := flat_get cRowRs_len hx hr
    rw [← hu, ← h1, ← ht, List.getElem?_take, if_pos (by omega)]
    simp [World.cell?, hg]

set_option maxRecDepth 100000 in
set_option maxHeartbeats 800000 in
theorem findCmpRs (x : RowRs) (a : IDd) (p t : Nat) (w : World) (hp : w.cell? ⟨p, 0, none⟩ = some (.pointer (some ⟨t, 0, none⟩))) (ht : w.cell? ⟨t, 0, none⟩ = some (.func (.func 59) #[] #[])) :
    Calls Tryz.prog 141 #[.agg #[.string x.key.kind, .string x.key.name, .string x.val.x.id.kind, .string x.val.x.id.name, .slice x.val.a2 x.val.n2 x.val.p2, .slice x.val.a3 x.val.n3 x.val.p3], .agg #[.string a.kind, .string a.name], .pointer (some ⟨p, 0, none⟩)] w fun e w' => e = .returned (.int .i64 (cmpI x.key a)) ∧ Ext w w' := by
  have hpl : p < w.heap.size := World.block_lt_of_cell? w _ hp
  have htl : t < w.heap.size := World.block_lt_of_cell? w _ ht
  have g0 := World.cell?_alloc_past (w := w.alloc (.cells #[.string x.key.kind, .string x.key.name, .string x.val.x.id.kind, .string x.val.x.id.name, .slice x.val.a2 x.val.n2 x.val.p2, .slice x.val.a3 x.val.n3 x.val.p3] 154)) (.cells #[.string a.kind, .string a.name] 31) p 0 (by simp; omega)
  have g1 := World.cell?_alloc_past (w := w.alloc (.cells #[.string x.key.kind, .string x.key.name, .string x.val.x.id.kind, .string x.val.x.id.name, .slice x.val.a2 x.val.n2 x.val.p2, .slice x.val.a3 x.val.n3 x.val.p3] 154)) (.cells #[.string a.kind, .string a.name] 31) t 0 (by simp; omega)
  rw [World.cell?_alloc_past (w := w) _ p 0 hpl, hp] at g0
  rw [World.cell?_alloc_past (w := w) _ t 0 htl, ht] at g1
  replace hp := hide hp; replace ht := hide ht; replace hpl := hide hpl; replace htl := hide htl
  go_enter Tryz.func141, Tryz.ntmps141
  go_wp2_with fail
  go_region_held3 (fun w' => w'.cell? ⟨p, 0, none⟩ = some (.pointer (some ⟨t, 0, none⟩)) ∧ w'.cell? ⟨t, 0, none⟩ = some (.func (.func 59) #[] #[]) ∧ w'.cell? ⟨w.heap.size, 0, none⟩ = some (.string x.key.kind) ∧ w'.cell? ⟨w.heap.size, 1, none⟩ = some (.string x.key.name) ∧ w'.cell? ⟨w.heap.size + 1, 0, none⟩ = some (.string a.kind) ∧ w'.cell? ⟨w.heap.size + 1, 1, none⟩ = some (.string a.name)) (go_keep)
    ((go_at_call 59; refine (compareIDs x.key a _).mono ?_; rintro e w1 ⟨rfl, he1⟩; go_must (have q0 := he1.cells (p := ⟨p, 0, none⟩) (by simp [g0]; rfl); have q1 := he1.cells (p := ⟨t, 0, none⟩) (by simp [g1]; rfl); have qa0 := he1.cells (p := ⟨w.heap.size, 0, none⟩) (v := .string x.key.kind) (by simp [go_sem]); have qa1 := he1.cells (p := ⟨w.heap.size, 1, none⟩) (v := .string x.key.name) (by simp [go_sem]); have qb0 := he1.cells (p := ⟨w.heap.size + 1, 0, none⟩) (v := .string a.kind) (by simp [go_sem]); have qb1 := he1.cells (p := ⟨w.heap.size + 1, 1, none⟩) (v := .string a.name) (by simp [go_sem])); replace he1 := hide he1))
  go_wp2
  go_ret
  exact ⟨rfl, (((Ext.refl _).alloc _).alloc _).drew.trans he1.out⟩

/-- What the look for a key answers. -/
def SrcIsRs (w : World) (rs : List RowRs) (a : IDd) (e : Ending) (w' : World) : Prop :=
  ∃ (i : Nat) (b : Bool), e = .returned (.tuple #[.int .i64 i, .bool b]) ∧ i ≤ rs.length ∧ Hid (StandsG cmpI RowRs.key rs a i) ∧ Hid (b = true ↔ HasK RowRs.key rs a) ∧ Hid (b = true → ∃ x, rs[i]? = some x ∧ x.key = a) ∧ Hid (Ext w w')

set_option maxRecDepth 100000 in
set_option maxHeartbeats 3200000 in
theorem searchRs (B : Nat) (v : Value) (rs : List RowRs) (a : IDd) (p t : Nat) (w : World) (hv : RowsRs B w v rs) (hu : UpG cmpI RowRs.key rs) (hn : rs.length ≤ 1000000)
    (hp : w.cell? ⟨p, 0, none⟩ = some (.pointer (some ⟨t, 0, none⟩))) (ht : w.cell? ⟨t, 0, none⟩ = some (.func (.func 59) #[] #[])) :
    Calls Tryz.prog 140 #[v, .agg #[.string a.kind, .string a.name], .func (.func 141) #[] #[.pointer (some ⟨p, 0, none⟩)]] w (SrcIsRs w rs a) := by
  obtain ⟨pa, cap, rfl⟩ := ownsRow_form hv
  obtain ⟨-, hc1, hc2, hin⟩ := rowsRs_in hv
  unfold maxLen at hc2
  replace hin := hide hin; replace hp := hide hp; replace ht := hide ht; replace hv := hide hv; replace hu := hide hu
  go_enter Tryz.func140, Tryz.ntmps140
  go_wp2_with fail
  go_loopw [9, 10] (fun i j wr => ∃ i' j' : Nat, i' ≤ j' ∧ j' ≤ rs.length ∧ i = .int .i64 i' ∧ j = .int .i64 j' ∧ Hid (∀ (k : Nat) x, k < i' → rs[k]? = some x → cmpI x.key a < 0) ∧ Hid (∀ (k : Nat) x, j' ≤ k → rs[k]? = some x → 0 ≤ cmpI x.key a) ∧ Hid (Ext (w.alloc (.cells #[.string a.kind, .string a.name] 31)) wr)) (fun i j _ => (intOf j).toNat - (intOf i).toNat)
  case atStart => exact ⟨0, rs.length, Nat.zero_le _, Nat.le_refl _, rfl, rfl, fun _ _ h => absurd h (by omega), fun k x h hx => absurd (List.getElem?_eq_some_iff.1 hx).1 (by omega), Ext.refl _⟩
  case round =>
    obtain ⟨i, j, hij, hj, rfl, rfl, hA, hB, hx⟩ := hrel
    have X0 := hide (((Ext.refl w).alloc _).trans hx.out)
    have m0 := hx.out.cells (p := ⟨w.heap.size, 0, none⟩) (v := .string a.kind) (by simp [go_sem])
    have m1 := hx.out.cells (p := ⟨w.heap.size, 1, none⟩) (v := .string a.name) (by simp [go_sem])
    have hp1 := hide (X0.out.drew.cells hp.out)
    have ht1 := hide (X0.out.drew.cells ht.out)
    by_cases hlt : i < j
    · obtain ⟨h, hh⟩ : ∃ h, h = (i + j) / 2 := ⟨_, rfl⟩
      have e1 : IntKind.u64.wrap ((i : Int) + (j : Int)) = ((i + j : Nat) : Int) := by rw [IntKind.wrap_u64]; omega
      obtain ⟨x, hxh⟩ := some_of_lt (show h < rs.length by omega)
      rcases hin.out with hnil | ⟨g, rfl, hI⟩
      · rw [hnil] at hj; simp at hj; omega
      replace hI := hI h x hxh
      have k0 := X0.out.cells (hI 0 _ rfl)
      have k1 := X0.out.cells (hI 1 _ rfl)
      have k2 := X0.out.cells (hI 2 _ rfl)
      have k3 := X0.out.cells (hI 3 _ rfl)
      have k4 := X0.out.cells (hI 4 _ rfl)
      have k5 := X0.out.cells (hI 5 _ rfl)
      rw [Nat.add_zero] at k0
      have h2 : (h : Int) < (rs.length : Int) := by omega
      have h3 : (0 : Int) ≤ (h : Int) := by omega
      have h4 : ((i : Int) + (j : Int)) / 2 = (h : Int) := by omega
      have hlo : i ≤ h := by omega
      have hhi : h < j := by omega
      replace hI := hide hI; replace hxh := hide hxh; replace hh := hide hh
      go_wp2_with fail
      go_region_held3 (fun w' => w'.cell? ⟨g, h * 6, none⟩ = some (.string x.key.kind) ∧ w'.cell? ⟨g, h * 6 + 1, none⟩ = some (.string x.key.name) ∧ w'.cell? ⟨g, h * 6 + 2, none⟩ = some (.string x.val.x.id.kind) ∧ w'.cell? ⟨g, h * 6 + 3, none⟩ = some (.string x.val.x.id.name) ∧ w'.cell? ⟨g, h * 6 + 4, none⟩ = some (.slice x.val.a2 x.val.n2 x.val.p2) ∧ w'.cell? ⟨g, h * 6 + 5, none⟩ = some (.slice x.val.a3 x.val.n3 x.val.p3) ∧ w'.cell? ⟨w.heap.size, 0, none⟩ = some (.string a.kind) ∧ w'.cell? ⟨w.heap.size, 1, none⟩ = some (.string a.name)) (go_keep)
        ((go_at_call 141; refine (findCmpRs x a p t wr.drew hp1.out ht1.out).mono ?_; rintro e w1 ⟨rfl, he1⟩; go_must (have qr0 := he1.cells (p := ⟨g, h * 6, none⟩) (v := .string x.key.kind) (by simpa using k0); have qr1 := he1.cells (p := ⟨g, h * 6 + 1, none⟩) (v := .string x.key.name) (by simpa using k1); have qr2 := he1.cells (p := ⟨g, h * 6 + 2, none⟩) (v := .string x.val.x.id.kind) (by simpa using k2); have qr3 := he1.cells (p := ⟨g, h * 6 + 3, none⟩) (v := .string x.val.x.id.name) (by simpa using k3); have qr4 := he1.cells (p := ⟨g, h * 6 + 4, none⟩) (v := .slice x.val.a2 x.val.n2 x.val.p2) (by simpa using k4); have qr5 := he1.cells (p := ⟨g, h * 6 + 5, none⟩) (v := .slice x.val.a3 x.val.n3 x.val.p3) (by simpa using k5); have qk0 := he1.cells (p := ⟨w.heap.size, 0, none⟩) (v := .string a.kind) (by simpa using m0); have qk1 := he1.cells (p := ⟨w.heap.size, 1, none⟩) (v := .string a.name) (by simpa using m1)); replace he1 := hide he1))
      by_cases hb : cmpI x.key a < 0
      · go_wp2_with fail
        go_roundw
        case rel => exact ⟨h + 1, j, by omega, hj, by go_num, rfl, hu.out.stands ordI hxh.out hb, hB, hx.out.drew.trans he1.out⟩
        case measure => simp [intOf]; omega
      · have hb' : ¬ cmpI x.key a < 0 := hb
        replace hb' := hide hb'
        go_wp2_with fail
        go_roundw
        case rel => exact ⟨i, h, by omega, by omega, rfl, rfl, hA, hu.out.stands' ordI hxh.out (by first | exact hb'.out | exact Int.not_lt.2 hb'.out), hx.out.drew.trans he1.out⟩
        case measure => simp [intOf]; omega
    · obtain rfl : i = j := by omega
      have hst : Hid (StandsG cmpI RowRs.key rs a i) := ⟨hj, hA.out, fun k x hk hx => Int.not_lt.2 (hB.out k x hk hx)⟩
      by_cases hend : i < rs.length
      · obtain ⟨x, hxh⟩ := some_of_lt hend
        rcases hin.out with hnil | ⟨g, rfl, hI⟩
        · rw [hnil] at hend; simp at hend
        replace hI := hI i x hxh
        have k0 := X0.out.cells (hI 0 _ rfl)
        have k1 := X0.out.cells (hI 1 _ rfl)
        have k2 := X0.out.cells (hI 2 _ rfl)
        have k3 := X0.out.cells (hI 3 _ rfl)
        have k4 := X0.out.cells (hI 4 _ rfl)
        have k5 := X0.out.cells (hI 5 _ rfl)
        rw [Nat.add_zero] at k0
        have h2 : (i : Int) < (rs.length : Int) := by omega
        have h3 : (0 : Int) ≤ (i : Int) := by omega
        replace hI := hide hI; replace hxh := hide hxh
        go_wp2_with fail
        go_region_held3 (fun w' => w'.cell? ⟨g, i * 6, none⟩ = some (.string x.key.kind) ∧ w'.cell? ⟨g, i * 6 + 1, none⟩ = some (.string x.key.name) ∧ w'.cell? ⟨g, i * 6 + 2, none⟩ = some (.string x.val.x.id.kind) ∧ w'.cell? ⟨g, i * 6 + 3, none⟩ = some (.string x.val.x.id.name) ∧ w'.cell? ⟨g, i * 6 + 4, none⟩ = some (.slice x.val.a2 x.val.n2 x.val.p2) ∧ w'.cell? ⟨g, i * 6 + 5, none⟩ = some (.slice x.val.a3 x.val.n3 x.val.p3) ∧ w'.cell? ⟨w.heap.size, 0, none⟩ = some (.string a.kind) ∧ w'.cell? ⟨w.heap.size, 1, none⟩ = some (.string a.name)) (go_keep)
          ((go_at_call 141; refine (findCmpRs x a p t wr.drew hp1.out ht1.out).mono ?_; rintro e w1 ⟨rfl, he1⟩; go_must (have qr0 := he1.cells (p := ⟨g, i * 6, none⟩) (v := .string x.key.kind) (by simpa using k0); have qr1 := he1.cells (p := ⟨g, i * 6 + 1, none⟩) (v := .string x.key.name) (by simpa using k1); have qr2 := he1.cells (p := ⟨g, i * 6 + 2, none⟩) (v := .string x.val.x.id.kind) (by simpa using k2); have qr3 := he1.cells (p := ⟨g, i * 6 + 3, none⟩) (v := .string x.val.x.id.name) (by simpa using k3); have qr4 := he1.cells (p := ⟨g, i * 6 + 4, none⟩) (v := .slice x.val.a2 x.val.n2 x.val.p2) (by simpa using k4); have qr5 := he1.cells (p := ⟨g, i * 6 + 5, none⟩) (v := .slice x.val.a3 x.val.n3 x.val.p3) (by simpa using k5); have qk0 := he1.cells (p := ⟨w.heap.size, 0, none⟩) (v := .string a.kind) (by simpa using m0); have qk1 := he1.cells (p := ⟨w.heap.size, 1, none⟩) (v := .string a.name) (by simpa using m1)); replace he1 := hide he1))
        go_wp2
        go_ret2
        refine ⟨i, cmpI x.key a == 0, rfl, hj, hst, ?_, ?_, X0.out.drew.trans he1.out⟩
        · show _ ↔ _
          constructor
          · intro h; exact StandsG.there ordI hxh.out (by simpa using h)
          · intro h
            by_cases e : cmpI x.key a = 0
            · simpa using e
            · exact absurd h (hst.out.gone ordI hu.out fun y hy => by rw [hxh.out] at hy; cases hy; exact e)
        · intro h
          exact ⟨x, hxh.out, ordI.zero.1 (by simpa using h)⟩
      · have h2 : ¬ (i : Int) < (rs.length : Int) := by omega
        go_wp2_with fail
        go_quiet (fail)
        go_wp2
        go_ret2
        refine ⟨i, false, rfl, hj, hst, ?_, ?_, X0.out.drewN _⟩
        · show _ ↔ _
          constructor
          · intro h; cases h
          · intro h
            exact absurd h (hst.out.gone ordI hu.out fun y hy => absurd (List.getElem?_eq_some_iff.1 hy).1 (by omega))
        · intro h; cases h
end Go.Proofs.YtfoelahabalbpaaGreatDoor
