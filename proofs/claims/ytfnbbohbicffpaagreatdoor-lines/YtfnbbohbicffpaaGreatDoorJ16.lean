/-
  A row is put into its place among the others (table E).
-/
/-
  A key is looked for among the rows (table E).
-/
import Derived.Test.YtfnbbohbicffpaaGreatDoorJ8
import Derived.Test.YtfnbbohbicffpaaGreatDoorJ15
import Derived.Test.YtfnbbohbicffpaaGreatDoorJ10
import Derived.Laws.BitsAllLaws
namespace Go.Proofs.YtfnbbohbicffpaaGreatDoor
open Go.RowKit

structure RowE where
  key : IDd
  val : Nat
def cRowE (x : RowE) : List Value := [.string x.key.kind, .string x.key.name, .pointer (some ⟨x.val, 0, none⟩)]
theorem cRowE_len (x : RowE) : (cRowE x).length = 3 := rfl
theorem cRowE_one (x : RowE) : ∀ u ∈ cRowE x, u.oneCell' = true := by
  intro u hu
  simp [cRowE] at hu
  rcases hu with rfl | rfl | rfl <;> rfl
theorem cellsRowE_one (l : List RowE) : ∀ u ∈ cellsG cRowE l, u.oneCell' = true := by
  intro u hu
  obtain ⟨x, _, hx⟩ := List.mem_flatMap.1 hu
  exact cRowE_one x u hx
theorem infoRowE : (Tryz.prog.info? 132).map (fun i => (i.zero, i.size, i.bytes)) = some (some (.agg #[.string ⟨#[]⟩, .string ⟨#[]⟩, .pointer none]), 3, 40) := by kernel_rfl
def ShiftedE (w : World) (g n c i : Nat) (xs : List Value) (x : RowE) (e : Ending) (w' : World) : Prop :=
  ∃ row : Array Value, e = .returned (.slice (some ⟨g, 0, none⟩) (n + 1) c) ∧ w'.heap[g]? = some (.cells row 132 (0, 0)) ∧ row.size = c * 3 ∧ row.toList.take ((n + 1) * 3) = xs.take (i * 3) ++ cRowE x ++ xs.drop (i * 3) ∧ Kept (· = g) w w'

set_option maxRecDepth 100000 in
set_option maxHeartbeats 4000000 in
theorem insShiftE (g n c i vb : Nat) (cur : Array Value) (xs : List Value) (x : RowE) (w : World) (hi : i < n) (hroom : n + 1 ≤ c) (hc : c ≤ 9223372036854775807)
    (hg : w.heap[g]? = some (.cells cur 132 (0, 0))) (hcs : cur.size = c * 3) (hxs : cur.toList.take (n * 3) = xs) (h1 : ∀ v ∈ xs, v.oneCell' = true)
    (hv : w.heap[vb]? = some (.cells #[.string x.key.kind, .string x.key.name, .pointer (some ⟨x.val, 0, none⟩)] 132 (0, 0))) (hne : vb ≠ g) :
    Calls Tryz.prog 121 #[.slice (some ⟨g, 0, none⟩) n c, .int .i64 i, .slice (some ⟨vb, 0, none⟩) 1 1] w (ShiftedE w g n c i xs x) := by
  obtain ⟨i0, hi0, hz0, hz1, hz2⟩ := info_of infoRowE
  have hsz : (Tryz.prog.info? 132).map (·.size) = some 3 := by rw [hi0]; simp [hz1]
  have hov : ∀ lb cb, (callFunc 134 #[.slice (some ⟨vb, 0, none⟩) 1 1, .slice (some ⟨g, (i + 1) * 3, none⟩) lb cb]).run Tryz.prog w = .ok (.value (.bool false)) w := fun lb cb => by
    rw [run_callFunc_extern Tryz.func134 (by kernel_rfl) (by kernel_rfl) (by kernel_rfl) (e := Extern.SlicesOverlaps.overlaps #[118, 118] #[4]) (by kernel_rfl),
      Lib.run_overlaps_apart w 118 4 132 Tryz.underlying118 3 (fun w => by simp [sizeOf, typeInfo, hi0, hz1]) ⟨vb, 0, none⟩ ⟨g, (i + 1) * 3, none⟩ 1 1 lb cb hne 132 132 3 (c * 3) (by simp [World.shape?, hv]) (by simp [World.shape?, hg, hcs]) (by omega) (row_frozen hv 0) (row_frozen hv 3)]
    rfl
  have hlx : xs.length = n * 3 := by rw [← hxs]; simp; omega
  have hcu : ∀ j v, (xs.drop (i * 3))[j]? = some v → w.cell? ⟨g, i * 3 + j, none⟩ = some v := fun j v hj => by
    rw [List.getElem?_drop, ← hxs, List.getElem?_take] at hj
    split at hj
    · simp only [World.cell?, hg]; simpa using hj
    · cases hj
  obtain ⟨r1, hr1⟩ : ∃ r1 : Array Value, r1 = (cur.toList.take ((i + 1) * 3) ++ xs.drop (i * 3) ++ cur.toList.drop ((i + 1) * 3 + (xs.drop (i * 3)).length)).toArray := ⟨_, rfl⟩
  have hs1 : r1.size = c * 3 := by rw [hr1]; simp; omega
  obtain ⟨W1, hW1⟩ : ∃ W1, W1 = w.drew.setRow g r1 := ⟨_, rfl⟩
  have hg1 : W1.heap[g]? = some (.cells r1 132 (0, 0)) := by rw [hW1]; exact setRow_heap w.drew g cur r1 _ (0, 0) hg
  have hv1 : W1.heap[vb]? = some (.cells #[.string x.key.kind, .string x.key.name, .pointer (some ⟨x.val, 0, none⟩)] 132 (0, 0)) := by rw [hW1, setRow_other w.drew g vb r1 hne]; exact hv
  have hK1 : Kept (· = g) w W1 := by rw [hW1]; exact ((Ext.refl w).drew.kept _).trans (kept_setRow w.drew g r1) (fun _ _ h => h)
  have hcp1 : ∀ ty dc sc, (Builtin.copy_ #[118, 118] ty #[.slice (some ⟨g, (i + 1) * 3, none⟩) (n - i) dc, .slice (some ⟨g, i * 3, none⟩) (n + 1 - i) sc]).run Tryz.prog w.drew = .ok (goInt ((n - i : Nat) : Int)) W1 := fun ty dc sc => by
    have hm : Nat.min (n + 1 - i) (n - i) = n - i := Nat.min_eq_right (by omega)
    have := run_copy_into (P := Tryz.prog) w.drew _ 118 ty 132 g ((i + 1) * 3) (n - i) dc ⟨g, i * 3, none⟩ (n + 1 - i) sc 3 cur _ (xs.drop (i * 3)) Tryz.underlying118 hsz hg (by rw [hm]; simp; omega) (fun j v hj => by rw [add_eq]; exact hcu j v hj) (by simp; omega) (fun v hv => h1 v (List.mem_of_mem_drop hv))
    rw [this, hm, hW1, hr1]
  obtain ⟨r2, hr2⟩ : ∃ r2 : Array Value, r2 = (r1.toList.take (i * 3) ++ cRowE x ++ r1.toList.drop (i * 3 + 3)).toArray := ⟨_, rfl⟩
  have hs2 : r2.size = c * 3 := by rw [hr2]; simp [cRowE]; omega
  have hcp2 : ∀ W : World, W.heap = W1.heap → ∀ ty dc, (Builtin.copy_ #[118, 118] ty #[.slice (some ⟨g, i * 3, none⟩) (n + 1 - i) dc, .slice (some ⟨vb, 0, none⟩) 1 1]).run Tryz.prog W = .ok (goInt 1) (W.setRow g r2) := fun W hW ty dc => by
    have hm : Nat.min 1 (n + 1 - i) = 1 := Nat.min_eq_left (by omega)
    have := run_copy_into (P := Tryz.prog) W _ 118 ty 132 g (i * 3) (n + 1 - i) dc ⟨vb, 0, none⟩ 1 1 3 r1 _ (cRowE x) Tryz.underlying118 hsz (by rw [hW]; exact hg1) (by rw [hm]; rfl) (fun j v hj => by
      rw [add_eq]; simp only [World.cell?, hW, hv1]
      rw [Nat.zero_add]; simpa [cRowE] using hj) (by rw [hs1]; simp [cRowE]; omega) (cRowE_one x)
    rw [this, hm, hr2]; rfl
  have hend : r2.toList.take ((n + 1) * 3) = xs.take (i * 3) ++ cRowE x ++ xs.drop (i * 3) := by
    rw [hr2, hr1, ← hxs, show (n + 1) * 3 = n * 3 + 3 by omega, show (i + 1) * 3 = i * 3 + 3 by omega]
    exact ins_rowsG cur.toList (cRowE x) (i * 3) (n * 3) 3 (by omega) (by simp; omega) rfl
  have hK2 : ∀ W : World, W.heap = W1.heap → W.os = W1.os → W.tape = W1.tape → W.output = W1.output → Kept (· = g) w (W.setRow g r2) ∧ (W.setRow g r2).heap[g]? = some (.cells r2 132 (0, 0)) := fun W e1 e2 e3 e4 => by
    refine ⟨⟨e2.trans hK1.os, e3.trans hK1.tape, e4.trans hK1.output, ?_, fun k hk hn => ?_⟩, setRow_heap W g r1 r2 _ (0, 0) (by rw [e1]; exact hg1)⟩
    · have := hK1.size; simp [World.setRow, e1]; exact this
    · rw [setRow_other W g k r2 hn, e1]; exact hK1.block k hk hn
  have i2 : (i : Int) ≤ (n : Int) := by omega
  have i3 : ¬ ((i : Int) = (n : Int)) := by omega
  have i4 : ¬ ((c : Int) < (n : Int) + 1) := by omega
  have i5 : (i : Int) + 1 ≤ (n : Int) + 1 := by omega
  have i6 : (i : Int) ≤ (n : Int) + 1 := by omega
  have mixed : Tryz.prog.follows Departure.mixedOrders = true := by kernel_rfl
  have hw1 : IntKind.i64.wrap ((i : Int) + 1) = (i : Int) + 1 := by rw [IntKind.wrap_i64]; omega
  have hb1 : (0 : Int) ≤ (i : Int) + 1 := by omega
  have htn : ((i : Int) + 1).toNat = i + 1 := by omega
  have hb2 : ¬ (c = i + 1) := by omega
  have hb4 : ¬ (c = i) := by omega
  clear hr1 hr2 hW1 hs1 hg1 hv1 hK1 hsz hz0 hz1 hz2 hi0 hlx hcu
  replace hg := hide hg; replace hcs := hide hcs; replace hxs := hide hxs; replace hv := hide hv; replace hend := hide hend; replace hs2 := hide hs2
  go_enter Tryz.func121, Tryz.ntmps121
  go_wp2_with (simp only [hov])
  go_region_law_o (refine step_copy_runI rfl _ _ 118 118 rfl _ _ (by simp [Act.eval, Act.put]) (by simp [Act.eval, Act.put]) (hcp1 _ _ _) ?_)
  go_wp2_with (at_builtin; refine wpList_copy_runI _ rfl _ _ 118 118 rfl _ _ rfl rfl (hcp2 _ rfl _ _) ?_)
  go_ret
  obtain ⟨k1, k2⟩ := hK2 _ rfl rfl rfl rfl
  exact ⟨r2, rfl, k2, hs2.out, hend.out, k1⟩

def GrownE (w : World) (n i : Nat) (xs : List Value) (x : RowE) (e : Ending) (w' : World) : Prop :=
  ∃ (row : Array Value) (N c : Nat), e = .returned (.slice (some ⟨N, 0, none⟩) (n + 1) c) ∧ w'.heap[N]? = some (.cells row 132 (0, 0)) ∧ row.size = c * 3 ∧ n + 1 ≤ c ∧ c ≤ maxLen ∧ row.toList.take ((n + 1) * 3) = xs.take (i * 3) ++ cRowE x ++ xs.drop (i * 3) ∧ Ext w w' ∧ w.heap.size ≤ N

set_option maxRecDepth 100000 in
set_option maxHeartbeats 4000000 in
theorem insGrowE (g n c i vb : Nat) (cur : Array Value) (xs : List Value) (x : RowE) (w : World) (hi : i < n) (hnc : n ≤ c) (hroom : c < n + 1) (hn : n ≤ 1000000)
    (hg : w.heap[g]? = some (.cells cur 132 (0, 0))) (hcs : cur.size = c * 3) (hxs : cur.toList.take (n * 3) = xs) (h1 : ∀ v ∈ xs, v.oneCell' = true)
    (hv : w.heap[vb]? = some (.cells #[.string x.key.kind, .string x.key.name, .pointer (some ⟨x.val, 0, none⟩)] 132 (0, 0))) :
    Calls Tryz.prog 121 #[.slice (some ⟨g, 0, none⟩) n c, .int .i64 i, .slice (some ⟨vb, 0, none⟩) 1 1] w (GrownE w n i xs x) := by
  obtain ⟨i0, hi0, hz0, hz1, hz2⟩ := info_of infoRowE
  have hsz : (Tryz.prog.info? 132).map (·.size) = some 3 := by rw [hi0]; simp [hz1]
  have hlx : xs.length = n * 3 := by rw [← hxs]; simp; omega
  have hcu : ∀ j v, xs[j]? = some v → w.cell? ⟨g, j, none⟩ = some v := fun j v hj => by
    rw [← hxs, List.getElem?_take] at hj
    split at hj
    · simp only [World.cell?, hg]; simpa using hj
    · cases hj
  have hgw : g < w.heap.size := (Array.getElem?_eq_some_iff.1 hg).1
  have hvw : vb < w.heap.size := (Array.getElem?_eq_some_iff.1 hv).1
  have hold : (Builtin.firstCells i0.size i (.slice (some ⟨g, 0, none⟩) i c)).run Tryz.prog w.drew = .ok (xs.take (i * 3)).toArray w.drew := by
    rw [hz1]
    exact run_firstCells_some w.drew 3 i ⟨g, 0, none⟩ i c (xs.take (i * 3)) (by rw [List.length_take]; omega) (fun j v hj => by
      rw [add_eq]
      rw [List.getElem?_take] at hj
      split at hj
      · rw [Nat.zero_add]; exact hcu j v hj
      · cases hj)
  have hik : i + (n + 1 - i) = n + 1 := by omega
  have hkk : (n : Int) + 1 - (i : Int) = ((n + 1 - i : Nat) : Int) := by omega
  obtain ⟨G, hG⟩ : ∃ G, G = grownCap w (n + 1) c 132 := ⟨_, rfl⟩
  have hGn : n + 1 ≤ G := by rw [hG]; exact grownCap_ge w _ _ _
  have hGm : G ≤ maxLen := by rw [hG]; exact grownCap_le_maxLen w (n + 1) c _ (by unfold maxLen; omega)
  obtain ⟨N, hN⟩ : ∃ N, N = w.heap.size := ⟨_, rfl⟩
  obtain ⟨Z, hZ⟩ : ∃ Z : List Value, Z = (Builtin.zeroCells (Value.cells (.agg #[.string ⟨#[]⟩, .string ⟨#[]⟩, .pointer none])) (n + 1 - i) ++ Builtin.zeroCells (Value.cells (.agg #[.string ⟨#[]⟩, .string ⟨#[]⟩, .pointer none])) (G - (n + 1))).toList := ⟨_, rfl⟩
  have hZl : Z.length = (G - i) * 3 := by
    rw [hZ]; simp [Builtin.zeroCells, Value.cells]; omega
  obtain ⟨r1, hr1⟩ : ∃ r1 : Array Value, r1 = (xs.take (i * 3) ++ Z).toArray := ⟨_, rfl⟩
  have hs1 : r1.size = G * 3 := by rw [hr1]; simp; omega
  obtain ⟨W1, hW1⟩ : ∃ W1, W1 = w.drew.alloc (.cells r1 132) := ⟨_, rfl⟩
  have hX1 : Ext w W1 := by rw [hW1]; exact (Ext.refl w).drew.alloc _
  have hg1 : W1.heap[N]? = some (.cells r1 132 (0, 0)) := by rw [hW1, hN]; exact heap_alloc_new w.drew _
  have hrz : ∀ ty, (Builtin.append_ #[118, 3] ty #[.slice (some ⟨g, 0, none⟩) i c, .int .i64 ((n : Int) + 1 - (i : Int))]).run Tryz.prog w = .ok (.slice (some ⟨N, 0, none⟩) (n + 1) G) W1 := fun ty => by
    have h := Lib.run_append_grow_zeros w 118 3 ty 132 i0 _ .i64 .i64 Tryz.underlying118 Tryz.underlying3 hi0 hz0 (some ⟨g, 0, none⟩) i c (xs.take (i * 3)) hold (n + 1 - i) (by omega) (by omega) (by omega) (by omega) (by rw [hz2]; omega) (by rw [hz2, hik]; exact growslice_fits hroom (by omega))
    rw [hik] at h
    rw [hkk, h, hW1, hr1, hZ, hN, ← hG, arr_appG]
  obtain ⟨r2, hr2⟩ : ∃ r2 : Array Value, r2 = (r1.toList.take (i * 3) ++ cRowE x ++ r1.toList.drop (i * 3 + 3)).toArray := ⟨_, rfl⟩
  have hs2 : r2.size = G * 3 := by rw [hr2]; simp [cRowE]; omega
  have hcpA : ∀ W : World, W.heap = W1.heap → ∀ ty dc, (Builtin.copy_ #[118, 118] ty #[.slice (some ⟨N, i * 3, none⟩) (n + 1 - i) dc, .slice (some ⟨vb, 0, none⟩) 1 1]).run Tryz.prog W = .ok (goInt 1) (W.setRow N r2) := fun W hW ty dc => by
    have hm : Nat.min 1 (n + 1 - i) = 1 := Nat.min_eq_left (by omega)
    have hv1 : W1.heap[vb]? = some (.cells #[.string x.key.kind, .string x.key.name, .pointer (some ⟨x.val, 0, none⟩)] 132 (0, 0)) := ext_heap hX1 hv
    have := run_copy_into (P := Tryz.prog) W _ 118 ty 132 N (i * 3) (n + 1 - i) dc ⟨vb, 0, none⟩ 1 1 3 r1 _ (cRowE x) Tryz.underlying118 hsz (by rw [hW]; exact hg1) (by rw [hm]; rfl) (fun j v hj => by
      rw [add_eq]; simp only [World.cell?, hW, hv1]
      rw [Nat.zero_add]; simpa [cRowE] using hj) (by rw [hs1]; simp [cRowE]; omega) (cRowE_one x)
    rw [this, hm, hr2]; rfl
  have hNg : g ≠ N := by omega
  obtain ⟨r3, hr3⟩ : ∃ r3 : Array Value, r3 = (r2.toList.take ((i + 1) * 3) ++ xs.drop (i * 3) ++ r2.toList.drop ((i + 1) * 3 + (xs.drop (i * 3)).length)).toArray := ⟨_, rfl⟩
  have hs3 : r3.size = G * 3 := by rw [hr3]; simp; omega
  have hcpB : ∀ W V : World, V.heap = W1.heap → W.heap = (V.setRow N r2).heap → ∀ ty dc sc, (Builtin.copy_ #[118, 118] ty #[.slice (some ⟨N, (i + 1) * 3, none⟩) (n - i) dc, .slice (some ⟨g, i * 3, none⟩) (n - i) sc]).run Tryz.prog W = .ok (goInt ((n - i : Nat) : Int)) (W.setRow N r3) := fun W V hV hW ty dc sc => by
    have hm : Nat.min (n - i) (n - i) = n - i := Nat.min_self _
    have hgW : W.heap[N]? = some (.cells r2 132 (0, 0)) := by rw [hW]; exact setRow_heap V N r1 r2 _ (0, 0) (by rw [hV]; exact hg1)
    have hgg : W.heap[g]? = some (.cells cur 132 (0, 0)) := by rw [hW, setRow_other V N g r2 hNg, hV]; exact ext_heap hX1 hg
    have := run_copy_into (P := Tryz.prog) W _ 118 ty 132 N ((i + 1) * 3) (n - i) dc ⟨g, i * 3, none⟩ (n - i) sc 3 r2 _ (xs.drop (i * 3)) Tryz.underlying118 hsz hgW (by rw [hm]; simp; omega) (fun j v hj => by
      rw [add_eq]
      have h2 := hcu (i * 3 + j) v (by rwa [List.getElem?_drop] at hj)
      simp only [World.cell?, hg] at h2
      simp only [World.cell?, hgg]
      exact h2) (by rw [hs2]; simp; omega) (fun v hv => h1 v (List.mem_of_mem_drop hv))
    rw [this, hm, hr3]
  have hend : r3.toList.take ((n + 1) * 3) = xs.take (i * 3) ++ cRowE x ++ xs.drop (i * 3) := by
    rw [hr3, hr2, hr1, show (n + 1) * 3 = n * 3 + 3 by omega, show (i + 1) * 3 = i * 3 + 3 by omega]
    exact grow_rowsG xs (cRowE x) Z (i * 3) (n * 3) 3 (by omega) hlx rfl
  have hK2 : ∀ W V : World, V.heap = W1.heap → W.heap = (V.setRow N r2).heap → W.os = W1.os → W.tape = W1.tape → W.output = W1.output → Ext w (W.setRow N r3) ∧ (W.setRow N r3).heap[N]? = some (.cells r3 132 (0, 0)) := fun W V hV hW e2 e3 e4 => by
    refine ⟨⟨e2.trans (Below.os hX1), e3.trans (Below.tape hX1), e4.trans (Below.output hX1), ?_, fun k hk => ?_⟩, setRow_heap W N r2 r3 _ (0, 0) (by rw [hW]; exact setRow_heap V N r1 r2 _ (0, 0) (by rw [hV]; exact hg1))⟩
    · have := Ext.size hX1; simp [World.setRow, hW, hV]; exact this
    · rw [setRow_other W N k r3 (by omega), hW, setRow_other V N k r2 (by omega), hV]; exact Below.block hX1 k hk
  have i2 : (i : Int) ≤ (n : Int) := by omega
  have i3 : ¬ ((i : Int) = (n : Int)) := by omega
  have i4 : (c : Int) < (n : Int) + 1 := by omega
  have i5 : (i : Int) + 1 ≤ (n : Int) + 1 := by omega
  have i6 : (i : Int) ≤ (n : Int) + 1 := by omega
  have mixed : Tryz.prog.follows Departure.mixedOrders = true := by kernel_rfl
  have hw1 : IntKind.i64.wrap ((i : Int) + 1) = (i : Int) + 1 := by rw [IntKind.wrap_i64]; omega
  have hb1 : (0 : Int) ≤ (i : Int) + 1 := by omega
  have htn : ((i : Int) + 1).toNat = i + 1 := by omega
  have hb2 : ¬ (G = i + 1) := by omega
  have hb4 : ¬ (c = i) := by omega
  have hb5 : ¬ (G = i) := by omega
  have hG63 : G ≤ 9223372036854775807 := by unfold maxLen at hGm; omega
  clear hr1 hr2 hr3 hW1 hs1 hs2 hg1 hsz hz0 hz1 hz2 hi0 hlx hcu hold hik hkk hZ hZl hX1
  replace hg := hide hg; replace hcs := hide hcs; replace hxs := hide hxs; replace hv := hide hv; replace hend := hide hend; replace hs3 := hide hs3; replace hG := hide hG; replace hN := hide hN
  go_enter Tryz.func121, Tryz.ntmps121
  go_wp2_with (first
    | (at_builtin; refine Lib.wpList_append_run _ rfl _ _ _ _ rfl _ _ rfl rfl _ _ (hrz _) ?_)
    | (at_builtin; refine wpList_copy_runI _ rfl _ _ 118 118 rfl _ _ rfl rfl (hcpA _ rfl _ _) ?_))
  go_region_law_o (refine step_copy_runI rfl _ _ 118 118 rfl (.slice (some ⟨N, (i + 1) * 3, none⟩) (n - i) (G - (i + 1))) (.slice (some ⟨g, i * 3, none⟩) (n - i) (c - i)) (by simp [Act.eval, Act.put]) (by simp [Act.eval, Act.put]) (hcpB (W1.setRow N r2).drew W1 rfl rfl 3 (G - (i + 1)) (c - i)) ?_)
  go_wp2
  go_ret
  obtain ⟨k1, k2⟩ := hK2 (W1.setRow N r2).drew W1 rfl rfl rfl rfl rfl
  exact ⟨r3, N, G, rfl, k2, hs3.out, hGn, hGm, hend.out, k1, by rw [hN.out]; exact Nat.le_refl _⟩

/-- Only rows from B on have turned. -/
abbrev WroteKE (B : Nat) (w w' : World) : Prop := Wrote B (· = 132) w w'
/-- The rows of a table, in a row of our own. -/
abbrev RowsE (B : Nat) (w : World) (v : Value) (rs : List RowE) : Prop := w.ownsRow B 132 3 v rs.length (cellsG cRowE rs)
/-- What is answered when a row was put into its place. -/
def InsIsE (B : Nat) (w : World) (rs : List RowE) (e : Ending) (w' : World) : Prop :=
  ∃ (pa : Option Addr) (cap n : Nat), e = .returned (.slice pa n cap) ∧ Hid (n = rs.length) ∧ Hid (RowsE B w' (.slice pa n cap) rs) ∧ Hid (WroteKE B w w')

set_option maxRecDepth 100000 in
set_option maxHeartbeats 1600000 in
theorem insRowE (B : Nat) (v : Value) (rs : List RowE) (x : RowE) (i vb : Nat) (w : World) (hv : RowsE B w v rs) (hB : B ≤ w.heap.size) (hi : i ≤ rs.length) (hn : rs.length ≤ 1000000)
    (hvb : w.heap[vb]? = some (.cells #[.string x.key.kind, .string x.key.name, .pointer (some ⟨x.val, 0, none⟩)] 132 (0, 0))) (hne : some vb ≠ v.ownBlock) :
    Calls Tryz.prog 121 #[v, .int .i64 i, .slice (some ⟨vb, 0, none⟩) 1 1] w (InsIsE B w (insG rs i x)) := by
  have hlen := insG_len (a := x) hi
  by_cases hin : i = rs.length
  · subst hin
    obtain ⟨i0, hi0, hz0, hz1, hz2⟩ := info_of infoRowE
    obtain ⟨pa, cap, rfl⟩ := ownsRow_form hv
    have hcap : rs.length ≤ cap := by
      rcases hv.2 with ⟨h, h'⟩ | ⟨g, c, cur, h, _, _, h', _⟩
      · omega
      · cases h; exact h'
    have hE : Hid (cellsG cRowE rs ++ cRowE x = cellsG cRowE (insG rs rs.length x)) := by
      show _ = _
      simp [cellsG, insG]
    have hlen' : Hid ((insG rs rs.length x).length = rs.length + 1) := hlen
    have hcell : Hid (∀ j u, (cRowE x)[j]? = some u → w.cell? ((⟨vb, 0, none⟩ : Addr).add j) = some u) := fun j u hu => by
      rw [add_eq]; simp only [World.cell?, hvb]; rw [Nat.zero_add]; simpa [cRowE] using hu
    clear hlen
    replace hv := hide hv; replace hi0 := hide hi0; replace hvb := hide hvb; replace hne := hide hne
    go_enter Tryz.func121, Tryz.ntmps121
    go_wp2_with (at_builtin; go_must (refine wpList_append_lies _ rfl _ _ 118 rfl B 132 i0 (.agg #[.string ⟨#[]⟩, .string ⟨#[]⟩, .pointer none]) 3 40 Tryz.underlying118 hi0.out hz0 hz1 hz2 rfl (by omega) _ rs.length (cellsG cRowE rs) rfl hv.out ⟨vb, 0, none⟩ 1 1 (cRowE x) rfl rfl hcell.out (cRowE_one x) (by omega) (by unfold maxLen; omega) (by omega) hB w.heap.size rfl ?_; intro g1 cap1 w1 hown1 hgrow1 hat1 hlt1))
    all_goals
      go_ret
      refine ⟨_, _, _, rfl, hlen'.out.symm, ?_, ?_⟩
      · show World.ownsRow _ _ _ _ _ _ _
        rw [hlen'.out, ← hE.out]; exact hown1
      · exact (Wrote.refl B _ w).grown hv.out rfl hgrow1
  · have hlt : i < rs.length := by omega
    rcases hv.2 with ⟨rfl, h0⟩ | ⟨g, cap, cur, rfl, hbg, hg, hcap, hcm, hcs, hcur⟩
    · omega
    have hne' : vb ≠ g := fun e => hne (by simp [Value.ownBlock, e])
    by_cases hroom : rs.length + 1 ≤ cap
    · refine (insShiftE g rs.length cap i vb cur (cellsG cRowE rs) x w hlt hroom (by unfold maxLen at hcm; omega) hg hcs hcur (cellsRowE_one rs) hvb hne').mono ?_
      rintro e w1 ⟨row, rfl, hr1, hr2, hr3, hk⟩
      refine ⟨_, _, _, rfl, hlen.symm, ?_, Wrote.keptG hk hg rfl hbg⟩
      rw [cellsG_ins cRowE_len] at hr3
      refine ⟨cellsG_len cRowE_len _, .inr ⟨g, cap, row, by rw [hlen], hbg, hr1, by omega, hcm, hr2, by rw [hlen]; exact hr3⟩⟩
    · refine (insGrowE g rs.length cap i vb cur (cellsG cRowE rs) x w hlt hcap (by omega) (by omega) hg hcs hcur (cellsRowE_one rs) hvb).mono ?_
      rintro e w1 ⟨row, N, c, rfl, hr1, hr2, hr3, hr4, hr5, hx, hN⟩
      refine ⟨_, _, _, rfl, hlen.symm, ?_, Wrote.ext hx⟩
      rw [cellsG_ins cRowE_len] at hr5
      refine ⟨cellsG_len cRowE_len _, .inr ⟨N, c, row, by rw [hlen], by omega, hr1, by omega, hr4, hr2, by rw [hlen]; exact hr5⟩⟩
end Go.Proofs.YtfnbbohbicffpaaGreatDoor

namespace Go.Proofs.YtfnbbohbicffpaaGreatDoor
open Go.RowKit

theorem rowsE_in {B : Nat} {w : World} {pa : Option Addr} {n cap : Nat} {rs : List RowE} (h : RowsE B w (.slice pa n cap) rs) : n = rs.length ∧ n ≤ cap ∧ cap ≤ maxLen ∧ (rs = [] ∨ ∃ g, pa = some ⟨g, 0, none⟩ ∧ ∀ (i : Nat) x, rs[i]? = some x → ∀ r u, (cRowE x)[r]? = some u → w.cell? ⟨g, i * 3 + r, none⟩ = some u) := by
  rcases h.2 with ⟨h1, h2⟩ | ⟨g, c, cur, h1, _, hg, hc, hm, hs, ht⟩
  · cases h1
    exact ⟨h2.symm, Nat.le_refl _, by unfold maxLen; omega, .inl (List.eq_nil_of_length_eq_zero h2)⟩
  · cases h1
    refine ⟨rfl, hc, hm, .inr ⟨g, rfl, fun i x hx r u hu => ?_⟩⟩
    have hlt : i < rs.length := (List.getElem?_eq_some_iff.1 hx).1
    have hr : r < 3 := (List.getElem?_eq_some_iff.1 hu).1
    have h1 : (cellsG cRowE rs)[i * 3 + r]? = (cRowE x)[r]? := flat_get cRowE_len hx hr
    rw [← hu, ← h1, ← ht, List.getElem?_take, if_pos (by omega)]
    simp [World.cell?, hg]

set_option maxRecDepth 100000 in
set_option maxHeartbeats 800000 in
theorem findCmpE (x : RowE) (a : IDd) (p t : Nat) (w : World) (hp : w.cell? ⟨p, 0, none⟩ = some (.pointer (some ⟨t, 0, none⟩))) (ht : w.cell? ⟨t, 0, none⟩ = some (.func (.func 32) #[] #[])) :
    Calls Tryz.prog 92 #[.agg #[.string x.key.kind, .string x.key.name, .pointer (some ⟨x.val, 0, none⟩)], .agg #[.string a.kind, .string a.name], .pointer (some ⟨p, 0, none⟩)] w fun e w' => e = .returned (.int .i64 (cmpI x.key a)) ∧ Ext w w' := by
  have hpl : p < w.heap.size := World.block_lt_of_cell? w _ hp
  have htl : t < w.heap.size := World.block_lt_of_cell? w _ ht
  have g0 := World.cell?_alloc_past (w := w.alloc (.cells #[.string x.key.kind, .string x.key.name, .pointer (some ⟨x.val, 0, none⟩)] 132)) (.cells #[.string a.kind, .string a.name] 33) p 0 (by simp; omega)
  have g1 := World.cell?_alloc_past (w := w.alloc (.cells #[.string x.key.kind, .string x.key.name, .pointer (some ⟨x.val, 0, none⟩)] 132)) (.cells #[.string a.kind, .string a.name] 33) t 0 (by simp; omega)
  rw [World.cell?_alloc_past (w := w) _ p 0 hpl, hp] at g0
  rw [World.cell?_alloc_past (w := w) _ t 0 htl, ht] at g1
  replace hp := hide hp; replace ht := hide ht; replace hpl := hide hpl; replace htl := hide htl
  go_enter Tryz.func92, Tryz.ntmps92
  go_wp2_with fail
  go_region_held3 (fun w' => w'.cell? ⟨p, 0, none⟩ = some (.pointer (some ⟨t, 0, none⟩)) ∧ w'.cell? ⟨t, 0, none⟩ = some (.func (.func 32) #[] #[]) ∧ w'.cell? ⟨w.heap.size, 0, none⟩ = some (.string x.key.kind) ∧ w'.cell? ⟨w.heap.size, 1, none⟩ = some (.string x.key.name) ∧ w'.cell? ⟨w.heap.size + 1, 0, none⟩ = some (.string a.kind) ∧ w'.cell? ⟨w.heap.size + 1, 1, none⟩ = some (.string a.name)) (go_keep)
    ((go_at_call 32; refine (compareIDs x.key a _).mono ?_; rintro e w1 ⟨rfl, he1⟩; go_must (have q0 := he1.cells (p := ⟨p, 0, none⟩) (by simp [g0]; rfl); have q1 := he1.cells (p := ⟨t, 0, none⟩) (by simp [g1]; rfl); have qa0 := he1.cells (p := ⟨w.heap.size, 0, none⟩) (v := .string x.key.kind) (by simp [go_sem]); have qa1 := he1.cells (p := ⟨w.heap.size, 1, none⟩) (v := .string x.key.name) (by simp [go_sem]); have qb0 := he1.cells (p := ⟨w.heap.size + 1, 0, none⟩) (v := .string a.kind) (by simp [go_sem]); have qb1 := he1.cells (p := ⟨w.heap.size + 1, 1, none⟩) (v := .string a.name) (by simp [go_sem])); replace he1 := hide he1))
  go_wp2
  go_ret
  exact ⟨rfl, (((Ext.refl _).alloc _).alloc _).drew.trans he1.out⟩

/-- What the look for a key answers. -/
def SrcIsE (w : World) (rs : List RowE) (a : IDd) (e : Ending) (w' : World) : Prop :=
  ∃ (i : Nat) (b : Bool), e = .returned (.tuple #[.int .i64 i, .bool b]) ∧ i ≤ rs.length ∧ Hid (StandsG cmpI RowE.key rs a i) ∧ Hid (b = true ↔ HasK RowE.key rs a) ∧ Hid (b = true → ∃ x, rs[i]? = some x ∧ x.key = a) ∧ Hid (Ext w w')

set_option maxRecDepth 100000 in
set_option maxHeartbeats 3200000 in
theorem searchE (B : Nat) (v : Value) (rs : List RowE) (a : IDd) (p t : Nat) (w : World) (hv : RowsE B w v rs) (hu : UpG cmpI RowE.key rs) (hn : rs.length ≤ 1000000)
    (hp : w.cell? ⟨p, 0, none⟩ = some (.pointer (some ⟨t, 0, none⟩))) (ht : w.cell? ⟨t, 0, none⟩ = some (.func (.func 32) #[] #[])) :
    Calls Tryz.prog 91 #[v, .agg #[.string a.kind, .string a.name], .func (.func 92) #[] #[.pointer (some ⟨p, 0, none⟩)]] w (SrcIsE w rs a) := by
  obtain ⟨pa, cap, rfl⟩ := ownsRow_form hv
  obtain ⟨-, hc1, hc2, hin⟩ := rowsE_in hv
  unfold maxLen at hc2
  replace hin := hide hin; replace hp := hide hp; replace ht := hide ht; replace hv := hide hv; replace hu := hide hu
  go_enter Tryz.func91, Tryz.ntmps91
  go_wp2_with fail
  go_loopw [9, 10] (fun i j wr => ∃ i' j' : Nat, i' ≤ j' ∧ j' ≤ rs.length ∧ i = .int .i64 i' ∧ j = .int .i64 j' ∧ Hid (∀ (k : Nat) x, k < i' → rs[k]? = some x → cmpI x.key a < 0) ∧ Hid (∀ (k : Nat) x, j' ≤ k → rs[k]? = some x → 0 ≤ cmpI x.key a) ∧ Hid (Ext (w.alloc (.cells #[.string a.kind, .string a.name] 33)) wr)) (fun i j _ => (intOf j).toNat - (intOf i).toNat)
  case atStart => exact ⟨0, rs.length, Nat.zero_le _, Nat.le_refl _, rfl, rfl, fun _ _ h => absurd h (by omega), fun k x h hx => absurd (List.getElem?_eq_some_iff.1 hx).1 (by omega), Ext.refl _⟩
  case round =>
    obtain ⟨i, j, hij, hj, rfl, rfl, hA, hB, hx⟩ := hrel
    have X0 := hide (((Ext.refl w).alloc _).trans hx.out)
    have m0 := hx.out.cells (p := ⟨w.heap.size, 0, none⟩) (v := .string a.kind) (by simp [go_sem])
    have m1 := hx.out.cells (p := ⟨w.heap.size, 1, none⟩) (v := .string a.name) (by simp [go_sem])
    have hp1 := hide (X0.out.drew.cells hp.out)
    have ht1 := hide (X0.out.drew.cells ht.out)
    by_cases hlt : i < j
    · obtain ⟨h, hh⟩ : ∃ h, h = (i + j) / 2 := ⟨_, rfl⟩
      have e1 : IntKind.u64.wrap ((i : Int) + (j : Int)) = ((i + j : Nat) : Int) := by rw [IntKind.wrap_u64]; omega
      obtain ⟨x, hxh⟩ := some_of_lt (show h < rs.length by omega)
      rcases hin.out with hnil | ⟨g, rfl, hI⟩
      · rw [hnil] at hj; simp at hj; omega
      replace hI := hI h x hxh
      have k0 := X0.out.cells (hI 0 _ rfl)
      have k1 := X0.out.cells (hI 1 _ rfl)
      have k2 := X0.out.cells (hI 2 _ rfl)
      rw [Nat.add_zero] at k0
      have h2 : (h : Int) < (rs.length : Int) := by omega
      have h3 : (0 : Int) ≤ (h : Int) := by omega
      have h4 : ((i : Int) + (j : Int)) / 2 = (h : Int) := by omega
      have hlo : i ≤ h := by omega
      have hhi : h < j := by omega
      replace hI := hide hI; replace hxh := hide hxh; replace hh := hide hh
      go_wp2_with fail
      go_region_held3 (fun w' => w'.cell? ⟨g, h * 3, none⟩ = some (.string x.key.kind) ∧ w'.cell? ⟨g, h * 3 + 1, none⟩ = some (.string x.key.name) ∧ w'.cell? ⟨g, h * 3 + 2, none⟩ = some (.pointer (some ⟨x.val, 0, none⟩)) ∧ w'.cell? ⟨w.heap.size, 0, none⟩ = some (.string a.kind) ∧ w'.cell? ⟨w.heap.size, 1, none⟩ = some (.string a.name)) (go_keep)
        ((go_at_call 92; refine (findCmpE x a p t wr.drew hp1.out ht1.out).mono ?_; rintro e w1 ⟨rfl, he1⟩; go_must (have qr0 := he1.cells (p := ⟨g, h * 3, none⟩) (v := .string x.key.kind) (by simpa using k0); have qr1 := he1.cells (p := ⟨g, h * 3 + 1, none⟩) (v := .string x.key.name) (by simpa using k1); have qr2 := he1.cells (p := ⟨g, h * 3 + 2, none⟩) (v := .pointer (some ⟨x.val, 0, none⟩)) (by simpa using k2); have qk0 := he1.cells (p := ⟨w.heap.size, 0, none⟩) (v := .string a.kind) (by simpa using m0); have qk1 := he1.cells (p := ⟨w.heap.size, 1, none⟩) (v := .string a.name) (by simpa using m1)); replace he1 := hide he1))
      by_cases hb : cmpI x.key a < 0
      · go_wp2_with fail
        go_roundw
        case rel => exact ⟨h + 1, j, by omega, hj, by go_num, rfl, hu.out.stands ordI hxh.out hb, hB, hx.out.drew.trans he1.out⟩
        case measure => simp [intOf]; omega
      · have hb' : ¬ cmpI x.key a < 0 := hb
        replace hb' := hide hb'
        go_wp2_with fail
        go_roundw
        case rel => exact ⟨i, h, by omega, by omega, rfl, rfl, hA, hu.out.stands' ordI hxh.out (by first | exact hb'.out | exact Int.not_lt.2 hb'.out), hx.out.drew.trans he1.out⟩
        case measure => simp [intOf]; omega
    · obtain rfl : i = j := by omega
      have hst : Hid (StandsG cmpI RowE.key rs a i) := ⟨hj, hA.out, fun k x hk hx => Int.not_lt.2 (hB.out k x hk hx)⟩
      by_cases hend : i < rs.length
      · obtain ⟨x, hxh⟩ := some_of_lt hend
        rcases hin.out with hnil | ⟨g, rfl, hI⟩
        · rw [hnil] at hend; simp at hend
        replace hI := hI i x hxh
        have k0 := X0.out.cells (hI 0 _ rfl)
        have k1 := X0.out.cells (hI 1 _ rfl)
        have k2 := X0.out.cells (hI 2 _ rfl)
        rw [Nat.add_zero] at k0
        have h2 : (i : Int) < (rs.length : Int) := by omega
        have h3 : (0 : Int) ≤ (i : Int) := by omega
        replace hI := hide hI; replace hxh := hide hxh
        go_wp2_with fail
        go_region_held3 (fun w' => w'.cell? ⟨g, i * 3, none⟩ = some (.string x.key.kind) ∧ w'.cell? ⟨g, i * 3 + 1, none⟩ = some (.string x.key.name) ∧ w'.cell? ⟨g, i * 3 + 2, none⟩ = some (.pointer (some ⟨x.val, 0, none⟩)) ∧ w'.cell? ⟨w.heap.size, 0, none⟩ = some (.string a.kind) ∧ w'.cell? ⟨w.heap.size, 1, none⟩ = some (.string a.name)) (go_keep)
          ((go_at_call 92; refine (findCmpE x a p t wr.drew hp1.out ht1.out).mono ?_; rintro e w1 ⟨rfl, he1⟩; go_must (have qr0 := he1.cells (p := ⟨g, i * 3, none⟩) (v := .string x.key.kind) (by simpa using k0); have qr1 := he1.cells (p := ⟨g, i * 3 + 1, none⟩) (v := .string x.key.name) (by simpa using k1); have qr2 := he1.cells (p := ⟨g, i * 3 + 2, none⟩) (v := .pointer (some ⟨x.val, 0, none⟩)) (by simpa using k2); have qk0 := he1.cells (p := ⟨w.heap.size, 0, none⟩) (v := .string a.kind) (by simpa using m0); have qk1 := he1.cells (p := ⟨w.heap.size, 1, none⟩) (v := .string a.name) (by simpa using m1)); replace he1 := hide he1))
        go_wp2
        go_ret2
        refine ⟨i, cmpI x.key a == 0, rfl, hj, hst, ?_, ?_, X0.out.drew.trans he1.out⟩
        · show _ ↔ _
          constructor
          · intro h; exact StandsG.there ordI hxh.out (by simpa using h)
          · intro h
            by_cases e : cmpI x.key a = 0
            · simpa using e
            · exact absurd h (hst.out.gone ordI hu.out fun y hy => by rw [hxh.out] at hy; cases hy; exact e)
        · intro h
          exact ⟨x, hxh.out, ordI.zero.1 (by simpa using h)⟩
      · have h2 : ¬ (i : Int) < (rs.length : Int) := by omega
        go_wp2_with fail
        go_quiet (fail)
        go_wp2
        go_ret2
        refine ⟨i, false, rfl, hj, hst, ?_, ?_, X0.out.drewN _⟩
        · show _ ↔ _
          constructor
          · intro h; cases h
          · intro h
            exact absurd h (hst.out.gone ordI hu.out fun y hy => absurd (List.getElem?_eq_some_iff.1 hy).1 (by omega))
        · intro h; cases h
end Go.Proofs.YtfnbbohbicffpaaGreatDoor
