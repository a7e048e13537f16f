/-
  A row is put into its place among the others (table F).
-/
/-
  A key is looked for among the rows (table F).
-/
/-
  The table F: what its methods answer.
-/
/-
  The reference's disk in memory; which act breaks off; the file of a name.
-/
import Derived.Test.YtpkhmgonkbpjjaaJ1
import Derived.Test.YtpkhmgonkbpjjaaJ8
import Derived.Test.YtpkhmgonkbpjjaaJ4
import Derived.Laws.BitsAllLaws
namespace Go.Proofs.Ytpkhmgonkbpjjaa
open Go.RowKit

structure RowF where
  key : ByteArray
  val : Nat
def cRowF (x : RowF) : List Value := [.string x.key, .pointer (some ⟨x.val, 0, none⟩)]
theorem cRowF_len (x : RowF) : (cRowF x).length = 2 := rfl
theorem cRowF_one (x : RowF) : ∀ u ∈ cRowF x, u.oneCell' = true := by
  intro u hu
  simp [cRowF] at hu
  rcases hu with rfl | rfl <;> rfl
theorem cellsRowF_one (l : List RowF) : ∀ u ∈ cellsG cRowF l, u.oneCell' = true := by
  intro u hu
  obtain ⟨x, _, hx⟩ := List.mem_flatMap.1 hu
  exact cRowF_one x u hx
theorem infoRowF : (Try.prog.info? 140).map (fun i => (i.zero, i.size, i.bytes)) = some (some (.agg #[.string ⟨#[]⟩, .pointer none]), 2, 24) := by kernel_rfl
def ShiftedF (w : World) (g n c i : Nat) (xs : List Value) (x : RowF) (e : Ending) (w' : World) : Prop :=
  ∃ row : Array Value, e = .returned (.slice (some ⟨g, 0, none⟩) (n + 1) c) ∧ w'.heap[g]? = some (.cells row 140 (0, 0)) ∧ row.size = c * 2 ∧ row.toList.take ((n + 1) * 2) = xs.take (i * 2) ++ cRowF x ++ xs.drop (i * 2) ∧ Kept (· = g) w w'

set_option maxRecDepth 100000 in
set_option maxHeartbeats 4000000 in
theorem insShiftF (g n c i vb : Nat) (cur : Array Value) (xs : List Value) (x : RowF) (w : World) (hi : i < n) (hroom : n + 1 ≤ c) (hc : c ≤ 9223372036854775807)
    (hg : w.heap[g]? = some (.cells cur 140 (0, 0))) (hcs : cur.size = c * 2) (hxs : cur.toList.take (n * 2) = xs) (h1 : ∀ v ∈ xs, v.oneCell' = true)
    (hv : w.heap[vb]? = some (.cells #[.string x.key, .pointer (some ⟨x.val, 0, none⟩)] 140 (0, 0))) (hne : vb ≠ g) :
    Calls Try.prog 97 #[.slice (some ⟨g, 0, none⟩) n c, .int .i64 i, .slice (some ⟨vb, 0, none⟩) 1 1] w (ShiftedF w g n c i xs x) := by
  obtain ⟨i0, hi0, hz0, hz1, hz2⟩ := info_of infoRowF
  have hsz : (Try.prog.info? 140).map (·.size) = some 2 := by rw [hi0]; simp [hz1]
  have hov : ∀ lb cb, (callFunc 98 #[.slice (some ⟨vb, 0, none⟩) 1 1, .slice (some ⟨g, (i + 1) * 2, none⟩) lb cb]).run Try.prog w = .ok (.value (.bool false)) w := fun lb cb => by
    rw [run_callFunc_extern Try.func98 (by kernel_rfl) (by kernel_rfl) (by kernel_rfl) (e := Extern.SlicesOverlaps.overlaps #[135, 135] #[4]) (by kernel_rfl),
      Lib.run_overlaps_apart w 135 4 140 Try.underlying135 2 (fun w => by simp [sizeOf, typeInfo, hi0, hz1]) ⟨vb, 0, none⟩ ⟨g, (i + 1) * 2, none⟩ 1 1 lb cb hne 140 140 2 (c * 2) (by simp [World.shape?, hv]) (by simp [World.shape?, hg, hcs]) (by omega) (row_frozen hv 0) (row_frozen hv 2)]
    rfl
  have hlx : xs.length = n * 2 := by rw [← hxs]; simp; omega
  have hcu : ∀ j v, (xs.drop (i * 2))[j]? = some v → w.cell? ⟨g, i * 2 + j, none⟩ = some v := fun j v hj => by
    rw [List.getElem?_drop, ← hxs, List.getElem?_take] at hj
    split at hj
    · simp only [World.cell?, hg]; simpa using hj
    · cases hj
  obtain ⟨r1, hr1⟩ : ∃ r1 : Array Value, r1 = (cur.toList.take ((i + 1) * 2) ++ xs.drop (i * 2) ++ cur.toList.drop ((i + 1) * 2 + (xs.drop (i * 2)).length)).toArray := ⟨_, rfl⟩
  have hs1 : r1.size = c * 2 := by rw [hr1]; simp; omega
  obtain ⟨W1, hW1⟩ : ∃ W1, W1 = w.drew.setRow g r1 := ⟨_, rfl⟩
  have hg1 : W1.heap[g]? = some (.cells r1 140 (0, 0)) := by rw [hW1]; exact setRow_heap w.drew g cur r1 _ (0, 0) hg
  have hv1 : W1.heap[vb]? = some (.cells #[.string x.key, .pointer (some ⟨x.val, 0, none⟩)] 140 (0, 0)) := by rw [hW1, setRow_other w.drew g vb r1 hne]; exact hv
  have hK1 : Kept (· = g) w W1 := by rw [hW1]; exact ((Ext.refl w).drew.kept _).trans (kept_setRow w.drew g r1) (fun _ _ h => h)
  have hcp1 : ∀ ty dc sc, (Builtin.copy_ #[135, 135] ty #[.slice (some ⟨g, (i + 1) * 2, none⟩) (n - i) dc, .slice (some ⟨g, i * 2, none⟩) (n + 1 - i) sc]).run Try.prog w.drew = .ok (goInt ((n - i : Nat) : Int)) W1 := fun ty dc sc => by
    have hm : Nat.min (n + 1 - i) (n - i) = n - i := Nat.min_eq_right (by omega)
    have := run_copy_into (P := Try.prog) w.drew _ 135 ty 140 g ((i + 1) * 2) (n - i) dc ⟨g, i * 2, none⟩ (n + 1 - i) sc 2 cur _ (xs.drop (i * 2)) Try.underlying135 hsz hg (by rw [hm]; simp; omega) (fun j v hj => by rw [add_eq]; exact hcu j v hj) (by simp; omega) (fun v hv => h1 v (List.mem_of_mem_drop hv))
    rw [this, hm, hW1, hr1]
  obtain ⟨r2, hr2⟩ : ∃ r2 : Array Value, r2 = (r1.toList.take (i * 2) ++ cRowF x ++ r1.toList.drop (i * 2 + 2)).toArray := ⟨_, rfl⟩
  have hs2 : r2.size = c * 2 := by rw [hr2]; simp [cRowF]; omega
  have hcp2 : ∀ W : World, W.heap = W1.heap → ∀ ty dc, (Builtin.copy_ #[135, 135] ty #[.slice (some ⟨g, i * 2, none⟩) (n + 1 - i) dc, .slice (some ⟨vb, 0, none⟩) 1 1]).run Try.prog W = .ok (goInt 1) (W.setRow g r2) := fun W hW ty dc => by
    have hm : Nat.min 1 (n + 1 - i) = 1 := Nat.min_eq_left (by omega)
    have := run_copy_into (P := Try.prog) W _ 135 ty 140 g (i * 2) (n + 1 - i) dc ⟨vb, 0, none⟩ 1 1 2 r1 _ (cRowF x) Try.underlying135 hsz (by rw [hW]; exact hg1) (by rw [hm]; rfl) (fun j v hj => by
      rw [add_eq]; simp only [World.cell?, hW, hv1]
      rw [Nat.zero_add]; simpa [cRowF] using hj) (by rw [hs1]; simp [cRowF]; omega) (cRowF_one x)
    rw [this, hm, hr2]; rfl
  have hend : r2.toList.take ((n + 1) * 2) = xs.take (i * 2) ++ cRowF x ++ xs.drop (i * 2) := by
    rw [hr2, hr1, ← hxs, show (n + 1) * 2 = n * 2 + 2 by omega, show (i + 1) * 2 = i * 2 + 2 by omega]
    exact ins_rowsG cur.toList (cRowF x) (i * 2) (n * 2) 2 (by omega) (by simp; omega) rfl
  have hK2 : ∀ W : World, W.heap = W1.heap → W.os = W1.os → W.tape = W1.tape → W.output = W1.output → Kept (· = g) w (W.setRow g r2) ∧ (W.setRow g r2).heap[g]? = some (.cells r2 140 (0, 0)) := fun W e1 e2 e3 e4 => by
    refine ⟨⟨e2.trans hK1.os, e3.trans hK1.tape, e4.trans hK1.output, ?_, fun k hk hn => ?_⟩, setRow_heap W g r1 r2 _ (0, 0) (by rw [e1]; exact hg1)⟩
    · have := hK1.size; simp [World.setRow, e1]; exact this
    · rw [setRow_other W g k r2 hn, e1]; exact hK1.block k hk hn
  have i2 : (i : Int) ≤ (n : Int) := by omega
  have i3 : ¬ ((i : Int) = (n : Int)) := by omega
  have i4 : ¬ ((c : Int) < (n : Int) + 1) := by omega
  have i5 : (i : Int) + 1 ≤ (n : Int) + 1 := by omega
  have i6 : (i : Int) ≤ (n : Int) + 1 := by omega
  have mixed : Try.prog.follows Departure.mixedOrders = true := by kernel_rfl
  have hw1 : IntKind.i64.wrap ((i : Int) + 1) = (i : Int) + 1 := by rw [IntKind.wrap_i64]; omega
  have hb1 : (0 : Int) ≤ (i : Int) + 1 := by omega
  have htn : ((i : Int) + 1).toNat = i + 1 := by omega
  have hb2 : ¬ (c = i + 1) := by omega
  have hb4 : ¬ (c = i) := by omega
  clear hr1 hr2 hW1 hs1 hg1 hv1 hK1 hsz hz0 hz1 hz2 hi0 hlx hcu
  replace hg := hide hg; replace hcs := hide hcs; replace hxs := hide hxs; replace hv := hide hv; replace hend := hide hend; replace hs2 := hide hs2
  go_enter Try.func97, Try.ntmps97
  go_wp2_with (simp only [hov])
  go_region_law_o (refine step_copy_runI rfl _ _ 135 135 rfl _ _ (by simp [Act.eval, Act.put]) (by simp [Act.eval, Act.put]) (hcp1 _ _ _) ?_)
  go_wp2_with (at_builtin; refine wpList_copy_runI _ rfl _ _ 135 135 rfl _ _ rfl rfl (hcp2 _ rfl _ _) ?_)
  go_ret
  obtain ⟨k1, k2⟩ := hK2 _ rfl rfl rfl rfl
  exact ⟨r2, rfl, k2, hs2.out, hend.out, k1⟩

def GrownF (w : World) (n i : Nat) (xs : List Value) (x : RowF) (e : Ending) (w' : World) : Prop :=
  ∃ (row : Array Value) (N c : Nat), e = .returned (.slice (some ⟨N, 0, none⟩) (n + 1) c) ∧ w'.heap[N]? = some (.cells row 140 (0, 0)) ∧ row.size = c * 2 ∧ n + 1 ≤ c ∧ c ≤ maxLen ∧ row.toList.take ((n + 1) * 2) = xs.take (i * 2) ++ cRowF x ++ xs.drop (i * 2) ∧ Ext w w' ∧ w.heap.size ≤ N

set_option maxRecDepth 100000 in
set_option maxHeartbeats 4000000 in
theorem insGrowF (g n c i vb : Nat) (cur : Array Value) (xs : List Value) (x : RowF) (w : World) (hi : i < n) (hnc : n ≤ c) (hroom : c < n + 1) (hn : n ≤ 1000000)
    (hg : w.heap[g]? = some (.cells cur 140 (0, 0))) (hcs : cur.size = c * 2) (hxs : cur.toList.take (n * 2) = xs) (h1 : ∀ v ∈ xs, v.oneCell' = true)
    (hv : w.heap[vb]? = some (.cells #[.string x.key, .pointer (some ⟨x.val, 0, none⟩)] 140 (0, 0))) :
    Calls Try.prog 97 #[.slice (some ⟨g, 0, none⟩) n c, .int .i64 i, .slice (some ⟨vb, 0, none⟩) 1 1] w (GrownF w n i xs x) := by
  obtain ⟨i0, hi0, hz0, hz1, hz2⟩ := info_of infoRowF
  have hsz : (Try.prog.info? 140).map (·.size) = some 2 := by rw [hi0]; simp [hz1]
  have hlx : xs.length = n * 2 := by rw [← hxs]; simp; omega
  have hcu : ∀ j v, xs[j]? = some v → w.cell? ⟨g, j, none⟩ = some v := fun j v hj => by
    rw [← hxs, List.getElem?_take] at hj
    split at hj
    · simp only [World.cell?, hg]; simpa using hj
    · cases hj
  have hgw : g < w.heap.size := (Array.getElem?_eq_some_iff.1 hg).1
  have hvw : vb < w.heap.size := (Array.getElem?_eq_some_iff.1 hv).1
  have hold : (Builtin.firstCells i0.size i (.slice (some ⟨g, 0, none⟩) i c)).run Try.prog w.drew = .ok (xs.take (i * 2)).toArray w.drew := by
    rw [hz1]
    exact run_firstCells_some w.drew 2 i ⟨g, 0, none⟩ i c (xs.take (i * 2)) (by rw [List.length_take]; omega) (fun j v hj => by
      rw [add_eq]
      rw [List.getElem?_take] at hj
      split at hj
      · rw [Nat.zero_add]; exact hcu j v hj
      · cases hj)
  have hik : i + (n + 1 - i) = n + 1 := by omega
  have hkk : (n : Int) + 1 - (i : Int) = ((n + 1 - i : Nat) : Int) := by omega
  obtain ⟨G, hG⟩ : ∃ G, G = grownCap w (n + 1) c 140 := ⟨_, rfl⟩
  have hGn : n + 1 ≤ G := by rw [hG]; exact grownCap_ge w _ _ _
  have hGm : G ≤ maxLen := by rw [hG]; exact grownCap_le_maxLen w (n + 1) c _ (by unfold maxLen; omega)
  obtain ⟨N, hN⟩ : ∃ N, N = w.heap.size := ⟨_, rfl⟩
  obtain ⟨Z, hZ⟩ : ∃ Z : List Value, Z = (Builtin.zeroCells (Value.cells (.agg #[.string ⟨#[]⟩, .pointer none])) (n + 1 - i) ++ Builtin.zeroCells (Value.cells (.agg #[.string ⟨#[]⟩, .pointer none])) (G - (n + 1))).toList := ⟨_, rfl⟩
  have hZl : Z.length = (G - i) * 2 := by
    rw [hZ]; simp [Builtin.zeroCells, Value.cells]; omega
  obtain ⟨r1, hr1⟩ : ∃ r1 : Array Value, r1 = (xs.take (i * 2) ++ Z).toArray := ⟨_, rfl⟩
  have hs1 : r1.size = G * 2 := by rw [hr1]; simp; omega
  obtain ⟨W1, hW1⟩ : ∃ W1, W1 = w.drew.alloc (.cells r1 140) := ⟨_, rfl⟩
  have hX1 : Ext w W1 := by rw [hW1]; exact (Ext.refl w).drew.alloc _
  have hg1 : W1.heap[N]? = some (.cells r1 140 (0, 0)) := by rw [hW1, hN]; exact heap_alloc_new w.drew _
  have hrz : ∀ ty, (Builtin.append_ #[135, 3] ty #[.slice (some ⟨g, 0, none⟩) i c, .int .i64 ((n : Int) + 1 - (i : Int))]).run Try.prog w = .ok (.slice (some ⟨N, 0, none⟩) (n + 1) G) W1 := fun ty => by
    have h := Lib.run_append_grow_zeros w 135 3 ty 140 i0 _ .i64 .i64 Try.underlying135 Try.underlying3 hi0 hz0 (some ⟨g, 0, none⟩) i c (xs.take (i * 2)) hold (n + 1 - i) (by omega) (by omega) (by omega) (by omega) (by rw [hz2]; omega) (by rw [hz2, hik]; exact growslice_fits hroom (by omega))
    rw [hik] at h
    rw [hkk, h, hW1, hr1, hZ, hN, ← hG, arr_appG]
  obtain ⟨r2, hr2⟩ : ∃ r2 : Array Value, r2 = (r1.toList.take (i * 2) ++ cRowF x ++ r1.toList.drop (i * 2 + 2)).toArray := ⟨_, rfl⟩
  have hs2 : r2.size = G * 2 := by rw [hr2]; simp [cRowF]; omega
  have hcpA : ∀ W : World, W.heap = W1.heap → ∀ ty dc, (Builtin.copy_ #[135, 135] ty #[.slice (some ⟨N, i * 2, none⟩) (n + 1 - i) dc, .slice (some ⟨vb, 0, none⟩) 1 1]).run Try.prog W = .ok (goInt 1) (W.setRow N r2) := fun W hW ty dc => by
    have hm : Nat.min 1 (n + 1 - i) = 1 := Nat.min_eq_left (by omega)
    have hv1 : W1.heap[vb]? = some (.cells #[.string x.key, .pointer (some ⟨x.val, 0, none⟩)] 140 (0, 0)) := ext_heap hX1 hv
    have := run_copy_into (P := Try.prog) W _ 135 ty 140 N (i * 2) (n + 1 - i) dc ⟨vb, 0, none⟩ 1 1 2 r1 _ (cRowF x) Try.underlying135 hsz (by rw [hW]; exact hg1) (by rw [hm]; rfl) (fun j v hj => by
      rw [add_eq]; simp only [World.cell?, hW, hv1]
      rw [Nat.zero_add]; simpa [cRowF] using hj) (by rw [hs1]; simp [cRowF]; omega) (cRowF_one x)
    rw [this, hm, hr2]; rfl
  have hNg : g ≠ N := by omega
  obtain ⟨r3, hr3⟩ : ∃ r3 : Array Value, r3 = (r2.toList.take ((i + 1) * 2) ++ xs.drop (i * 2) ++ r2.toList.drop ((i + 1) * 2 + (xs.drop (i * 2)).length)).toArray := ⟨_, rfl⟩
  have hs3 : r3.size = G * 2 := by rw [hr3]; simp; omega
  have hcpB : ∀ W V : World, V.heap = W1.heap → W.heap = (V.setRow N r2).heap → ∀ ty dc sc, (Builtin.copy_ #[135, 135] ty #[.slice (some ⟨N, (i + 1) * 2, none⟩) (n - i) dc, .slice (some ⟨g, i * 2, none⟩) (n - i) sc]).run Try.prog W = .ok (goInt ((n - i : Nat) : Int)) (W.setRow N r3) := fun W V hV hW ty dc sc => by
    have hm : Nat.min (n - i) (n - i) = n - i := Nat.min_self _
    have hgW : W.heap[N]? = some (.cells r2 140 (0, 0)) := by rw [hW]; exact setRow_heap V N r1 r2 _ (0, 0) (by rw [hV]; exact hg1)
    have hgg : W.heap[g]? = some (.cells cur 140 (0, 0)) := by rw [hW, setRow_other V N g r2 hNg, hV]; exact ext_heap hX1 hg
    have := run_copy_into (P := Try.prog) W _ 135 ty 140 N ((i + 1) * 2) (n - i) dc ⟨g, i * 2, none⟩ (n - i) sc 2 r2 _ (xs.drop (i * 2)) Try.underlying135 hsz hgW (by rw [hm]; simp; omega) (fun j v hj => by
      rw [add_eq]
      have h2 := hcu (i * 2 + j) v (by rwa [List.getElem?_drop] at hj)
      simp only [World.cell?, hg] at h2
      simp only [World.cell?, hgg]
      exact h2) (by rw [hs2]; simp; omega) (fun v hv => h1 v (List.mem_of_mem_drop hv))
    rw [this, hm, hr3]
  have hend : r3.toList.take ((n + 1) * 2) = xs.take (i * 2) ++ cRowF x ++ xs.drop (i * 2) := by
    rw [hr3, hr2, hr1, show (n + 1) * 2 = n * 2 + 2 by omega, show (i + 1) * 2 = i * 2 + 2 by omega]
    exact grow_rowsG xs (cRowF x) Z (i * 2) (n * 2) 2 (by omega) hlx rfl
  have hK2 : ∀ W V : World, V.heap = W1.heap → W.heap = (V.setRow N r2).heap → W.os = W1.os → W.tape = W1.tape → W.output = W1.output → Ext w (W.setRow N r3) ∧ (W.setRow N r3).heap[N]? = some (.cells r3 140 (0, 0)) := fun W V hV hW e2 e3 e4 => by
    refine ⟨⟨e2.trans (Below.os hX1), e3.trans (Below.tape hX1), e4.trans (Below.output hX1), ?_, fun k hk => ?_⟩, setRow_heap W N r2 r3 _ (0, 0) (by rw [hW]; exact setRow_heap V N r1 r2 _ (0, 0) (by rw [hV]; exact hg1))⟩
    · have := Ext.size hX1; simp [World.setRow, hW, hV]; exact this
    · rw [setRow_other W N k r3 (by omega), hW, setRow_other V N k r2 (by omega), hV]; exact Below.block hX1 k hk
  have i2 : (i : Int) ≤ (n : Int) := by omega
  have i3 : ¬ ((i : Int) = (n : Int)) := by omega
  have i4 : (c : Int) < (n : Int) + 1 := by omega
  have i5 : (i : Int) + 1 ≤ (n : Int) + 1 := by omega
  have i6 : (i : Int) ≤ (n : Int) + 1 := by omega
  have mixed : Try.prog.follows Departure.mixedOrders = true := by kernel_rfl
  have hw1 : IntKind.i64.wrap ((i : Int) + 1) = (i : Int) + 1 := by rw [IntKind.wrap_i64]; omega
  have hb1 : (0 : Int) ≤ (i : Int) + 1 := by omega
  have htn : ((i : Int) + 1).toNat = i + 1 := by omega
  have hb2 : ¬ (G = i + 1) := by omega
  have hb4 : ¬ (c = i) := by omega
  have hb5 : ¬ (G = i) := by omega
  have hG63 : G ≤ 9223372036854775807 := by unfold maxLen at hGm; omega
  clear hr1 hr2 hr3 hW1 hs1 hs2 hg1 hsz hz0 hz1 hz2 hi0 hlx hcu hold hik hkk hZ hZl hX1
  replace hg := hide hg; replace hcs := hide hcs; replace hxs := hide hxs; replace hv := hide hv; replace hend := hide hend; replace hs3 := hide hs3; replace hG := hide hG; replace hN := hide hN
  go_enter Try.func97, Try.ntmps97
  go_wp2_with (first
    | (at_builtin; refine Lib.wpList_append_run _ rfl _ _ _ _ rfl _ _ rfl rfl _ _ (hrz _) ?_)
    | (at_builtin; refine wpList_copy_runI _ rfl _ _ 135 135 rfl _ _ rfl rfl (hcpA _ rfl _ _) ?_))
  go_region_law_o (refine step_copy_runI rfl _ _ 135 135 rfl (.slice (some ⟨N, (i + 1) * 2, none⟩) (n - i) (G - (i + 1))) (.slice (some ⟨g, i * 2, none⟩) (n - i) (c - i)) (by simp [Act.eval, Act.put]) (by simp [Act.eval, Act.put]) (hcpB (W1.setRow N r2).drew W1 rfl rfl 3 (G - (i + 1)) (c - i)) ?_)
  go_wp2
  go_ret
  obtain ⟨k1, k2⟩ := hK2 (W1.setRow N r2).drew W1 rfl rfl rfl rfl rfl
  exact ⟨r3, N, G, rfl, k2, hs3.out, hGn, hGm, hend.out, k1, by rw [hN.out]; exact Nat.le_refl _⟩

/-- Only rows from B on have turned. -/
abbrev WroteKF (B : Nat) (w w' : World) : Prop := Wrote B (· = 140) w w'
/-- The rows of a table, in a row of our own. -/
abbrev RowsF (B : Nat) (w : World) (v : Value) (rs : List RowF) : Prop := w.ownsRow B 140 2 v rs.length (cellsG cRowF rs)
/-- What is answered when a row was put into its place. -/
def InsIsF (B : Nat) (v : Value) (w : World) (rs : List RowF) (e : Ending) (w' : World) : Prop :=
  ∃ (pa : Option Addr) (cap n : Nat), e = .returned (.slice pa n cap) ∧ Hid (n = rs.length) ∧ Hid (RowsF B w' (.slice pa n cap) rs) ∧ Hid (WroteKF B w w') ∧ Hid (Kept (fun k => v.ownBlock = some k) w w' ∧ ∀ g, (Value.slice pa n cap).ownBlock = some g → v.ownBlock = some g ∨ w.heap.size ≤ g)

set_option maxRecDepth 100000 in
set_option maxHeartbeats 1600000 in
theorem insRowF (B : Nat) (v : Value) (rs : List RowF) (x : RowF) (i vb : Nat) (w : World) (hv : RowsF B w v rs) (hB : B ≤ w.heap.size) (hi : i ≤ rs.length) (hn : rs.length ≤ 1000000)
    (hvb : w.heap[vb]? = some (.cells #[.string x.key, .pointer (some ⟨x.val, 0, none⟩)] 140 (0, 0))) (hne : some vb ≠ v.ownBlock) :
    Calls Try.prog 97 #[v, .int .i64 i, .slice (some ⟨vb, 0, none⟩) 1 1] w (InsIsF B v w (insG rs i x)) := by
  have hlen := insG_len (a := x) hi
  by_cases hin : i = rs.length
  · subst hin
    obtain ⟨i0, hi0, hz0, hz1, hz2⟩ := info_of infoRowF
    obtain ⟨pa, cap, rfl⟩ := ownsRow_form hv
    have hcap : rs.length ≤ cap := by
      rcases hv.2 with ⟨h, h'⟩ | ⟨g, c, cur, h, _, _, h', _⟩
      · omega
      · cases h; exact h'
    have hE : Hid (cellsG cRowF rs ++ cRowF x = cellsG cRowF (insG rs rs.length x)) := by
      show _ = _
      simp [cellsG, insG]
    have hlen' : Hid ((insG rs rs.length x).length = rs.length + 1) := hlen
    have hcell : Hid (∀ j u, (cRowF x)[j]? = some u → w.cell? ((⟨vb, 0, none⟩ : Addr).add j) = some u) := fun j u hu => by
      rw [add_eq]; simp only [World.cell?, hvb]; rw [Nat.zero_add]; simpa [cRowF] using hu
    clear hlen
    replace hv := hide hv; replace hi0 := hide hi0; replace hvb := hide hvb; replace hne := hide hne
    go_enter Try.func97, Try.ntmps97
    go_wp2_with (at_builtin; go_must (refine wpList_append_lies _ rfl _ _ 135 rfl B 140 i0 (.agg #[.string ⟨#[]⟩, .pointer none]) 2 24 Try.underlying135 hi0.out hz0 hz1 hz2 rfl (by omega) _ rs.length (cellsG cRowF rs) rfl hv.out ⟨vb, 0, none⟩ 1 1 (cRowF x) rfl rfl hcell.out (cRowF_one x) (by omega) (by unfold maxLen; omega) (by omega) hB w.heap.size rfl ?_; intro g1 cap1 w1 hown1 hgrow1 hat1 hlt1))
    all_goals
      go_ret
      refine ⟨_, _, _, rfl, hlen'.out.symm, ?_, ?_, ⟨hgrow1.os, hgrow1.tape, hgrow1.output, hgrow1.size, fun k hk hn => hgrow1.block k hk fun e => hn (by revert e; cases pa <;> exact fun e => e.symm)⟩, fun g hg => ?_⟩
      · show World.ownsRow _ _ _ _ _ _ _
        rw [hlen'.out, ← hE.out]; exact hown1
      · exact (Wrote.refl B _ w).grown hv.out rfl hgrow1
      · obtain rfl : g1 = g := by simpa [Value.ownBlock] using hg
        exact hat1.imp (by cases pa <;> exact id) fun h => by omega
  · have hlt : i < rs.length := by omega
    rcases hv.2 with ⟨rfl, h0⟩ | ⟨g, cap, cur, rfl, hbg, hg, hcap, hcm, hcs, hcur⟩
    · omega
    have hne' : vb ≠ g := fun e => hne (by simp [Value.ownBlock, e])
    by_cases hroom : rs.length + 1 ≤ cap
    · refine (insShiftF g rs.length cap i vb cur (cellsG cRowF rs) x w hlt hroom (by unfold maxLen at hcm; omega) hg hcs hcur (cellsRowF_one rs) hvb hne').mono ?_
      rintro e w1 ⟨row, rfl, hr1, hr2, hr3, hk⟩
      refine ⟨_, _, _, rfl, hlen.symm, ?_, Wrote.keptG hk hg rfl hbg, hk.mono (fun k _ e => by simp [Value.ownBlock, e]), fun g' hg' => .inl hg'⟩
      rw [cellsG_ins cRowF_len] at hr3
      refine ⟨cellsG_len cRowF_len _, .inr ⟨g, cap, row, by rw [hlen], hbg, hr1, by omega, hcm, hr2, by rw [hlen]; exact hr3⟩⟩
    · refine (insGrowF g rs.length cap i vb cur (cellsG cRowF rs) x w hlt hcap (by omega) (by omega) hg hcs hcur (cellsRowF_one rs) hvb).mono ?_
      rintro e w1 ⟨row, N, c, rfl, hr1, hr2, hr3, hr4, hr5, hx, hN⟩
      refine ⟨_, _, _, rfl, hlen.symm, ?_, Wrote.ext hx, hx.kept _, fun g' hg' => .inr (by simp [Value.ownBlock] at hg'; omega)⟩
      rw [cellsG_ins cRowF_len] at hr5
      refine ⟨cellsG_len cRowF_len _, .inr ⟨N, c, row, by rw [hlen], by omega, hr1, by omega, hr4, hr2, by rw [hlen]; exact hr5⟩⟩
end Go.Proofs.Ytpkhmgonkbpjjaa

namespace Go.Proofs.Ytpkhmgonkbpjjaa
open Go.RowKit

theorem rowsF_in {B : Nat} {w : World} {pa : Option Addr} {n cap : Nat} {rs : List RowF} (h : RowsF B w (.slice pa n cap) rs) : n = rs.length ∧ n ≤ cap ∧ cap ≤ maxLen ∧ (rs = [] ∨ ∃ g, pa = some ⟨g, 0, none⟩ ∧ ∀ (i : Nat) x, rs[i]? = some x → ∀ r u, (cRowF x)[r]? = some u → w.cell? ⟨g, i * 2 + r, none⟩ = some u) := by
  rcases h.2 with ⟨h1, h2⟩ | ⟨g, c, cur, h1, _, hg, hc, hm, hs, ht⟩
  · cases h1
    exact ⟨h2.symm, Nat.le_refl _, by unfold maxLen; omega, .inl (List.eq_nil_of_length_eq_zero h2)⟩
  · cases h1
    refine ⟨rfl, hc, hm, .inr ⟨g, rfl, fun i x hx r u hu => ?_⟩⟩
    have hlt : i < rs.length := (List.getElem?_eq_some_iff.1 hx).1
    have hr : r < 2 := (List.getElem?_eq_some_iff.1 hu).1
    have h1 : (cellsG cRowF rs)[i * 2 + r]? = (cRowF x)[r]? := flat_get cRowF_len hx hr
    rw [← hu, ← h1, ← ht, List.getElem?_take, if_pos (by omega)]
    simp [World.cell?, hg]

set_option maxRecDepth 100000 in
set_option maxHeartbeats 800000 in
theorem findCmpF (x : RowF) (a : ByteArray) (p t : Nat) (w : World) (hp : w.cell? ⟨p, 0, none⟩ = some (.pointer (some ⟨t, 0, none⟩))) (ht : w.cell? ⟨t, 0, none⟩ = some (.func (.func 36) #[] #[])) :
    Calls Try.prog 94 #[.agg #[.string x.key, .pointer (some ⟨x.val, 0, none⟩)], .string a, .pointer (some ⟨p, 0, none⟩)] w fun e w' => e = .returned (.int .i64 (cmpS x.key a)) ∧ Ext w w' := by
  have hpl : p < w.heap.size := World.block_lt_of_cell? w _ hp
  have htl : t < w.heap.size := World.block_lt_of_cell? w _ ht
  have g0 := World.cell?_alloc_past (w := w) (.cells #[.string x.key, .pointer (some ⟨x.val, 0, none⟩)] 140) p 0 hpl
  have g1 := World.cell?_alloc_past (w := w) (.cells #[.string x.key, .pointer (some ⟨x.val, 0, none⟩)] 140) t 0 htl
  rw [hp] at g0
  rw [ht] at g1
  replace hp := hide hp; replace ht := hide ht; replace hpl := hide hpl; replace htl := hide htl
  go_enter Try.func94, Try.ntmps94
  go_wp2_with fail
  go_region_held3 (fun w' => w'.cell? ⟨p, 0, none⟩ = some (.pointer (some ⟨t, 0, none⟩)) ∧ w'.cell? ⟨t, 0, none⟩ = some (.func (.func 36) #[] #[]) ∧ w'.cell? ⟨w.heap.size, 0, none⟩ = some (.string x.key)) (go_keep)
    ((go_at_call 36; refine (Try.strings_Compare _ _ _).mono ?_; rintro e w1 ⟨rfl, rfl⟩))
  go_wp2
  go_ret
  exact ⟨rfl, ((Ext.refl _).alloc _).drew⟩

/-- What the look for a key answers. -/
def SrcIsF (w : World) (rs : List RowF) (a : ByteArray) (e : Ending) (w' : World) : Prop :=
  ∃ (i : Nat) (b : Bool), e = .returned (.tuple #[.int .i64 i, .bool b]) ∧ i ≤ rs.length ∧ Hid (StandsG cmpS RowF.key rs a i) ∧ Hid (b = true ↔ HasK RowF.key rs a) ∧ Hid (b = true → ∃ x, rs[i]? = some x ∧ x.key = a) ∧ Hid (Ext w w')

set_option maxRecDepth 100000 in
set_option maxHeartbeats 3200000 in
theorem searchF (B : Nat) (v : Value) (rs : List RowF) (a : ByteArray) (p t : Nat) (w : World) (hv : RowsF B w v rs) (hu : UpG cmpS RowF.key rs) (hn : rs.length ≤ 1000000)
    (hp : w.cell? ⟨p, 0, none⟩ = some (.pointer (some ⟨t, 0, none⟩))) (ht : w.cell? ⟨t, 0, none⟩ = some (.func (.func 36) #[] #[])) :
    Calls Try.prog 93 #[v, .string a, .func (.func 94) #[] #[.pointer (some ⟨p, 0, none⟩)]] w (SrcIsF w rs a) := by
  obtain ⟨pa, cap, rfl⟩ := ownsRow_form hv
  obtain ⟨-, hc1, hc2, hin⟩ := rowsF_in hv
  unfold maxLen at hc2
  replace hin := hide hin; replace hp := hide hp; replace ht := hide ht; replace hv := hide hv; replace hu := hide hu
  go_enter Try.func93, Try.ntmps93
  go_wp2_with fail
  go_loopw [9, 10] (fun i j wr => ∃ i' j' : Nat, i' ≤ j' ∧ j' ≤ rs.length ∧ i = .int .i64 i' ∧ j = .int .i64 j' ∧ Hid (∀ (k : Nat) x, k < i' → rs[k]? = some x → cmpS x.key a < 0) ∧ Hid (∀ (k : Nat) x, j' ≤ k → rs[k]? = some x → 0 ≤ cmpS x.key a) ∧ Hid (Ext w wr)) (fun i j _ => (intOf j).toNat - (intOf i).toNat)
  case atStart => exact ⟨0, rs.length, Nat.zero_le _, Nat.le_refl _, rfl, rfl, fun _ _ h => absurd h (by omega), fun k x h hx => absurd (List.getElem?_eq_some_iff.1 hx).1 (by omega), Ext.refl _⟩
  case round =>
    obtain ⟨i, j, hij, hj, rfl, rfl, hA, hB, hx⟩ := hrel
    have X0 := hx
    have hp1 := hide (X0.out.cells hp.out)
    have ht1 := hide (X0.out.cells ht.out)
    by_cases hlt : i < j
    · obtain ⟨h, hh⟩ : ∃ h, h = (i + j) / 2 := ⟨_, rfl⟩
      have e1 : IntKind.u64.wrap ((i : Int) + (j : Int)) = ((i + j : Nat) : Int) := by rw [IntKind.wrap_u64]; omega
      obtain ⟨x, hxh⟩ := some_of_lt (show h < rs.length by omega)
      rcases hin.out with hnil | ⟨g, rfl, hI⟩
      · rw [hnil] at hj; simp at hj; omega
      replace hI := hI h x hxh
      have k0 := X0.out.cells (hI 0 _ rfl)
      have k1 := X0.out.cells (hI 1 _ rfl)
      rw [Nat.add_zero] at k0
      have h2 : (h : Int) < (rs.length : Int) := by omega
      have h3 : (0 : Int) ≤ (h : Int) := by omega
      have h4 : ((i : Int) + (j : Int)) / 2 = (h : Int) := by omega
      have hlo : i ≤ h := by omega
      have hhi : h < j := by omega
      replace hI := hide hI; replace hxh := hide hxh; replace hh := hide hh
      go_wp2_with fail
      refine (findCmpF x a p t wr hp1.out ht1.out).mono ?_
      rintro e w1 ⟨rfl, he1⟩
      replace he1 := hide he1
      by_cases hb : cmpS x.key a < 0
      · go_wp2_with fail
        go_roundw
        case rel => exact ⟨h + 1, j, by omega, hj, by go_num, rfl, hu.out.stands ordS hxh.out hb, hB, hx.out.trans he1.out⟩
        case measure => simp [intOf]; omega
      · have hb' : ¬ cmpS x.key a < 0 := hb
        replace hb' := hide hb'
        go_wp2_with fail
        go_roundw
        case rel => exact ⟨i, h, by omega, by omega, rfl, rfl, hA, hu.out.stands' ordS hxh.out (by first | exact hb'.out | exact Int.not_lt.2 hb'.out), hx.out.trans he1.out⟩
        case measure => simp [intOf]; omega
    · obtain rfl : i = j := by omega
      have hst : Hid (StandsG cmpS RowF.key rs a i) := ⟨hj, hA.out, fun k x hk hx => Int.not_lt.2 (hB.out k x hk hx)⟩
      by_cases hend : i < rs.length
      · obtain ⟨x, hxh⟩ := some_of_lt hend
        rcases hin.out with hnil | ⟨g, rfl, hI⟩
        · rw [hnil] at hend; simp at hend
        replace hI := hI i x hxh
        have k0 := X0.out.cells (hI 0 _ rfl)
        have k1 := X0.out.cells (hI 1 _ rfl)
        rw [Nat.add_zero] at k0
        have h2 : (i : Int) < (rs.length : Int) := by omega
        have h3 : (0 : Int) ≤ (i : Int) := by omega
        replace hI := hide hI; replace hxh := hide hxh
        go_wp2_with fail
        refine (findCmpF x a p t wr hp1.out ht1.out).mono ?_
        rintro e w1 ⟨rfl, he1⟩
        replace he1 := hide he1
        go_wp2
        go_ret2
        refine ⟨i, cmpS x.key a == 0, rfl, hj, hst, ?_, ?_, X0.out.trans he1.out⟩
        · show _ ↔ _
          constructor
          · intro h; exact StandsG.there ordS hxh.out (by simpa using h)
          · intro h
            by_cases e : cmpS x.key a = 0
            · simpa using e
            · exact absurd h (hst.out.gone ordS hu.out fun y hy => by rw [hxh.out] at hy; cases hy; exact e)
        · intro h
          exact ⟨x, hxh.out, ordS.zero.1 (by simpa using h)⟩
      · have h2 : ¬ (i : Int) < (rs.length : Int) := by omega
        go_wp2
        go_ret2
        refine ⟨i, false, rfl, hj, hst, ?_, ?_, X0.out⟩
        · show _ ↔ _
          constructor
          · intro h; cases h
          · intro h
            exact absurd h (hst.out.gone ordS hu.out fun y hy => absurd (List.getElem?_eq_some_iff.1 hy).1 (by omega))
        · intro h; cases h
end Go.Proofs.Ytpkhmgonkbpjjaa

namespace Go.Proofs.Ytpkhmgonkbpjjaa
open Go.RowKit

/-- A table lies in memory. -/
structure TabAtF (B : Nat) (w : World) (t : Nat) (v : Value) (rs : List RowF) : Prop where
  at_ : w.heap[t]? = some (.cells #[.func (.func 36) #[] #[], v] 137 (0, 0))
  rows : RowsF B w v rs
  up : UpG cmpS RowF.key rs
  few : rs.length ≤ 1000000
  base : B ≤ t
theorem tabF_c0 {w : World} {k : Nat} {a b : Value} {t : TypeId} {fz : Nat × Nat} (hk : w.heap[k]? = some (.cells #[a, b] t fz)) : w.cell? ⟨k, 0, none⟩ = some a := by simp [World.cell?, hk]
theorem tabF_c1 {w : World} {k : Nat} {a b : Value} {t : TypeId} {fz : Nat × Nat} (hk : w.heap[k]? = some (.cells #[a, b] t fz)) : w.cell? ⟨k, 1, none⟩ = some b := by simp [World.cell?, hk]
theorem tabF_set {w : World} {k : Nat} {a b : Value} {t : TypeId} {fz : Nat × Nat} (hk : w.heap[k]? = some (.cells #[a, b] t fz)) (v : Value) : (w.setCell ⟨k, 1, none⟩ v).heap[k]? = some (.cells #[a, v] t fz) := by
  simp [World.setCell, Array.getElem?_modify, hk]
theorem TabAtF.ext {B : Nat} {w w' : World} {t : Nat} {v : Value} {rs : List RowF} (h : TabAtF B w t v rs) (e : Ext w w') : TabAtF B w' t v rs :=
  ⟨ext_heap e h.at_, ownsRow_wrote h.rows (Wrote.ext (B := 0) (T := fun _ => False) e) id rfl, h.up, h.few, h.base⟩
theorem TabAtF.kept {B : Nat} {D : Nat → Prop} {w w' : World} {t : Nat} {v : Value} {rs : List RowF} (h : TabAtF B w t v rs) (k : Kept D w w') (h1 : ¬ D t) (h2 : ∀ g, v.ownBlock = some g → ¬ D g) : TabAtF B w' t v rs := by
  refine ⟨k.heap h.at_ h1, ⟨h.rows.1, ?_⟩, h.up, h.few, h.base⟩
  rcases h.rows.2 with h3 | ⟨g, cap, cur, rfl, h4, h5, h6⟩
  · exact .inl h3
  · exact .inr ⟨g, cap, cur, rfl, h4, k.heap h5 (h2 g rfl), h6⟩
theorem TabAtF.ne {B : Nat} {w : World} {t : Nat} {v : Value} {rs : List RowF} (h : TabAtF B w t v rs) {g : Nat} (hg : v.ownBlock = some g) : t ≠ g := by
  rintro rfl
  rcases h.rows.2 with ⟨rfl, _⟩ | ⟨g', cap, cur, rfl, _, h5, _⟩
  · simp [Value.ownBlock] at hg
  · obtain rfl : g' = t := by simpa [Value.ownBlock] using hg
    have h1 := h.at_
    rw [h5] at h1
    simp only [Option.some.injEq, Obj.cells.injEq] at h1
    exact absurd h1.2.1 (by decide)
theorem TabAtF.lt {B : Nat} {w : World} {t : Nat} {v : Value} {rs : List RowF} (h : TabAtF B w t v rs) : t < w.heap.size ∧ ∀ g, v.ownBlock = some g → g < w.heap.size := by
  refine ⟨(Array.getElem?_eq_some_iff.1 h.at_).1, fun g hg => ?_⟩
  rcases h.rows.2 with ⟨rfl, _⟩ | ⟨g', cap, cur, rfl, _, h5, _⟩
  · simp [Value.ownBlock] at hg
  · obtain rfl : g' = g := by simpa [Value.ownBlock] using hg
    exact (Array.getElem?_eq_some_iff.1 h5).1
theorem TabAtF.low {B B' : Nat} {w : World} {t : Nat} {v : Value} {rs : List RowF} (h : TabAtF B w t v rs) (hb : B' ≤ B) : TabAtF B' w t v rs := ⟨h.at_, ownsRow_low h.rows hb, h.up, h.few, Nat.le_trans hb h.base⟩
theorem TabAtF.wrote {B B' : Nat} {T : TypeId → Prop} {w w' : World} {t : Nat} {v : Value} {rs : List RowF} (h : TabAtF B w t v rs) (k : Wrote B' T w w') (hT : ¬ T 140 ∧ ¬ T 137) : TabAtF B w' t v rs :=
  ⟨k.keeps h.at_ hT.2, ownsRow_wrote h.rows k hT.1 rfl, h.up, h.few, h.base⟩

set_option maxRecDepth 100000 in
set_option maxHeartbeats 800000 in
theorem tabFindF (B : Nat) (v : Value) (rs : List RowF) (a : ByteArray) (t : Nat) (w : World) (ht : TabAtF B w t v rs) :
    Calls Try.prog 87 #[.pointer (some ⟨t, 0, none⟩), .string a] w (SrcIsF w rs a) := by
  obtain ⟨pa, cap, rfl⟩ := ownsRow_form ht.rows
  have hw : t < w.heap.size := (Array.getElem?_eq_some_iff.1 ht.at_).1
  have X2 := hide ((Ext.refl w).alloc (.cells #[.pointer (some ⟨t, 0, none⟩)] 93))
  have ht2 := hide (ht.ext X2.out)
  have c1 := X2.out.cells (tabF_c1 ht.at_)
  have c0 := hide (X2.out.cells (tabF_c0 ht.at_))
  replace ht := hide ht
  go_enter Try.func87, Try.ntmps87
  go_wp2_with fail
  refine (searchF B _ rs a w.heap.size t _ ht2.out.rows ht2.out.up ht2.out.few (by simp [go_sem]) c0.out).mono ?_
  rintro e w1 ⟨i, b, rfl, hi, hs1, hs2, hs3, he1⟩
  go_wp2
  go_ret2
  exact ⟨i, b, rfl, hi, hs1, hs2, hs3, X2.out.trans he1.out⟩

set_option maxRecDepth 100000 in
set_option maxHeartbeats 800000 in
theorem tabNewF (w : World) :
    Calls Try.prog 35 #[.func (.func 36) #[] #[]] w fun e w' => e = .returned (.pointer (some ⟨w.heap.size, 0, none⟩)) ∧ Hid (TabAtF w.heap.size w' w.heap.size (.slice none 0 0) []) ∧ Hid (w' = w.alloc (.cells #[.func (.func 36) #[] #[], .slice none 0 0] 137)) := by
  go_enter Try.func35, Try.ntmps35
  go_wp2
  go_ret
  exact ⟨rfl, ⟨heap_alloc_new _ _, World.ownsRow_nil _ _ _ _, List.Pairwise.nil, Nat.zero_le _, Nat.le_refl _⟩, rfl⟩
end Go.Proofs.Ytpkhmgonkbpjjaa

namespace Go.Proofs.Ytpkhmgonkbpjjaa
open Go.RowKit

attribute [local go_sem] Go.World.cell?_alloc_some
/-- The reference's disk lies in memory. -/
structure RefIn (w : World) (y : Nat) (vF vC : Value) (kc sc : Int) (D : DskS) : Prop where
  box : w.heap[y]? = some (.cells #[.int .i64 (D.room : Int), vF, vC, .int .i64 (D.last : Int), .int .i64 (D.due : Int), .int .i64 kc, .int .i64 sc] 58 (0, 0))
  files : w.ownsRow 0 105 2 vF D.files.length (cellsG cFl D.files)
  chs : w.ownsRow 0 107 3 vC D.chs.length (cellsG cRC D.chs)
  ok : D.Ok
  due : D.due ≤ 9223372036854775807
  brk : D.due ≠ 0 → kc = D.keep ∧ sc = D.stay
  st : sc ≤ 9223372036854775807
theorem seven_at {w : World} {k : Nat} {a b c d e f g : Value} {t : TypeId} {fz : Nat × Nat} (hk : w.heap[k]? = some (.cells #[a, b, c, d, e, f, g] t fz)) :
    w.cell? ⟨k, 0, none⟩ = some a ∧ w.cell? ⟨k, 1, none⟩ = some b ∧ w.cell? ⟨k, 2, none⟩ = some c ∧ w.cell? ⟨k, 3, none⟩ = some d ∧ w.cell? ⟨k, 4, none⟩ = some e ∧ w.cell? ⟨k, 5, none⟩ = some f ∧ w.cell? ⟨k, 6, none⟩ = some g := by
  refine ⟨?_, ?_, ?_, ?_, ?_, ?_, ?_⟩ <;> simp [World.cell?, hk]
theorem RefIn.ext {w w' : World} {y : Nat} {vF vC : Value} {kc sc : Int} {D : DskS} (h : RefIn w y vF vC kc sc D) (e : Ext w w') : RefIn w' y vF vC kc sc D :=
  ⟨ext_heap e h.box, ownsRow_wrote h.files (Wrote.ext (B := 0) (T := fun _ => False) e) id rfl, ownsRow_wrote h.chs (Wrote.ext (B := 0) (T := fun _ => False) e) id rfl, h.ok, h.due, h.brk, h.st⟩
/-- The number of a name's file: -1, if there is none. -/
noncomputable def fileN (D : DskS) (name : ByteArray) : Int := match lookN name D.names with
  | some i => (i : Int)
  | none => -1

set_option maxRecDepth 100000 in
set_option maxHeartbeats 1600000 in
theorem refFile (w : World) (y : Nat) (vF vC : Value) (kc sc : Int) (D : DskS) (name : ByteArray) (h : RefIn w y vF vC kc sc D) (hfew : D.chs.length ≤ 1000000) :
    Calls Try.prog 48 #[.pointer (some ⟨y, 0, none⟩), .string name] w fun e w' => e = .returned (.int .i64 (fileN D name)) ∧ Hid (Ext w w') := by
  have c2 := (seven_at h.box).2.2.1
  have hpl := hide (playedP w vC D.chs D.files.length h.chs h.ok.chs hfew)
  have hL1 := play_len D.chs
  replace h := hide h
  go_enter Try.func48, Try.ntmps48
  go_wp2_with fail
  refine hpl.out.mono ?_
  rintro e1 w1 ⟨pa, cap, rfl, hr, X1⟩
  obtain ⟨-, hm1, hm2, hat⟩ := rowG_at cNm_len hr.out
  obtain ⟨L, hL⟩ : ∃ L, L = playN D.chs := ⟨_, rfl⟩
  rw [← hL] at hat hL1 hm1
  rw [← hL]
  replace hat := hide hat; replace hL := hide hL; replace hr := hide hr.out
  go_wp2_with fail
  go_loopw [6] (fun kv wr => ∃ k : Nat, k ≤ L.length ∧ kv = .int .i64 k ∧ Hid (Ext w1 wr) ∧ Hid (¬ HasK Prod.fst (L.take k) name)) (fun k _ => L.length - (intOf k).toNat)
  case atStart => exact ⟨0, Nat.zero_le _, rfl, Ext.refl _, fun ⟨x, hx, _⟩ => by simp at hx⟩
  case round =>
    obtain ⟨k, hk, rfl, hXr, hno⟩ := hrel
    by_cases hlt : k < L.length
    · obtain ⟨x, hx⟩ : ∃ x, L[k]? = some x := ⟨_, List.getElem?_eq_getElem hlt⟩
      obtain ⟨g, rfl, hg⟩ := hat.out k x hx
      have x0 := hg 0 (by omega)
      have x1 := hg 1 (by omega)
      rw [Nat.add_zero] at x0
      simp only [cNm, List.getElem?_cons_zero, List.getElem?_cons_succ] at x0 x1
      replace x0 := hXr.out.cells x0
      replace x1 := hXr.out.cells x1
      have k1 : (k : Int) < (L.length : Int) := by omega
      have k2 : (0 : Int) ≤ (k : Int) := by omega
      replace hx := hide hx; replace hg := hide hg
      by_cases hn : x.1 = name
      · have z1 : x.1.toList = name.toList := by rw [hn]
        replace hn := hide hn
        go_wp2_with fail
        go_ret
        have e : lookN name D.names = some x.2 := by
          unfold lookN DskS.names
          rw [← hL.out, lookK_of (by rw [hL.out]; exact play_nodup D.chs) (List.mem_of_getElem? hx.out) hn.out]
          rfl
        exact ⟨by unfold fileN; rw [e]; rfl, X1.out.trans hXr.out⟩
      · have z1 : ¬ x.1.toList = name.toList := fun e => hn (by simpa [ByteArray.toList_eq, ByteArray.ext_iff] using e)
        have z2 : (x.1.toList == name.toList) = false := by simpa using z1
        replace hn := hide hn
        go_wp2_with fail
        go_roundw
        case rel =>
          refine ⟨k + 1, by omega, by go_num, hXr, fun ⟨q, hq, e⟩ => ?_⟩
          rw [List.take_add_one, hx.out, Option.toList_some] at hq
          rcases List.mem_append.1 hq with h1 | h1
          · exact hno.out ⟨q, h1, e⟩
          · obtain rfl : q = x := by simpa using h1
            exact hn.out e
        case measure => simp [intOf]; omega
    · obtain rfl : k = L.length := by omega
      go_wp2_with fail
      go_ret
      have e : lookN name D.names = none := by
        have h1 := hno.out
        rw [List.take_length] at h1
        unfold lookN DskS.names
        rw [← hL.out, lookK_none.2 h1]; rfl
      exact ⟨by unfold fileN; rw [e]; rfl, X1.out.trans hXr.out⟩
end Go.Proofs.Ytpkhmgonkbpjjaa
