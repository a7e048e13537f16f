/-
  A row is put into its place among the others (table F).
-/
import Derived.Test.YtpkhmgonkbpjjaaJ1
import Derived.Test.YtpkhmgonkbpjjaaJ9
namespace Go.Proofs.Ytpkhmgonkbpjjaa
open Go.RowKit

structure RowF where
  key : ByteArray
  val : Nat
def cRowF (x : RowF) : List Value := [.string x.key, .pointer (some ⟨x.val, 0, none⟩)]
theorem cRowF_len (x : RowF) : (cRowF x).length = 2 := rfl
theorem cRowF_one (x : RowF) : ∀ u ∈ cRowF x, u.oneCell' = true := by
  intro u hu
  simp [cRowF] at hu
  rcases hu with rfl | rfl <;> rfl
theorem cellsRowF_one (l : List RowF) : ∀ u ∈ cellsG cRowF l, u.oneCell' = true := by
  intro u hu
  obtain ⟨x, _, hx⟩ := List.mem_flatMap.1 hu
  exact cRowF_one x u hx
theorem infoRowF : (Try.prog.info? 140).map (fun i => (i.zero, i.size, i.bytes)) = some (some (.agg #[.string ⟨#[]⟩, .pointer none]), 2, 24) := by kernel_rfl
def ShiftedF (w : World) (g n c i : Nat) (xs : List Value) (x : RowF) (e : Ending) (w' : World) : Prop :=
  ∃ row : Array Value, e = .returned (.slice (some ⟨g, 0, none⟩) (n + 1) c) ∧ w'.heap[g]? = some (.cells row 140 (0, 0)) ∧ row.size = c * 2 ∧ row.toList.take ((n + 1) * 2) = xs.take (i * 2) ++ cRowF x ++ xs.drop (i * 2) ∧ Kept (· = g) w w'

set_option maxRecDepth 100000 in
set_option maxHeartbeats 4000000 in
theorem insShiftF (g n c i vb : Nat) (cur : Array Value) (xs : List Value) (x : RowF) (w : World) (hi : i < n) (hroom : n + 1 ≤ c) (hc : c ≤ 9223372036854775807)
    (hg : w.heap[g]? = some (.cells cur 140 (0, 0))) (hcs : cur.size = c * 2) (hxs : cur.toList.take (n * 2) = xs) (h1 : ∀ v ∈ xs, v.oneCell' = true)
    (hv : w.heap[vb]? = some (.cells #[.string x.key, .pointer (some ⟨x.val, 0, none⟩)] 140 (0, 0))) (hne : vb ≠ g) :
    Calls Try.prog 97 #[.slice (some ⟨g, 0, none⟩) n c, .int .i64 i, .slice (some ⟨vb, 0, none⟩) 1 1] w (ShiftedF w g n c i xs x) := by
  obtain ⟨i0, hi0, hz0, hz1, hz2⟩ := info_of infoRowF
  have hsz : (Try.prog.info? 140).map (·.size) = some 2 := by rw [hi0]; simp [hz1]
  have hov : ∀ lb cb, (callFunc 98 #[.slice (some ⟨vb, 0, none⟩) 1 1, .slice (some ⟨g, (i + 1) * 2, none⟩) lb cb]).run Try.prog w = .ok (.value (.bool false)) w := fun lb cb => by
    rw [run_callFunc_extern Try.func98 (by kernel_rfl) (by kernel_rfl) (by kernel_rfl) (e := Extern.SlicesOverlaps.overlaps #[135, 135] #[4]) (by kernel_rfl),
      Lib.run_overlaps_apart w 135 4 140 Try.underlying135 2 (fun w => by simp [sizeOf, typeInfo, hi0, hz1]) ⟨vb, 0, none⟩ ⟨g, (i + 1) * 2, none⟩ 1 1 lb cb hne 140 140 2 (c * 2) (by simp [World.shape?, hv]) (by simp [World.shape?, hg, hcs]) (by omega) (row_frozen hv 0) (row_frozen hv 2)]
    rfl
  have hlx : xs.length = n * 2 := by rw [← hxs]; simp; omega
  have hcu : ∀ j v, (xs.drop (i * 2))[j]? = some v → w.cell? ⟨g, i * 2 + j, none⟩ = some v := fun j v hj => by
    rw [List.getElem?_drop, ← hxs, List.getElem?_take] at hj
    split at hj
    · simp only [World.cell?, hg]; simpa using hj
    · cases hj
  obtain ⟨r1, hr1⟩ : ∃ r1 : Array Value, r1 = (cur.toList.take ((i + 1) * 2) ++ xs.drop (i * 2) ++ cur.toList.drop ((i + 1) * 2 + (xs.drop (i * 2)).length)).toArray := ⟨_, rfl⟩
  have hs1 : r1.size = c * 2 := by rw [hr1]; simp; omega
  obtain ⟨W1, hW1⟩ : ∃ W1, W1 = w.drew.setRow g r1 := ⟨_, rfl⟩
  have hg1 : W1.heap[g]? = some (.cells r1 140 (0, 0)) := by rw [hW1]; exact setRow_heap w.drew g cur r1 _ (0, 0) hg
  have hv1 : W1.heap[vb]? = some (.cells #[.string x.key, .pointer (some ⟨x.val, 0, none⟩)] 140 (0, 0)) := by rw [hW1, setRow_other w.drew g vb r1 hne]; exact hv
  have hK1 : Kept (· = g) w W1 := by rw [hW1]; exact ((Ext.refl w).drew.kept _).trans (kept_setRow w.drew g r1) (fun _ _ h => h)
  have hcp1 : ∀ ty dc sc, (Builtin.copy_ #[135, 135] ty #[.slice (some ⟨g, (i + 1) * 2, none⟩) (n - i) dc, .slice (some ⟨g, i * 2, none⟩) (n + 1 - i) sc]).run Try.prog w.drew = .ok (goInt ((n - i : Nat) : Int)) W1 := fun ty dc sc => by
    have hm : Nat.min (n + 1 - i) (n - i) = n - i := Nat.min_eq_right (by omega)
    have := run_copy_into (P := Try.prog) w.drew _ 135 ty 140 g ((i + 1) * 2) (n - i) dc ⟨g, i * 2, none⟩ (n + 1 - i) sc 2 cur _ (xs.drop (i * 2)) Try.underlying135 hsz hg (by rw [hm]; simp; omega) (fun j v hj => by rw [add_eq]; exact hcu j v hj) (by simp; omega) (fun v hv => h1 v (List.mem_of_mem_drop hv))
    rw [this, hm, hW1, hr1]
  obtain ⟨r2, hr2⟩ : ∃ r2 : Array Value, r2 = (r1.toList.take (i * 2) ++ cRowF x ++ r1.toList.drop (i * 2 + 2)).toArray := ⟨_, rfl⟩
  have hs2 : r2.size = c * 2 := by rw [hr2]; simp [cRowF]; omega
  have hcp2 : ∀ W : World, W.heap = W1.heap → ∀ ty dc, (Builtin.copy_ #[135, 135] ty #[.slice (some ⟨g, i * 2, none⟩) (n + 1 - i) dc, .slice (some ⟨vb, 0, none⟩) 1 1]).run Try.prog W = .ok (goInt 1) (W.setRow g r2) := fun W hW ty dc => by
    have hm : Nat.min 1 (n + 1 - i) = 1 := Nat.min_eq_left (by omega)
    have := run_copy_into (P := Try.prog) W _ 135 ty 140 g (i * 2) (n + 1 - i) dc ⟨vb, 0, none⟩ 1 1 2 r1 _ (cRowF x) Try.underlying135 hsz (by rw [hW]; exact hg1) (by rw [hm]; rfl) (fun j v hj => by
      rw [add_eq]; simp only [World.cell?, hW, hv1]
      rw [Nat.zero_add]; simpa [cRowF] using hj) (by rw [hs1]; simp [cRowF]; omega) (cRowF_one x)
    rw [this, hm, hr2]; rfl
  have hend : r2.toList.take ((n + 1) * 2) = xs.take (i * 2) ++ cRowF x ++ xs.drop (i * 2) := by
    rw [hr2, hr1, ← hxs, show (n + 1) * 2 = n * 2 + 2 by omega, show (i + 1) * 2 = i * 2 + 2 by omega]
    exact ins_rowsG cur.toList (cRowF x) (i * 2) (n * 2) 2 (by omega) (by simp; omega) rfl
  have hK2 : ∀ W : World, W.heap = W1.heap → W.os = W1.os → W.tape = W1.tape → W.output = W1.output → Kept (· = g) w (W.setRow g r2) ∧ (W.setRow g r2).heap[g]? = some (.cells r2 140 (0, 0)) := fun W e1 e2 e3 e4 => by
    refine ⟨⟨e2.trans hK1.os, e3.trans hK1.tape, e4.trans hK1.output, ?_, fun k hk hn => ?_⟩, setRow_heap W g r1 r2 _ (0, 0) (by rw [e1]; exact hg1)⟩
    · have := hK1.size; simp [World.setRow, e1]; exact this
    · rw [setRow_other W g k r2 hn, e1]; exact hK1.block k hk hn
  have i2 : (i : Int) ≤ (n : Int) := by omega
  have i3 : ¬ ((i : Int) = (n : Int)) := by omega
  have i4 : ¬ ((c : Int) < (n : Int) + 1) := by omega
  have i5 : (i : Int) + 1 ≤ (n : Int) + 1 := by omega
  have i6 : (i : Int) ≤ (n : Int) + 1 := by omega
  have mixed : Try.prog.follows Departure.mixedOrders = true := by kernel_rfl
  have hw1 : IntKind.i64.wrap ((i : Int) + 1) = (i : Int) + 1 := by rw [IntKind.wrap_i64]; omega
  have hb1 : (0 : Int) ≤ (i : Int) + 1 := by omega
  have htn : ((i : Int) + 1).toNat = i + 1 := by omega
  have hb2 : ¬ (c = i + 1) := by omega
  have hb4 : ¬ (c = i) := by omega
  clear hr1 hr2 hW1 hs1 hg1 hv1 hK1 hsz hz0 hz1 hz2 hi0 hlx hcu
  replace hg := hide hg; replace hcs := hide hcs; replace hxs := hide hxs; replace hv := hide hv; replace hend := hide hend; replace hs2 := hide hs2
  go_enter Try.func97, Try.ntmps97
  go_wp2_with (simp only [hov])
  go_region_law_o (refine step_copy_runI rfl _ _ 135 135 rfl _ _ (by simp [Act.eval, Act.put]) (by simp [Act.eval, Act.put]) (hcp1 _ _ _) ?_)
  go_wp2_with (at_builtin; refine wpList_copy_runI _ rfl _ _ 135 135 rfl _ _ rfl rfl (hcp2 _ rfl _ _) ?_)
  go_ret
  obtain ⟨k1, k2⟩ := hK2 _ rfl rfl rfl rfl
  exact ⟨r2, rfl, k2, hs2.out, hend.out, k1⟩

def GrownF (w : World) (n i : Nat) (xs : List Value) (x : RowF) (e : Ending) (w' : World) : Prop :=
  ∃ (row : Array Value) (N c : Nat), e = .returned (.slice (some ⟨N, 0, none⟩) (n + 1) c) ∧ w'.heap[N]? = some (.cells row 140 (0, 0)) ∧ row.size = c * 2 ∧ n + 1 ≤ c ∧ c ≤ maxLen ∧ row.toList.take ((n + 1) * 2) = xs.take (i * 2) ++ cRowF x ++ xs.drop (i * 2) ∧ Ext w w' ∧ w.heap.size ≤ N

set_option maxRecDepth 100000 in
set_option maxHeartbeats 4000000 in
theorem insGrowF (g n c i vb : Nat) (cur : Array Value) (xs : List Value) (x : RowF) (w : World) (hi : i < n) (hnc : n ≤ c) (hroom : c < n + 1) (hn : n ≤ 2000000000000)
    (hg : w.heap[g]? = some (.cells cur 140 (0, 0))) (hcs : cur.size = c * 2) (hxs : cur.toList.take (n * 2) = xs) (h1 : ∀ v ∈ xs, v.oneCell' = true)
    (hv : w.heap[vb]? = some (.cells #[.string x.key, .pointer (some ⟨x.val, 0, none⟩)] 140 (0, 0))) :
    Calls Try.prog 97 #[.slice (some ⟨g, 0, none⟩) n c, .int .i64 i, .slice (some ⟨vb, 0, none⟩) 1 1] w (GrownF w n i xs x) := by
  obtain ⟨i0, hi0, hz0, hz1, hz2⟩ := info_of infoRowF
  have hsz : (Try.prog.info? 140).map (·.size) = some 2 := by rw [hi0]; simp [hz1]
  have hlx : xs.length = n * 2 := by rw [← hxs]; simp; omega
  have hcu : ∀ j v, xs[j]? = some v → w.cell? ⟨g, j, none⟩ = some v := fun j v hj => by
    rw [← hxs, List.getElem?_take] at hj
    split at hj
    · simp only [World.cell?, hg]; simpa using hj
    · cases hj
  have hgw : g < w.heap.size := (Array.getElem?_eq_some_iff.1 hg).1
  have hvw : vb < w.heap.size := (Array.getElem?_eq_some_iff.1 hv).1
  have hold : (Builtin.firstCells i0.size i (.slice (some ⟨g, 0, none⟩) i c)).run Try.prog w.drew = .ok (xs.take (i * 2)).toArray w.drew := by
    rw [hz1]
    exact run_firstCells_some w.drew 2 i ⟨g, 0, none⟩ i c (xs.take (i * 2)) (by rw [List.length_take]; omega) (fun j v hj => by
      rw [add_eq]
      rw [List.getElem?_take] at hj
      split at hj
      · rw [Nat.zero_add]; exact hcu j v hj
      · cases hj)
  have hik : i + (n + 1 - i) = n + 1 := by omega
  have hkk : (n : Int) + 1 - (i : Int) = ((n + 1 - i : Nat) : Int) := by omega
  obtain ⟨G, hG⟩ : ∃ G, G = grownCap w (n + 1) c 140 := ⟨_, rfl⟩
  have hGn : n + 1 ≤ G := by rw [hG]; exact grownCap_ge w _ _ _
  have hGm : G ≤ maxLen := by rw [hG]; exact grownCap_le_maxLen w (n + 1) c _ (by unfold maxLen; omega)
  obtain ⟨N, hN⟩ : ∃ N, N = w.heap.size := ⟨_, rfl⟩
  obtain ⟨Z, hZ⟩ : ∃ Z : List Value, Z = (Builtin.zeroCells (Value.cells (.agg #[.string ⟨#[]⟩, .pointer none])) (n + 1 - i) ++ Builtin.zeroCells (Value.cells (.agg #[.string ⟨#[]⟩, .pointer none])) (G - (n + 1))).toList := ⟨_, rfl⟩
  have hZl : Z.length = (G - i) * 2 := by
    rw [hZ]; simp [Builtin.zeroCells, Value.cells]; omega
  obtain ⟨r1, hr1⟩ : ∃ r1 : Array Value, r1 = (xs.take (i * 2) ++ Z).toArray := ⟨_, rfl⟩
  have hs1 : r1.size = G * 2 := by rw [hr1]; simp; omega
  obtain ⟨W1, hW1⟩ : ∃ W1, W1 = w.drew.alloc (.cells r1 140) := ⟨_, rfl⟩
  have hX1 : Ext w W1 := by rw [hW1]; exact (Ext.refl w).drew.alloc _
  have hg1 : W1.heap[N]? = some (.cells r1 140 (0, 0)) := by rw [hW1, hN]; exact heap_alloc_new w.drew _
  have hrz : ∀ ty, (Builtin.append_ #[135, 3] ty #[.slice (some ⟨g, 0, none⟩) i c, .int .i64 ((n : Int) + 1 - (i : Int))]).run Try.prog w = .ok (.slice (some ⟨N, 0, none⟩) (n + 1) G) W1 := fun ty => by
    have h := Lib.run_append_grow_zeros w 135 3 ty 140 i0 _ .i64 .i64 Try.underlying135 Try.underlying3 hi0 hz0 (some ⟨g, 0, none⟩) i c (xs.take (i * 2)) hold (n + 1 - i) (by omega) (by omega) (by omega) (by omega) (by rw [hz2]; omega) (by rw [hz2, hik]; exact growslice_fits hroom (by omega))
    rw [hik] at h
    rw [hkk, h, hW1, hr1, hZ, hN, ← hG, arr_appG]
  obtain ⟨r2, hr2⟩ : ∃ r2 : Array Value, r2 = (r1.toList.take (i * 2) ++ cRowF x ++ r1.toList.drop (i * 2 + 2)).toArray := ⟨_, rfl⟩
  have hs2 : r2.size = G * 2 := by rw [hr2]; simp [cRowF]; omega
  have hcpA : ∀ W : World, W.heap = W1.heap → ∀ ty dc, (Builtin.copy_ #[135, 135] ty #[.slice (some ⟨N, i * 2, none⟩) (n + 1 - i) dc, .slice (some ⟨vb, 0, none⟩) 1 1]).run Try.prog W = .ok (goInt 1) (W.setRow N r2) := fun W hW ty dc => by
    have hm : Nat.min 1 (n + 1 - i) = 1 := Nat.min_eq_left (by omega)
    have hv1 : W1.heap[vb]? = some (.cells #[.string x.key, .pointer (some ⟨x.val, 0, none⟩)] 140 (0, 0)) := ext_heap hX1 hv
    have := run_copy_into (P := Try.prog) W _ 135 ty 140 N (i * 2) (n + 1 - i) dc ⟨vb, 0, none⟩ 1 1 2 r1 _ (cRowF x) Try.underlying135 hsz (by rw [hW]; exact hg1) (by rw [hm]; rfl) (fun j v hj => by
      rw [add_eq]; simp only [World.cell?, hW, hv1]
      rw [Nat.zero_add]; simpa [cRowF] using hj) (by rw [hs1]; simp [cRowF]; omega) (cRowF_one x)
    rw [this, hm, hr2]; rfl
  have hNg : g ≠ N := by omega
  obtain ⟨r3, hr3⟩ : ∃ r3 : Array Value, r3 = (r2.toList.take ((i + 1) * 2) ++ xs.drop (i * 2) ++ r2.toList.drop ((i + 1) * 2 + (xs.drop (i * 2)).length)).toArray := ⟨_, rfl⟩
  have hs3 : r3.size = G * 2 := by rw [hr3]; simp; omega
  have hcpB : ∀ W V : World, V.heap = W1.heap → W.heap = (V.setRow N r2).heap → ∀ ty dc sc, (Builtin.copy_ #[135, 135] ty #[.slice (some ⟨N, (i + 1) * 2, none⟩) (n - i) dc, .slice (some ⟨g, i * 2, none⟩) (n - i) sc]).run Try.prog W = .ok (goInt ((n - i : Nat) : Int)) (W.setRow N r3) := fun W V hV hW ty dc sc => by
    have hm : Nat.min (n - i) (n - i) = n - i := Nat.min_self _
    have hgW : W.heap[N]? = some (.cells r2 140 (0, 0)) := by rw [hW]; exact setRow_heap V N r1 r2 _ (0, 0) (by rw [hV]; exact hg1)
    have hgg : W.heap[g]? = some (.cells cur 140 (0, 0)) := by rw [hW, setRow_other V N g r2 hNg, hV]; exact ext_heap hX1 hg
    have := run_copy_into (P := Try.prog) W _ 135 ty 140 N ((i + 1) * 2) (n - i) dc ⟨g, i * 2, none⟩ (n - i) sc 2 r2 _ (xs.drop (i * 2)) Try.underlying135 hsz hgW (by rw [hm]; simp; omega) (fun j v hj => by
      rw [add_eq]
      have h2 := hcu (i * 2 + j) v (by rwa [List.getElem?_drop] at hj)
      simp only [World.cell?, hg] at h2
      simp only [World.cell?, hgg]
      exact h2) (by rw [hs2]; simp; omega) (fun v hv => h1 v (List.mem_of_mem_drop hv))
    rw [this, hm, hr3]
  have hend : r3.toList.take ((n + 1) * 2) = xs.take (i * 2) ++ cRowF x ++ xs.drop (i * 2) := by
    rw [hr3, hr2, hr1, show (n + 1) * 2 = n * 2 + 2 by omega, show (i + 1) * 2 = i * 2 + 2 by omega]
    exact grow_rowsG xs (cRowF x) Z (i * 2) (n * 2) 2 (by omega) hlx rfl
  have hK2 : ∀ W V : World, V.heap = W1.heap → W.heap = (V.setRow N r2).heap → W.os = W1.os → W.tape = W1.tape → W.output = W1.output → Ext w (W.setRow N r3) ∧ (W.setRow N r3).heap[N]? = some (.cells r3 140 (0, 0)) := fun W V hV hW e2 e3 e4 => by
    refine ⟨⟨e2.trans (Below.os hX1), e3.trans (Below.tape hX1), e4.trans (Below.output hX1), ?_, fun k hk => ?_⟩, setRow_heap W N r2 r3 _ (0, 0) (by rw [hW]; exact setRow_heap V N r1 r2 _ (0, 0) (by rw [hV]; exact hg1))⟩
    · have := Ext.size hX1; simp [World.setRow, hW, hV]; exact this
    · rw [setRow_other W N k r3 (by omega), hW, setRow_other V N k r2 (by omega), hV]; exact Below.block hX1 k hk
  have i2 : (i : Int) ≤ (n : Int) := by omega
  have i3 : ¬ ((i : Int) = (n : Int)) := by omega
  have i4 : (c : Int) < (n : Int) + 1 := by omega
  have i5 : (i : Int) + 1 ≤ (n : Int) + 1 := by omega
  have i6 : (i : Int) ≤ (n : Int) + 1 := by omega
  have mixed : Try.prog.follows Departure.mixedOrders = true := by kernel_rfl
  have hw1 : IntKind.i64.wrap ((i : Int) + 1) = (i : Int) + 1 := by rw [IntKind.wrap_i64]; omega
  have hb1 : (0 : Int) ≤ (i : Int) + 1 := by omega
  have htn : ((i : Int) + 1).toNat = i + 1 := by omega
  have hb2 : ¬ (G = i + 1) := by omega
  have hb4 : ¬ (c = i) := by omega
  have hb5 : ¬ (G = i) := by omega
  have hG63 : G ≤ 9223372036854775807 := by unfold maxLen at hGm; omega
  clear hr1 hr2 hr3 hW1 hs1 hs2 hg1 hsz hz0 hz1 hz2 hi0 hlx hcu hold hik hkk hZ hZl hX1
  replace hg := hide hg; replace hcs := hide hcs; replace hxs := hide hxs; replace hv := hide hv; replace hend := hide hend; replace hs3 := hide hs3; replace hG := hide hG; replace hN := hide hN
  go_enter Try.func97, Try.ntmps97
  go_wp2_with (first
    | (at_builtin; refine Lib.wpList_append_run _ rfl _ _ _ _ rfl _ _ rfl rfl _ _ (hrz _) ?_)
    | (at_builtin; refine wpList_copy_runI _ rfl _ _ 135 135 rfl _ _ rfl rfl (hcpA _ rfl _ _) ?_))
  go_region_law_o (refine step_copy_runI rfl _ _ 135 135 rfl (.slice (some ⟨N, (i + 1) * 2, none⟩) (n - i) (G - (i + 1))) (.slice (some ⟨g, i * 2, none⟩) (n - i) (c - i)) (by simp [Act.eval, Act.put]) (by simp [Act.eval, Act.put]) (hcpB (W1.setRow N r2).drew W1 rfl rfl 3 (G - (i + 1)) (c - i)) ?_)
  go_wp2
  go_ret
  obtain ⟨k1, k2⟩ := hK2 (W1.setRow N r2).drew W1 rfl rfl rfl rfl rfl
  exact ⟨r3, N, G, rfl, k2, hs3.out, hGn, hGm, hend.out, k1, by rw [hN.out]; exact Nat.le_refl _⟩

/-- Only rows from B on have turned. -/
abbrev WroteKF (B : Nat) (w w' : World) : Prop := Wrote B (· = 140) w w'
/-- The rows of a table, in a row of our own. -/
abbrev RowsF (B : Nat) (w : World) (v : Value) (rs : List RowF) : Prop := w.ownsRow B 140 2 v rs.length (cellsG cRowF rs)
/-- What is answered when a row was put into its place. -/
def InsIsF (B : Nat) (v : Value) (w : World) (rs : List RowF) (e : Ending) (w' : World) : Prop :=
  ∃ (pa : Option Addr) (cap n : Nat), e = .returned (.slice pa n cap) ∧ Hid (n = rs.length) ∧ Hid (RowsF B w' (.slice pa n cap) rs) ∧ Hid (WroteKF B w w') ∧ Hid (Kept (fun k => v.ownBlock = some k) w w' ∧ ∀ g, (Value.slice pa n cap).ownBlock = some g → v.ownBlock = some g ∨ w.heap.size ≤ g)

set_option maxRecDepth 100000 in
set_option maxHeartbeats 1600000 in
theorem insRowF (B : Nat) (v : Value) (rs : List RowF) (x : RowF) (i vb : Nat) (w : World) (hv : RowsF B w v rs) (hB : B ≤ w.heap.size) (hi : i ≤ rs.length) (hn : rs.length ≤ 2000000000000)
    (hvb : w.heap[vb]? = some (.cells #[.string x.key, .pointer (some ⟨x.val, 0, none⟩)] 140 (0, 0))) (hne : some vb ≠ v.ownBlock) :
    Calls Try.prog 97 #[v, .int .i64 i, .slice (some ⟨vb, 0, none⟩) 1 1] w (InsIsF B v w (insG rs i x)) := by
  have hlen := insG_len (a := x) hi
  by_cases hin : i = rs.length
  · subst hin
    obtain ⟨i0, hi0, hz0, hz1, hz2⟩ := info_of infoRowF
    obtain ⟨pa, cap, rfl⟩ := ownsRow_form hv
    have hcap : rs.length ≤ cap := by
      rcases hv.2 with ⟨h, h'⟩ | ⟨g, c, cur, h, _, _, h', _⟩
      · omega
      · cases h; exact h'
    have hE : Hid (cellsG cRowF rs ++ cRowF x = cellsG cRowF (insG rs rs.length x)) := by
      show _ = _
      simp [cellsG, insG]
    have hlen' : Hid ((insG rs rs.length x).length = rs.length + 1) := hlen
    have hcell : Hid (∀ j u, (cRowF x)[j]? = some u → w.cell? ((⟨vb, 0, none⟩ : Addr).add j) = some u) := fun j u hu => by
      rw [add_eq]; simp only [World.cell?, hvb]; rw [Nat.zero_add]; simpa [cRowF] using hu
    clear hlen
    replace hv := hide hv; replace hi0 := hide hi0; replace hvb := hide hvb; replace hne := hide hne
    go_enter Try.func97, Try.ntmps97
    go_wp2_with (at_builtin; go_must (refine wpList_append_lies _ rfl _ _ 135 rfl B 140 i0 (.agg #[.string ⟨#[]⟩, .pointer none]) 2 24 Try.underlying135 hi0.out hz0 hz1 hz2 rfl (by omega) _ rs.length (cellsG cRowF rs) rfl hv.out ⟨vb, 0, none⟩ 1 1 (cRowF x) rfl rfl hcell.out (cRowF_one x) (by omega) (by unfold maxLen; omega) (by omega) hB w.heap.size rfl ?_; intro g1 cap1 w1 hown1 hgrow1 hat1 hlt1))
    all_goals
      go_ret
      refine ⟨_, _, _, rfl, hlen'.out.symm, ?_, ?_, ⟨hgrow1.os, hgrow1.tape, hgrow1.output, hgrow1.size, fun k hk hn => hgrow1.block k hk fun e => hn (by revert e; cases pa <;> exact fun e => e.symm)⟩, fun g hg => ?_⟩
      · show World.ownsRow _ _ _ _ _ _ _
        rw [hlen'.out, ← hE.out]; exact hown1
      · exact (Wrote.refl B _ w).grown hv.out rfl hgrow1
      · obtain rfl : g1 = g := by simpa [Value.ownBlock] using hg
        exact hat1.imp (by cases pa <;> exact id) fun h => by omega
  · have hlt : i < rs.length := by omega
    rcases hv.2 with ⟨rfl, h0⟩ | ⟨g, cap, cur, rfl, hbg, hg, hcap, hcm, hcs, hcur⟩
    · omega
    have hne' : vb ≠ g := fun e => hne (by simp [Value.ownBlock, e])
    by_cases hroom : rs.length + 1 ≤ cap
    · refine (insShiftF g rs.length cap i vb cur (cellsG cRowF rs) x w hlt hroom (by unfold maxLen at hcm; omega) hg hcs hcur (cellsRowF_one rs) hvb hne').mono ?_
      rintro e w1 ⟨row, rfl, hr1, hr2, hr3, hk⟩
      refine ⟨_, _, _, rfl, hlen.symm, ?_, Wrote.keptG hk hg rfl hbg, hk.mono (fun k _ e => by simp [Value.ownBlock, e]), fun g' hg' => .inl hg'⟩
      rw [cellsG_ins cRowF_len] at hr3
      refine ⟨cellsG_len cRowF_len _, .inr ⟨g, cap, row, by rw [hlen], hbg, hr1, by omega, hcm, hr2, by rw [hlen]; exact hr3⟩⟩
    · refine (insGrowF g rs.length cap i vb cur (cellsG cRowF rs) x w hlt hcap (by omega) (by omega) hg hcs hcur (cellsRowF_one rs) hvb).mono ?_
      rintro e w1 ⟨row, N, c, rfl, hr1, hr2, hr3, hr4, hr5, hx, hN⟩
      refine ⟨_, _, _, rfl, hlen.symm, ?_, Wrote.ext hx, hx.kept _, fun g' hg' => .inr (by simp [Value.ownBlock] at hg'; omega)⟩
      rw [cellsG_ins cRowF_len] at hr5
      refine ⟨cellsG_len cRowF_len _, .inr ⟨N, c, row, by rw [hlen], by omega, hr1, by omega, hr4, hr2, by rw [hlen]; exact hr5⟩⟩
end Go.Proofs.Ytpkhmgonkbpjjaa
