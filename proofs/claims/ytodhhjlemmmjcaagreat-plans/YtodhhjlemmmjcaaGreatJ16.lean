/-
  Rows that are put into their places: what is the same for all tables.
-/
/-
  A key is put into its place among the others.
-/
import Derived.Test.YtodhhjlemmmjcaaGreatJ15
import Derived.Test.YtodhhjlemmmjcaaGreatJ4
import Derived.Shelf.Spec.SlicesInsertGrow
import Derived.Test.YtodhhjlemmmjcaaGreatJ7
namespace Go.Proofs.YtodhhjlemmmjcaaGreat
open Go.RowKit

/-- copy into a row of our own, from a place on. -/
theorem run_copy_into {P : Program} (w : World) (dT sT ty elem : TypeId) (g o dLen dCap : Nat) (a : Addr) (sLen sCap sz : Nat) (cur : Array Value) (t : TypeId) (cs : List Value)
    (hu : P.underlying dT = some (.slice elem)) (hs : (P.info? elem).map (·.size) = some sz)
    (hg : w.heap[g]? = some (.cells cur t (0, 0))) (hn : cs.length = Nat.min sLen dLen * sz)
    (hsrc : ∀ j v, cs[j]? = some v → w.cell? (a.add j) = some v) (hfit : o + cs.length ≤ cur.size) (h1 : ∀ v ∈ cs, v.oneCell' = true) :
    (Builtin.copy_ #[dT, sT] ty #[.slice (some ⟨g, o, none⟩) dLen dCap, .slice (some a) sLen sCap]).run P w =
      .ok (goInt (Nat.min sLen dLen)) (w.setRow g (cur.toList.take o ++ cs ++ cur.toList.drop (o + cs.length)).toArray) := by
  have hl := run_loadCells_list (P := P) w a cs hsrc
  have hst := run_storeCells_at P g o t cs 0 cur w hg (by simpa using hfit) h1
  simp only [Nat.add_zero] at hst
  cases hq : P.info? elem with
  | none => simp [hq] at hs
  | some i =>
    have hi : i.size = sz := by simpa [hq] using hs
    simp [Builtin.copy_, run_underlying hu, Builtin.lenOf, Builtin.firstCells, sizeOf, typeInfo, hq, hi, ← hn, hl, hst]

theorem ins_rowsG {α : Type} (C vs : List α) (k m z : Nat) (hk : k ≤ m) (hm : m + z ≤ C.length) (hv : vs.length = z) :
    (((C.take (k + z) ++ (C.take m).drop k ++ C.drop (k + z + ((C.take m).drop k).length)).take k ++ vs ++ (C.take (k + z) ++ (C.take m).drop k ++ C.drop (k + z + ((C.take m).drop k).length)).drop (k + z)).take (m + z)) = (C.take m).take k ++ vs ++ (C.take m).drop k := by
  have e1 : (C.take (k + z) ++ (C.take m).drop k ++ C.drop (k + z + ((C.take m).drop k).length)).take k = (C.take m).take k := by
    rw [List.append_assoc, List.take_append_of_le_length (by simp; omega), List.take_take, List.take_take]
    congr 1; omega
  have e2 : (C.take (k + z) ++ (C.take m).drop k ++ C.drop (k + z + ((C.take m).drop k).length)).drop (k + z) = (C.take m).drop k ++ C.drop (k + z + ((C.take m).drop k).length) := by
    rw [List.append_assoc, List.drop_left' (by simp; omega)]
  rw [e1, e2, ← List.append_assoc]
  rw [List.take_left' (by simp; omega)]
theorem arr_appG (l : List Value) (A B : Array Value) : l.toArray ++ A ++ B = (l ++ (A ++ B).toList).toArray := by apply Array.toList_inj.1; simp
theorem grow_rowsG {α : Type} (xs vs Z : List α) (k m z : Nat) (hk : k ≤ m) (hx : xs.length = m) (hv : vs.length = z) :
    ((((xs.take k ++ Z).take k ++ vs ++ (xs.take k ++ Z).drop (k + z)).take (k + z) ++ xs.drop k ++ ((xs.take k ++ Z).take k ++ vs ++ (xs.take k ++ Z).drop (k + z)).drop (k + z + (xs.drop k).length)).take (m + z)) = xs.take k ++ vs ++ xs.drop k := by
  have e1 : (xs.take k ++ Z).take k = xs.take k := List.take_left' (by simp; omega)
  rw [e1]
  have e2 : (xs.take k ++ vs ++ (xs.take k ++ Z).drop (k + z)).take (k + z) = xs.take k ++ vs := List.take_left' (by simp; omega)
  rw [e2]
  exact List.take_left' (by simp; omega)
theorem Wrote.keptG {g B : Nat} {T : TypeId → Prop} {w w' : World} {c : Array Value} {t : TypeId} {fz : Nat × Nat} (h : Kept (· = g) w w') (hg : w.heap[g]? = some (.cells c t fz)) (ht : T t) (hb : B ≤ g) : Wrote B T w w' :=
  ⟨h.os, h.tape, h.output, h.size, fun k hk hd => h.block k hk (fun e => by
    subst e
    rcases hd with hd | hd
    · omega
    · exact hd _ _ _ hg ht)⟩
end Go.Proofs.YtodhhjlemmmjcaaGreat

namespace Go.Proofs.YtodhhjlemmmjcaaGreat
open Go.RowKit

theorem infoRow : (Tryz.prog.info? 158).map (fun i => (i.zero, i.size, i.bytes)) = some (some (.agg #[.string ⟨#[]⟩, .string ⟨#[]⟩]), 2, 40) := by kernel_rfl
theorem ins_rows {α : Type} (C vs : List α) (k m : Nat) (hk : k ≤ m) (hm : m + 2 ≤ C.length) (hv : vs.length = 2) :
    (((C.take (k + 2) ++ (C.take m).drop k ++ C.drop (k + 2 + ((C.take m).drop k).length)).take k ++ vs ++ (C.take (k + 2) ++ (C.take m).drop k ++ C.drop (k + 2 + ((C.take m).drop k).length)).drop (k + vs.length)).take (m + 2)) = (C.take m).take k ++ vs ++ (C.take m).drop k := by
  have e1 : (C.take (k + 2) ++ (C.take m).drop k ++ C.drop (k + 2 + ((C.take m).drop k).length)).take k = (C.take m).take k := by
    rw [List.append_assoc, List.take_append_of_le_length (by simp; omega), List.take_take, List.take_take]
    congr 1; omega
  have e2 : (C.take (k + 2) ++ (C.take m).drop k ++ C.drop (k + 2 + ((C.take m).drop k).length)).drop (k + vs.length) = (C.take m).drop k ++ C.drop (k + 2 + ((C.take m).drop k).length) := by
    rw [List.append_assoc, List.drop_left' (by simp; omega)]
  rw [e1, e2, ← List.append_assoc]
  rw [List.take_left' (by simp; omega)]

/-- What is answered where there is room. -/
def Shifted (w : World) (g n c i : Nat) (xs : List Value) (a : IDd) (e : Ending) (w' : World) : Prop :=
  ∃ row : Array Value, e = .returned (.slice (some ⟨g, 0, none⟩) (n + 1) c) ∧ w'.heap[g]? = some (.cells row 158 (0, 0)) ∧ row.size = c * 2 ∧ row.toList.take ((n + 1) * 2) = xs.take (i * 2) ++ [Value.string a.kind, Value.string a.name] ++ xs.drop (i * 2) ∧ Kept (· = g) w w'

set_option maxRecDepth 100000 in
set_option maxHeartbeats 4000000 in
theorem insShift (g n c i vb : Nat) (cur : Array Value) (xs : List Value) (a : IDd) (w : World) (hi : i < n) (hroom : n + 1 ≤ c) (hc : c ≤ 9223372036854775807)
    (hg : w.heap[g]? = some (.cells cur 158 (0, 0))) (hcs : cur.size = c * 2) (hxs : cur.toList.take (n * 2) = xs) (h1 : ∀ v ∈ xs, v.oneCell' = true)
    (hv : w.heap[vb]? = some (.cells #[.string a.kind, .string a.name] 158 (0, 0))) (hne : vb ≠ g) :
    Calls Tryz.prog 89 #[.slice (some ⟨g, 0, none⟩) n c, .int .i64 i, .slice (some ⟨vb, 0, none⟩) 1 1] w (Shifted w g n c i xs a) := by
  obtain ⟨i0, hi0, hz0, hz1, hz2⟩ := info_of infoRow
  have hsz : (Tryz.prog.info? 158).map (·.size) = some 2 := by rw [hi0]; simp [hz1]
  have hov : ∀ lb cb, (callFunc 112 #[.slice (some ⟨vb, 0, none⟩) 1 1, .slice (some ⟨g, (i + 1) * 2, none⟩) lb cb]).run Tryz.prog w = .ok (.value (.bool false)) w := fun lb cb => by
    rw [run_callFunc_extern Tryz.func112 (by kernel_rfl) (by kernel_rfl) (by kernel_rfl) (e := Extern.SlicesOverlaps.overlaps #[151, 151] #[4]) (by kernel_rfl),
      Lib.run_overlaps_apart w 151 4 158 Tryz.underlying151 2 (fun w => by simp [sizeOf, typeInfo, hi0, hz1]) ⟨vb, 0, none⟩ ⟨g, (i + 1) * 2, none⟩ 1 1 lb cb hne 158 158 2 (c * 2) (by simp [World.shape?, hv]) (by simp [World.shape?, hg, hcs]) (by omega) (row_frozen hv 0) (row_frozen hv 2)]
    rfl
  have hlx : xs.length = n * 2 := by rw [← hxs]; simp; omega
  have hcu : ∀ j v, (xs.drop (i * 2))[j]? = some v → w.cell? ⟨g, i * 2 + j, none⟩ = some v := fun j v hj => by
    rw [List.getElem?_drop, ← hxs, List.getElem?_take] at hj
    split at hj
    · simp only [World.cell?, hg]; simpa using hj
    · cases hj
  obtain ⟨r1, hr1⟩ : ∃ r1 : Array Value, r1 = (cur.toList.take ((i + 1) * 2) ++ xs.drop (i * 2) ++ cur.toList.drop ((i + 1) * 2 + (xs.drop (i * 2)).length)).toArray := ⟨_, rfl⟩
  have hs1 : r1.size = c * 2 := by rw [hr1]; simp; omega
  obtain ⟨W1, hW1⟩ : ∃ W1, W1 = w.drew.setRow g r1 := ⟨_, rfl⟩
  have hg1 : W1.heap[g]? = some (.cells r1 158 (0, 0)) := by rw [hW1]; exact setRow_heap w.drew g cur r1 _ (0, 0) hg
  have hv1 : W1.heap[vb]? = some (.cells #[.string a.kind, .string a.name] 158 (0, 0)) := by rw [hW1, setRow_other w.drew g vb r1 hne]; exact hv
  have hK1 : Kept (· = g) w W1 := by rw [hW1]; exact ((Ext.refl w).drew.kept _).trans (kept_setRow w.drew g r1) (fun _ _ h => h)
  have hcp1 : ∀ ty dc sc, (Builtin.copy_ #[151, 151] ty #[.slice (some ⟨g, (i + 1) * 2, none⟩) (n - i) dc, .slice (some ⟨g, i * 2, none⟩) (n + 1 - i) sc]).run Tryz.prog w.drew = .ok (goInt ((n - i : Nat) : Int)) W1 := fun ty dc sc => by
    have hm : Nat.min (n + 1 - i) (n - i) = n - i := Nat.min_eq_right (by omega)
    have := run_copy_into (P := Tryz.prog) w.drew _ 151 ty 158 g ((i + 1) * 2) (n - i) dc ⟨g, i * 2, none⟩ (n + 1 - i) sc 2 cur _ (xs.drop (i * 2)) Tryz.underlying151 hsz hg (by rw [hm]; simp; omega) (fun j v hj => by rw [add_eq]; exact hcu j v hj) (by simp; omega) (fun v hv => h1 v (List.mem_of_mem_drop hv))
    rw [this, hm, hW1, hr1]
  obtain ⟨r2, hr2⟩ : ∃ r2 : Array Value, r2 = (r1.toList.take (i * 2) ++ [Value.string a.kind, Value.string a.name] ++ r1.toList.drop (i * 2 + 2)).toArray := ⟨_, rfl⟩
  have hs2 : r2.size = c * 2 := by rw [hr2]; simp; omega
  have hcp2 : ∀ W : World, W.heap = W1.heap → ∀ ty dc, (Builtin.copy_ #[151, 151] ty #[.slice (some ⟨g, i * 2, none⟩) (n + 1 - i) dc, .slice (some ⟨vb, 0, none⟩) 1 1]).run Tryz.prog W = .ok (goInt 1) (W.setRow g r2) := fun W hW ty dc => by
    have hm : Nat.min 1 (n + 1 - i) = 1 := Nat.min_eq_left (by omega)
    have := run_copy_into (P := Tryz.prog) W _ 151 ty 158 g (i * 2) (n + 1 - i) dc ⟨vb, 0, none⟩ 1 1 2 r1 _ [Value.string a.kind, Value.string a.name] Tryz.underlying151 hsz (by rw [hW]; exact hg1) (by rw [hm]; rfl) (fun j v hj => by
      rw [add_eq]; simp only [World.cell?, hW, hv1]
      match j, hj with
      | 0, hj => simpa using hj
      | 1, hj => simpa using hj
      | _ + 2, hj => simp at hj) (by rw [hs1]; simp; omega) (by simp [Value.oneCell'])
    rw [this, hm, hr2]; rfl
  have hend : r2.toList.take ((n + 1) * 2) = xs.take (i * 2) ++ [Value.string a.kind, Value.string a.name] ++ xs.drop (i * 2) := by
    rw [hr2, hr1, ← hxs, show (n + 1) * 2 = n * 2 + 2 by omega, show (i + 1) * 2 = i * 2 + 2 by omega]
    exact ins_rows cur.toList [Value.string a.kind, Value.string a.name] (i * 2) (n * 2) (by omega) (by simp; omega) rfl
  have hK2 : ∀ W : World, W.heap = W1.heap → W.os = W1.os → W.tape = W1.tape → W.output = W1.output → Kept (· = g) w (W.setRow g r2) ∧ (W.setRow g r2).heap[g]? = some (.cells r2 158 (0, 0)) := fun W e1 e2 e3 e4 => by
    refine ⟨⟨e2.trans hK1.os, e3.trans hK1.tape, e4.trans hK1.output, ?_, fun k hk hn => ?_⟩, setRow_heap W g r1 r2 _ (0, 0) (by rw [e1]; exact hg1)⟩
    · have := hK1.size; simp [World.setRow, e1]; exact this
    · rw [setRow_other W g k r2 hn, e1]; exact hK1.block k hk hn
  have i2 : (i : Int) ≤ (n : Int) := by omega
  have i3 : ¬ ((i : Int) = (n : Int)) := by omega
  have i4 : ¬ ((c : Int) < (n : Int) + 1) := by omega
  have i5 : (i : Int) + 1 ≤ (n : Int) + 1 := by omega
  have i6 : (i : Int) ≤ (n : Int) + 1 := by omega
  have mixed : Tryz.prog.follows Departure.mixedOrders = true := by kernel_rfl
  have hw1 : IntKind.i64.wrap ((i : Int) + 1) = (i : Int) + 1 := by rw [IntKind.wrap_i64]; omega
  have hb1 : (0 : Int) ≤ (i : Int) + 1 := by omega
  have htn : ((i : Int) + 1).toNat = i + 1 := by omega
  have hb2 : ¬ (c = i + 1) := by omega
  have hb4 : ¬ (c = i) := by omega
  clear hr1 hr2 hW1 hs1 hg1 hv1 hK1 hsz hz0 hz1 hz2 hi0 hlx hcu
  replace hg := hide hg; replace hcs := hide hcs; replace hxs := hide hxs; replace hv := hide hv; replace hend := hide hend; replace hs2 := hide hs2
  go_enter Tryz.func89, Tryz.ntmps89
  go_wp2_with (simp only [hov])
  go_region_law_o (refine step_copy_runI rfl _ _ 151 151 rfl _ _ (by simp [Act.eval, Act.put]) (by simp [Act.eval, Act.put]) (hcp1 _ _ _) ?_)
  go_wp2_with (at_builtin; refine wpList_copy_runI _ rfl _ _ 151 151 rfl _ _ rfl rfl (hcp2 _ rfl _ _) ?_)
  go_ret
  obtain ⟨k1, k2⟩ := hK2 _ rfl rfl rfl rfl
  exact ⟨r2, rfl, k2, hs2.out, hend.out, k1⟩

theorem arr_app (l : List Value) (A B : Array Value) : l.toArray ++ A ++ B = (l ++ (A ++ B).toList).toArray := by apply Array.toList_inj.1; simp
theorem grow_rows {α : Type} (xs vs Z : List α) (k m : Nat) (hk : k ≤ m) (hx : xs.length = m) (hv : vs.length = 2) :
    ((((xs.take k ++ Z).take k ++ vs ++ (xs.take k ++ Z).drop (k + 2)).take (k + 2) ++ xs.drop k ++ ((xs.take k ++ Z).take k ++ vs ++ (xs.take k ++ Z).drop (k + 2)).drop (k + 2 + (xs.drop k).length)).take (m + 2)) = xs.take k ++ vs ++ xs.drop k := by
  have e1 : (xs.take k ++ Z).take k = xs.take k := List.take_left' (by simp; omega)
  rw [e1]
  have e2 : (xs.take k ++ vs ++ (xs.take k ++ Z).drop (k + 2)).take (k + 2) = xs.take k ++ vs := List.take_left' (by simp; omega)
  rw [e2]
  exact List.take_left' (by simp; omega)
def Grown1 (w : World) (n i : Nat) (xs : List Value) (a : IDd) (e : Ending) (w' : World) : Prop :=
  ∃ (row : Array Value) (N c : Nat), e = .returned (.slice (some ⟨N, 0, none⟩) (n + 1) c) ∧ w'.heap[N]? = some (.cells row 158 (0, 0)) ∧ row.size = c * 2 ∧ n + 1 ≤ c ∧ c ≤ maxLen ∧ row.toList.take ((n + 1) * 2) = xs.take (i * 2) ++ [Value.string a.kind, Value.string a.name] ++ xs.drop (i * 2) ∧ Ext w w' ∧ w.heap.size ≤ N

set_option maxRecDepth 100000 in
set_option maxHeartbeats 4000000 in
theorem insGrow (g n c i vb : Nat) (cur : Array Value) (xs : List Value) (a : IDd) (w : World) (hi : i < n) (hnc : n ≤ c) (hroom : c < n + 1) (hn : n ≤ 2000000)
    (hg : w.heap[g]? = some (.cells cur 158 (0, 0))) (hcs : cur.size = c * 2) (hxs : cur.toList.take (n * 2) = xs) (h1 : ∀ v ∈ xs, v.oneCell' = true)
    (hv : w.heap[vb]? = some (.cells #[.string a.kind, .string a.name] 158 (0, 0))) :
    Calls Tryz.prog 89 #[.slice (some ⟨g, 0, none⟩) n c, .int .i64 i, .slice (some ⟨vb, 0, none⟩) 1 1] w (Grown1 w n i xs a) := by
  obtain ⟨i0, hi0, hz0, hz1, hz2⟩ := info_of infoRow
  have hsz : (Tryz.prog.info? 158).map (·.size) = some 2 := by rw [hi0]; simp [hz1]
  have hlx : xs.length = n * 2 := by rw [← hxs]; simp; omega
  have hcu : ∀ j v, xs[j]? = some v → w.cell? ⟨g, j, none⟩ = some v := fun j v hj => by
    rw [← hxs, List.getElem?_take] at hj
    split at hj
    · simp only [World.cell?, hg]; simpa using hj
    · cases hj
  have hgw : g < w.heap.size := (Array.getElem?_eq_some_iff.1 hg).1
  have hvw : vb < w.heap.size := (Array.getElem?_eq_some_iff.1 hv).1
  have hold : (Builtin.firstCells i0.size i (.slice (some ⟨g, 0, none⟩) i c)).run Tryz.prog w.drew = .ok (xs.take (i * 2)).toArray w.drew := by
    rw [hz1]
    exact run_firstCells_some w.drew 2 i ⟨g, 0, none⟩ i c (xs.take (i * 2)) (by rw [List.length_take]; omega) (fun j v hj => by
      rw [add_eq]
      rw [List.getElem?_take] at hj
      split at hj
      · rw [Nat.zero_add]; exact hcu j v hj
      · cases hj)
  have hik : i + (n + 1 - i) = n + 1 := by omega
  have hkk : (n : Int) + 1 - (i : Int) = ((n + 1 - i : Nat) : Int) := by omega
  obtain ⟨G, hG⟩ : ∃ G, G = grownCap w (n + 1) c 158 := ⟨_, rfl⟩
  have hGn : n + 1 ≤ G := by rw [hG]; exact grownCap_ge w _ _ _
  have hGm : G ≤ maxLen := by rw [hG]; exact grownCap_le_maxLen w (n + 1) c _ (by unfold maxLen; omega)
  obtain ⟨N, hN⟩ : ∃ N, N = w.heap.size := ⟨_, rfl⟩
  obtain ⟨Z, hZ⟩ : ∃ Z : List Value, Z = (Builtin.zeroCells (Value.agg #[.string ⟨#[]⟩, .string ⟨#[]⟩]).cells (n + 1 - i) ++ Builtin.zeroCells (Value.agg #[.string ⟨#[]⟩, .string ⟨#[]⟩]).cells (G - (n + 1))).toList := ⟨_, rfl⟩
  have hZl : Z.length = (G - i) * 2 := by
    rw [hZ]; simp [Builtin.zeroCells, Value.cells]; omega
  obtain ⟨r1, hr1⟩ : ∃ r1 : Array Value, r1 = (xs.take (i * 2) ++ Z).toArray := ⟨_, rfl⟩
  have hs1 : r1.size = G * 2 := by rw [hr1]; simp; omega
  obtain ⟨W1, hW1⟩ : ∃ W1, W1 = w.drew.alloc (.cells r1 158) := ⟨_, rfl⟩
  have hX1 : Ext w W1 := by rw [hW1]; exact (Ext.refl w).drew.alloc _
  have hg1 : W1.heap[N]? = some (.cells r1 158 (0, 0)) := by rw [hW1, hN]; exact heap_alloc_new w.drew _
  have hrz : ∀ ty, (Builtin.append_ #[151, 3] ty #[.slice (some ⟨g, 0, none⟩) i c, .int .i64 ((n : Int) + 1 - (i : Int))]).run Tryz.prog w = .ok (.slice (some ⟨N, 0, none⟩) (n + 1) G) W1 := fun ty => by
    have h := Lib.run_append_grow_zeros w 151 3 ty 158 i0 _ .i64 .i64 Tryz.underlying151 Tryz.underlying3 hi0 hz0 (some ⟨g, 0, none⟩) i c (xs.take (i * 2)) hold (n + 1 - i) (by omega) (by omega) (by omega) (by omega) (by rw [hz2]; omega) (by rw [hz2, hik]; exact growslice_fits hroom (by omega))
    rw [hik] at h
    rw [hkk, h, hW1, hr1, hZ, hN, ← hG, arr_app]
  obtain ⟨r2, hr2⟩ : ∃ r2 : Array Value, r2 = (r1.toList.take (i * 2) ++ [Value.string a.kind, Value.string a.name] ++ r1.toList.drop (i * 2 + 2)).toArray := ⟨_, rfl⟩
  have hs2 : r2.size = G * 2 := by rw [hr2]; simp; omega
  have hcpA : ∀ W : World, W.heap = W1.heap → ∀ ty dc, (Builtin.copy_ #[151, 151] ty #[.slice (some ⟨N, i * 2, none⟩) (n + 1 - i) dc, .slice (some ⟨vb, 0, none⟩) 1 1]).run Tryz.prog W = .ok (goInt 1) (W.setRow N r2) := fun W hW ty dc => by
    have hm : Nat.min 1 (n + 1 - i) = 1 := Nat.min_eq_left (by omega)
    have hv1 : W1.heap[vb]? = some (.cells #[.string a.kind, .string a.name] 158 (0, 0)) := ext_heap hX1 hv
    have := run_copy_into (P := Tryz.prog) W _ 151 ty 158 N (i * 2) (n + 1 - i) dc ⟨vb, 0, none⟩ 1 1 2 r1 _ [Value.string a.kind, Value.string a.name] Tryz.underlying151 hsz (by rw [hW]; exact hg1) (by rw [hm]; rfl) (fun j v hj => by
      rw [add_eq]; simp only [World.cell?, hW, hv1]
      match j, hj with
      | 0, hj => simpa using hj
      | 1, hj => simpa using hj
      | _ + 2, hj => simp at hj) (by rw [hs1]; simp; omega) (by simp [Value.oneCell'])
    rw [this, hm, hr2]; rfl
  obtain ⟨r3, hr3⟩ : ∃ r3 : Array Value, r3 = (r2.toList.take ((i + 1) * 2) ++ xs.drop (i * 2) ++ r2.toList.drop ((i + 1) * 2 + (xs.drop (i * 2)).length)).toArray := ⟨_, rfl⟩
  have hs3 : r3.size = G * 2 := by rw [hr3]; simp; omega
  have hNg : g ≠ N := by omega
  have hcpB : ∀ W V : World, V.heap = W1.heap → W.heap = (V.setRow N r2).heap → ∀ ty dc sc, (Builtin.copy_ #[151, 151] ty #[.slice (some ⟨N, (i + 1) * 2, none⟩) (n - i) dc, .slice (some ⟨g, i * 2, none⟩) (n - i) sc]).run Tryz.prog W = .ok (goInt ((n - i : Nat) : Int)) (W.setRow N r3) := fun W V hV hW ty dc sc => by
    have hm : Nat.min (n - i) (n - i) = n - i := Nat.min_self _
    have hgW : W.heap[N]? = some (.cells r2 158 (0, 0)) := by rw [hW]; exact setRow_heap V N r1 r2 _ (0, 0) (by rw [hV]; exact hg1)
    have hgg : W.heap[g]? = some (.cells cur 158 (0, 0)) := by rw [hW, setRow_other V N g r2 hNg, hV]; exact ext_heap hX1 hg
    have := run_copy_into (P := Tryz.prog) W _ 151 ty 158 N ((i + 1) * 2) (n - i) dc ⟨g, i * 2, none⟩ (n - i) sc 2 r2 _ (xs.drop (i * 2)) Tryz.underlying151 hsz hgW (by rw [hm]; simp; omega) (fun j v hj => by
      rw [add_eq]
      have h2 := hcu (i * 2 + j) v (by rwa [List.getElem?_drop] at hj)
      simp only [World.cell?, hg] at h2
      simp only [World.cell?, hgg]
      exact h2) (by rw [hs2]; simp; omega) (fun v hv => h1 v (List.mem_of_mem_drop hv))
    rw [this, hm, hr3]
  have hend : r3.toList.take ((n + 1) * 2) = xs.take (i * 2) ++ [Value.string a.kind, Value.string a.name] ++ xs.drop (i * 2) := by
    rw [hr3, hr2, hr1, show (n + 1) * 2 = n * 2 + 2 by omega, show (i + 1) * 2 = i * 2 + 2 by omega]
    exact grow_rows xs [Value.string a.kind, Value.string a.name] Z (i * 2) (n * 2) (by omega) hlx rfl
  have hK2 : ∀ W V : World, V.heap = W1.heap → W.heap = (V.setRow N r2).heap → W.os = W1.os → W.tape = W1.tape → W.output = W1.output → Ext w (W.setRow N r3) ∧ (W.setRow N r3).heap[N]? = some (.cells r3 158 (0, 0)) := fun W V hV hW e2 e3 e4 => by
    refine ⟨⟨e2.trans (Below.os hX1), e3.trans (Below.tape hX1), e4.trans (Below.output hX1), ?_, fun k hk => ?_⟩, setRow_heap W N r2 r3 _ (0, 0) (by rw [hW]; exact setRow_heap V N r1 r2 _ (0, 0) (by rw [hV]; exact hg1))⟩
    · have := Ext.size hX1; simp [World.setRow, hW, hV]; exact this
    · rw [setRow_other W N k r3 (by omega), hW, setRow_other V N k r2 (by omega), hV]; exact Below.block hX1 k hk
  have i2 : (i : Int) ≤ (n : Int) := by omega
  have i3 : ¬ ((i : Int) = (n : Int)) := by omega
  have i4 : (c : Int) < (n : Int) + 1 := by omega
  have i5 : (i : Int) + 1 ≤ (n : Int) + 1 := by omega
  have i6 : (i : Int) ≤ (n : Int) + 1 := by omega
  have mixed : Tryz.prog.follows Departure.mixedOrders = true := by kernel_rfl
  have hw1 : IntKind.i64.wrap ((i : Int) + 1) = (i : Int) + 1 := by rw [IntKind.wrap_i64]; omega
  have hb1 : (0 : Int) ≤ (i : Int) + 1 := by omega
  have htn : ((i : Int) + 1).toNat = i + 1 := by omega
  have hb2 : ¬ (G = i + 1) := by omega
  have hb4 : ¬ (c = i) := by omega
  have hb5 : ¬ (G = i) := by omega
  have hG63 : G ≤ 9223372036854775807 := by unfold maxLen at hGm; omega
  clear hr1 hr2 hr3 hW1 hs1 hs2 hg1 hsz hz0 hz1 hz2 hi0 hlx hcu hold hik hkk hZ hZl hX1
  replace hg := hide hg; replace hcs := hide hcs; replace hxs := hide hxs; replace hv := hide hv; replace hend := hide hend; replace hs3 := hide hs3; replace hG := hide hG; replace hN := hide hN
  go_enter Tryz.func89, Tryz.ntmps89
  go_wp2_with (first
    | (at_builtin; refine Lib.wpList_append_run _ rfl _ _ _ _ rfl _ _ rfl rfl _ _ (hrz _) ?_)
    | (at_builtin; refine wpList_copy_runI _ rfl _ _ 151 151 rfl _ _ rfl rfl (hcpA _ rfl _ _) ?_))
  go_region_law_o (refine step_copy_runI rfl _ _ 151 151 rfl (.slice (some ⟨N, (i + 1) * 2, none⟩) (n - i) (G - (i + 1))) (.slice (some ⟨g, i * 2, none⟩) (n - i) (c - i)) (by simp [Act.eval, Act.put]) (by simp [Act.eval, Act.put]) (hcpB (W1.setRow N r2).drew W1 rfl rfl 3 (G - (i + 1)) (c - i)) ?_)
  go_wp2
  go_ret
  obtain ⟨k1, k2⟩ := hK2 (W1.setRow N r2).drew W1 rfl rfl rfl rfl rfl
  exact ⟨r3, N, G, rfl, k2, hs3.out, hGn, hGm, hend.out, k1, by rw [hN.out]; exact Nat.le_refl _⟩
end Go.Proofs.YtodhhjlemmmjcaaGreat
