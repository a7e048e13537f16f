/-
  Rows that are put into their places: what is the same for all tables.
-/
/-
  A key is put into its place among the others.
-/
/-
  A row is put into its place among the others (table A).
-/
/-
  A row is put into its place among the others (table E).
-/
import Derived.Test.YtfmcgdglalljgaaGreatDoorJ16
import Derived.Test.YtfmcgdglalljgaaGreatDoorJ7
import Derived.Test.YtfmcgdglalljgaaGreatDoorJ14
import Derived.Shelf.Spec.SlicesInsertGrow
import Derived.Test.YtfmcgdglalljgaaGreatDoorJ3
namespace Go.Proofs.YtfmcgdglalljgaaGreatDoor
open Go.RowKit

/-- copy into a row of our own, from a place on. -/
theorem run_copy_into {P : Program} (w : World) (dT sT ty elem : TypeId) (g o dLen dCap : Nat) (a : Addr) (sLen sCap sz : Nat) (cur : Array Value) (t : TypeId) (cs : List Value)
    (hu : P.underlying dT = some (.slice elem)) (hs : (P.info? elem).map (·.size) = some sz)
    (hg : w.heap[g]? = some (.cells cur t (0, 0))) (hn : cs.length = Nat.min sLen dLen * sz)
    (hsrc : ∀ j v, cs[j]? = some v → w.cell? (a.add j) = some v) (hfit : o + cs.length ≤ cur.size) (h1 : ∀ v ∈ cs, v.oneCell' = true) :
    (Builtin.copy_ #[dT, sT] ty #[.slice (some ⟨g, o, none⟩) dLen dCap, .slice (some a) sLen sCap]).run P w =
      .ok (goInt (Nat.min sLen dLen)) (w.setRow g (cur.toList.take o ++ cs ++ cur.toList.drop (o + cs.length)).toArray) := by
  have hl := run_loadCells_list (P := P) w a cs hsrc
  have hst := run_storeCells_at P g o t cs 0 cur w hg (by simpa using hfit) h1
  simp only [Nat.add_zero] at hst
  cases hq : P.info? elem with
  | none => simp [hq] at hs
  | some i =>
    have hi : i.size = sz := by simpa [hq] using hs
    simp [Builtin.copy_, run_underlying hu, Builtin.lenOf, Builtin.firstCells, sizeOf, typeInfo, hq, hi, ← hn, hl, hst]

theorem ins_rowsG {α : Type} (C vs : List α) (k m z : Nat) (hk : k ≤ m) (hm : m + z ≤ C.length) (hv : vs.length = z) :
    (((C.take (k + z) ++ (C.take m).drop k ++ C.drop (k + z + ((C.take m).drop k).length)).take k ++ vs ++ (C.take (k + z) ++ (C.take m).drop k ++ C.drop (k + z + ((C.take m).drop k).length)).drop (k + z)).take (m + z)) = (C.take m).take k ++ vs ++ (C.take m).drop k := by
  have e1 : (C.take (k + z) ++ (C.take m).drop k ++ C.drop (k + z + ((C.take m).drop k).length)).take k = (C.take m).take k := by
    rw [List.append_assoc, List.take_append_of_le_length (by simp; omega), List.take_take, List.take_take]
    congr 1; omega
  have e2 : (C.take (k + z) ++ (C.take m).drop k ++ C.drop (k + z + ((C.take m).drop k).length)).drop (k + z) = (C.take m).drop k ++ C.drop (k + z + ((C.take m).drop k).length) := by
    rw [List.append_assoc, List.drop_left' (by simp; omega)]
  rw [e1, e2, ← List.append_assoc]
  rw [List.take_left' (by simp; omega)]
theorem arr_appG (l : List Value) (A B : Array Value) : l.toArray ++ A ++ B = (l ++ (A ++ B).toList).toArray := by apply Array.toList_inj.1; simp
theorem grow_rowsG {α : Type} (xs vs Z : List α) (k m z : Nat) (hk : k ≤ m) (hx : xs.length = m) (hv : vs.length = z) :
    ((((xs.take k ++ Z).take k ++ vs ++ (xs.take k ++ Z).drop (k + z)).take (k + z) ++ xs.drop k ++ ((xs.take k ++ Z).take k ++ vs ++ (xs.take k ++ Z).drop (k + z)).drop (k + z + (xs.drop k).length)).take (m + z)) = xs.take k ++ vs ++ xs.drop k := by
  have e1 : (xs.take k ++ Z).take k = xs.take k := List.take_left' (by simp; omega)
  rw [e1]
  have e2 : (xs.take k ++ vs ++ (xs.take k ++ Z).drop (k + z)).take (k + z) = xs.take k ++ vs := List.take_left' (by simp; omega)
  rw [e2]
  exact List.take_left' (by simp; omega)
theorem Wrote.keptG {g B : Nat} {T : TypeId → Prop} {w w' : World} {c : Array Value} {t : TypeId} {fz : Nat × Nat} (h : Kept (· = g) w w') (hg : w.heap[g]? = some (.cells c t fz)) (ht : T t) (hb : B ≤ g) : Wrote B T w w' :=
  ⟨h.os, h.tape, h.output, h.size, fun k hk hd => h.block k hk (fun e => by
    subst e
    rcases hd with hd | hd
    · omega
    · exact hd _ _ _ hg ht)⟩
end Go.Proofs.YtfmcgdglalljgaaGreatDoor

namespace Go.Proofs.YtfmcgdglalljgaaGreatDoor
open Go.RowKit

theorem infoRow : (Tryz.prog.info? 218).map (fun i => (i.zero, i.size, i.bytes)) = some (some (.agg #[.string ⟨#[]⟩, .string ⟨#[]⟩]), 2, 40) := by kernel_rfl
theorem ins_rows {α : Type} (C vs : List α) (k m : Nat) (hk : k ≤ m) (hm : m + 2 ≤ C.length) (hv : vs.length = 2) :
    (((C.take (k + 2) ++ (C.take m).drop k ++ C.drop (k + 2 + ((C.take m).drop k).length)).take k ++ vs ++ (C.take (k + 2) ++ (C.take m).drop k ++ C.drop (k + 2 + ((C.take m).drop k).length)).drop (k + vs.length)).take (m + 2)) = (C.take m).take k ++ vs ++ (C.take m).drop k := by
  have e1 : (C.take (k + 2) ++ (C.take m).drop k ++ C.drop (k + 2 + ((C.take m).drop k).length)).take k = (C.take m).take k := by
    rw [List.append_assoc, List.take_append_of_le_length (by simp; omega), List.take_take, List.take_take]
    congr 1; omega
  have e2 : (C.take (k + 2) ++ (C.take m).drop k ++ C.drop (k + 2 + ((C.take m).drop k).length)).drop (k + vs.length) = (C.take m).drop k ++ C.drop (k + 2 + ((C.take m).drop k).length) := by
    rw [List.append_assoc, List.drop_left' (by simp; omega)]
  rw [e1, e2, ← List.append_assoc]
  rw [List.take_left' (by simp; omega)]

/-- What is answered where there is room. -/
def Shifted (w : World) (g n c i : Nat) (xs : List Value) (a : IDd) (e : Ending) (w' : World) : Prop :=
  ∃ row : Array Value, e = .returned (.slice (some ⟨g, 0, none⟩) (n + 1) c) ∧ w'.heap[g]? = some (.cells row 218 (0, 0)) ∧ row.size = c * 2 ∧ row.toList.take ((n + 1) * 2) = xs.take (i * 2) ++ [Value.string a.kind, Value.string a.name] ++ xs.drop (i * 2) ∧ Kept (· = g) w w'

set_option maxRecDepth 100000 in
set_option maxHeartbeats 4000000 in
theorem insShift (g n c i vb : Nat) (cur : Array Value) (xs : List Value) (a : IDd) (w : World) (hi : i < n) (hroom : n + 1 ≤ c) (hc : c ≤ 9223372036854775807)
    (hg : w.heap[g]? = some (.cells cur 218 (0, 0))) (hcs : cur.size = c * 2) (hxs : cur.toList.take (n * 2) = xs) (h1 : ∀ v ∈ xs, v.oneCell' = true)
    (hv : w.heap[vb]? = some (.cells #[.string a.kind, .string a.name] 218 (0, 0))) (hne : vb ≠ g) :
    Calls Tryz.prog 150 #[.slice (some ⟨g, 0, none⟩) n c, .int .i64 i, .slice (some ⟨vb, 0, none⟩) 1 1] w (Shifted w g n c i xs a) := by
  obtain ⟨i0, hi0, hz0, hz1, hz2⟩ := info_of infoRow
  have hsz : (Tryz.prog.info? 218).map (·.size) = some 2 := by rw [hi0]; simp [hz1]
  have hov : ∀ lb cb, (callFunc 166 #[.slice (some ⟨vb, 0, none⟩) 1 1, .slice (some ⟨g, (i + 1) * 2, none⟩) lb cb]).run Tryz.prog w = .ok (.value (.bool false)) w := fun lb cb => by
    rw [run_callFunc_extern Tryz.func166 (by kernel_rfl) (by kernel_rfl) (by kernel_rfl) (e := Extern.SlicesOverlaps.overlaps #[214, 214] #[4]) (by kernel_rfl),
      Lib.run_overlaps_apart w 214 4 218 Tryz.underlying214 2 (fun w => by simp [sizeOf, typeInfo, hi0, hz1]) ⟨vb, 0, none⟩ ⟨g, (i + 1) * 2, none⟩ 1 1 lb cb hne 218 218 2 (c * 2) (by simp [World.shape?, hv]) (by simp [World.shape?, hg, hcs]) (by omega) (row_frozen hv 0) (row_frozen hv 2)]
    rfl
  have hlx : xs.length = n * 2 := by rw [← hxs]; simp; omega
  have hcu : ∀ j v, (xs.drop (i * 2))[j]? = some v → w.cell? ⟨g, i * 2 + j, none⟩ = some v := fun j v hj => by
    rw [List.getElem?_drop, ← hxs, List.getElem?_take] at hj
    split at hj
    · simp only [World.cell?, hg]; simpa using hj
    · cases hj
  obtain ⟨r1, hr1⟩ : ∃ r1 : Array Value, r1 = (cur.toList.take ((i + 1) * 2) ++ xs.drop (i * 2) ++ cur.toList.drop ((i + 1) * 2 + (xs.drop (i * 2)).length)).toArray := ⟨_, rfl⟩
  have hs1 : r1.size = c * 2 := by rw [hr1]; simp; omega
  obtain ⟨W1, hW1⟩ : ∃ W1, W1 = w.drew.setRow g r1 := ⟨_, rfl⟩
  have hg1 : W1.heap[g]? = some (.cells r1 218 (0, 0)) := by rw [hW1]; exact setRow_heap w.drew g cur r1 _ (0, 0) hg
  have hv1 : W1.heap[vb]? = some (.cells #[.string a.kind, .string a.name] 218 (0, 0)) := by rw [hW1, setRow_other w.drew g vb r1 hne]; exact hv
  have hK1 : Kept (· = g) w W1 := by rw [hW1]; exact ((Ext.refl w).drew.kept _).trans (kept_setRow w.drew g r1) (fun _ _ h => h)
  have hcp1 : ∀ ty dc sc, (Builtin.copy_ #[214, 214] ty #[.slice (some ⟨g, (i + 1) * 2, none⟩) (n - i) dc, .slice (some ⟨g, i * 2, none⟩) (n + 1 - i) sc]).run Tryz.prog w.drew = .ok (goInt ((n - i : Nat) : Int)) W1 := fun ty dc sc => by
    have hm : Nat.min (n + 1 - i) (n - i) = n - i := Nat.min_eq_right (by omega)
    have := run_copy_into (P := Tryz.prog) w.drew _ 214 ty 218 g ((i + 1) * 2) (n - i) dc ⟨g, i * 2, none⟩ (n + 1 - i) sc 2 cur _ (xs.drop (i * 2)) Tryz.underlying214 hsz hg (by rw [hm]; simp; omega) (fun j v hj => by rw [add_eq]; exact hcu j v hj) (by simp; omega) (fun v hv => h1 v (List.mem_of_mem_drop hv))
    rw [this, hm, hW1, hr1]
  obtain ⟨r2, hr2⟩ : ∃ r2 : Array Value, r2 = (r1.toList.take (i * 2) ++ [Value.string a.kind, Value.string a.name] ++ r1.toList.drop (i * 2 + 2)).toArray := ⟨_, rfl⟩
  have hs2 : r2.size = c * 2 := by rw [hr2]; simp; omega
  have hcp2 : ∀ W : World, W.heap = W1.heap → ∀ ty dc, (Builtin.copy_ #[214, 214] ty #[.slice (some ⟨g, i * 2, none⟩) (n + 1 - i) dc, .slice (some ⟨vb, 0, none⟩) 1 1]).run Tryz.prog W = .ok (goInt 1) (W.setRow g r2) := fun W hW ty dc => by
    have hm : Nat.min 1 (n + 1 - i) = 1 := Nat.min_eq_left (by omega)
    have := run_copy_into (P := Tryz.prog) W _ 214 ty 218 g (i * 2) (n + 1 - i) dc ⟨vb, 0, none⟩ 1 1 2 r1 _ [Value.string a.kind, Value.string a.name] Tryz.underlying214 hsz (by rw [hW]; exact hg1) (by rw [hm]; rfl) (fun j v hj => by
      rw [add_eq]; simp only [World.cell?, hW, hv1]
      match j, hj with
      | 0, hj => simpa using hj
      | 1, hj => simpa using hj
      | _ + 2, hj => simp at hj) (by rw [hs1]; simp; omega) (by simp [Value.oneCell'])
    rw [this, hm, hr2]; rfl
  have hend : r2.toList.take ((n + 1) * 2) = xs.take (i * 2) ++ [Value.string a.kind, Value.string a.name] ++ xs.drop (i * 2) := by
    rw [hr2, hr1, ← hxs, show (n + 1) * 2 = n * 2 + 2 by omega, show (i + 1) * 2 = i * 2 + 2 by omega]
    exact ins_rows cur.toList [Value.string a.kind, Value.string a.name] (i * 2) (n * 2) (by omega) (by simp; omega) rfl
  have hK2 : ∀ W : World, W.heap = W1.heap → W.os = W1.os → W.tape = W1.tape → W.output = W1.output → Kept (· = g) w (W.setRow g r2) ∧ (W.setRow g r2).heap[g]? = some (.cells r2 218 (0, 0)) := fun W e1 e2 e3 e4 => by
    refine ⟨⟨e2.trans hK1.os, e3.trans hK1.tape, e4.trans hK1.output, ?_, fun k hk hn => ?_⟩, setRow_heap W g r1 r2 _ (0, 0) (by rw [e1]; exact hg1)⟩
    · have := hK1.size; simp [World.setRow, e1]; exact this
    · rw [setRow_other W g k r2 hn, e1]; exact hK1.block k hk hn
  have i2 : (i : Int) ≤ (n : Int) := by omega
  have i3 : ¬ ((i : Int) = (n : Int)) := by omega
  have i4 : ¬ ((c : Int) < (n : Int) + 1) := by omega
  have i5 : (i : Int) + 1 ≤ (n : Int) + 1 := by omega
  have i6 : (i : Int) ≤ (n : Int) + 1 := by omega
  have mixed : Tryz.prog.follows Departure.mixedOrders = true := by kernel_rfl
  have hw1 : IntKind.i64.wrap ((i : Int) + 1) = (i : Int) + 1 := by rw [IntKind.wrap_i64]; omega
  have hb1 : (0 : Int) ≤ (i : Int) + 1 := by omega
  have htn : ((i : Int) + 1).toNat = i + 1 := by omega
  have hb2 : ¬ (c = i + 1) := by omega
  have hb4 : ¬ (c = i) := by omega
  clear hr1 hr2 hW1 hs1 hg1 hv1 hK1 hsz hz0 hz1 hz2 hi0 hlx hcu
  replace hg := hide hg; replace hcs := hide hcs; replace hxs := hide hxs; replace hv := hide hv; replace hend := hide hend; replace hs2 := hide hs2
  go_enter Tryz.func150, Tryz.ntmps150
  go_wp2_with (simp only [hov])
  go_region_law_o (refine step_copy_runI rfl _ _ 214 214 rfl _ _ (by simp [Act.eval, Act.put]) (by simp [Act.eval, Act.put]) (hcp1 _ _ _) ?_)
  go_wp2_with (at_builtin; refine wpList_copy_runI _ rfl _ _ 214 214 rfl _ _ rfl rfl (hcp2 _ rfl _ _) ?_)
  go_ret
  obtain ⟨k1, k2⟩ := hK2 _ rfl rfl rfl rfl
  exact ⟨r2, rfl, k2, hs2.out, hend.out, k1⟩

theorem arr_app (l : List Value) (A B : Array Value) : l.toArray ++ A ++ B = (l ++ (A ++ B).toList).toArray := by apply Array.toList_inj.1; simp
theorem grow_rows {α : Type} (xs vs Z : List α) (k m : Nat) (hk : k ≤ m) (hx : xs.length = m) (hv : vs.length = 2) :
    ((((xs.take k ++ Z).take k ++ vs ++ (xs.take k ++ Z).drop (k + 2)).take (k + 2) ++ xs.drop k ++ ((xs.take k ++ Z).take k ++ vs ++ (xs.take k ++ Z).drop (k + 2)).drop (k + 2 + (xs.drop k).length)).take (m + 2)) = xs.take k ++ vs ++ xs.drop k := by
  have e1 : (xs.take k ++ Z).take k = xs.take k := List.take_left' (by simp; omega)
  rw [e1]
  have e2 : (xs.take k ++ vs ++ (xs.take k ++ Z).drop (k + 2)).take (k + 2) = xs.take k ++ vs := List.take_left' (by simp; omega)
  rw [e2]
  exact List.take_left' (by simp; omega)
def Grown1 (w : World) (n i : Nat) (xs : List Value) (a : IDd) (e : Ending) (w' : World) : Prop :=
  ∃ (row : Array Value) (N c : Nat), e = .returned (.slice (some ⟨N, 0, none⟩) (n + 1) c) ∧ w'.heap[N]? = some (.cells row 218 (0, 0)) ∧ row.size = c * 2 ∧ n + 1 ≤ c ∧ c ≤ maxLen ∧ row.toList.take ((n + 1) * 2) = xs.take (i * 2) ++ [Value.string a.kind, Value.string a.name] ++ xs.drop (i * 2) ∧ Ext w w' ∧ w.heap.size ≤ N

set_option maxRecDepth 100000 in
set_option maxHeartbeats 4000000 in
theorem insGrow (g n c i vb : Nat) (cur : Array Value) (xs : List Value) (a : IDd) (w : World) (hi : i < n) (hnc : n ≤ c) (hroom : c < n + 1) (hn : n ≤ 2000000)
    (hg : w.heap[g]? = some (.cells cur 218 (0, 0))) (hcs : cur.size = c * 2) (hxs : cur.toList.take (n * 2) = xs) (h1 : ∀ v ∈ xs, v.oneCell' = true)
    (hv : w.heap[vb]? = some (.cells #[.string a.kind, .string a.name] 218 (0, 0))) :
    Calls Tryz.prog 150 #[.slice (some ⟨g, 0, none⟩) n c, .int .i64 i, .slice (some ⟨vb, 0, none⟩) 1 1] w (Grown1 w n i xs a) := by
  obtain ⟨i0, hi0, hz0, hz1, hz2⟩ := info_of infoRow
  have hsz : (Tryz.prog.info? 218).map (·.size) = some 2 := by rw [hi0]; simp [hz1]
  have hlx : xs.length = n * 2 := by rw [← hxs]; simp; omega
  have hcu : ∀ j v, xs[j]? = some v → w.cell? ⟨g, j, none⟩ = some v := fun j v hj => by
    rw [← hxs, List.getElem?_take] at hj
    split at hj
    · simp only [World.cell?, hg]; simpa using hj
    · cases hj
  have hgw : g < w.heap.size := (Array.getElem?_eq_some_iff.1 hg).1
  have hvw : vb < w.heap.size := (Array.getElem?_eq_some_iff.1 hv).1
  have hold : (Builtin.firstCells i0.size i (.slice (some ⟨g, 0, none⟩) i c)).run Tryz.prog w.drew = .ok (xs.take (i * 2)).toArray w.drew := by
    rw [hz1]
    exact run_firstCells_some w.drew 2 i ⟨g, 0, none⟩ i c (xs.take (i * 2)) (by rw [List.length_take]; omega) (fun j v hj => by
      rw [add_eq]
      rw [List.getElem?_take] at hj
      split at hj
      · rw [Nat.zero_add]; exact hcu j v hj
      · cases hj)
  have hik : i + (n + 1 - i) = n + 1 := by omega
  have hkk : (n : Int) + 1 - (i : Int) = ((n + 1 - i : Nat) : Int) := by omega
  obtain ⟨G, hG⟩ : ∃ G, G = grownCap w (n + 1) c 218 := ⟨_, rfl⟩
  have hGn : n + 1 ≤ G := by rw [hG]; exact grownCap_ge w _ _ _
  have hGm : G ≤ maxLen := by rw [hG]; exact grownCap_le_maxLen w (n + 1) c _ (by unfold maxLen; omega)
  obtain ⟨N, hN⟩ : ∃ N, N = w.heap.size := ⟨_, rfl⟩
  obtain ⟨Z, hZ⟩ : ∃ Z : List Value, Z = (Builtin.zeroCells (Value.agg #[.string ⟨#[]⟩, .string ⟨#[]⟩]).cells (n + 1 - i) ++ Builtin.zeroCells (Value.agg #[.string ⟨#[]⟩, .string ⟨#[]⟩]).cells (G - (n + 1))).toList := ⟨_, rfl⟩
  have hZl : Z.length = (G - i) * 2 := by
    rw [hZ]; simp [Builtin.zeroCells, Value.cells]; omega
  obtain ⟨r1, hr1⟩ : ∃ r1 : Array Value, r1 = (xs.take (i * 2) ++ Z).toArray := ⟨_, rfl⟩
  have hs1 : r1.size = G * 2 := by rw [hr1]; simp; omega
  obtain ⟨W1, hW1⟩ : ∃ W1, W1 = w.drew.alloc (.cells r1 218) := ⟨_, rfl⟩
  have hX1 : Ext w W1 := by rw [hW1]; exact (Ext.refl w).drew.alloc _
  have hg1 : W1.heap[N]? = some (.cells r1 218 (0, 0)) := by rw [hW1, hN]; exact heap_alloc_new w.drew _
  have hrz : ∀ ty, (Builtin.append_ #[214, 3] ty #[.slice (some ⟨g, 0, none⟩) i c, .int .i64 ((n : Int) + 1 - (i : Int))]).run Tryz.prog w = .ok (.slice (some ⟨N, 0, none⟩) (n + 1) G) W1 := fun ty => by
    have h := Lib.run_append_grow_zeros w 214 3 ty 218 i0 _ .i64 .i64 Tryz.underlying214 Tryz.underlying3 hi0 hz0 (some ⟨g, 0, none⟩) i c (xs.take (i * 2)) hold (n + 1 - i) (by omega) (by omega) (by omega) (by omega) (by rw [hz2]; omega) (by rw [hz2, hik]; exact growslice_fits hroom (by omega))
    rw [hik] at h
    rw [hkk, h, hW1, hr1, hZ, hN, ← hG, arr_app]
  obtain ⟨r2, hr2⟩ : ∃ r2 : Array Value, r2 = (r1.toList.take (i * 2) ++ [Value.string a.kind, Value.string a.name] ++ r1.toList.drop (i * 2 + 2)).toArray := ⟨_, rfl⟩
  have hs2 : r2.size = G * 2 := by rw [hr2]; simp; omega
  have hcpA : ∀ W : World, W.heap = W1.heap → ∀ ty dc, (Builtin.copy_ #[214, 214] ty #[.slice (some ⟨N, i * 2, none⟩) (n + 1 - i) dc, .slice (some ⟨vb, 0, none⟩) 1 1]).run Tryz.prog W = .ok (goInt 1) (W.setRow N r2) := fun W hW ty dc => by
    have hm : Nat.min 1 (n + 1 - i) = 1 := Nat.min_eq_left (by omega)
    have hv1 : W1.heap[vb]? = some (.cells #[.string a.kind, .string a.name] 218 (0, 0)) := ext_heap hX1 hv
    have := run_copy_into (P := Tryz.prog) W _ 214 ty 218 N (i * 2) (n + 1 - i) dc ⟨vb, 0, none⟩ 1 1 2 r1 _ [Value.string a.kind, Value.string a.name] Tryz.underlying214 hsz (by rw [hW]; exact hg1) (by rw [hm]; rfl) (fun j v hj => by
      rw [add_eq]; simp only [World.cell?, hW, hv1]
      match j, hj with
      | 0, hj => simpa using hj
      | 1, hj => simpa using hj
      | _ + 2, hj => simp at hj) (by rw [hs1]; simp; omega) (by simp [Value.oneCell'])
    rw [this, hm, hr2]; rfl
  obtain ⟨r3, hr3⟩ : ∃ r3 : Array Value, r3 = (r2.toList.take ((i + 1) * 2) ++ xs.drop (i * 2) ++ r2.toList.drop ((i + 1) * 2 + (xs.drop (i * 2)).length)).toArray := ⟨_, rfl⟩
  have hs3 : r3.size = G * 2 := by rw [hr3]; simp; omega
  have hNg : g ≠ N := by omega
  have hcpB : ∀ W V : World, V.heap = W1.heap → W.heap = (V.setRow N r2).heap → ∀ ty dc sc, (Builtin.copy_ #[214, 214] ty #[.slice (some ⟨N, (i + 1) * 2, none⟩) (n - i) dc, .slice (some ⟨g, i * 2, none⟩) (n - i) sc]).run Tryz.prog W = .ok (goInt ((n - i : Nat) : Int)) (W.setRow N r3) := fun W V hV hW ty dc sc => by
    have hm : Nat.min (n - i) (n - i) = n - i := Nat.min_self _
    have hgW : W.heap[N]? = some (.cells r2 218 (0, 0)) := by rw [hW]; exact setRow_heap V N r1 r2 _ (0, 0) (by rw [hV]; exact hg1)
    have hgg : W.heap[g]? = some (.cells cur 218 (0, 0)) := by rw [hW, setRow_other V N g r2 hNg, hV]; exact ext_heap hX1 hg
    have := run_copy_into (P := Tryz.prog) W _ 214 ty 218 N ((i + 1) * 2) (n - i) dc ⟨g, i * 2, none⟩ (n - i) sc 2 r2 _ (xs.drop (i * 2)) Tryz.underlying214 hsz hgW (by rw [hm]; simp; omega) (fun j v hj => by
      rw [add_eq]
      have h2 := hcu (i * 2 + j) v (by rwa [List.getElem?_drop] at hj)
      simp only [World.cell?, hg] at h2
      simp only [World.cell?, hgg]
      exact h2) (by rw [hs2]; simp; omega) (fun v hv => h1 v (List.mem_of_mem_drop hv))
    rw [this, hm, hr3]
  have hend : r3.toList.take ((n + 1) * 2) = xs.take (i * 2) ++ [Value.string a.kind, Value.string a.name] ++ xs.drop (i * 2) := by
    rw [hr3, hr2, hr1, show (n + 1) * 2 = n * 2 + 2 by omega, show (i + 1) * 2 = i * 2 + 2 by omega]
    exact grow_rows xs [Value.string a.kind, Value.string a.name] Z (i * 2) (n * 2) (by omega) hlx rfl
  have hK2 : ∀ W V : World, V.heap = W1.heap → W.heap = (V.setRow N r2).heap → W.os = W1.os → W.tape = W1.tape → W.output = W1.output → Ext w (W.setRow N r3) ∧ (W.setRow N r3).heap[N]? = some (.cells r3 218 (0, 0)) := fun W V hV hW e2 e3 e4 => by
    refine ⟨⟨e2.trans (Below.os hX1), e3.trans (Below.tape hX1), e4.trans (Below.output hX1), ?_, fun k hk => ?_⟩, setRow_heap W N r2 r3 _ (0, 0) (by rw [hW]; exact setRow_heap V N r1 r2 _ (0, 0) (by rw [hV]; exact hg1))⟩
    · have := Ext.size hX1; simp [World.setRow, hW, hV]; exact this
    · rw [setRow_other W N k r3 (by omega), hW, setRow_other V N k r2 (by omega), hV]; exact Below.block hX1 k hk
  have i2 : (i : Int) ≤ (n : Int) := by omega
  have i3 : ¬ ((i : Int) = (n : Int)) := by omega
  have i4 : (c : Int) < (n : Int) + 1 := by omega
  have i5 : (i : Int) + 1 ≤ (n : Int) + 1 := by omega
  have i6 : (i : Int) ≤ (n : Int) + 1 := by omega
  have mixed : Tryz.prog.follows Departure.mixedOrders = true := by kernel_rfl
  have hw1 : IntKind.i64.wrap ((i : Int) + 1) = (i : Int) + 1 := by rw [IntKind.wrap_i64]; omega
  have hb1 : (0 : Int) ≤ (i : Int) + 1 := by omega
  have htn : ((i : Int) + 1).toNat = i + 1 := by omega
  have hb2 : ¬ (G = i + 1) := by omega
  have hb4 : ¬ (c = i) := by omega
  have hb5 : ¬ (G = i) := by omega
  have hG63 : G ≤ 9223372036854775807 := by unfold maxLen at hGm; omega
  clear hr1 hr2 hr3 hW1 hs1 hs2 hg1 hsz hz0 hz1 hz2 hi0 hlx hcu hold hik hkk hZ hZl hX1
  replace hg := hide hg; replace hcs := hide hcs; replace hxs := hide hxs; replace hv := hide hv; replace hend := hide hend; replace hs3 := hide hs3; replace hG := hide hG; replace hN := hide hN
  go_enter Tryz.func150, Tryz.ntmps150
  go_wp2_with (first
    | (at_builtin; refine Lib.wpList_append_run _ rfl _ _ _ _ rfl _ _ rfl rfl _ _ (hrz _) ?_)
    | (at_builtin; refine wpList_copy_runI _ rfl _ _ 214 214 rfl _ _ rfl rfl (hcpA _ rfl _ _) ?_))
  go_region_law_o (refine step_copy_runI rfl _ _ 214 214 rfl (.slice (some ⟨N, (i + 1) * 2, none⟩) (n - i) (G - (i + 1))) (.slice (some ⟨g, i * 2, none⟩) (n - i) (c - i)) (by simp [Act.eval, Act.put]) (by simp [Act.eval, Act.put]) (hcpB (W1.setRow N r2).drew W1 rfl rfl 3 (G - (i + 1)) (c - i)) ?_)
  go_wp2
  go_ret
  obtain ⟨k1, k2⟩ := hK2 (W1.setRow N r2).drew W1 rfl rfl rfl rfl rfl
  exact ⟨r3, N, G, rfl, k2, hs3.out, hGn, hGm, hend.out, k1, by rw [hN.out]; exact Nat.le_refl _⟩
end Go.Proofs.YtfmcgdglalljgaaGreatDoor

namespace Go.Proofs.YtfmcgdglalljgaaGreatDoor
open Go.RowKit

structure RowA where
  key : ByteArray
  val : Attrd
def cRowA (x : RowA) : List Value := [.string x.key, .string x.val.name, .bool x.val.isText, .string x.val.text, .int .i64 x.val.number]
theorem cRowA_len (x : RowA) : (cRowA x).length = 5 := rfl
theorem cRowA_one (x : RowA) : ∀ u ∈ cRowA x, u.oneCell' = true := by
  intro u hu
  simp [cRowA] at hu
  rcases hu with rfl | rfl | rfl | rfl | rfl <;> rfl
theorem cellsRowA_one (l : List RowA) : ∀ u ∈ cellsG cRowA l, u.oneCell' = true := by
  intro u hu
  obtain ⟨x, _, hx⟩ := List.mem_flatMap.1 hu
  exact cRowA_one x u hx
theorem infoRowA : (Tryz.prog.info? 212).map (fun i => (i.zero, i.size, i.bytes)) = some (some (.agg #[.string ⟨#[]⟩, .string ⟨#[]⟩, .bool false, .string ⟨#[]⟩, .int .i64 0]), 5, 64) := by kernel_rfl
def ShiftedA (w : World) (g n c i : Nat) (xs : List Value) (x : RowA) (e : Ending) (w' : World) : Prop :=
  ∃ row : Array Value, e = .returned (.slice (some ⟨g, 0, none⟩) (n + 1) c) ∧ w'.heap[g]? = some (.cells row 212 (0, 0)) ∧ row.size = c * 5 ∧ row.toList.take ((n + 1) * 5) = xs.take (i * 5) ++ cRowA x ++ xs.drop (i * 5) ∧ Kept (· = g) w w'

set_option maxRecDepth 100000 in
set_option maxHeartbeats 4000000 in
theorem insShiftA (g n c i vb : Nat) (cur : Array Value) (xs : List Value) (x : RowA) (w : World) (hi : i < n) (hroom : n + 1 ≤ c) (hc : c ≤ 9223372036854775807)
    (hg : w.heap[g]? = some (.cells cur 212 (0, 0))) (hcs : cur.size = c * 5) (hxs : cur.toList.take (n * 5) = xs) (h1 : ∀ v ∈ xs, v.oneCell' = true)
    (hv : w.heap[vb]? = some (.cells #[.string x.key, .string x.val.name, .bool x.val.isText, .string x.val.text, .int .i64 x.val.number] 212 (0, 0))) (hne : vb ≠ g) :
    Calls Tryz.prog 171 #[.slice (some ⟨g, 0, none⟩) n c, .int .i64 i, .slice (some ⟨vb, 0, none⟩) 1 1] w (ShiftedA w g n c i xs x) := by
  obtain ⟨i0, hi0, hz0, hz1, hz2⟩ := info_of infoRowA
  have hsz : (Tryz.prog.info? 212).map (·.size) = some 5 := by rw [hi0]; simp [hz1]
  have hov : ∀ lb cb, (callFunc 183 #[.slice (some ⟨vb, 0, none⟩) 1 1, .slice (some ⟨g, (i + 1) * 5, none⟩) lb cb]).run Tryz.prog w = .ok (.value (.bool false)) w := fun lb cb => by
    rw [run_callFunc_extern Tryz.func183 (by kernel_rfl) (by kernel_rfl) (by kernel_rfl) (e := Extern.SlicesOverlaps.overlaps #[208, 208] #[4]) (by kernel_rfl),
      Lib.run_overlaps_apart w 208 4 212 Tryz.underlying208 5 (fun w => by simp [sizeOf, typeInfo, hi0, hz1]) ⟨vb, 0, none⟩ ⟨g, (i + 1) * 5, none⟩ 1 1 lb cb hne 212 212 5 (c * 5) (by simp [World.shape?, hv]) (by simp [World.shape?, hg, hcs]) (by omega) (row_frozen hv 0) (row_frozen hv 5)]
    rfl
  have hlx : xs.length = n * 5 := by rw [← hxs]; simp; omega
  have hcu : ∀ j v, (xs.drop (i * 5))[j]? = some v → w.cell? ⟨g, i * 5 + j, none⟩ = some v := fun j v hj => by
    rw [List.getElem?_drop, ← hxs, List.getElem?_take] at hj
    split at hj
    · simp only [World.cell?, hg]; simpa using hj
    · cases hj
  obtain ⟨r1, hr1⟩ : ∃ r1 : Array Value, r1 = (cur.toList.take ((i + 1) * 5) ++ xs.drop (i * 5) ++ cur.toList.drop ((i + 1) * 5 + (xs.drop (i * 5)).length)).toArray := ⟨_, rfl⟩
  have hs1 : r1.size = c * 5 := by rw [hr1]; simp; omega
  obtain ⟨W1, hW1⟩ : ∃ W1, W1 = w.drew.setRow g r1 := ⟨_, rfl⟩
  have hg1 : W1.heap[g]? = some (.cells r1 212 (0, 0)) := by rw [hW1]; exact setRow_heap w.drew g cur r1 _ (0, 0) hg
  have hv1 : W1.heap[vb]? = some (.cells #[.string x.key, .string x.val.name, .bool x.val.isText, .string x.val.text, .int .i64 x.val.number] 212 (0, 0)) := by rw [hW1, setRow_other w.drew g vb r1 hne]; exact hv
  have hK1 : Kept (· = g) w W1 := by rw [hW1]; exact ((Ext.refl w).drew.kept _).trans (kept_setRow w.drew g r1) (fun _ _ h => h)
  have hcp1 : ∀ ty dc sc, (Builtin.copy_ #[208, 208] ty #[.slice (some ⟨g, (i + 1) * 5, none⟩) (n - i) dc, .slice (some ⟨g, i * 5, none⟩) (n + 1 - i) sc]).run Tryz.prog w.drew = .ok (goInt ((n - i : Nat) : Int)) W1 := fun ty dc sc => by
    have hm : Nat.min (n + 1 - i) (n - i) = n - i := Nat.min_eq_right (by omega)
    have := run_copy_into (P := Tryz.prog) w.drew _ 208 ty 212 g ((i + 1) * 5) (n - i) dc ⟨g, i * 5, none⟩ (n + 1 - i) sc 5 cur _ (xs.drop (i * 5)) Tryz.underlying208 hsz hg (by rw [hm]; simp; omega) (fun j v hj => by rw [add_eq]; exact hcu j v hj) (by simp; omega) (fun v hv => h1 v (List.mem_of_mem_drop hv))
    rw [this, hm, hW1, hr1]
  obtain ⟨r2, hr2⟩ : ∃ r2 : Array Value, r2 = (r1.toList.take (i * 5) ++ cRowA x ++ r1.toList.drop (i * 5 + 5)).toArray := ⟨_, rfl⟩
  have hs2 : r2.size = c * 5 := by rw [hr2]; simp [cRowA]; omega
  have hcp2 : ∀ W : World, W.heap = W1.heap → ∀ ty dc, (Builtin.copy_ #[208, 208] ty #[.slice (some ⟨g, i * 5, none⟩) (n + 1 - i) dc, .slice (some ⟨vb, 0, none⟩) 1 1]).run Tryz.prog W = .ok (goInt 1) (W.setRow g r2) := fun W hW ty dc => by
    have hm : Nat.min 1 (n + 1 - i) = 1 := Nat.min_eq_left (by omega)
    have := run_copy_into (P := Tryz.prog) W _ 208 ty 212 g (i * 5) (n + 1 - i) dc ⟨vb, 0, none⟩ 1 1 5 r1 _ (cRowA x) Tryz.underlying208 hsz (by rw [hW]; exact hg1) (by rw [hm]; rfl) (fun j v hj => by
      rw [add_eq]; simp only [World.cell?, hW, hv1]
      rw [Nat.zero_add]; simpa [cRowA] using hj) (by rw [hs1]; simp [cRowA]; omega) (cRowA_one x)
    rw [this, hm, hr2]; rfl
  have hend : r2.toList.take ((n + 1) * 5) = xs.take (i * 5) ++ cRowA x ++ xs.drop (i * 5) := by
    rw [hr2, hr1, ← hxs, show (n + 1) * 5 = n * 5 + 5 by omega, show (i + 1) * 5 = i * 5 + 5 by omega]
    exact ins_rowsG cur.toList (cRowA x) (i * 5) (n * 5) 5 (by omega) (by simp; omega) rfl
  have hK2 : ∀ W : World, W.heap = W1.heap → W.os = W1.os → W.tape = W1.tape → W.output = W1.output → Kept (· = g) w (W.setRow g r2) ∧ (W.setRow g r2).heap[g]? = some (.cells r2 212 (0, 0)) := fun W e1 e2 e3 e4 => by
    refine ⟨⟨e2.trans hK1.os, e3.trans hK1.tape, e4.trans hK1.output, ?_, fun k hk hn => ?_⟩, setRow_heap W g r1 r2 _ (0, 0) (by rw [e1]; exact hg1)⟩
    · have := hK1.size; simp [World.setRow, e1]; exact this
    · rw [setRow_other W g k r2 hn, e1]; exact hK1.block k hk hn
  have i2 : (i : Int) ≤ (n : Int) := by omega
  have i3 : ¬ ((i : Int) = (n : Int)) := by omega
  have i4 : ¬ ((c : Int) < (n : Int) + 1) := by omega
  have i5 : (i : Int) + 1 ≤ (n : Int) + 1 := by omega
  have i6 : (i : Int) ≤ (n : Int) + 1 := by omega
  have mixed : Tryz.prog.follows Departure.mixedOrders = true := by kernel_rfl
  have hw1 : IntKind.i64.wrap ((i : Int) + 1) = (i : Int) + 1 := by rw [IntKind.wrap_i64]; omega
  have hb1 : (0 : Int) ≤ (i : Int) + 1 := by omega
  have htn : ((i : Int) + 1).toNat = i + 1 := by omega
  have hb2 : ¬ (c = i + 1) := by omega
  have hb4 : ¬ (c = i) := by omega
  clear hr1 hr2 hW1 hs1 hg1 hv1 hK1 hsz hz0 hz1 hz2 hi0 hlx hcu
  replace hg := hide hg; replace hcs := hide hcs; replace hxs := hide hxs; replace hv := hide hv; replace hend := hide hend; replace hs2 := hide hs2
  go_enter Tryz.func171, Tryz.ntmps171
  go_wp2_with (simp only [hov])
  go_region_law_o (refine step_copy_runI rfl _ _ 208 208 rfl _ _ (by simp [Act.eval, Act.put]) (by simp [Act.eval, Act.put]) (hcp1 _ _ _) ?_)
  go_wp2_with (at_builtin; refine wpList_copy_runI _ rfl _ _ 208 208 rfl _ _ rfl rfl (hcp2 _ rfl _ _) ?_)
  go_ret
  obtain ⟨k1, k2⟩ := hK2 _ rfl rfl rfl rfl
  exact ⟨r2, rfl, k2, hs2.out, hend.out, k1⟩

def GrownA (w : World) (n i : Nat) (xs : List Value) (x : RowA) (e : Ending) (w' : World) : Prop :=
  ∃ (row : Array Value) (N c : Nat), e = .returned (.slice (some ⟨N, 0, none⟩) (n + 1) c) ∧ w'.heap[N]? = some (.cells row 212 (0, 0)) ∧ row.size = c * 5 ∧ n + 1 ≤ c ∧ c ≤ maxLen ∧ row.toList.take ((n + 1) * 5) = xs.take (i * 5) ++ cRowA x ++ xs.drop (i * 5) ∧ Ext w w' ∧ w.heap.size ≤ N

set_option maxRecDepth 100000 in
set_option maxHeartbeats 4000000 in
theorem insGrowA (g n c i vb : Nat) (cur : Array Value) (xs : List Value) (x : RowA) (w : World) (hi : i < n) (hnc : n ≤ c) (hroom : c < n + 1) (hn : n ≤ 1000000)
    (hg : w.heap[g]? = some (.cells cur 212 (0, 0))) (hcs : cur.size = c * 5) (hxs : cur.toList.take (n * 5) = xs) (h1 : ∀ v ∈ xs, v.oneCell' = true)
    (hv : w.heap[vb]? = some (.cells #[.string x.key, .string x.val.name, .bool x.val.isText, .string x.val.text, .int .i64 x.val.number] 212 (0, 0))) :
    Calls Tryz.prog 171 #[.slice (some ⟨g, 0, none⟩) n c, .int .i64 i, .slice (some ⟨vb, 0, none⟩) 1 1] w (GrownA w n i xs x) := by
  obtain ⟨i0, hi0, hz0, hz1, hz2⟩ := info_of infoRowA
  have hsz : (Tryz.prog.info? 212).map (·.size) = some 5 := by rw [hi0]; simp [hz1]
  have hlx : xs.length = n * 5 := by rw [← hxs]; simp; omega
  have hcu : ∀ j v, xs[j]? = some v → w.cell? ⟨g, j, none⟩ = some v := fun j v hj => by
    rw [← hxs, List.getElem?_take] at hj
    split at hj
    · simp only [World.cell?, hg]; simpa using hj
    · cases hj
  have hgw : g < w.heap.size := (Array.getElem?_eq_some_iff.1 hg).1
  have hvw : vb < w.heap.size := (Array.getElem?_eq_some_iff.1 hv).1
  have hold : (Builtin.firstCells i0.size i (.slice (some ⟨g, 0, none⟩) i c)).run Tryz.prog w.drew = .ok (xs.take (i * 5)).toArray w.drew := by
    rw [hz1]
    exact run_firstCells_some w.drew 5 i ⟨g, 0, none⟩ i c (xs.take (i * 5)) (by rw [List.length_take]; omega) (fun j v hj => by
      rw [add_eq]
      rw [List.getElem?_take] at hj
      split at hj
      · rw [Nat.zero_add]; exact hcu j v hj
      · cases hj)
  have hik : i + (n + 1 - i) = n + 1 := by omega
  have hkk : (n : Int) + 1 - (i : Int) = ((n + 1 - i : Nat) : Int) := by omega
  obtain ⟨G, hG⟩ : ∃ G, G = grownCap w (n + 1) c 212 := ⟨_, rfl⟩
  have hGn : n + 1 ≤ G := by rw [hG]; exact grownCap_ge w _ _ _
  have hGm : G ≤ maxLen := by rw [hG]; exact grownCap_le_maxLen w (n + 1) c _ (by unfold maxLen; omega)
  obtain ⟨N, hN⟩ : ∃ N, N = w.heap.size := ⟨_, rfl⟩
  obtain ⟨Z, hZ⟩ : ∃ Z : List Value, Z = (Builtin.zeroCells (Value.cells (.agg #[.string ⟨#[]⟩, .string ⟨#[]⟩, .bool false, .string ⟨#[]⟩, .int .i64 0])) (n + 1 - i) ++ Builtin.zeroCells (Value.cells (.agg #[.string ⟨#[]⟩, .string ⟨#[]⟩, .bool false, .string ⟨#[]⟩, .int .i64 0])) (G - (n + 1))).toList := ⟨_, rfl⟩
  have hZl : Z.length = (G - i) * 5 := by
    rw [hZ]; simp [Builtin.zeroCells, Value.cells]; omega
  obtain ⟨r1, hr1⟩ : ∃ r1 : Array Value, r1 = (xs.take (i * 5) ++ Z).toArray := ⟨_, rfl⟩
  have hs1 : r1.size = G * 5 := by rw [hr1]; simp; omega
  obtain ⟨W1, hW1⟩ : ∃ W1, W1 = w.drew.alloc (.cells r1 212) := ⟨_, rfl⟩
  have hX1 : Ext w W1 := by rw [hW1]; exact (Ext.refl w).drew.alloc _
  have hg1 : W1.heap[N]? = some (.cells r1 212 (0, 0)) := by rw [hW1, hN]; exact heap_alloc_new w.drew _
  have hrz : ∀ ty, (Builtin.append_ #[208, 3] ty #[.slice (some ⟨g, 0, none⟩) i c, .int .i64 ((n : Int) + 1 - (i : Int))]).run Tryz.prog w = .ok (.slice (some ⟨N, 0, none⟩) (n + 1) G) W1 := fun ty => by
    have h := Lib.run_append_grow_zeros w 208 3 ty 212 i0 _ .i64 .i64 Tryz.underlying208 Tryz.underlying3 hi0 hz0 (some ⟨g, 0, none⟩) i c (xs.take (i * 5)) hold (n + 1 - i) (by omega) (by omega) (by omega) (by omega) (by rw [hz2]; omega) (by rw [hz2, hik]; exact growslice_fits hroom (by omega))
    rw [hik] at h
    rw [hkk, h, hW1, hr1, hZ, hN, ← hG, arr_appG]
  obtain ⟨r2, hr2⟩ : ∃ r2 : Array Value, r2 = (r1.toList.take (i * 5) ++ cRowA x ++ r1.toList.drop (i * 5 + 5)).toArray := ⟨_, rfl⟩
  have hs2 : r2.size = G * 5 := by rw [hr2]; simp [cRowA]; omega
  have hcpA : ∀ W : World, W.heap = W1.heap → ∀ ty dc, (Builtin.copy_ #[208, 208] ty #[.slice (some ⟨N, i * 5, none⟩) (n + 1 - i) dc, .slice (some ⟨vb, 0, none⟩) 1 1]).run Tryz.prog W = .ok (goInt 1) (W.setRow N r2) := fun W hW ty dc => by
    have hm : Nat.min 1 (n + 1 - i) = 1 := Nat.min_eq_left (by omega)
    have hv1 : W1.heap[vb]? = some (.cells #[.string x.key, .string x.val.name, .bool x.val.isText, .string x.val.text, .int .i64 x.val.number] 212 (0, 0)) := ext_heap hX1 hv
    have := run_copy_into (P := Tryz.prog) W _ 208 ty 212 N (i * 5) (n + 1 - i) dc ⟨vb, 0, none⟩ 1 1 5 r1 _ (cRowA x) Tryz.underlying208 hsz (by rw [hW]; exact hg1) (by rw [hm]; rfl) (fun j v hj => by
      rw [add_eq]; simp only [World.cell?, hW, hv1]
      rw [Nat.zero_add]; simpa [cRowA] using hj) (by rw [hs1]; simp [cRowA]; omega) (cRowA_one x)
    rw [this, hm, hr2]; rfl
  have hNg : g ≠ N := by omega
  obtain ⟨r3, hr3⟩ : ∃ r3 : Array Value, r3 = (r2.toList.take ((i + 1) * 5) ++ xs.drop (i * 5) ++ r2.toList.drop ((i + 1) * 5 + (xs.drop (i * 5)).length)).toArray := ⟨_, rfl⟩
  have hs3 : r3.size = G * 5 := by rw [hr3]; simp; omega
  have hcpB : ∀ W V : World, V.heap = W1.heap → W.heap = (V.setRow N r2).heap → ∀ ty dc sc, (Builtin.copy_ #[208, 208] ty #[.slice (some ⟨N, (i + 1) * 5, none⟩) (n - i) dc, .slice (some ⟨g, i * 5, none⟩) (n - i) sc]).run Tryz.prog W = .ok (goInt ((n - i : Nat) : Int)) (W.setRow N r3) := fun W V hV hW ty dc sc => by
    have hm : Nat.min (n - i) (n - i) = n - i := Nat.min_self _
    have hgW : W.heap[N]? = some (.cells r2 212 (0, 0)) := by rw [hW]; exact setRow_heap V N r1 r2 _ (0, 0) (by rw [hV]; exact hg1)
    have hgg : W.heap[g]? = some (.cells cur 212 (0, 0)) := by rw [hW, setRow_other V N g r2 hNg, hV]; exact ext_heap hX1 hg
    have := run_copy_into (P := Tryz.prog) W _ 208 ty 212 N ((i + 1) * 5) (n - i) dc ⟨g, i * 5, none⟩ (n - i) sc 5 r2 _ (xs.drop (i * 5)) Tryz.underlying208 hsz hgW (by rw [hm]; simp; omega) (fun j v hj => by
      rw [add_eq]
      have h2 := hcu (i * 5 + j) v (by rwa [List.getElem?_drop] at hj)
      simp only [World.cell?, hg] at h2
      simp only [World.cell?, hgg]
      exact h2) (by rw [hs2]; simp; omega) (fun v hv => h1 v (List.mem_of_mem_drop hv))
    rw [this, hm, hr3]
  have hend : r3.toList.take ((n + 1) * 5) = xs.take (i * 5) ++ cRowA x ++ xs.drop (i * 5) := by
    rw [hr3, hr2, hr1, show (n + 1) * 5 = n * 5 + 5 by omega, show (i + 1) * 5 = i * 5 + 5 by omega]
    exact grow_rowsG xs (cRowA x) Z (i * 5) (n * 5) 5 (by omega) hlx rfl
  have hK2 : ∀ W V : World, V.heap = W1.heap → W.heap = (V.setRow N r2).heap → W.os = W1.os → W.tape = W1.tape → W.output = W1.output → Ext w (W.setRow N r3) ∧ (W.setRow N r3).heap[N]? = some (.cells r3 212 (0, 0)) := fun W V hV hW e2 e3 e4 => by
    refine ⟨⟨e2.trans (Below.os hX1), e3.trans (Below.tape hX1), e4.trans (Below.output hX1), ?_, fun k hk => ?_⟩, setRow_heap W N r2 r3 _ (0, 0) (by rw [hW]; exact setRow_heap V N r1 r2 _ (0, 0) (by rw [hV]; exact hg1))⟩
    · have := Ext.size hX1; simp [World.setRow, hW, hV]; exact this
    · rw [setRow_other W N k r3 (by omega), hW, setRow_other V N k r2 (by omega), hV]; exact Below.block hX1 k hk
  have i2 : (i : Int) ≤ (n : Int) := by omega
  have i3 : ¬ ((i : Int) = (n : Int)) := by omega
  have i4 : (c : Int) < (n : Int) + 1 := by omega
  have i5 : (i : Int) + 1 ≤ (n : Int) + 1 := by omega
  have i6 : (i : Int) ≤ (n : Int) + 1 := by omega
  have mixed : Tryz.prog.follows Departure.mixedOrders = true := by kernel_rfl
  have hw1 : IntKind.i64.wrap ((i : Int) + 1) = (i : Int) + 1 := by rw [IntKind.wrap_i64]; omega
  have hb1 : (0 : Int) ≤ (i : Int) + 1 := by omega
  have htn : ((i : Int) + 1).toNat = i + 1 := by omega
  have hb2 : ¬ (G = i + 1) := by omega
  have hb4 : ¬ (c = i) := by omega
  have hb5 : ¬ (G = i) := by omega
  have hG63 : G ≤ 9223372036854775807 := by unfold maxLen at hGm; omega
  clear hr1 hr2 hr3 hW1 hs1 hs2 hg1 hsz hz0 hz1 hz2 hi0 hlx hcu hold hik hkk hZ hZl hX1
  replace hg := hide hg; replace hcs := hide hcs; replace hxs := hide hxs; replace hv := hide hv; replace hend := hide hend; replace hs3 := hide hs3; replace hG := hide hG; replace hN := hide hN
  go_enter Tryz.func171, Tryz.ntmps171
  go_wp2_with (first
    | (at_builtin; refine Lib.wpList_append_run _ rfl _ _ _ _ rfl _ _ rfl rfl _ _ (hrz _) ?_)
    | (at_builtin; refine wpList_copy_runI _ rfl _ _ 208 208 rfl _ _ rfl rfl (hcpA _ rfl _ _) ?_))
  go_region_law_o (refine step_copy_runI rfl _ _ 208 208 rfl (.slice (some ⟨N, (i + 1) * 5, none⟩) (n - i) (G - (i + 1))) (.slice (some ⟨g, i * 5, none⟩) (n - i) (c - i)) (by simp [Act.eval, Act.put]) (by simp [Act.eval, Act.put]) (hcpB (W1.setRow N r2).drew W1 rfl rfl 3 (G - (i + 1)) (c - i)) ?_)
  go_wp2
  go_ret
  obtain ⟨k1, k2⟩ := hK2 (W1.setRow N r2).drew W1 rfl rfl rfl rfl rfl
  exact ⟨r3, N, G, rfl, k2, hs3.out, hGn, hGm, hend.out, k1, by rw [hN.out]; exact Nat.le_refl _⟩

/-- Only rows from B on have turned. -/
abbrev WroteKA (B : Nat) (w w' : World) : Prop := Wrote B (· = 212) w w'
/-- The rows of a table, in a row of our own. -/
abbrev RowsA (B : Nat) (w : World) (v : Value) (rs : List RowA) : Prop := w.ownsRow B 212 5 v rs.length (cellsG cRowA rs)
/-- What is answered when a row was put into its place. -/
def InsIsA (B : Nat) (w : World) (rs : List RowA) (e : Ending) (w' : World) : Prop :=
  ∃ (pa : Option Addr) (cap n : Nat), e = .returned (.slice pa n cap) ∧ Hid (n = rs.length) ∧ Hid (RowsA B w' (.slice pa n cap) rs) ∧ Hid (WroteKA B w w')

set_option maxRecDepth 100000 in
set_option maxHeartbeats 1600000 in
theorem insRowA (B : Nat) (v : Value) (rs : List RowA) (x : RowA) (i vb : Nat) (w : World) (hv : RowsA B w v rs) (hB : B ≤ w.heap.size) (hi : i ≤ rs.length) (hn : rs.length ≤ 1000000)
    (hvb : w.heap[vb]? = some (.cells #[.string x.key, .string x.val.name, .bool x.val.isText, .string x.val.text, .int .i64 x.val.number] 212 (0, 0))) (hne : some vb ≠ v.ownBlock) :
    Calls Tryz.prog 171 #[v, .int .i64 i, .slice (some ⟨vb, 0, none⟩) 1 1] w (InsIsA B w (insG rs i x)) := by
  have hlen := insG_len (a := x) hi
  by_cases hin : i = rs.length
  · subst hin
    obtain ⟨i0, hi0, hz0, hz1, hz2⟩ := info_of infoRowA
    obtain ⟨pa, cap, rfl⟩ := ownsRow_form hv
    have hcap : rs.length ≤ cap := by
      rcases hv.2 with ⟨h, h'⟩ | ⟨g, c, cur, h, _, _, h', _⟩
      · omega
      · cases h; exact h'
    have hE : Hid (cellsG cRowA rs ++ cRowA x = cellsG cRowA (insG rs rs.length x)) := by
      show _ = _
      simp [cellsG, insG]
    have hlen' : Hid ((insG rs rs.length x).length = rs.length + 1) := hlen
    have hcell : Hid (∀ j u, (cRowA x)[j]? = some u → w.cell? ((⟨vb, 0, none⟩ : Addr).add j) = some u) := fun j u hu => by
      rw [add_eq]; simp only [World.cell?, hvb]; rw [Nat.zero_add]; simpa [cRowA] using hu
    clear hlen
    replace hv := hide hv; replace hi0 := hide hi0; replace hvb := hide hvb; replace hne := hide hne
    go_enter Tryz.func171, Tryz.ntmps171
    go_wp2_with (at_builtin; go_must (refine wpList_append_lies _ rfl _ _ 208 rfl B 212 i0 (.agg #[.string ⟨#[]⟩, .string ⟨#[]⟩, .bool false, .string ⟨#[]⟩, .int .i64 0]) 5 64 Tryz.underlying208 hi0.out hz0 hz1 hz2 rfl (by omega) _ rs.length (cellsG cRowA rs) rfl hv.out ⟨vb, 0, none⟩ 1 1 (cRowA x) rfl rfl hcell.out (cRowA_one x) (by omega) (by unfold maxLen; omega) (by omega) hB w.heap.size rfl ?_; intro g1 cap1 w1 hown1 hgrow1 hat1 hlt1))
    all_goals
      go_ret
      refine ⟨_, _, _, rfl, hlen'.out.symm, ?_, ?_⟩
      · show World.ownsRow _ _ _ _ _ _ _
        rw [hlen'.out, ← hE.out]; exact hown1
      · exact (Wrote.refl B _ w).grown hv.out rfl hgrow1
  · have hlt : i < rs.length := by omega
    rcases hv.2 with ⟨rfl, h0⟩ | ⟨g, cap, cur, rfl, hbg, hg, hcap, hcm, hcs, hcur⟩
    · omega
    have hne' : vb ≠ g := fun e => hne (by simp [Value.ownBlock, e])
    by_cases hroom : rs.length + 1 ≤ cap
    · refine (insShiftA g rs.length cap i vb cur (cellsG cRowA rs) x w hlt hroom (by unfold maxLen at hcm; omega) hg hcs hcur (cellsRowA_one rs) hvb hne').mono ?_
      rintro e w1 ⟨row, rfl, hr1, hr2, hr3, hk⟩
      refine ⟨_, _, _, rfl, hlen.symm, ?_, Wrote.keptG hk hg rfl hbg⟩
      rw [cellsG_ins cRowA_len] at hr3
      refine ⟨cellsG_len cRowA_len _, .inr ⟨g, cap, row, by rw [hlen], hbg, hr1, by omega, hcm, hr2, by rw [hlen]; exact hr3⟩⟩
    · refine (insGrowA g rs.length cap i vb cur (cellsG cRowA rs) x w hlt hcap (by omega) (by omega) hg hcs hcur (cellsRowA_one rs) hvb).mono ?_
      rintro e w1 ⟨row, N, c, rfl, hr1, hr2, hr3, hr4, hr5, hx, hN⟩
      refine ⟨_, _, _, rfl, hlen.symm, ?_, Wrote.ext hx⟩
      rw [cellsG_ins cRowA_len] at hr5
      refine ⟨cellsG_len cRowA_len _, .inr ⟨N, c, row, by rw [hlen], by omega, hr1, by omega, hr4, hr2, by rw [hlen]; exact hr5⟩⟩
end Go.Proofs.YtfmcgdglalljgaaGreatDoor

namespace Go.Proofs.YtfmcgdglalljgaaGreatDoor
open Go.RowKit

structure RowE where
  key : IDd
  val : Nat
def cRowE (x : RowE) : List Value := [.string x.key.kind, .string x.key.name, .pointer (some ⟨x.val, 0, none⟩)]
theorem cRowE_len (x : RowE) : (cRowE x).length = 3 := rfl
theorem cRowE_one (x : RowE) : ∀ u ∈ cRowE x, u.oneCell' = true := by
  intro u hu
  simp [cRowE] at hu
  rcases hu with rfl | rfl | rfl <;> rfl
theorem cellsRowE_one (l : List RowE) : ∀ u ∈ cellsG cRowE l, u.oneCell' = true := by
  intro u hu
  obtain ⟨x, _, hx⟩ := List.mem_flatMap.1 hu
  exact cRowE_one x u hx
theorem infoRowE : (Tryz.prog.info? 180).map (fun i => (i.zero, i.size, i.bytes)) = some (some (.agg #[.string ⟨#[]⟩, .string ⟨#[]⟩, .pointer none]), 3, 40) := by kernel_rfl
def ShiftedE (w : World) (g n c i : Nat) (xs : List Value) (x : RowE) (e : Ending) (w' : World) : Prop :=
  ∃ row : Array Value, e = .returned (.slice (some ⟨g, 0, none⟩) (n + 1) c) ∧ w'.heap[g]? = some (.cells row 180 (0, 0)) ∧ row.size = c * 3 ∧ row.toList.take ((n + 1) * 3) = xs.take (i * 3) ++ cRowE x ++ xs.drop (i * 3) ∧ Kept (· = g) w w'

set_option maxRecDepth 100000 in
set_option maxHeartbeats 4000000 in
theorem insShiftE (g n c i vb : Nat) (cur : Array Value) (xs : List Value) (x : RowE) (w : World) (hi : i < n) (hroom : n + 1 ≤ c) (hc : c ≤ 9223372036854775807)
    (hg : w.heap[g]? = some (.cells cur 180 (0, 0))) (hcs : cur.size = c * 3) (hxs : cur.toList.take (n * 3) = xs) (h1 : ∀ v ∈ xs, v.oneCell' = true)
    (hv : w.heap[vb]? = some (.cells #[.string x.key.kind, .string x.key.name, .pointer (some ⟨x.val, 0, none⟩)] 180 (0, 0))) (hne : vb ≠ g) :
    Calls Tryz.prog 168 #[.slice (some ⟨g, 0, none⟩) n c, .int .i64 i, .slice (some ⟨vb, 0, none⟩) 1 1] w (ShiftedE w g n c i xs x) := by
  obtain ⟨i0, hi0, hz0, hz1, hz2⟩ := info_of infoRowE
  have hsz : (Tryz.prog.info? 180).map (·.size) = some 3 := by rw [hi0]; simp [hz1]
  have hov : ∀ lb cb, (callFunc 178 #[.slice (some ⟨vb, 0, none⟩) 1 1, .slice (some ⟨g, (i + 1) * 3, none⟩) lb cb]).run Tryz.prog w = .ok (.value (.bool false)) w := fun lb cb => by
    rw [run_callFunc_extern Tryz.func178 (by kernel_rfl) (by kernel_rfl) (by kernel_rfl) (e := Extern.SlicesOverlaps.overlaps #[166, 166] #[4]) (by kernel_rfl),
      Lib.run_overlaps_apart w 166 4 180 Tryz.underlying166 3 (fun w => by simp [sizeOf, typeInfo, hi0, hz1]) ⟨vb, 0, none⟩ ⟨g, (i + 1) * 3, none⟩ 1 1 lb cb hne 180 180 3 (c * 3) (by simp [World.shape?, hv]) (by simp [World.shape?, hg, hcs]) (by omega) (row_frozen hv 0) (row_frozen hv 3)]
    rfl
  have hlx : xs.length = n * 3 := by rw [← hxs]; simp; omega
  have hcu : ∀ j v, (xs.drop (i * 3))[j]? = some v → w.cell? ⟨g, i * 3 + j, none⟩ = some v := fun j v hj => by
    rw [List.getElem?_drop, ← hxs, List.getElem?_take] at hj
    split at hj
    · simp only [World.cell?, hg]; simpa using hj
    · cases hj
  obtain ⟨r1, hr1⟩ : ∃ r1 : Array Value, r1 = (cur.toList.take ((i + 1) * 3) ++ xs.drop (i * 3) ++ cur.toList.drop ((i + 1) * 3 + (xs.drop (i * 3)).length)).toArray := ⟨_, rfl⟩
  have hs1 : r1.size = c * 3 := by rw [hr1]; simp; omega
  obtain ⟨W1, hW1⟩ : ∃ W1, W1 = w.drew.setRow g r1 := ⟨_, rfl⟩
  have hg1 : W1.heap[g]? = some (.cells r1 180 (0, 0)) := by rw [hW1]; exact setRow_heap w.drew g cur r1 _ (0, 0) hg
  have hv1 : W1.heap[vb]? = some (.cells #[.string x.key.kind, .string x.key.name, .pointer (some ⟨x.val, 0, none⟩)] 180 (0, 0)) := by rw [hW1, setRow_other w.drew g vb r1 hne]; exact hv
  have hK1 : Kept (· = g) w W1 := by rw [hW1]; exact ((Ext.refl w).drew.kept _).trans (kept_setRow w.drew g r1) (fun _ _ h => h)
  have hcp1 : ∀ ty dc sc, (Builtin.copy_ #[166, 166] ty #[.slice (some ⟨g, (i + 1) * 3, none⟩) (n - i) dc, .slice (some ⟨g, i * 3, none⟩) (n + 1 - i) sc]).run Tryz.prog w.drew = .ok (goInt ((n - i : Nat) : Int)) W1 := fun ty dc sc => by
    have hm : Nat.min (n + 1 - i) (n - i) = n - i := Nat.min_eq_right (by omega)
    have := run_copy_into (P := Tryz.prog) w.drew _ 166 ty 180 g ((i + 1) * 3) (n - i) dc ⟨g, i * 3, none⟩ (n + 1 - i) sc 3 cur _ (xs.drop (i * 3)) Tryz.underlying166 hsz hg (by rw [hm]; simp; omega) (fun j v hj => by rw [add_eq]; exact hcu j v hj) (by simp; omega) (fun v hv => h1 v (List.mem_of_mem_drop hv))
    rw [this, hm, hW1, hr1]
  obtain ⟨r2, hr2⟩ : ∃ r2 : Array Value, r2 = (r1.toList.take (i * 3) ++ cRowE x ++ r1.toList.drop (i * 3 + 3)).toArray := ⟨_, rfl⟩
  have hs2 : r2.size = c * 3 := by rw [hr2]; simp [cRowE]; omega
  have hcp2 : ∀ W : World, W.heap = W1.heap → ∀ ty dc, (Builtin.copy_ #[166, 166] ty #[.slice (some ⟨g, i * 3, none⟩) (n + 1 - i) dc, .slice (some ⟨vb, 0, none⟩) 1 1]).run Tryz.prog W = .ok (goInt 1) (W.setRow g r2) := fun W hW ty dc => by
    have hm : Nat.min 1 (n + 1 - i) = 1 := Nat.min_eq_left (by omega)
    have := run_copy_into (P := Tryz.prog) W _ 166 ty 180 g (i * 3) (n + 1 - i) dc ⟨vb, 0, none⟩ 1 1 3 r1 _ (cRowE x) Tryz.underlying166 hsz (by rw [hW]; exact hg1) (by rw [hm]; rfl) (fun j v hj => by
      rw [add_eq]; simp only [World.cell?, hW, hv1]
      rw [Nat.zero_add]; simpa [cRowE] using hj) (by rw [hs1]; simp [cRowE]; omega) (cRowE_one x)
    rw [this, hm, hr2]; rfl
  have hend : r2.toList.take ((n + 1) * 3) = xs.take (i * 3) ++ cRowE x ++ xs.drop (i * 3) := by
    rw [hr2, hr1, ← hxs, show (n + 1) * 3 = n * 3 + 3 by omega, show (i + 1) * 3 = i * 3 + 3 by omega]
    exact ins_rowsG cur.toList (cRowE x) (i * 3) (n * 3) 3 (by omega) (by simp; omega) rfl
  have hK2 : ∀ W : World, W.heap = W1.heap → W.os = W1.os → W.tape = W1.tape → W.output = W1.output → Kept (· = g) w (W.setRow g r2) ∧ (W.setRow g r2).heap[g]? = some (.cells r2 180 (0, 0)) := fun W e1 e2 e3 e4 => by
    refine ⟨⟨e2.trans hK1.os, e3.trans hK1.tape, e4.trans hK1.output, ?_, fun k hk hn => ?_⟩, setRow_heap W g r1 r2 _ (0, 0) (by rw [e1]; exact hg1)⟩
    · have := hK1.size; simp [World.setRow, e1]; exact this
    · rw [setRow_other W g k r2 hn, e1]; exact hK1.block k hk hn
  have i2 : (i : Int) ≤ (n : Int) := by omega
  have i3 : ¬ ((i : Int) = (n : Int)) := by omega
  have i4 : ¬ ((c : Int) < (n : Int) + 1) := by omega
  have i5 : (i : Int) + 1 ≤ (n : Int) + 1 := by omega
  have i6 : (i : Int) ≤ (n : Int) + 1 := by omega
  have mixed : Tryz.prog.follows Departure.mixedOrders = true := by kernel_rfl
  have hw1 : IntKind.i64.wrap ((i : Int) + 1) = (i : Int) + 1 := by rw [IntKind.wrap_i64]; omega
  have hb1 : (0 : Int) ≤ (i : Int) + 1 := by omega
  have htn : ((i : Int) + 1).toNat = i + 1 := by omega
  have hb2 : ¬ (c = i + 1) := by omega
  have hb4 : ¬ (c = i) := by omega
  clear hr1 hr2 hW1 hs1 hg1 hv1 hK1 hsz hz0 hz1 hz2 hi0 hlx hcu
  replace hg := hide hg; replace hcs := hide hcs; replace hxs := hide hxs; replace hv := hide hv; replace hend := hide hend; replace hs2 := hide hs2
  go_enter Tryz.func168, Tryz.ntmps168
  go_wp2_with (simp only [hov])
  go_region_law_o (refine step_copy_runI rfl _ _ 166 166 rfl _ _ (by simp [Act.eval, Act.put]) (by simp [Act.eval, Act.put]) (hcp1 _ _ _) ?_)
  go_wp2_with (at_builtin; refine wpList_copy_runI _ rfl _ _ 166 166 rfl _ _ rfl rfl (hcp2 _ rfl _ _) ?_)
  go_ret
  obtain ⟨k1, k2⟩ := hK2 _ rfl rfl rfl rfl
  exact ⟨r2, rfl, k2, hs2.out, hend.out, k1⟩

def GrownE (w : World) (n i : Nat) (xs : List Value) (x : RowE) (e : Ending) (w' : World) : Prop :=
  ∃ (row : Array Value) (N c : Nat), e = .returned (.slice (some ⟨N, 0, none⟩) (n + 1) c) ∧ w'.heap[N]? = some (.cells row 180 (0, 0)) ∧ row.size = c * 3 ∧ n + 1 ≤ c ∧ c ≤ maxLen ∧ row.toList.take ((n + 1) * 3) = xs.take (i * 3) ++ cRowE x ++ xs.drop (i * 3) ∧ Ext w w' ∧ w.heap.size ≤ N

set_option maxRecDepth 100000 in
set_option maxHeartbeats 4000000 in
theorem insGrowE (g n c i vb : Nat) (cur : Array Value) (xs : List Value) (x : RowE) (w : World) (hi : i < n) (hnc : n ≤ c) (hroom : c < n + 1) (hn : n ≤ 1000000)
    (hg : w.heap[g]? = some (.cells cur 180 (0, 0))) (hcs : cur.size = c * 3) (hxs : cur.toList.take (n * 3) = xs) (h1 : ∀ v ∈ xs, v.oneCell' = true)
    (hv : w.heap[vb]? = some (.cells #[.string x.key.kind, .string x.key.name, .pointer (some ⟨x.val, 0, none⟩)] 180 (0, 0))) :
    Calls Tryz.prog 168 #[.slice (some ⟨g, 0, none⟩) n c, .int .i64 i, .slice (some ⟨vb, 0, none⟩) 1 1] w (GrownE w n i xs x) := by
  obtain ⟨i0, hi0, hz0, hz1, hz2⟩ := info_of infoRowE
  have hsz : (Tryz.prog.info? 180).map (·.size) = some 3 := by rw [hi0]; simp [hz1]
  have hlx : xs.length = n * 3 := by rw [← hxs]; simp; omega
  have hcu : ∀ j v, xs[j]? = some v → w.cell? ⟨g, j, none⟩ = some v := fun j v hj => by
    rw [← hxs, List.getElem?_take] at hj
    split at hj
    · simp only [World.cell?, hg]; simpa using hj
    · cases hj
  have hgw : g < w.heap.size := (Array.getElem?_eq_some_iff.1 hg).1
  have hvw : vb < w.heap.size := (Array.getElem?_eq_some_iff.1 hv).1
  have hold : (Builtin.firstCells i0.size i (.slice (some ⟨g, 0, none⟩) i c)).run Tryz.prog w.drew = .ok (xs.take (i * 3)).toArray w.drew := by
    rw [hz1]
    exact run_firstCells_some w.drew 3 i ⟨g, 0, none⟩ i c (xs.take (i * 3)) (by rw [List.length_take]; omega) (fun j v hj => by
      rw [add_eq]
      rw [List.getElem?_take] at hj
      split at hj
      · rw [Nat.zero_add]; exact hcu j v hj
      · cases hj)
  have hik : i + (n + 1 - i) = n + 1 := by omega
  have hkk : (n : Int) + 1 - (i : Int) = ((n + 1 - i : Nat) : Int) := by omega
  obtain ⟨G, hG⟩ : ∃ G, G = grownCap w (n + 1) c 180 := ⟨_, rfl⟩
  have hGn : n + 1 ≤ G := by rw [hG]; exact grownCap_ge w _ _ _
  have hGm : G ≤ maxLen := by rw [hG]; exact grownCap_le_maxLen w (n + 1) c _ (by unfold maxLen; omega)
  obtain ⟨N, hN⟩ : ∃ N, N = w.heap.size := ⟨_, rfl⟩
  obtain ⟨Z, hZ⟩ : ∃ Z : List Value, Z = (Builtin.zeroCells (Value.cells (.agg #[.string ⟨#[]⟩, .string ⟨#[]⟩, .pointer none])) (n + 1 - i) ++ Builtin.zeroCells (Value.cells (.agg #[.string ⟨#[]⟩, .string ⟨#[]⟩, .pointer none])) (G - (n + 1))).toList := ⟨_, rfl⟩
  have hZl : Z.length = (G - i) * 3 := by
    rw [hZ]; simp [Builtin.zeroCells, Value.cells]; omega
  obtain ⟨r1, hr1⟩ : ∃ r1 : Array Value, r1 = (xs.take (i * 3) ++ Z).toArray := ⟨_, rfl⟩
  have hs1 : r1.size = G * 3 := by rw [hr1]; simp; omega
  obtain ⟨W1, hW1⟩ : ∃ W1, W1 = w.drew.alloc (.cells r1 180) := ⟨_, rfl⟩
  have hX1 : Ext w W1 := by rw [hW1]; exact (Ext.refl w).drew.alloc _
  have hg1 : W1.heap[N]? = some (.cells r1 180 (0, 0)) := by rw [hW1, hN]; exact heap_alloc_new w.drew _
  have hrz : ∀ ty, (Builtin.append_ #[166, 3] ty #[.slice (some ⟨g, 0, none⟩) i c, .int .i64 ((n : Int) + 1 - (i : Int))]).run Tryz.prog w = .ok (.slice (some ⟨N, 0, none⟩) (n + 1) G) W1 := fun ty => by
    have h := Lib.run_append_grow_zeros w 166 3 ty 180 i0 _ .i64 .i64 Tryz.underlying166 Tryz.underlying3 hi0 hz0 (some ⟨g, 0, none⟩) i c (xs.take (i * 3)) hold (n + 1 - i) (by omega) (by omega) (by omega) (by omega) (by rw [hz2]; omega) (by rw [hz2, hik]; exact growslice_fits hroom (by omega))
    rw [hik] at h
    rw [hkk, h, hW1, hr1, hZ, hN, ← hG, arr_appG]
  obtain ⟨r2, hr2⟩ : ∃ r2 : Array Value, r2 = (r1.toList.take (i * 3) ++ cRowE x ++ r1.toList.drop (i * 3 + 3)).toArray := ⟨_, rfl⟩
  have hs2 : r2.size = G * 3 := by rw [hr2]; simp [cRowE]; omega
  have hcpA : ∀ W : World, W.heap = W1.heap → ∀ ty dc, (Builtin.copy_ #[166, 166] ty #[.slice (some ⟨N, i * 3, none⟩) (n + 1 - i) dc, .slice (some ⟨vb, 0, none⟩) 1 1]).run Tryz.prog W = .ok (goInt 1) (W.setRow N r2) := fun W hW ty dc => by
    have hm : Nat.min 1 (n + 1 - i) = 1 := Nat.min_eq_left (by omega)
    have hv1 : W1.heap[vb]? = some (.cells #[.string x.key.kind, .string x.key.name, .pointer (some ⟨x.val, 0, none⟩)] 180 (0, 0)) := ext_heap hX1 hv
    have := run_copy_into (P := Tryz.prog) W _ 166 ty 180 N (i * 3) (n + 1 - i) dc ⟨vb, 0, none⟩ 1 1 3 r1 _ (cRowE x) Tryz.underlying166 hsz (by rw [hW]; exact hg1) (by rw [hm]; rfl) (fun j v hj => by
      rw [add_eq]; simp only [World.cell?, hW, hv1]
      rw [Nat.zero_add]; simpa [cRowE] using hj) (by rw [hs1]; simp [cRowE]; omega) (cRowE_one x)
    rw [this, hm, hr2]; rfl
  have hNg : g ≠ N := by omega
  obtain ⟨r3, hr3⟩ : ∃ r3 : Array Value, r3 = (r2.toList.take ((i + 1) * 3) ++ xs.drop (i * 3) ++ r2.toList.drop ((i + 1) * 3 + (xs.drop (i * 3)).length)).toArray := ⟨_, rfl⟩
  have hs3 : r3.size = G * 3 := by rw [hr3]; simp; omega
  have hcpB : ∀ W V : World, V.heap = W1.heap → W.heap = (V.setRow N r2).heap → ∀ ty dc sc, (Builtin.copy_ #[166, 166] ty #[.slice (some ⟨N, (i + 1) * 3, none⟩) (n - i) dc, .slice (some ⟨g, i * 3, none⟩) (n - i) sc]).run Tryz.prog W = .ok (goInt ((n - i : Nat) : Int)) (W.setRow N r3) := fun W V hV hW ty dc sc => by
    have hm : Nat.min (n - i) (n - i) = n - i := Nat.min_self _
    have hgW : W.heap[N]? = some (.cells r2 180 (0, 0)) := by rw [hW]; exact setRow_heap V N r1 r2 _ (0, 0) (by rw [hV]; exact hg1)
    have hgg : W.heap[g]? = some (.cells cur 180 (0, 0)) := by rw [hW, setRow_other V N g r2 hNg, hV]; exact ext_heap hX1 hg
    have := run_copy_into (P := Tryz.prog) W _ 166 ty 180 N ((i + 1) * 3) (n - i) dc ⟨g, i * 3, none⟩ (n - i) sc 3 r2 _ (xs.drop (i * 3)) Tryz.underlying166 hsz hgW (by rw [hm]; simp; omega) (fun j v hj => by
      rw [add_eq]
      have h2 := hcu (i * 3 + j) v (by rwa [List.getElem?_drop] at hj)
      simp only [World.cell?, hg] at h2
      simp only [World.cell?, hgg]
      exact h2) (by rw [hs2]; simp; omega) (fun v hv => h1 v (List.mem_of_mem_drop hv))
    rw [this, hm, hr3]
  have hend : r3.toList.take ((n + 1) * 3) = xs.take (i * 3) ++ cRowE x ++ xs.drop (i * 3) := by
    rw [hr3, hr2, hr1, show (n + 1) * 3 = n * 3 + 3 by omega, show (i + 1) * 3 = i * 3 + 3 by omega]
    exact grow_rowsG xs (cRowE x) Z (i * 3) (n * 3) 3 (by omega) hlx rfl
  have hK2 : ∀ W V : World, V.heap = W1.heap → W.heap = (V.setRow N r2).heap → W.os = W1.os → W.tape = W1.tape → W.output = W1.output → Ext w (W.setRow N r3) ∧ (W.setRow N r3).heap[N]? = some (.cells r3 180 (0, 0)) := fun W V hV hW e2 e3 e4 => by
    refine ⟨⟨e2.trans (Below.os hX1), e3.trans (Below.tape hX1), e4.trans (Below.output hX1), ?_, fun k hk => ?_⟩, setRow_heap W N r2 r3 _ (0, 0) (by rw [hW]; exact setRow_heap V N r1 r2 _ (0, 0) (by rw [hV]; exact hg1))⟩
    · have := Ext.size hX1; simp [World.setRow, hW, hV]; exact this
    · rw [setRow_other W N k r3 (by omega), hW, setRow_other V N k r2 (by omega), hV]; exact Below.block hX1 k hk
  have i2 : (i : Int) ≤ (n : Int) := by omega
  have i3 : ¬ ((i : Int) = (n : Int)) := by omega
  have i4 : (c : Int) < (n : Int) + 1 := by omega
  have i5 : (i : Int) + 1 ≤ (n : Int) + 1 := by omega
  have i6 : (i : Int) ≤ (n : Int) + 1 := by omega
  have mixed : Tryz.prog.follows Departure.mixedOrders = true := by kernel_rfl
  have hw1 : IntKind.i64.wrap ((i : Int) + 1) = (i : Int) + 1 := by rw [IntKind.wrap_i64]; omega
  have hb1 : (0 : Int) ≤ (i : Int) + 1 := by omega
  have htn : ((i : Int) + 1).toNat = i + 1 := by omega
  have hb2 : ¬ (G = i + 1) := by omega
  have hb4 : ¬ (c = i) := by omega
  have hb5 : ¬ (G = i) := by omega
  have hG63 : G ≤ 9223372036854775807 := by unfold maxLen at hGm; omega
  clear hr1 hr2 hr3 hW1 hs1 hs2 hg1 hsz hz0 hz1 hz2 hi0 hlx hcu hold hik hkk hZ hZl hX1
  replace hg := hide hg; replace hcs := hide hcs; replace hxs := hide hxs; replace hv := hide hv; replace hend := hide hend; replace hs3 := hide hs3; replace hG := hide hG; replace hN := hide hN
  go_enter Tryz.func168, Tryz.ntmps168
  go_wp2_with (first
    | (at_builtin; refine Lib.wpList_append_run _ rfl _ _ _ _ rfl _ _ rfl rfl _ _ (hrz _) ?_)
    | (at_builtin; refine wpList_copy_runI _ rfl _ _ 166 166 rfl _ _ rfl rfl (hcpA _ rfl _ _) ?_))
  go_region_law_o (refine step_copy_runI rfl _ _ 166 166 rfl (.slice (some ⟨N, (i + 1) * 3, none⟩) (n - i) (G - (i + 1))) (.slice (some ⟨g, i * 3, none⟩) (n - i) (c - i)) (by simp [Act.eval, Act.put]) (by simp [Act.eval, Act.put]) (hcpB (W1.setRow N r2).drew W1 rfl rfl 3 (G - (i + 1)) (c - i)) ?_)
  go_wp2
  go_ret
  obtain ⟨k1, k2⟩ := hK2 (W1.setRow N r2).drew W1 rfl rfl rfl rfl rfl
  exact ⟨r3, N, G, rfl, k2, hs3.out, hGn, hGm, hend.out, k1, by rw [hN.out]; exact Nat.le_refl _⟩

/-- Only rows from B on have turned. -/
abbrev WroteKE (B : Nat) (w w' : World) : Prop := Wrote B (· = 180) w w'
/-- The rows of a table, in a row of our own. -/
abbrev RowsE (B : Nat) (w : World) (v : Value) (rs : List RowE) : Prop := w.ownsRow B 180 3 v rs.length (cellsG cRowE rs)
/-- What is answered when a row was put into its place. -/
def InsIsE (B : Nat) (w : World) (rs : List RowE) (e : Ending) (w' : World) : Prop :=
  ∃ (pa : Option Addr) (cap n : Nat), e = .returned (.slice pa n cap) ∧ Hid (n = rs.length) ∧ Hid (RowsE B w' (.slice pa n cap) rs) ∧ Hid (WroteKE B w w')

set_option maxRecDepth 100000 in
set_option maxHeartbeats 1600000 in
theorem insRowE (B : Nat) (v : Value) (rs : List RowE) (x : RowE) (i vb : Nat) (w : World) (hv : RowsE B w v rs) (hB : B ≤ w.heap.size) (hi : i ≤ rs.length) (hn : rs.length ≤ 1000000)
    (hvb : w.heap[vb]? = some (.cells #[.string x.key.kind, .string x.key.name, .pointer (some ⟨x.val, 0, none⟩)] 180 (0, 0))) (hne : some vb ≠ v.ownBlock) :
    Calls Tryz.prog 168 #[v, .int .i64 i, .slice (some ⟨vb, 0, none⟩) 1 1] w (InsIsE B w (insG rs i x)) := by
  have hlen := insG_len (a := x) hi
  by_cases hin : i = rs.length
  · subst hin
    obtain ⟨i0, hi0, hz0, hz1, hz2⟩ := info_of infoRowE
    obtain ⟨pa, cap, rfl⟩ := ownsRow_form hv
    have hcap : rs.length ≤ cap := by
      rcases hv.2 with ⟨h, h'⟩ | ⟨g, c, cur, h, _, _, h', _⟩
      · omega
      · cases h; exact h'
    have hE : Hid (cellsG cRowE rs ++ cRowE x = cellsG cRowE (insG rs rs.length x)) := by
      show _ = _
      simp [cellsG, insG]
    have hlen' : Hid ((insG rs rs.length x).length = rs.length + 1) := hlen
    have hcell : Hid (∀ j u, (cRowE x)[j]? = some u → w.cell? ((⟨vb, 0, none⟩ : Addr).add j) = some u) := fun j u hu => by
      rw [add_eq]; simp only [World.cell?, hvb]; rw [Nat.zero_add]; simpa [cRowE] using hu
    clear hlen
    replace hv := hide hv; replace hi0 := hide hi0; replace hvb := hide hvb; replace hne := hide hne
    go_enter Tryz.func168, Tryz.ntmps168
    go_wp2_with (at_builtin; go_must (refine wpList_append_lies _ rfl _ _ 166 rfl B 180 i0 (.agg #[.string ⟨#[]⟩, .string ⟨#[]⟩, .pointer none]) 3 40 Tryz.underlying166 hi0.out hz0 hz1 hz2 rfl (by omega) _ rs.length (cellsG cRowE rs) rfl hv.out ⟨vb, 0, none⟩ 1 1 (cRowE x) rfl rfl hcell.out (cRowE_one x) (by omega) (by unfold maxLen; omega) (by omega) hB w.heap.size rfl ?_; intro g1 cap1 w1 hown1 hgrow1 hat1 hlt1))
    all_goals
      go_ret
      refine ⟨_, _, _, rfl, hlen'.out.symm, ?_, ?_⟩
      · show World.ownsRow _ _ _ _ _ _ _
        rw [hlen'.out, ← hE.out]; exact hown1
      · exact (Wrote.refl B _ w).grown hv.out rfl hgrow1
  · have hlt : i < rs.length := by omega
    rcases hv.2 with ⟨rfl, h0⟩ | ⟨g, cap, cur, rfl, hbg, hg, hcap, hcm, hcs, hcur⟩
    · omega
    have hne' : vb ≠ g := fun e => hne (by simp [Value.ownBlock, e])
    by_cases hroom : rs.length + 1 ≤ cap
    · refine (insShiftE g rs.length cap i vb cur (cellsG cRowE rs) x w hlt hroom (by unfold maxLen at hcm; omega) hg hcs hcur (cellsRowE_one rs) hvb hne').mono ?_
      rintro e w1 ⟨row, rfl, hr1, hr2, hr3, hk⟩
      refine ⟨_, _, _, rfl, hlen.symm, ?_, Wrote.keptG hk hg rfl hbg⟩
      rw [cellsG_ins cRowE_len] at hr3
      refine ⟨cellsG_len cRowE_len _, .inr ⟨g, cap, row, by rw [hlen], hbg, hr1, by omega, hcm, hr2, by rw [hlen]; exact hr3⟩⟩
    · refine (insGrowE g rs.length cap i vb cur (cellsG cRowE rs) x w hlt hcap (by omega) (by omega) hg hcs hcur (cellsRowE_one rs) hvb).mono ?_
      rintro e w1 ⟨row, N, c, rfl, hr1, hr2, hr3, hr4, hr5, hx, hN⟩
      refine ⟨_, _, _, rfl, hlen.symm, ?_, Wrote.ext hx⟩
      rw [cellsG_ins cRowE_len] at hr5
      refine ⟨cellsG_len cRowE_len _, .inr ⟨N, c, row, by rw [hlen], by omega, hr1, by omega, hr4, hr2, by rw [hlen]; exact hr5⟩⟩
end Go.Proofs.YtfmcgdglalljgaaGreatDoor
