/-
  A row is taken out of a table of files.
-/
/-
  The table of files: a key is taken out; a key is looked up; a copy.
-/
import Derived.Test.YtpkhmgonkbpjjaaPutF
import Derived.Test.YtpkhmgonkbpjjaaDelG
namespace Go.Proofs.Ytpkhmgonkbpjjaa
open Go.RowKit

/-- What is left when a row was taken out. -/
def ShrunkF (w : World) (g n c i : Nat) (xs : List Value) (e : Ending) (w' : World) : Prop :=
  ∃ row : Array Value, e = .returned (.slice (some ⟨g, 0, none⟩) n c) ∧ w'.heap[g]? = some (.cells row 140 (0, 0)) ∧ row.size = c * 2 ∧ row.toList.take (n * 2) = xs.take (i * 2) ++ xs.drop ((i + 1) * 2) ∧ Kept (· = g) w w'

set_option maxRecDepth 100000 in
set_option maxHeartbeats 3200000 in
theorem delF (g n c i : Nat) (cur : Array Value) (xs : List Value) (w : World) (hi : i < n + 1) (hnc : n + 1 ≤ c) (hc : c ≤ 9223372036854775807)
    (hg : w.heap[g]? = some (.cells cur 140 (0, 0))) (hcs : cur.size = c * 2) (hxs : cur.toList.take ((n + 1) * 2) = xs) (h1 : ∀ v ∈ xs, v.oneCell' = true) :
    Calls Try.prog 96 #[.slice (some ⟨g, 0, none⟩) (n + 1) c, .int .i64 i, .int .i64 ((i : Int) + 1)] w (ShrunkF w g n c i xs) := by
  obtain ⟨i0, hi0, hz0, hz1, hz2⟩ := info_of infoRowF
  have hlx : xs.length = (n + 1) * 2 := by rw [← hxs]; simp; omega
  obtain ⟨news, hnews⟩ : ∃ news, news = xs.drop ((i + 1) * 2) := ⟨_, rfl⟩
  have hnl : news.length = (n - i) * 2 := by rw [hnews, List.length_drop, hlx]; omega
  obtain ⟨W1, hW1⟩ : ∃ W1, W1 = w.drew.setCells g (i * 2) news := ⟨_, rfl⟩
  have hg' : w.drew.heap[g]? = some (.cells cur 140 (0, 0)) := hg
  have hr1 := setCells_row g 140 (0, 0) news (i * 2) cur w.drew hg' (by rw [hcs, hnl]; omega)
  rw [← hW1] at hr1
  obtain ⟨r1, hr1e⟩ : ∃ r1 : Array Value, r1 = (cur.toList.take (i * 2) ++ news ++ cur.toList.drop (i * 2 + news.length)).toArray := ⟨_, rfl⟩
  rw [← hr1e] at hr1
  have hs1 : r1.size = c * 2 := by rw [hr1e]; simp; omega
  have hK1 : Kept (· = g) w W1 := by rw [hW1]; exact ((Ext.refl w).drew.kept _).trans (setCells_kept g news _ w.drew) (fun _ _ h => h)
  have hcell : ∀ j v, xs[j]? = some v → w.drew.cell? ⟨g, j, none⟩ = some v := fun j v hj => by
    rw [← hxs, List.getElem?_take] at hj
    split at hj
    · simp only [World.cell?, hg']; simpa using hj
    · cases hj
  have happ : ∀ ty (ad : Addr) m k, m = n - i → (m ≠ 0 → ad = ⟨g, (i + 1) * 2, none⟩) → (Builtin.append_ #[135, 135] ty #[.slice (some ⟨g, 0, none⟩) i c, .slice (some ad) m k]).run Try.prog w.drew = .ok (.slice (some ⟨g, 0, none⟩) n c) W1 := by
    rintro ty ad m k rfl hm
    by_cases h0 : n - i = 0
    · have hn0 : news = [] := List.eq_nil_of_length_eq_zero (by rw [hnl, h0])
      have hin : i = n := by omega
      rw [h0, hW1, hn0]
      subst hin
      exact run_append_nothing w.drew 135 135 ty 140 i0 Try.underlying135 hi0 _ i c (by omega) _ (Src.ofSlice w.drew Try.underlying135 ad 0 k [] (by simp) (fun j u hu => by simp at hu) (fun u hu => by cases hu))
    · rw [hm h0]
      have := run_append_room_cells (P := Try.prog) w.drew 135 ty 140 i0 Try.underlying135 hi0 g 0 i c ⟨g, (i + 1) * 2, none⟩ (n - i) k news (by rw [hz1]; exact hnl) (fun j u hu => by
        rw [add_eq]
        rw [hnews, List.getElem?_drop] at hu
        exact hcell _ _ hu) (fun u hu => h1 u (by rw [hnews] at hu; exact List.mem_of_mem_drop hu)) (by omega) (fun j hj => by
        rw [hz1]
        simp only [World.cell?, hg']
        simp
        rw [hnl] at hj
        omega) (fun j hj => row_frozen hg' _)
      rw [this, hz1, hW1, Nat.zero_add]
      congr 2
      omega
  obtain ⟨zc, hzc⟩ : ∃ zc : List Value, zc = [.string ⟨#[]⟩, .pointer none] := ⟨_, rfl⟩
  have hclr : ∀ W : World, W.heap = W1.heap → ∀ ty k, (Builtin.clear_ #[135] ty #[.slice (some ⟨g, n * 2, none⟩) 1 k]).run Try.prog W = .ok (.tuple #[]) (W.setCells g (n * 2) zc) := fun W hW ty k => by
    have hgW : W.heap[g]? = some (.cells r1 140 (0, 0)) := by rw [hW]; exact hr1
    rw [hzc]
    exact run_clear_one (P := Try.prog) W 135 140 ty (.agg #[.string ⟨#[]⟩, .pointer none]) Try.underlying135 (fun w => by simp [zeroValue, typeInfo, hi0, hz0]) (by simp [Value.cells]; decide) g (n * 2) k (fun j hj => by
      simp only [World.cell?, hgW]
      simp [Value.cells] at hj ⊢
      omega) (fun j hj => row_frozen hgW _)
  have hfin : ∀ W : World, W.heap = W1.heap → W.os = W1.os → W.tape = W1.tape → W.output = W1.output → ShrunkF w g n c i xs (.returned (.slice (some ⟨g, 0, none⟩) n c)) (W.setCells g (n * 2) zc) := fun W e1 e2 e3 e4 => by
    have hgW : W.heap[g]? = some (.cells r1 140 (0, 0)) := by rw [e1]; exact hr1
    have hzl : zc.length = 2 := by rw [hzc]; rfl
    have h2 := setCells_row g 140 (0, 0) zc (n * 2) r1 W hgW (by rw [hs1, hzl]; omega)
    have hKW : Kept (· = g) w W := ⟨e2.trans hK1.os, e3.trans hK1.tape, e4.trans hK1.output, by rw [e1]; exact hK1.size, fun k hk hn => by rw [e1]; exact hK1.block k hk hn⟩
    refine ⟨_, rfl, h2, by simp [hzl, hs1]; omega, ?_, hKW.trans (setCells_kept g zc _ W) (fun _ _ h => h)⟩
    have e5 : (r1.toList.take (n * 2)) = xs.take (i * 2) ++ news := by
      rw [hr1e]
      simp only
      have e6 : cur.toList.take (i * 2) = xs.take (i * 2) := by
        rw [← hxs, List.take_take]; congr 1; omega
      rw [e6]
      exact List.take_left' (by rw [List.length_append, List.length_take, hlx, hnl]; omega)
    simp only
    rw [List.append_assoc, List.take_left' (by rw [List.length_take, Array.length_toList, hs1]; omega), e5, hnews]
  have i2 : (i : Int) ≤ (i : Int) + 1 := by omega
  have i3 : (i : Int) + 1 ≤ (n : Int) + 1 := by omega
  have i4 : ((i : Int) == (i : Int) + 1) = false := by simp; omega
  have i5 : (0 : Int) ≤ (i : Int) := by omega
  have i6 : (n : Int) + 1 ≤ (c : Int) := by omega
  have i7 : (i : Int) ≤ (c : Int) := by omega
  have i8 : (0 : Int) ≤ (i : Int) + 1 := by omega
  have i9 : ((i : Int) + 1).toNat = i + 1 := by omega
  have mixed : Try.prog.follows Departure.mixedOrders = true := by kernel_rfl
  have hcn : ¬ (c = n) := by omega
  clear hr1 hW1 hs1 hK1 hcell hz0 hz1 hz2 hi0 hlx hnl hnews hr1e hzc
  replace hg := hide hg; replace hcs := hide hcs; replace hxs := hide hxs; replace hg' := hide hg'
  go_enter Try.func96, Try.ntmps96
  go_wp2_with fail
  by_cases hb2 : c = i + 1
  · obtain rfl : n = i := by omega
    subst hb2
    go_region_law_o (refine step_append_run rfl _ _ 135 135 rfl (.slice (some ⟨g, 0, none⟩) n (n + 1)) (.slice (some ⟨g, 0, none⟩) 0 0) (by simp [Act.eval, Act.put]) (by simp [Act.eval, Act.put]) _ _ (happ _ ⟨g, 0, none⟩ 0 0 (by omega) (fun h => absurd rfl h)) ?_)
    go_wp2_with (at_builtin; refine wpList_clear_run _ rfl _ 135 rfl (.slice (some ⟨g, n * 2, none⟩) 1 _) rfl _ _ (hclr _ rfl _ _) ?_)
    go_ret
    exact hfin _ rfl rfl rfl rfl
  · go_region_law_o (refine step_append_run rfl _ _ 135 135 rfl (.slice (some ⟨g, 0, none⟩) i c) (.slice (some ⟨g, (i + 1) * 2, none⟩) (n - i) (c - (i + 1))) (by simp [Act.eval, Act.put]) (by simp [Act.eval, Act.put]) _ _ (happ _ _ _ _ rfl (fun _ => rfl)) ?_)
    go_wp2_with (at_builtin; refine wpList_clear_run _ rfl _ 135 rfl (.slice (some ⟨g, n * 2, none⟩) 1 _) rfl _ _ (hclr _ rfl _ _) ?_)
    go_ret
    exact hfin _ rfl rfl rfl rfl
end Go.Proofs.Ytpkhmgonkbpjjaa

namespace Go.Proofs.Ytpkhmgonkbpjjaa
open Go.RowKit

attribute [local go_sem] Go.World.cell?_alloc_some
/-- What a key taken out of a table leaves. -/
def TakeIsF (B : Nat) (u : Value) (w : World) (t : Nat) (rs : List RowF) (a : ByteArray) (e : Ending) (w' : World) : Prop :=
  ∃ (p : Option Addr) (b : Bool) (rs' : List RowF) (pa : Option Addr) (cap n : Nat), e = .returned (.tuple #[.pointer p, .bool b]) ∧ Hid (rs'.Perm (dropK RowF.key a rs)) ∧ Hid (TabAtF B w' t (.slice pa n cap) rs') ∧ Hid (Kept (fun k => k = t ∨ u.ownBlock = some k) w w' ∧ ∀ g, (Value.slice pa n cap).ownBlock = some g → u.ownBlock = some g ∨ w.heap.size ≤ g)
theorem erase_permF {rs : List RowF} (h : (rs.map RowF.key).Nodup) {i : Nat} {x : RowF} (hx : rs[i]? = some x) : (rs.eraseIdx i).Perm (dropK RowF.key x.key rs) := by
  obtain ⟨hi, e⟩ := List.getElem?_eq_some_iff.1 hx
  have e2 : rs = rs.take i ++ x :: rs.drop (i + 1) := by rw [← e, ← List.drop_eq_getElem_cons hi, List.take_append_drop]
  have hl : lookK RowF.key x.key rs = some x := lookK_of h (List.mem_of_getElem? hx) rfl
  have h1 := dropK_split h hl
  have h2 : (x :: (rs.take i ++ rs.drop (i + 1))).Perm (x :: dropK RowF.key x.key rs) := by
    refine List.Perm.trans ?_ h1
    conv => rhs; rw [e2]
    exact List.perm_middle.symm
  rw [List.eraseIdx_eq_take_drop_succ]
  exact List.Perm.cons_inv h2

set_option maxRecDepth 100000 in
set_option maxHeartbeats 3200000 in
theorem tabTakeF (B : Nat) (u : Value) (rs : List RowF) (a : ByteArray) (t : Nat) (w : World) (ht : TabAtF B w t u rs) :
    Calls Try.prog 90 #[.pointer (some ⟨t, 0, none⟩), .string a] w (TakeIsF B u w t rs a) := by
  obtain ⟨pa, cap, rfl⟩ := ownsRow_form ht.rows
  have hf := hide (tabFindF B _ rs a t _ ht)
  replace ht := hide ht
  go_enter Try.func90, Try.ntmps90
  go_wp2_with fail
  refine hf.out.mono ?_
  rintro e w1 ⟨i, b, rfl, hi, hs1, hs2, hs3, he1⟩
  have hk1 := ht.out.ext he1.out
  have c1 := tabF_c1 hk1.at_
  have sz1 := Ext.size he1.out
  cases b with
  | false =>
    have ha : ¬ HasK RowF.key rs a := fun h => by cases hs2.out.2 h
    replace hk1 := hide hk1; replace sz1 := hide sz1
    go_wp2_with fail
    go_ret2
    exact ⟨none, false, rs, pa, cap, rs.length, rfl, by show List.Perm _ _; rw [dropK_self ha], hk1, he1.out.kept _, fun g hg => .inl hg⟩
  | true =>
    obtain ⟨x, hx, hxa⟩ := hs3.out rfl
    have hlt : i < rs.length := (List.getElem?_eq_some_iff.1 hx).1
    obtain ⟨n, hnn⟩ : ∃ n, rs.length = n + 1 := ⟨rs.length - 1, by omega⟩
    obtain ⟨-, hc1, hc2, hin⟩ := rowsF_in hk1.rows
    rcases hk1.rows.2 with ⟨hv, h0⟩ | ⟨g, cap', cur, hv, hbg, hgg, hcc, hcm, hcs, hcur⟩
    · omega
    obtain ⟨rfl, rfl⟩ : pa = some ⟨g, 0, none⟩ ∧ cap = cap' := by simpa using hv
    rcases hin with hnil | ⟨g', hg', hI⟩
    · rw [hnil] at hlt; simp at hlt
    obtain rfl : g = g' := by simpa using hg'
    have k1 := hI i x hx 1 _ rfl
    unfold maxLen at hc2
    rw [hnn] at hcc hcur c1 hlt hc1
    have i2 : (i : Int) < (n : Int) + 1 := by omega
    have i4 : (0 : Int) ≤ (i : Int) := by omega
    have tg : ¬ t = g := hk1.ne rfl
    have hdel := hide (delF g n cap i cur (cellsG cRowF rs) w1 (by omega) hcc (by unfold maxLen at hcm; omega) hgg hcs hcur (cellsRowF_one _))
    rw [hnn]
    replace hk1 := hide hk1; replace hI := hide hI; replace hx := hide hx; replace hgg := hide hgg; replace hcur := hide hcur; replace tg := hide tg; replace sz1 := hide sz1; replace hnn := hide hnn
    clear hv
    go_wp2_with fail
    refine hdel.out.mono ?_
    rintro e2 w2 ⟨row, rfl, hr1, hr2, hr3, hk⟩
    have At2 := hk.heap hk1.out.at_ tg.out
    have f2 := row_frozen At2
    have d1 := tabF_c1 At2
    replace At2 := hide At2; replace hr1 := hide hr1; replace hr2 := hide hr2; replace hr3 := hide hr3; replace hk := hide hk
    go_wp2_with fail
    have hel : (rs.eraseIdx i).length = n := by rw [List.length_eraseIdx, if_pos (by rw [hnn.out]; omega), hnn.out]; omega
    go_ret2
    refine ⟨_, true, rs.eraseIdx i, some ⟨g, 0, none⟩, cap, n, rfl, ?_, ⟨tabF_set At2.out _, ⟨cellsG_len cRowF_len _, .inr ⟨g, cap, row, by rw [hel], hbg, ?_, by rw [hel]; omega, hcm, hr2.out, ?_⟩⟩, ?_, ?_, ht.out.base⟩, ?_, fun g hg => .inl hg⟩
    · show List.Perm _ _
      have := erase_permF (up_nodup hk1.out.up) hx.out
      rwa [hxa] at this
    · rw [Below.heap_setCell _ _ _ _ (fun e => tg.out e.symm)]; exact hr1.out
    · rw [hel, hr3.out, cellsG_take cRowF_len, cellsG_drop cRowF_len, List.eraseIdx_eq_take_drop_succ]
      simp [cellsG, List.flatMap_append]
    · exact List.Pairwise.sublist (List.eraseIdx_sublist _ _) hk1.out.up
    · rw [hel]; have := hk1.out.few; rw [hnn.out] at this; omega
    · exact ((he1.out.kept _).trans hk.out (fun k _ h => .inr (by subst h; rfl))).trans (kept_setCell w2 ⟨t, 1, none⟩ _) (fun k _ h => .inl h)

/-- The file of a key, if it is there. -/
noncomputable def ptrF (a : ByteArray) (rs : List RowF) : Option Addr := (lookK RowF.key a rs).map fun x => ⟨x.val, 0, none⟩
set_option maxRecDepth 100000 in
set_option maxHeartbeats 3200000 in
theorem tabGetF (B : Nat) (u : Value) (rs : List RowF) (a : ByteArray) (t : Nat) (w : World) (ht : TabAtF B w t u rs) :
    Calls Try.prog 72 #[.pointer (some ⟨t, 0, none⟩), .string a] w fun e w' => e = .returned (.tuple #[.pointer (ptrF a rs), .bool (lookK RowF.key a rs).isSome]) ∧ Hid (Ext w w') := by
  obtain ⟨pa, cap, rfl⟩ := ownsRow_form ht.rows
  have hf := hide (tabFindF B _ rs a t _ ht)
  replace ht := hide ht
  go_enter Try.func72, Try.ntmps72
  go_wp2_with fail
  refine hf.out.mono ?_
  rintro e w1 ⟨i, b, rfl, hi, hs1, hs2, hs3, he1⟩
  have hk1 := ht.out.ext he1.out
  have c1 := tabF_c1 hk1.at_
  cases b with
  | false =>
    have ha : ¬ HasK RowF.key rs a := fun h => by cases hs2.out.2 h
    replace hk1 := hide hk1
    go_wp2_with fail
    go_ret2
    refine ⟨?_, he1⟩
    unfold ptrF
    rw [lookK_none.2 ha]; rfl
  | true =>
    obtain ⟨x, hx, hxa⟩ := hs3.out rfl
    have hlt : i < rs.length := (List.getElem?_eq_some_iff.1 hx).1
    obtain ⟨-, hc1, hc2, hin⟩ := rowsF_in hk1.rows
    rcases hin with hnil | ⟨g, rfl, hI⟩
    · rw [hnil] at hlt; simp at hlt
    have k1 := hI i x hx 1 _ rfl
    unfold maxLen at hc2
    have i2 : (i : Int) < (rs.length : Int) := by omega
    have i4 : (0 : Int) ≤ (i : Int) := by omega
    replace hk1 := hide hk1; replace hI := hide hI; replace hx := hide hx
    go_wp2_with fail
    go_ret2
    refine ⟨?_, he1⟩
    unfold ptrF
    rw [lookK_of (up_nodup ht.out.up) (List.mem_of_getElem? hx.out) hxa]; rfl
end Go.Proofs.Ytpkhmgonkbpjjaa
