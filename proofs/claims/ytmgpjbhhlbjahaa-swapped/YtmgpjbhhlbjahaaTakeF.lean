/-
  The table of files: a key is taken out; a key is looked up; a copy.
-/
import Derived.Test.YtmgpjbhhlbjahaaDelF
namespace Go.Proofs.Ytmgpjbhhlbjahaa
open Go.RowKit

attribute [local go_sem] Go.World.cell?_alloc_some
/-- What a key taken out of a table leaves. -/
def TakeIsF (B : Nat) (u : Value) (w : World) (t : Nat) (rs : List RowF) (a : ByteArray) (e : Ending) (w' : World) : Prop :=
  ∃ (p : Option Addr) (b : Bool) (rs' : List RowF) (pa : Option Addr) (cap n : Nat), e = .returned (.tuple #[.pointer p, .bool b]) ∧ Hid (rs'.Perm (dropK RowF.key a rs)) ∧ Hid (TabAtF B w' t (.slice pa n cap) rs') ∧ Hid (Kept (fun k => k = t ∨ u.ownBlock = some k) w w' ∧ ∀ g, (Value.slice pa n cap).ownBlock = some g → u.ownBlock = some g ∨ w.heap.size ≤ g)
theorem erase_permF {rs : List RowF} (h : (rs.map RowF.key).Nodup) {i : Nat} {x : RowF} (hx : rs[i]? = some x) : (rs.eraseIdx i).Perm (dropK RowF.key x.key rs) := by
  obtain ⟨hi, e⟩ := List.getElem?_eq_some_iff.1 hx
  have e2 : rs = rs.take i ++ x :: rs.drop (i + 1) := by rw [← e, ← List.drop_eq_getElem_cons hi, List.take_append_drop]
  have hl : lookK RowF.key x.key rs = some x := lookK_of h (List.mem_of_getElem? hx) rfl
  have h1 := dropK_split h hl
  have h2 : (x :: (rs.take i ++ rs.drop (i + 1))).Perm (x :: dropK RowF.key x.key rs) := by
    refine List.Perm.trans ?_ h1
    conv => rhs; rw [e2]
    exact List.perm_middle.symm
  rw [List.eraseIdx_eq_take_drop_succ]
  exact List.Perm.cons_inv h2

set_option maxRecDepth 100000 in
set_option maxHeartbeats 3200000 in
theorem tabTakeF (B : Nat) (u : Value) (rs : List RowF) (a : ByteArray) (t : Nat) (w : World) (ht : TabAtF B w t u rs) :
    Calls Try.prog 49 #[.pointer (some ⟨t, 0, none⟩), .string a] w (TakeIsF B u w t rs a) := by
  obtain ⟨pa, cap, rfl⟩ := ownsRow_form ht.rows
  have hf := hide (tabFindF B _ rs a t _ ht)
  replace ht := hide ht
  go_enter Try.func49, Try.ntmps49
  go_wp2_with fail
  refine hf.out.mono ?_
  rintro e w1 ⟨i, b, rfl, hi, hs1, hs2, hs3, he1⟩
  have hk1 := ht.out.ext he1.out
  have c1 := tabF_c1 hk1.at_
  have sz1 := Ext.size he1.out
  cases b with
  | false =>
    have ha : ¬ HasK RowF.key rs a := fun h => by cases hs2.out.2 h
    replace hk1 := hide hk1; replace sz1 := hide sz1
    go_wp2_with fail
    go_ret2
    exact ⟨none, false, rs, pa, cap, rs.length, rfl, by show List.Perm _ _; rw [dropK_self ha], hk1, he1.out.kept _, fun g hg => .inl hg⟩
  | true =>
    obtain ⟨x, hx, hxa⟩ := hs3.out rfl
    have hlt : i < rs.length := (List.getElem?_eq_some_iff.1 hx).1
    obtain ⟨n, hnn⟩ : ∃ n, rs.length = n + 1 := ⟨rs.length - 1, by omega⟩
    obtain ⟨-, hc1, hc2, hin⟩ := rowsF_in hk1.rows
    rcases hk1.rows.2 with ⟨hv, h0⟩ | ⟨g, cap', cur, hv, hbg, hgg, hcc, hcm, hcs, hcur⟩
    · omega
    obtain ⟨rfl, rfl⟩ : pa = some ⟨g, 0, none⟩ ∧ cap = cap' := by simpa using hv
    rcases hin with hnil | ⟨g', hg', hI⟩
    · rw [hnil] at hlt; simp at hlt
    obtain rfl : g = g' := by simpa using hg'
    have k1 := hI i x hx 1 _ rfl
    unfold maxLen at hc2
    rw [hnn] at hcc hcur c1 hlt hc1
    have i2 : (i : Int) < (n : Int) + 1 := by omega
    have i4 : (0 : Int) ≤ (i : Int) := by omega
    have tg : ¬ t = g := hk1.ne rfl
    have hdel := hide (delF g n cap i cur (cellsG cRowF rs) w1 (by omega) hcc (by unfold maxLen at hcm; omega) hgg hcs hcur (cellsRowF_one _))
    rw [hnn]
    replace hk1 := hide hk1; replace hI := hide hI; replace hx := hide hx; replace hgg := hide hgg; replace hcur := hide hcur; replace tg := hide tg; replace sz1 := hide sz1; replace hnn := hide hnn
    clear hv
    go_wp2_with fail
    refine hdel.out.mono ?_
    rintro e2 w2 ⟨row, rfl, hr1, hr2, hr3, hk⟩
    have At2 := hk.heap hk1.out.at_ tg.out
    have f2 := row_frozen At2
    have d1 := tabF_c1 At2
    replace At2 := hide At2; replace hr1 := hide hr1; replace hr2 := hide hr2; replace hr3 := hide hr3; replace hk := hide hk
    go_wp2_with fail
    have hel : (rs.eraseIdx i).length = n := by rw [List.length_eraseIdx, if_pos (by rw [hnn.out]; omega), hnn.out]; omega
    go_ret2
    refine ⟨_, true, rs.eraseIdx i, some ⟨g, 0, none⟩, cap, n, rfl, ?_, ⟨tabF_set At2.out _, ⟨cellsG_len cRowF_len _, .inr ⟨g, cap, row, by rw [hel], hbg, ?_, by rw [hel]; omega, hcm, hr2.out, ?_⟩⟩, ?_, ?_, ht.out.base⟩, ?_, fun g hg => .inl hg⟩
    · show List.Perm _ _
      have := erase_permF (up_nodup hk1.out.up) hx.out
      rwa [hxa] at this
    · rw [Below.heap_setCell _ _ _ _ (fun e => tg.out e.symm)]; exact hr1.out
    · rw [hel, hr3.out, cellsG_take cRowF_len, cellsG_drop cRowF_len, List.eraseIdx_eq_take_drop_succ]
      simp [cellsG, List.flatMap_append]
    · exact List.Pairwise.sublist (List.eraseIdx_sublist _ _) hk1.out.up
    · rw [hel]; have := hk1.out.few; rw [hnn.out] at this; omega
    · exact ((he1.out.kept _).trans hk.out (fun k _ h => .inr (by subst h; rfl))).trans (kept_setCell w2 ⟨t, 1, none⟩ _) (fun k _ h => .inl h)

/-- The file of a key, if it is there. -/
noncomputable def ptrF (a : ByteArray) (rs : List RowF) : Option Addr := (lookK RowF.key a rs).map fun x => ⟨x.val, 0, none⟩
set_option maxRecDepth 100000 in
set_option maxHeartbeats 3200000 in
theorem tabGetF (B : Nat) (u : Value) (rs : List RowF) (a : ByteArray) (t : Nat) (w : World) (ht : TabAtF B w t u rs) :
    Calls Try.prog 34 #[.pointer (some ⟨t, 0, none⟩), .string a] w fun e w' => e = .returned (.tuple #[.pointer (ptrF a rs), .bool (lookK RowF.key a rs).isSome]) ∧ Hid (Ext w w') := by
  obtain ⟨pa, cap, rfl⟩ := ownsRow_form ht.rows
  have hf := hide (tabFindF B _ rs a t _ ht)
  replace ht := hide ht
  go_enter Try.func34, Try.ntmps34
  go_wp2_with fail
  refine hf.out.mono ?_
  rintro e w1 ⟨i, b, rfl, hi, hs1, hs2, hs3, he1⟩
  have hk1 := ht.out.ext he1.out
  have c1 := tabF_c1 hk1.at_
  cases b with
  | false =>
    have ha : ¬ HasK RowF.key rs a := fun h => by cases hs2.out.2 h
    replace hk1 := hide hk1
    go_wp2_with fail
    go_ret2
    refine ⟨?_, he1⟩
    unfold ptrF
    rw [lookK_none.2 ha]; rfl
  | true =>
    obtain ⟨x, hx, hxa⟩ := hs3.out rfl
    have hlt : i < rs.length := (List.getElem?_eq_some_iff.1 hx).1
    obtain ⟨-, hc1, hc2, hin⟩ := rowsF_in hk1.rows
    rcases hin with hnil | ⟨g, rfl, hI⟩
    · rw [hnil] at hlt; simp at hlt
    have k1 := hI i x hx 1 _ rfl
    unfold maxLen at hc2
    have i2 : (i : Int) < (rs.length : Int) := by omega
    have i4 : (0 : Int) ≤ (i : Int) := by omega
    replace hk1 := hide hk1; replace hI := hide hI; replace hx := hide hx
    go_wp2_with fail
    go_ret2
    refine ⟨?_, he1⟩
    unfold ptrF
    rw [lookK_of (up_nodup ht.out.up) (List.mem_of_getElem? hx.out) hxa]; rfl
end Go.Proofs.Ytmgpjbhhlbjahaa
