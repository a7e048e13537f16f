/-
  The table of files: what a key that is put into it leaves, whether it was there or not.
-/
import Derived.Test.YtpkhmgonkbpjjaaJ10
import Derived.Test.YtpkhmgonkbpjjaaDkS
namespace Go.Proofs.Ytpkhmgonkbpjjaa
open Go.RowKit

attribute [local go_sem] Go.World.cell?_alloc_some
/-- What a key put into a table leaves. -/
def PutIsF (B : Nat) (u : Value) (w : World) (t : Nat) (rs : List RowF) (x : RowF) (e : Ending) (w' : World) : Prop :=
  ∃ (rs' : List RowF) (pa : Option Addr) (cap n : Nat), e = .returned (.tuple #[]) ∧ Hid (rs'.Perm (dropK RowF.key x.key rs ++ [x])) ∧ Hid (TabAtF B w' t (.slice pa n cap) rs') ∧ Hid (Kept (fun k => k = t ∨ u.ownBlock = some k) w w' ∧ ∀ g, (Value.slice pa n cap).ownBlock = some g → u.ownBlock = some g ∨ w.heap.size ≤ g)
theorem insG_perm {ρ : Type} (rs : List ρ) (i : Nat) (x : ρ) : (insG rs i x).Perm (rs ++ [x]) := by
  unfold insG
  have h1 : (rs.take i ++ x :: rs.drop i).Perm (x :: (rs.take i ++ rs.drop i)) := List.perm_middle
  rw [List.take_append_drop] at h1
  exact h1.trans (List.perm_append_singleton x rs).symm
theorem up_nodup {rs : List RowF} (h : UpG cmpS RowF.key rs) : (rs.map RowF.key).Nodup := by
  rw [List.nodup_iff_pairwise_ne, List.pairwise_map]
  refine List.Pairwise.imp (fun {a b} hab e => ?_) h
  rw [e, ordS.zero.2 rfl] at hab
  omega
theorem up_set {rs : List RowF} (h : UpG cmpS RowF.key rs) {i : Nat} {x y : RowF} (hx : rs[i]? = some x) (he : y.key = x.key) : UpG cmpS RowF.key (rs.set i y) := by
  have hm : (rs.set i y).map RowF.key = rs.map RowF.key := by
    rw [List.map_set, he]
    apply List.ext_getElem?
    intro j
    rw [List.getElem?_set]
    split
    · rename_i hij
      subst hij
      split
      · rw [List.getElem?_map, hx]; rfl
      · rename_i hl
        rw [List.getElem?_eq_none (by omega)]
    · rfl
  unfold UpG at h ⊢
  have h1 : (rs.map RowF.key).Pairwise (fun a b => cmpS a b < 0) := List.pairwise_map.2 h
  rw [← hm] at h1
  exact List.pairwise_map.1 h1
theorem set_permF {rs : List RowF} (h : (rs.map RowF.key).Nodup) {i : Nat} {x y : RowF} (hx : rs[i]? = some x) (he : y.key = x.key) : (rs.set i y).Perm (dropK RowF.key y.key rs ++ [y]) := by
  obtain ⟨hi, e⟩ := List.getElem?_eq_some_iff.1 hx
  have e1 : rs.set i y = rs.take i ++ y :: rs.drop (i + 1) := by rw [List.set_eq_take_append_cons_drop, if_pos hi]
  have e2 : rs = rs.take i ++ x :: rs.drop (i + 1) := by rw [← e, ← List.drop_eq_getElem_cons hi, List.take_append_drop]
  have hl : lookK RowF.key y.key rs = some x := lookK_of h (List.mem_of_getElem? hx) he.symm
  have h1 := dropK_split h hl
  have h2 : (x :: (rs.take i ++ rs.drop (i + 1))).Perm (x :: dropK RowF.key y.key rs) := by
    refine List.Perm.trans ?_ h1
    conv => rhs; rw [e2]
    exact List.perm_middle.symm
  have h3 := List.Perm.cons_inv h2
  rw [e1]
  exact (List.perm_middle.trans (h3.cons y)).trans (List.perm_append_singleton y _).symm
theorem cellsG_set {ρ : Type} {c : ρ → List Value} {n : Nat} (hc : ∀ x, (c x).length = n) {rs : List ρ} {i : Nat} {x y : ρ} (hx : rs[i]? = some x) : cellsG c (rs.set i y) = (cellsG c rs).take (i * n) ++ c y ++ (cellsG c rs).drop ((i + 1) * n) := by
  obtain ⟨hi, e⟩ := List.getElem?_eq_some_iff.1 hx
  rw [cellsG_take hc, cellsG_drop hc, List.set_eq_take_append_cons_drop, if_pos hi]
  simp [cellsG, List.flatMap_append]

set_option maxRecDepth 100000 in
set_option maxHeartbeats 3200000 in
theorem tabPutF (B : Nat) (u : Value) (rs : List RowF) (a : ByteArray) (v : Nat) (t : Nat) (w : World) (ht : TabAtF B w t u rs) (hB : B ≤ w.heap.size) (hfew : rs.length + 1 ≤ 2000000000000) :
    Calls Try.prog 91 #[.pointer (some ⟨t, 0, none⟩), .string a, .pointer (some ⟨v, 0, none⟩)] w (PutIsF B u w t rs ⟨a, v⟩) := by
  obtain ⟨pa, cap, rfl⟩ := ownsRow_form ht.rows
  have hf := hide (tabFindF B _ rs a t _ ht)
  replace ht := hide ht
  go_enter Try.func91, Try.ntmps91
  go_wp2_with fail
  refine hf.out.mono ?_
  rintro e w1 ⟨i, b, rfl, hi, hs1, hs2, hs3, he1⟩
  have hk1 := ht.out.ext he1.out
  have c1 := tabF_c1 hk1.at_
  have f1 := row_frozen hk1.at_
  have sz1 := Ext.size he1.out
  cases b with
  | false =>
    have ha : ¬ HasK RowF.key rs a := fun h => by cases hs2.out.2 h
    have hin := hide (insRowF B _ rs ⟨a, v⟩ i w1.heap.size (w1.alloc (.cells #[.string a, .pointer (some ⟨v, 0, none⟩)] 140)) ((hk1.ext ((Ext.refl w1).alloc _)).rows) (by simp; omega) hi (by omega) (heap_alloc_new w1 _) (by
      intro e
      have := hk1.lt.2 _ e.symm
      omega))
    have At := hide (ext_heap ((Ext.refl w1).alloc (.cells #[.string a, .pointer (some ⟨v, 0, none⟩)] 140)) hk1.at_)
    replace hk1 := hide hk1; replace sz1 := hide sz1
    go_wp2_with fail
    refine hin.out.mono ?_
    rintro e w2 ⟨pa2, cap2, n2, rfl, hn2, hK2, hW2, hQ2⟩
    have ht2 := Wrote.keeps hW2.out At.out (by decide)
    have f2 := row_frozen ht2
    have d1 := tabF_c1 ht2
    replace ht2 := hide ht2
    go_wp2
    refine ⟨rfl, .tuple #[], by simp [results, Try.results91], ?_⟩
    have hup := ht.out.up
    refine ⟨insG rs i ⟨a, v⟩, pa2, cap2, n2, rfl, ?_, ⟨tabF_set ht2.out _, ownsRow_set hK2.out ht2.out (by decide) _, hup.insert ordS hs1.out ha, by rw [insG_len hi]; exact hfew, ht.out.base⟩, ?_⟩
    · show List.Perm _ _
      rw [show dropK RowF.key (RowF.key ⟨a, v⟩) rs = rs from dropK_self ha]
      exact insG_perm rs i _
    · have Xa := he1.out.trans ((Ext.refl w1).alloc (.cells #[.string a, .pointer (some ⟨v, 0, none⟩)] 140))
      exact ⟨((Xa.kept _).trans hQ2.out.1 (fun k _ h => .inr h)).trans (kept_setCell w2 ⟨t, 1, none⟩ _) (fun k _ h => .inl h), fun g hg => (hQ2.out.2 g hg).imp id fun h => Nat.le_trans (Ext.size Xa) h⟩
  | true =>
    obtain ⟨x, hx, hxa⟩ := hs3.out rfl
    have hlt : i < rs.length := (List.getElem?_eq_some_iff.1 hx).1
    obtain ⟨-, hc1, hc2, hin⟩ := rowsF_in hk1.rows
    rcases hk1.rows.2 with ⟨hv, h0⟩ | ⟨g, cap', cur, hv, hbg, hgg, hcc, hcm, hcs, hcur⟩
    · omega
    obtain ⟨rfl, rfl⟩ : pa = some ⟨g, 0, none⟩ ∧ cap = cap' := by simpa using hv
    rcases hin with hnil | ⟨g', hg', hI⟩
    · rw [hnil] at hlt; simp at hlt
    obtain rfl : g = g' := by simpa using hg'
    have k1 := hI i x hx 1 _ rfl
    have fz := row_frozen hgg
    unfold maxLen at hc2
    have i2 : (i : Int) < (rs.length : Int) := by omega
    have i4 : (0 : Int) ≤ (i : Int) := by omega
    have tg : ¬ t = g := hk1.ne rfl
    replace hk1 := hide hk1; replace hI := hide hI; replace hx := hide hx; replace hgg := hide hgg; replace hcur := hide hcur; replace tg := hide tg; replace sz1 := hide sz1
    go_wp2_with fail
    refine ⟨rfl, .tuple #[], by simp [results, Try.results91], ?_⟩
    refine ⟨rs.set i ⟨a, v⟩, some ⟨g, 0, none⟩, cap, rs.length, rfl, ?_, ⟨?_, ⟨cellsG_len cRowF_len _, .inr ⟨g, cap, cur.setIfInBounds (i * 2 + 1) (.pointer (some ⟨v, 0, none⟩)), by rw [List.length_set], hbg, ?_, by rw [List.length_set]; exact hcc, hcm, by simpa using hcs, ?_⟩⟩, up_set hk1.out.up hx.out hxa.symm, by rw [List.length_set]; exact hk1.out.few, ht.out.base⟩, ?_, fun g hg => .inl hg⟩
    · exact set_permF (y := ⟨a, v⟩) (up_nodup hk1.out.up) hx.out hxa.symm
    · rw [Below.heap_setCell _ _ _ _ tg.out]; exact hk1.out.at_
    · simp [World.setCell, Array.getElem?_modify, hgg.out]
    · rw [List.length_set, Array.toList_setIfInBounds, List.take_set, hcur.out, cellsG_set cRowF_len hx.out]
      have hfx : cellsG cRowF rs = (cellsG cRowF rs).take (i * 2) ++ cRowF x ++ (cellsG cRowF rs).drop ((i + 1) * 2) := by
        have := cellsG_set (c := cRowF) cRowF_len (y := x) hx.out
        rw [← this]
        congr 1
        obtain ⟨hl, e⟩ := List.getElem?_eq_some_iff.1 hx.out
        rw [← e, List.set_getElem_self]
      have hl2 : ((cellsG cRowF rs).take (i * 2)).length = i * 2 := by
        have := cellsG_len cRowF_len rs
        rw [List.length_take]; omega
      conv => lhs; rw [hfx]
      rw [List.append_assoc, List.set_append_right _ _ (by rw [hl2]; omega), hl2, show i * 2 + 1 - i * 2 = 1 by omega, List.append_assoc]
      congr 1
      simp [cRowF, hxa]
    · exact ((he1.out.kept _).trans (kept_setCell w1 ⟨g, i * 2 + 1, none⟩ _) (fun k _ h => .inr (by subst h; rfl)))
end Go.Proofs.Ytpkhmgonkbpjjaa
