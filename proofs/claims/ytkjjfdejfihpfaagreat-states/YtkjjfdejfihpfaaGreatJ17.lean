/-
  The law States, its look at one text: it answers true.
-/
/-
  The law States: it answers true.
-/
import Derived.Test.YtkjjfdejfihpfaaGreatRefLoad
import Derived.Test.YtkjjfdejfihpfaaGreatJ16
import Derived.Test.YtkjjfdejfihpfaaGreatJ11
import Derived.Test.YtkjjfdejfihpfaaGreatUnspoilt
namespace Go.Proofs.YtkjjfdejfihpfaaGreat
open Go.RowKit

theorem RessAt.stay {B : Nat} {w3 w6 w7 : World} {v : Value} {ps : List ResP} {D : Nat → Prop} (h : RessAt B w3 v ps) (x : Ext w3 w6) (hk : Kept D w6 w7) (hD : ∀ g, B ≤ g → g < w3.heap.size → ¬ D g) : RessAt B w7 v ps := by
  have h6 := h.ext x
  refine ⟨ownsRow_keptR h6.row hk fun g hg => hD g (h.row.lt g hg).1 (h.row.lt g hg).2, fun p hp => ⟨?_, (h.each p hp).2⟩, h.apart⟩
  obtain ⟨o3, _⟩ := h.each p hp
  obtain ⟨o6, _⟩ := h6.each p hp
  exact ⟨o6.f2, o6.f3, ownsRow_keptR o6.attrs hk fun g hg => hD g (o3.attrs.lt g hg).1 (o3.attrs.lt g hg).2, ownsRow_keptR o6.after hk fun g hg => hD g (o3.after.lt g hg).1 (o3.after.lt g hg).2⟩
/-- What is turned lies at or above the bound. -/
theorem turnQ_low {B O : Nat} {w : World} {va vi vn vc vs vr v : Value} {ea ei ec : List (Value × Nat)} {ps : List ResP} (hb : BkAt B w O va vi vn vc vs vr ea ei) (hc : w.ownsRow B 96 2 vc ec.length (cellsE ec)) (hps : RessAt B w v ps) {g : Nat} (h : TurnQ ps v va vi vc O g) : B ≤ g := by
  rcases h with (⟨p, hp, h | h⟩ | h | h | h) | h | h
  · exact ((hps.each p hp).1.attrs.lt g h.symm).1
  · exact ((hps.each p hp).1.after.lt g h.symm).1
  · exact (hb.a.lt g h.symm).1
  · exact (hb.i.lt g h.symm).1
  · rw [h]; exact hb.low
  · exact (hps.row.lt g h.symm).1
  · exact (hc.lt g h.symm).1
/-- A mark that lies outside what the second list reaches stays. -/
theorem mark_stayQ {B L O : Nat} {w3 w7 w8 : World} {va vi vn vc vs vr v : Value} {ea ei ec : List (Value × Nat)} {ps : List ResP} {T : TypeId} {sz : Nat} {mk : Nat → List Value} {x : Value × Nat} (hm : MarkG T sz mk w7 x) (hb : BkAt B w7 O va vi vn vc vs vr ea ei) (hc : w7.ownsRow B 96 2 vc ec.length (cellsE ec)) (hps : RessAt L w3 v ps) (hk : Kept (TurnQ ps v va vi vc O) w7 w8)
    (h1 : T ≠ 127) (h2 : T ≠ 129) (h3 : T ≠ 96) (h4 : T ≠ 66) (hr : ∀ g, x.1.ownBlock = some g → g < L ∨ w3.heap.size ≤ g) : MarkG T sz mk w8 x := by
  refine hm.kept fun g c hg hcg => hk.heap hcg ?_
  have hn : ∀ {T' : TypeId} {n sz' : Nat} {u : Value} {xs : List Value}, w3.ownsRow L T' sz' u n xs → some g = u.ownBlock → False := fun ho h => by
    have h5 := ho.lt g h.symm
    rcases hr g hg with h6 | h6 <;> omega
  rintro ((⟨p, hp, h | h⟩ | h | h | h) | h | h)
  · exact hn (hps.each p hp).1.attrs h
  · exact hn (hps.each p hp).1.after h
  · exact ownsRow_ne hb.a hcg h1 h
  · exact ownsRow_ne hb.i hcg h2 h
  · exact tag_ne hcg hb.o h4 h
  · exact hn hps.row h
  · exact ownsRow_ne hc hcg h3 h

theorem turnQ_not {L O : Nat} {w2 w3 : World} {v : Value} {qs : List ResP} (hr2 : RessAt L w2 v qs) (h3 : w3.heap.size ≤ O) : ∀ g, w2.heap.size ≤ g → g < w3.heap.size → ¬ TurnQ qs v (.slice none 0 0) (.slice none 0 0) (.slice none 0 0) O g := by
  rintro g hg1 hg2 ((⟨p, hp, h | h⟩ | h | h | h) | h | h)
  · have := ((hr2.each p hp).1.attrs.lt g h.symm).2; omega
  · have := ((hr2.each p hp).1.after.lt g h.symm).2; omega
  · cases h
  · cases h
  · omega
  · have := (hr2.row.lt g h.symm).2; omega
  · cases h

set_option maxRecDepth 100000 in
set_option maxHeartbeats 6400000 in
theorem loads (s : ByteArray) (w : World) (hs : s.size ≤ 9223372036854775807) :
    Calls Tryz.prog 8 #[.string s] w fun e w' => e = .returned (.bool true) ∧ Ext w w' := by
  go_enter Tryz.func8, Tryz.ntmps8
  go_wp2_with fail
  refine (refLoad s _ hs).mono ?_
  rintro e w1 ⟨ps, pa, ca, n1, f1, rfl, hd1, hn1, hc1, hr1, he1⟩
  rw [ld_same] at hd1
  go_wp2_with fail
  refine (loadP s _ hs).mono ?_
  rintro e w2 ⟨qs, pb, cb, n2, f2, rfl, hd2, hn2, hc2, hr2, he2⟩
  obtain ⟨rfl, hm2, rfl⟩ : n1 = n2 ∧ ps.map ResP.x = qs.map ResP.x ∧ f1 = f2 := by have := hd1.out.symm.trans hd2.out; simpa using this
  go_wp2_with fail
  refine (loadP s _ hs).mono ?_
  rintro e w3 ⟨rs, pc, cc, n3, f3, rfl, hd3, hn3, hc3, hr3, he3⟩
  obtain ⟨rfl, hm3, rfl⟩ : n1 = n3 ∧ ps.map ResP.x = rs.map ResP.x ∧ f1 = f3 := by have := hd1.out.symm.trans hd3.out; simpa using this
  replace hm2 := hide hm2; replace hm3 := hide hm3
  clear hd1 hd2 hd3 hc1 hc3
  have r1 := hide ((hr1.out.ext he2.out).ext he3.out)
  have r2 := hide (hr2.out.ext he3.out)
  have r3 := hide hr3.out
  have v1 := hide (r1.out.ressV (by omega))
  have v2 := hide (r2.out.ressV (by omega))
  have v3 := hide (r3.out.ressV (by omega))
  rw [← hm2.out] at v2
  rw [← hm3.out] at v3
  have hnil : (f1 = 0) ∨ (f1 = 16 ∧ pb = none ∧ qs = [] ∧ cb = 0) := hc2
  clear hc2
  go_wp2_with fail
  refine (sameRess _ _ (ps.map ResP.x) _ v2.out v1.out).mono ?_
  rintro e w4 ⟨rfl, he4⟩
  replace he4 := hide he4
  go_wp2_with fail
  refine (sameRess _ _ (ps.map ResP.x) _ (v3.out.ext he4.out) (v1.out.ext he4.out)).mono ?_
  rintro e w5 ⟨rfl, he5⟩
  have X5 := hide (he4.out.trans he5)
  clear he4 he5 v1 v2 v3
  rcases hnil with rfl | ⟨rfl, rfl, hqs, hcb⟩
  all_goals
    try (replace hqs := hide hqs; replace hcb := hide hcb)
    have X6 : Ext w5 (w5.alloc (.cells #[.slice none 0 0, .slice none 0 0, .slice none 0 0, .slice none 0 0, .slice none 0 0, .slice none 0 0] 66)) := (Ext.refl w5).alloc _
    have s1 : w1.heap.size ≤ w2.heap.size := he2.out.size
    have s2 : w2.heap.size ≤ w3.heap.size := he3.out.size
    have s3 : w3.heap.size ≤ w5.heap.size := X5.out.size
    have hbk : BkAt w1.heap.size (w5.alloc (.cells #[.slice none 0 0, .slice none 0 0, .slice none 0 0, .slice none 0 0, .slice none 0 0, .slice none 0 0] 66)) w5.heap.size (.slice none 0 0) (.slice none 0 0) (.slice none 0 0) (.slice none 0 0) (.slice none 0 0) (.slice none 0 0) [] [] :=
      ⟨heap_alloc_new w5 _, World.ownsRow_nil _ _ _ _, World.ownsRow_nil _ _ _ _, by omega⟩
    have hc6 : (w5.alloc (.cells #[.slice none 0 0, .slice none 0 0, .slice none 0 0, .slice none 0 0, .slice none 0 0, .slice none 0 0] 66)).ownsRow w1.heap.size 96 2 (.slice none 0 0) ([] : List (Value × Nat)).length (cellsE []) := World.ownsRow_nil _ _ _ _
    have lo6 := ((r2.out.ext X5.out).ext X6)
    have hB6 : w1.heap.size ≤ (w5.alloc (.cells #[.slice none 0 0, .slice none 0 0, .slice none 0 0, .slice none 0 0, .slice none 0 0, .slice none 0 0] 66)).heap.size := by have := X6.size; omega
    replace X6 := hide X6; replace hbk := hide hbk; replace hB6 := hide hB6; replace hc6 := hide hc6; replace lo6 := hide lo6
    replace s1 := hide s1; replace s2 := hide s2; replace s3 := hide s3
    go_wp2_with fail
    refine (ownResources w1.heap.size w5.heap.size _ _ _ _ _ _ _ [] [] [] _ qs hbk.out hc6.out hB6.out lo6.out (by omega) (by simp) (by simp) (by simp)).mono ?_
    rintro e w7 ⟨va7, vi7, vc7, en7, em7, eq7, rfl, hb7, hc7, hen7, hem7, heq7, hma7, hmi7, hmc7, hla7, hli7, hlc7, hk7⟩
    have hD7 := turnQ_not (w3 := w3) (O := w5.heap.size) hr2.out s3.out
    have ow7 := hide (r3.out.stay (X5.out.trans X6.out) hk7.out hD7)
    have lo7 := hide (ow7.out.low (B' := w1.heap.size) s1.out)
    have hB7 := hide (Nat.le_trans hB6.out hk7.out.size)
    clear hD7
    go_wp2_with fail
    refine (ownResources w1.heap.size w5.heap.size _ _ _ _ _ _ _ ([] ++ en7) ([] ++ em7) ([] ++ eq7) _ rs hb7.out hc7.out hB7.out lo7.out (by omega) (by simp; omega) (by simp; omega) (by simp; omega)).mono ?_
    rintro e w8 ⟨va8, vi8, vc8, en8, em8, eq8, rfl, hb8, hc8, hen8, hem8, heq8, hma8, hmi8, hmc8, hla8, hli8, hlc8, hk8⟩
    have s6 : w3.heap.size ≤ (w5.alloc (.cells #[.slice none 0 0, .slice none 0 0, .slice none 0 0, .slice none 0 0, .slice none 0 0, .slice none 0 0] 66)).heap.size := Nat.le_trans s3.out X6.out.size
    have hA8 : Hid (∀ x ∈ ([] ++ en7) ++ en8, MarkG 42 4 mkA w8 x) := by
      intro x hx
      rcases List.mem_append.1 hx with hx | hx
      · rw [List.nil_append] at hx
        refine mark_stayQ (hma7.out x hx) hb7.out hc7.out r3.out hk8.out (by decide) (by decide) (by decide) (by decide) fun g hg => ?_
        rcases hla7.out x hx g hg with ⟨p, hp, h⟩ | h
        · exact .inl ((hr2.out.each p hp).1.attrs.lt g h).2
        · exact .inr (Nat.le_trans s6 h)
      · exact hma8.out x hx
    have hI8 : Hid (∀ x ∈ ([] ++ em7) ++ em8, MarkG 37 2 mkI w8 x) := by
      intro x hx
      rcases List.mem_append.1 hx with hx | hx
      · rw [List.nil_append] at hx
        refine mark_stayQ (hmi7.out x hx) hb7.out hc7.out r3.out hk8.out (by decide) (by decide) (by decide) (by decide) fun g hg => ?_
        rcases hli7.out x hx g hg with ⟨p, hp, h⟩ | h
        · exact .inl ((hr2.out.each p hp).1.after.lt g h).2
        · exact .inr (Nat.le_trans s6 h)
      · exact hmi8.out x hx
    have hC8 : Hid (∀ x ∈ ([] ++ eq7) ++ eq8, MarkG 40 4 mkQ w8 x) := by
      intro x hx
      rcases List.mem_append.1 hx with hx | hx
      · rw [List.nil_append] at hx
        refine mark_stayQ (hmc7.out x hx) hb7.out hc7.out r3.out hk8.out (by decide) (by decide) (by decide) (by decide) fun g hg => ?_
        rcases hlc7.out x hx g hg with h | h
        · exact .inl (hr2.out.row.lt g h).2
        · exact .inr (Nat.le_trans s6 h)
      · exact hmc8.out x hx
    clear s6
    go_wp2_with fail
    refine (booksLookQ w1.heap.size w5.heap.size _ va8 vi8 vc8 _ _ _ hb8.out hc8.out (by simp; omega) (by simp; omega) (by simp; omega) hA8.out hI8.out hC8.out).mono ?_
    rintro e w9 ⟨rfl, he9⟩
    replace he9 := hide he9
    go_wp2_with fail
    go_ret
    refine ⟨rfl, ?_⟩
    have hge := he1.out.size
    have k6 : Ext w (w5.alloc (.cells #[.slice none 0 0, .slice none 0 0, .slice none 0 0, .slice none 0 0, .slice none 0 0, .slice none 0 0] 66)) := (((he1.out.trans he2.out).trans he3.out).trans X5.out).trans X6.out
    have k7 : Ext w w7 := k6.since hk7.out (fun g hg => Nat.le_trans hge (turnQ_low hbk.out hc6.out lo6.out hg))
    have k8 : Ext w w8 := k7.since hk8.out (fun g hg => Nat.le_trans hge (turnQ_low hb7.out hc7.out lo7.out hg))
    exact k8.trans he9.out
end Go.Proofs.YtkjjfdejfihpfaaGreat

namespace Go.Proofs.YtkjjfdejfihpfaaGreat
open Go.RowKit

theorem stS_few (epoch : Int) (l : List Resd) : (stS epoch l).size ≤ 9223372036854775807 := by
  unfold stS
  split
  · rename_i h
    have h1 := stateB_len (epoch := epoch) (st_parts h).2.2
    show (stateL epoch l).length ≤ _
    rw [stateL, List.length_append, bigL_len]; omega
  · decide

set_option maxRecDepth 100000 in
set_option maxHeartbeats 3200000 in
theorem statesLaw (epoch : Int) (v : Value) (l : List Resd) (s : ByteArray) (w : World) (hv : RessV w v l) (hl : l.length ≤ 1759218604390) (hok : ∀ x ∈ l, okR x) (hs : s.size ≤ 9223372036854775807) :
    Calls Tryz.prog 3 #[.int .i64 epoch, v, .string s] w fun e w' => e = .returned (.bool true) ∧ Ext w w' := by
  have hv0 := hide hv
  obtain ⟨⟨a, cap, rfl, hcap, hmax, hs'⟩, hfew⟩ := hv
  replace hs' := hide hs'; replace hok := hide hok
  have hsz := hide (stS_few epoch l)
  go_enter Tryz.func3, Tryz.ntmps3
  go_wp2_with fail
  refine (lend _ l _ hv0.out hl hok.out).mono ?_
  rintro e w1 ⟨he1, ps, O, L, va, vf, hpl, rfl, hL⟩
  have hps : ps.length = l.length := by rw [← hpl, List.length_map]
  have o0 : w1.cell? ⟨O, 0, none⟩ = some (.slice (some ⟨L, 0, none⟩) (l.length + 8) (l.length + 8)) := (block_cell' hL.o 0).trans rfl
  have rv := hL.ress hps hl
  rw [hpl] at rv
  have i1 : (l.length : Int) ≤ (l.length : Int) + 8 := by omega
  replace hL := hide hL; replace he1 := hide he1; replace hpl := hide hpl; replace hps := hide hps; replace rv := hide rv
  go_wp2_with fail
  refine (stateP epoch _ l _ rv.out).mono ?_
  rintro e w2 ⟨rfl, he2⟩
  have X2 : Ext w1 w2 := he2
  replace X2 := hide X2
  clear o0 he2
  go_wp2_with fail
  refine (refState epoch _ l _ (hv0.out.ext (he1.out.trans X2.out))).mono ?_
  rintro e w3 ⟨rfl, he3⟩
  replace he3 := hide he3
  go_wp2_with fail
  refine (unspoilt w.heap.size _ l ps O L va vf _ (hv0.out.ext ((he1.out.trans X2.out).trans he3.out)) hl hok.out hpl.out (hL.out.ext (X2.out.trans he3.out))).mono ?_
  rintro e w4 ⟨rfl, he4⟩
  have X4 := hide (Ext.since ((he1.out.trans X2.out).trans he3.out) he4 (fun _ h => h))
  replace he4 := hide he4
  generalize stS epoch l = es at *
  generalize stE epoch l = ee at *
  by_cases h0 : ee = 0
  · subst h0
    go_wp2_with fail
    refine (loads es _ hsz.out).mono ?_
    rintro e w5 ⟨rfl, he5⟩
    replace he5 := hide he5
    go_wp2_with fail
    refine (loads s _ hs).mono ?_
    rintro e w6 ⟨rfl, he6⟩
    replace he6 := hide he6
    go_wp2_with fail
    go_ret
    exact ⟨rfl, (X4.out.trans he5.out).trans he6.out⟩
  · have h0' : (ee == 0) = false := by simpa using h0
    go_wp2_with fail
    refine (loads s _ hs).mono ?_
    rintro e w6 ⟨rfl, he6⟩
    replace he6 := hide he6
    go_wp2_with fail
    go_ret
    exact ⟨rfl, X4.out.trans he6.out⟩
end Go.Proofs.YtkjjfdejfihpfaaGreat
