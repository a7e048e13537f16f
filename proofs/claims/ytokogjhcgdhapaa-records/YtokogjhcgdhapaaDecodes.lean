/-
  Decode, twice: the law's part.
-/
import Derived.Test.YtokogjhcgdhapaaJ7
import Derived.Test.YtokogjhcgdhapaaInv
namespace Go.Proofs.Ytokogjhcgdhapaa
open Go.RowKit

set_option maxRecDepth 100000 in
set_option maxHeartbeats 3200000 in
theorem decodes (s : ByteArray) (w : World) (hs : s.size ≤ 9223372036854775807) :
    Calls Try.prog 10 #[.string s] w fun e w' => e = .returned (.bool true) ∧ Ext w w' := by
  have hrf := hide (refDecode s)
  have hrd := hide (decode s)
  have hsame := dec_same s.data.toList
  obtain ⟨r, hr⟩ : ∃ r, rdRec s.data.toList = r := ⟨_, rfl⟩
  obtain ⟨t, ht⟩ : ∃ t, rfRec s.data.toList = t := ⟨_, rfl⟩
  rw [hr, ht] at hsame
  rw [hr] at hrd
  rw [ht] at hrf
  obtain ⟨⟨q, en⟩, hq⟩ : ∃ p : Recd × Int, decOf r s.data.toList = p := ⟨_, rfl⟩
  rw [hq] at hsame
  replace hr := hide hr; replace ht := hide ht; replace hsame := hide hsame; replace hq := hide hq
  go_enter Try.func10, Try.ntmps10
  go_wp2_with fail
  refine (hrf.out _ hs).mono ?_
  rintro e w1 ⟨q1, a2, a3, p2, p3, e1, rfl, hd1, hok1, hown1, he1⟩
  obtain ⟨rfl, rfl⟩ : q = q1 ∧ en = e1 := by have := hsame.out.symm.trans hd1.out; simpa using this
  go_wp2_with fail
  refine (hrd.out _ hs).mono ?_
  rintro e w2 ⟨q2, b2, b3, r2, r3, e2, rfl, hd2, hok2, hown2, he2⟩
  obtain ⟨rfl, rfl⟩ : q = q2 ∧ en = e2 := by have := hq.out.symm.trans hd2.out; simpa using this
  go_wp2_with fail
  refine (hrd.out _ hs).mono ?_
  rintro e w3 ⟨q3, c2, c3, t2, t3, e3, rfl, hd3, hok3, hown3, he3⟩
  obtain ⟨rfl, rfl⟩ : q = q3 ∧ en = e3 := by have := hq.out.symm.trans hd3.out; simpa using this
  clear hd1 hd2 hd3 hok2 hok3 hrf hrd hsame hq
  have x12 : Ext w1 w2 := ((Ext.refl w1).alloc _).trans he2.out
  have x23 : Ext w2 w3 := ((Ext.refl w2).alloc _).trans he3.out
  have hW3 := ext_heap x23 (ext_heap he2.out (heap_alloc_new w1 _))
  have hF3 := ext_heap he3.out (heap_alloc_new w2 _)
  obtain ⟨u0, u1, u2, u3, u4, u5, u6, u7⟩ := ecells hW3
  obtain ⟨v0, v1, v2, v3, v4, v5, v6, v7⟩ := ecells hF3
  have hlW : w1.heap.size < w3.heap.size := (Array.getElem?_eq_some_iff.1 hW3).1
  have hlF : w2.heap.size < w3.heap.size := (Array.getElem?_eq_some_iff.1 hF3).1
  have x3 := he1.out.trans (x12.trans x23)
  have o1 := hown1.out.ext (x12.trans x23)
  have o2 := (hown2.out.ext x23)
  have o3 := hown3.out
  have hge : ∀ g, (Value.slice c2 q.res.attrs.length t2).ownBlock = some g → w2.heap.size < g := fun g hg => by
    have := (o3.attrs.lt g hg).1; simp at this; omega
  have hge' : ∀ g, (Value.slice c3 q.res.after.length t3).ownBlock = some g → w2.heap.size < g := fun g hg => by
    have := (o3.after.lt g hg).1; simp at this; omega
  have hlt : ∀ g, (Value.slice b2 q.res.attrs.length r2).ownBlock = some g → g < w2.heap.size := fun g hg => (hown2.out.attrs.lt g hg).2
  have hlt' : ∀ g, (Value.slice b3 q.res.after.length r3).ownBlock = some g → g < w2.heap.size := fun g hg => (hown2.out.after.lt g hg).2
  have lo2 := hide (o2.low (B' := w.heap.size) (Nat.le_trans he1.out.size (by simp)))
  have lo3 := hide (o3.low (B' := w.heap.size) (Nat.le_trans (he1.out.trans x12).size (by simp)))
  have rV1 := hide (o1.resV hok1.out)
  have rV2 := hide (o2.resV hok1.out)
  have rV3 := hide (o3.resV hok1.out)
  replace x3 := hide x3; replace hge := hide hge; replace hge' := hide hge'; replace hlt := hide hlt; replace hlt' := hide hlt'
  replace hW3 := hide hW3; replace hF3 := hide hF3
  clear o1 o2 o3 x12 x23 he1 he2 he3 hown1 hown2 hown3
  go_wp2_with fail
  refine (sameRecord q _ _ _ _ _ (rV2.out.ext ((Ext.refl _).alloc _)) (rV1.out.ext ((Ext.refl _).alloc _))).mono ?_
  rintro e w4 ⟨rfl, he4⟩
  have X4 : Ext w3 w4 := ((Ext.refl w3).alloc _).trans he4
  have hG4 := ext_heap he4 (heap_alloc_new w3 _)
  have hW4 := ext_heap X4 hW3.out
  have hF4 := ext_heap X4 hF3.out
  clear u0 u1 u2 u3 u4 u5 u6 u7 v0 v1 v2 v3 v4 v5 v6 v7
  obtain ⟨u0, u1, u2, u3, u4, u5, u6, u7⟩ := ecells hW4
  obtain ⟨v0, v1, v2, v3, v4, v5, v6, v7⟩ := ecells hF4
  obtain ⟨y0, y1, y2, y3, y4, y5, y6, y7⟩ := ecells hG4
  replace hW4 := hide hW4; replace hF4 := hide hF4; replace hG4 := hide hG4; replace X4 := hide X4; replace he4 := hide he4
  go_wp2_with fail
  refine (sameRecord q _ _ _ _ _ (rV3.out.ext X4.out) (rV1.out.ext X4.out)).mono ?_
  rintro e w5 ⟨rfl, he5⟩
  have X5 := hide (X4.out.trans he5)
  have hG5 := ext_heap he5 hG4.out
  have hF5 := ext_heap he5 hF4.out
  clear u0 u1 u2 u3 u4 u5 u6 u7 v0 v1 v2 v3 v4 v5 v6 v7 y0 y1 y2 y3 y4 y5 y6 y7
  obtain ⟨v0, v1, v2, v3, v4, v5, v6, v7⟩ := ecells hF5
  obtain ⟨y0, y1, y2, y3, y4, y5, y6, y7⟩ := ecells hG5
  have hlF5 : w2.heap.size < w5.heap.size := (Array.getElem?_eq_some_iff.1 hF5).1
  have hlG5 : w3.heap.size < w5.heap.size := (Array.getElem?_eq_some_iff.1 hG5).1
  replace hF5 := hide hF5; replace hG5 := hide hG5; replace he5 := hide he5
  have X6 : Ext w5 (w5.alloc (.cells #[.slice none 0 0, .slice none 0 0, .slice none 0 0, .slice none 0 0, .slice none 0 0, .slice none 0 0] 75)) := (Ext.refl w5).alloc _
  have hbk : BkAt w.heap.size (w5.alloc (.cells #[.slice none 0 0, .slice none 0 0, .slice none 0 0, .slice none 0 0, .slice none 0 0, .slice none 0 0] 75)) w5.heap.size (.slice none 0 0) (.slice none 0 0) (.slice none 0 0) (.slice none 0 0) (.slice none 0 0) (.slice none 0 0) [] [] :=
    ⟨heap_alloc_new w5 _, World.ownsRow_nil _ _ _ _, World.ownsRow_nil _ _ _ _, (x3.out.trans X5.out).size⟩
  have lo6 := hide ((lo2.out.ext X5.out).ext X6)
  have lo7 := hide ((lo3.out.ext X5.out).ext X6)
  have hB6 : w.heap.size ≤ (w5.alloc (.cells #[.slice none 0 0, .slice none 0 0, .slice none 0 0, .slice none 0 0, .slice none 0 0, .slice none 0 0] 75)).heap.size := ((x3.out.trans X5.out).trans X6).size
  have hF6 := ext_heap X6 hF5.out
  have hG6 := ext_heap X6 hG5.out
  replace X6 := hide X6; replace hbk := hide hbk; replace hB6 := hide hB6; replace hF6 := hide hF6; replace hG6 := hide hG6
  obtain ⟨n2, n3⟩ : q.res.attrs.length ≤ 1000 ∧ q.res.after.length ≤ 1000 := by
    obtain ⟨_, _, _, h4, h5⟩ := hok1.out
    exact ⟨by omega, by omega⟩
  go_wp2_with fail
  refine (ownResource w.heap.size w5.heap.size _ _ _ _ _ _ _ [] [] _ _ q.res hbk.out hB6.out lo6.out n2 n3 (by simp) (by simp)).mono ?_
  rintro e w7 ⟨va7, vi7, en7, em7, rfl, hb7, hen7, hem7, hma7, hmi7, hla7, hli7, hk7, _, _⟩
  have hG7 := hk7.out.heap hG6.out (rec_notR hbk.out lo6.out hG6.out)
  have ow7 : OwnR w.heap.size w7 (.slice c2 q.res.attrs.length t2) (.slice c3 q.res.after.length t3) q.res := by
    refine ⟨lo7.out.f2, lo7.out.f3, ownsRow_keptR lo7.out.attrs hk7.out ?_, ownsRow_keptR lo7.out.after hk7.out ?_⟩
    · intro g hg hD
      obtain ⟨c, hc⟩ := own_row lo7.out.attrs hg
      refine at_notR hbk.out lo6.out hc (fun h => ?_) hD
      have h1 := hge.out g hg; have h2 := hlt.out g h; omega
    · intro g hg hD
      obtain ⟨c, hc⟩ := own_row lo7.out.after hg
      refine id_notR hbk.out lo6.out hc (fun h => ?_) hD
      have h1 := hge'.out g hg; have h2 := hlt'.out g h; omega
  have hB7 : w.heap.size ≤ w7.heap.size := Nat.le_trans hB6.out hk7.out.size
  clear v0 v1 v2 v3 v4 v5 v6 v7 y0 y1 y2 y3 y4 y5 y6 y7
  obtain ⟨y0, y1, y2, y3, y4, y5, y6, y7⟩ := ecells hG7
  replace hG7 := hide hG7; replace ow7 := hide ow7; replace hB7 := hide hB7
  go_wp2_with fail
  refine (ownResource w.heap.size w5.heap.size _ _ _ _ _ _ _ ([] ++ en7) ([] ++ em7) _ _ q.res hb7.out hB7.out ow7.out n2 n3 (by simp; omega) (by simp; omega)).mono ?_
  rintro e w8 ⟨va8, vi8, en8, em8, rfl, hb8, hen8, hem8, hma8, hmi8, hla8, hli8, hk8, _, _⟩
  have hA8 : Hid (∀ x ∈ ([] ++ en7) ++ en8, MarkG 52 4 mkA w8 x) := by
    intro x hx
    rcases List.mem_append.1 hx with hx | hx
    · rw [List.nil_append] at hx
      refine (hma7.out x hx).kept fun g c hg hc => hk8.out.heap hc (at_notR hb7.out ow7.out hc fun h => ?_)
      have h1 := hge.out g h
      rcases hla7.out x hx g hg with h2 | h2
      · have := hlt.out g h2; omega
      · have h3 := (lo3.out.attrs.lt g h).2
        have h4 := (X5.out.trans X6.out).size
        omega
    · exact hma8.out x hx
  have hI8 : Hid (∀ x ∈ ([] ++ em7) ++ em8, MarkG 25 2 mkI w8 x) := by
    intro x hx
    rcases List.mem_append.1 hx with hx | hx
    · rw [List.nil_append] at hx
      refine (hmi7.out x hx).kept fun g c hg hc => hk8.out.heap hc (id_notR hb7.out ow7.out hc fun h => ?_)
      have h1 := hge'.out g h
      rcases hli7.out x hx g hg with h2 | h2
      · have := hlt'.out g h2; omega
      · have h3 := (lo3.out.after.lt g h).2
        have h4 := (X5.out.trans X6.out).size
        omega
    · exact hmi8.out x hx
  go_wp2_with fail
  refine (booksLook w.heap.size w5.heap.size _ va8 vi8 _ _ hb8.out (by simp; omega) (by simp; omega) hA8.out hI8.out).mono ?_
  rintro e w9 ⟨rfl, he9⟩
  replace he9 := hide he9
  go_wp2_with fail
  go_ret
  refine ⟨rfl, ?_⟩
  have k6 : Ext w (w5.alloc (.cells #[.slice none 0 0, .slice none 0 0, .slice none 0 0, .slice none 0 0, .slice none 0 0, .slice none 0 0] 75)) := (x3.out.trans X5.out).trans X6.out
  have k7 : Ext w w7 := k6.since hk7.out (fun g hg => turn_low hbk.out lo6.out hg)
  have k8 : Ext w w8 := k7.since hk8.out (fun g hg => turn_low hb7.out ow7.out hg)
  exact k8.trans he9.out
end Go.Proofs.Ytokogjhcgdhapaa
