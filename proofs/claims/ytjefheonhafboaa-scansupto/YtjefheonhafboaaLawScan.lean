/-
  The law Scans: it answers true.
-/
import Derived.Test.YtjefheonhafboaaRefScan
import Derived.Test.YtjefheonhafboaaLooks3
namespace Go.Proofs.Ytjefheonhafboaa
open Go.RowKit

theorem RecsAt.stay {B : Nat} {w3 w6 w7 : World} {v : Value} {ps : List RecP} {D : Nat → Prop} (h : RecsAt B w3 v ps) (x : Ext w3 w6) (hk : Kept D w6 w7) (hD : ∀ g, B ≤ g → g < w3.heap.size → ¬ D g) : RecsAt B w7 v ps := by
  have h6 := h.ext x
  refine ⟨ownsRow_keptR h6.row hk fun g hg => hD g (h.row.lt g hg).1 (h.row.lt g hg).2, fun p hp => ⟨?_, (h.each p hp).2⟩, h.apart⟩
  obtain ⟨o3, _⟩ := h.each p hp
  obtain ⟨o6, _⟩ := h6.each p hp
  exact ⟨o6.f2, o6.f3, ownsRow_keptR o6.attrs hk fun g hg => hD g (o3.attrs.lt g hg).1 (o3.attrs.lt g hg).2, ownsRow_keptR o6.after hk fun g hg => hD g (o3.after.lt g hg).1 (o3.after.lt g hg).2⟩
/-- What is turned lies at or above the bound. -/
theorem turnC_low {B O : Nat} {w : World} {va vi vn vr vs vc v : Value} {ea ei ec : List (Value × Nat)} {ps : List RecP} (hb : BkAt B w O va vi vn vr vs vc ea ei) (hc : w.ownsRow B 62 2 vc ec.length (cellsE ec)) (hps : RecsAt B w v ps) {g : Nat} (h : TurnC ps v va vi vc O g) : B ≤ g := by
  rcases h with (⟨p, hp, h | h⟩ | h | h | h) | h | h
  · exact ((hps.each p hp).1.attrs.lt g h.symm).1
  · exact ((hps.each p hp).1.after.lt g h.symm).1
  · exact (hb.a.lt g h.symm).1
  · exact (hb.i.lt g h.symm).1
  · rw [h]; exact hb.low
  · exact (hps.row.lt g h.symm).1
  · exact (hc.lt g h.symm).1
/-- A mark that lies outside what the second list reaches stays. -/
theorem mark_stay {B L O : Nat} {w3 w7 w8 : World} {va vi vn vr vs vc v : Value} {ea ei ec : List (Value × Nat)} {ps : List RecP} {T : TypeId} {sz : Nat} {mk : Nat → List Value} {x : Value × Nat} (hm : MarkG T sz mk w7 x) (hb : BkAt B w7 O va vi vn vr vs vc ea ei) (hc : w7.ownsRow B 62 2 vc ec.length (cellsE ec)) (hps : RecsAt L w3 v ps) (hk : Kept (TurnC ps v va vi vc O) w7 w8)
    (h1 : T ≠ 86) (h2 : T ≠ 90) (h3 : T ≠ 62) (h4 : T ≠ 36) (hr : ∀ g, x.1.ownBlock = some g → g < L ∨ w3.heap.size ≤ g) : MarkG T sz mk w8 x := by
  refine hm.kept fun g c hg hcg => hk.heap hcg ?_
  have hn : ∀ {T' : TypeId} {n sz' : Nat} {u : Value} {xs : List Value}, w3.ownsRow L T' sz' u n xs → some g = u.ownBlock → False := fun ho h => by
    have h5 := ho.lt g h.symm
    rcases hr g hg with h6 | h6 <;> omega
  rintro ((⟨p, hp, h | h⟩ | h | h | h) | h | h)
  · exact hn (hps.each p hp).1.attrs h
  · exact hn (hps.each p hp).1.after h
  · exact ownsRow_ne hb.a hcg h1 h
  · exact ownsRow_ne hb.i hcg h2 h
  · exact tag_ne hcg hb.o h4 h
  · exact hn hps.row h
  · exact ownsRow_ne hc hcg h3 h

set_option maxRecDepth 100000 in
set_option maxHeartbeats 6400000 in
theorem scansLaw (s : ByteArray) (w : World) (hs : s.size ≤ 1048576) :
    Calls Try.prog 3 #[.string s] w fun e w' => e = .returned (.bool true) ∧ Ext w w' := by
  go_enter Try.func3, Try.ntmps3
  go_wp2_with fail
  refine (refScan s _ hs).mono ?_
  rintro e w1 ⟨ps, pa, ca, k, rfl, hd1, hn1, hr1, he1⟩
  go_wp2_with fail
  refine (scan s _ hs).mono ?_
  rintro e w2 ⟨qs, pb, cb, k2, rfl, hd2, hn2, hr2, he2⟩
  obtain ⟨hm2, rfl⟩ : ps.map RecP.r = qs.map RecP.r ∧ k = k2 := by have := hd1.out.symm.trans hd2.out; simpa using this
  go_wp2_with fail
  refine (scan s _ hs).mono ?_
  rintro e w3 ⟨rs, pc, cc, k3, rfl, hd3, hn3, hr3, he3⟩
  obtain ⟨hm3, rfl⟩ : ps.map RecP.r = rs.map RecP.r ∧ k = k3 := by have := hd1.out.symm.trans hd3.out; simpa using this
  replace hm2 := hide hm2; replace hm3 := hide hm3
  clear hd1 hd2 hd3
  have r1 := hide ((hr1.out.ext he2.out).ext he3.out)
  have r2 := hide (hr2.out.ext he3.out)
  have r3 := hide hr3.out
  go_wp2_with fail
  refine (sameRecords _ _ _ _ qs ps _ r2.out r1.out hm2.out.symm hn2).mono ?_
  rintro e w4 ⟨rfl, he4⟩
  replace he4 := hide he4
  go_wp2_with fail
  refine (sameRecords _ _ _ _ rs ps _ (r3.out.ext he4.out) (r1.out.ext he4.out) hm3.out.symm hn3).mono ?_
  rintro e w5 ⟨rfl, he5⟩
  have X5 := hide (he4.out.trans he5)
  clear he4 he5
  have X6 : Ext w5 (w5.alloc (.cells #[.slice none 0 0, .slice none 0 0, .slice none 0 0, .slice none 0 0, .slice none 0 0, .slice none 0 0] 36)) := (Ext.refl w5).alloc _
  have s1 : w1.heap.size ≤ w2.heap.size := he2.out.size
  have s2 : w2.heap.size ≤ w3.heap.size := he3.out.size
  have s3 : w3.heap.size ≤ w5.heap.size := X5.out.size
  have hbk : BkAt w1.heap.size (w5.alloc (.cells #[.slice none 0 0, .slice none 0 0, .slice none 0 0, .slice none 0 0, .slice none 0 0, .slice none 0 0] 36)) w5.heap.size (.slice none 0 0) (.slice none 0 0) (.slice none 0 0) (.slice none 0 0) (.slice none 0 0) (.slice none 0 0) [] [] :=
    ⟨heap_alloc_new w5 _, World.ownsRow_nil _ _ _ _, World.ownsRow_nil _ _ _ _, by omega⟩
  have hc6 : (w5.alloc (.cells #[.slice none 0 0, .slice none 0 0, .slice none 0 0, .slice none 0 0, .slice none 0 0, .slice none 0 0] 36)).ownsRow w1.heap.size 62 2 (.slice none 0 0) ([] : List (Value × Nat)).length (cellsE []) := World.ownsRow_nil _ _ _ _
  have lo6 := ((r2.out.ext X5.out).ext X6)
  have hB6 : w1.heap.size ≤ (w5.alloc (.cells #[.slice none 0 0, .slice none 0 0, .slice none 0 0, .slice none 0 0, .slice none 0 0, .slice none 0 0] 36)).heap.size := by have := X6.size; omega
  replace X6 := hide X6; replace hbk := hide hbk; replace hB6 := hide hB6; replace hc6 := hide hc6; replace lo6 := hide lo6
  replace s1 := hide s1; replace s2 := hide s2; replace s3 := hide s3
  go_wp2_with fail
  refine (ownRecords w1.heap.size w5.heap.size _ _ _ _ _ _ _ [] [] [] _ qs hbk.out hc6.out hB6.out lo6.out hn2 (by simp) (by simp) (by simp)).mono ?_
  rintro e w7 ⟨va7, vi7, vc7, en7, em7, eq7, rfl, hb7, hc7, hen7, hem7, heq7, hma7, hmi7, hmc7, hla7, hli7, hlc7, hk7⟩
  have hD7 : ∀ g, w2.heap.size ≤ g → g < w3.heap.size → ¬ TurnC qs (.slice pb qs.length cb) (.slice none 0 0) (.slice none 0 0) (.slice none 0 0) w5.heap.size g := by
    have h3 := s3.out
    rintro g hg1 hg2 ((⟨p, hp, h | h⟩ | h | h | h) | h | h)
    · have := ((hr2.out.each p hp).1.attrs.lt g h.symm).2; omega
    · have := ((hr2.out.each p hp).1.after.lt g h.symm).2; omega
    · cases h
    · cases h
    · omega
    · have := (hr2.out.row.lt g h.symm).2; omega
    · cases h
  have ow7 := hide (r3.out.stay (X5.out.trans X6.out) hk7.out hD7)
  have lo7 := hide (ow7.out.low (B' := w1.heap.size) s1.out)
  have hB7 := hide (Nat.le_trans hB6.out hk7.out.size)
  clear hD7
  go_wp2_with fail
  refine (ownRecords w1.heap.size w5.heap.size _ _ _ _ _ _ _ ([] ++ en7) ([] ++ em7) ([] ++ eq7) _ rs hb7.out hc7.out hB7.out lo7.out hn3 (by simp; omega) (by simp; omega) (by simp; omega)).mono ?_
  rintro e w8 ⟨va8, vi8, vc8, en8, em8, eq8, rfl, hb8, hc8, hen8, hem8, heq8, hma8, hmi8, hmc8, hla8, hli8, hlc8, hk8⟩
  have s6 : w3.heap.size ≤ (w5.alloc (.cells #[.slice none 0 0, .slice none 0 0, .slice none 0 0, .slice none 0 0, .slice none 0 0, .slice none 0 0] 36)).heap.size := Nat.le_trans s3.out X6.out.size
  have hA8 : Hid (∀ x ∈ ([] ++ en7) ++ en8, MarkG 88 4 mkA w8 x) := by
    intro x hx
    rcases List.mem_append.1 hx with hx | hx
    · rw [List.nil_append] at hx
      refine mark_stay (hma7.out x hx) hb7.out hc7.out r3.out hk8.out (by decide) (by decide) (by decide) (by decide) fun g hg => ?_
      rcases hla7.out x hx g hg with ⟨p, hp, h⟩ | h
      · exact .inl ((hr2.out.each p hp).1.attrs.lt g h).2
      · exact .inr (Nat.le_trans s6 h)
    · exact hma8.out x hx
  have hI8 : Hid (∀ x ∈ ([] ++ em7) ++ em8, MarkG 44 2 mkI w8 x) := by
    intro x hx
    rcases List.mem_append.1 hx with hx | hx
    · rw [List.nil_append] at hx
      refine mark_stay (hmi7.out x hx) hb7.out hc7.out r3.out hk8.out (by decide) (by decide) (by decide) (by decide) fun g hg => ?_
      rcases hli7.out x hx g hg with ⟨p, hp, h⟩ | h
      · exact .inl ((hr2.out.each p hp).1.after.lt g h).2
      · exact .inr (Nat.le_trans s6 h)
    · exact hmi8.out x hx
  have hC8 : Hid (∀ x ∈ ([] ++ eq7) ++ eq8, MarkG 52 8 mkC w8 x) := by
    intro x hx
    rcases List.mem_append.1 hx with hx | hx
    · rw [List.nil_append] at hx
      refine mark_stay (hmc7.out x hx) hb7.out hc7.out r3.out hk8.out (by decide) (by decide) (by decide) (by decide) fun g hg => ?_
      rcases hlc7.out x hx g hg with h | h
      · exact .inl (hr2.out.row.lt g h).2
      · exact .inr (Nat.le_trans s6 h)
    · exact hmc8.out x hx
  clear s6
  go_wp2_with fail
  refine (booksLookC w1.heap.size w5.heap.size _ va8 vi8 vc8 _ _ _ hb8.out hc8.out (by simp; omega) (by simp; omega) (by simp; omega) hA8.out hI8.out hC8.out).mono ?_
  rintro e w9 ⟨rfl, he9⟩
  replace he9 := hide he9
  go_wp2_with fail
  go_ret
  refine ⟨rfl, ?_⟩
  have hge := he1.out.size
  have k6 : Ext w (w5.alloc (.cells #[.slice none 0 0, .slice none 0 0, .slice none 0 0, .slice none 0 0, .slice none 0 0, .slice none 0 0] 36)) := (((he1.out.trans he2.out).trans he3.out).trans X5.out).trans X6.out
  have k7 : Ext w w7 := k6.since hk7.out (fun g hg => Nat.le_trans hge (turnC_low hbk.out hc6.out lo6.out hg))
  have k8 : Ext w w8 := k7.since hk8.out (fun g hg => Nat.le_trans hge (turnC_low hb7.out hc7.out lo7.out hg))
  exact k8.trans he9.out
end Go.Proofs.Ytjefheonhafboaa
