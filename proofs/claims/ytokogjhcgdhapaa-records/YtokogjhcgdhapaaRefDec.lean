/-
  A record out of bytes: what the reference's function answers.
-/
import Derived.Test.YtokogjhcgdhapaaRefRead2
import Derived.Test.YtokogjhcgdhapaaRefEnc
import Derived.Test.YtokogjhcgdhapaaDecode
namespace Go.Proofs.Ytokogjhcgdhapaa
open Go.RowKit

def rfRec (l : List UInt8) : Recd :=
  if rfN l 0 1 = 2 then ⟨rfN l 0 1, rfN l 1 3, rfN l 4 3, rfN l 7 1, (rfRes l 8).1⟩ else ⟨rfN l 0 1, rfN l 1 3, rfN l 4 3, 0, noRes⟩

set_option maxRecDepth 100000 in
set_option maxHeartbeats 3200000 in
theorem refDecode (s : ByteArray) (w : World) (hs : s.size ≤ 9223372036854775807) :
    Calls Try.prog 21 #[.string s] w (DecIs w (rfRec s.data.toList) s) := by
  have hr1 := hide (refRead' s (0 : Int) 0 1)
  have hr2 := hide (refRead' s (1 : Int) 1 3)
  have hr3 := hide (refRead' s (4 : Int) 4 3)
  have hr4 := hide (refRead' s (7 : Int) 7 1)
  have hdef : Hid (rfRec s.data.toList = (if rfN s.data.toList 0 1 = 2 then ⟨rfN s.data.toList 0 1, rfN s.data.toList 1 3, rfN s.data.toList 4 3, rfN s.data.toList 7 1, (rfRes s.data.toList 8).1⟩ else ⟨rfN s.data.toList 0 1, rfN s.data.toList 1 3, rfN s.data.toList 4 3, 0, noRes⟩)) := rfl
  generalize rfN s.data.toList 0 1 = n1 at *
  generalize rfN s.data.toList 1 3 = n2 at *
  generalize rfN s.data.toList 4 3 = n3 at *
  generalize rfN s.data.toList 7 1 = n4 at *
  go_enter Try.func21, Try.ntmps21
  go_wp2_with fail
  refine (hr1.out _ rfl hs (by omega) (by omega)).mono ?_
  rintro e w1 ⟨rfl, rfl⟩
  go_wp2_with fail
  refine (hr2.out _ rfl hs (by omega) (by omega)).mono ?_
  rintro e w1 ⟨rfl, rfl⟩
  go_wp2_with fail
  refine (hr3.out _ rfl hs (by omega) (by omega)).mono ?_
  rintro e w1 ⟨rfl, rfl⟩
  clear hr1 hr2 hr3
  by_cases hk : n1 = 2
  · have hk' : ((n1 : Int) == 2) = true := by simp; omega
    have hd2 : Hid (rfRec s.data.toList = ⟨n1, n2, n3, n4, (rfRes s.data.toList 8).1⟩) := by show _ = _; rw [hdef.out, if_pos hk]
    clear hdef
    replace hk := hide hk
    go_wp2_with fail
    refine (hr4.out _ rfl hs (by omega) (by omega)).mono ?_
    rintro e w1 ⟨rfl, rfl⟩
    go_wp2_with fail
    refine (refResAt s 8 _ hs (by omega)).mono ?_
    rintro e w5 ⟨x, pa2, pa3, cap2, cap3, m, rfl, hx, hok, hm, hown, he⟩
    have hd3 : Hid (rfRec s.data.toList = ⟨n1, n2, n3, n4, x⟩) := by show _ = _; rw [hd2.out, hx.out]
    clear hd2
    have hd2 := hd3
    clear hd3
    have hO5 := ext_heap0 he.out (two_lo w _ _)
    have hI5 := ext_heap0 he.out (two_hi w _ _)
    obtain ⟨b0, b1, b2, b3, b4, b5, b6, b7⟩ := ecells hI5
    have fI := row_frozen hI5
    have hno : ¬ w.heap.size + 1 = w.heap.size := by omega
    have hno' : ¬ w.heap.size = w.heap.size + 1 := by omega
    have hI5a := es4 hI5 (.string x.id.kind)
    have hI5b := es5 hI5a (.string x.id.name)
    have hI5c := es6 hI5b (.slice pa2 x.attrs.length cap2)
    have hI6 := es7 hI5c (.slice pa3 x.after.length cap3)
    have hO6 := World.setCell_other_row (World.setCell_other_row (World.setCell_other_row (World.setCell_other_row hO5 hno 4 (.string x.id.kind)) hno 5 (.string x.id.name)) hno 6 (.slice pa2 x.attrs.length cap2)) hno 7 (.slice pa3 x.after.length cap3)
    have hl5 := hown.out.low (show w.heap.size ≤ _ by simp; omega)
    have own2 := ownsRow_set (j := 7) (ownsRow_set (j := 6) (ownsRow_set (j := 5) (ownsRow_set (j := 4) hl5.attrs hI5 (by decide) (.string x.id.kind)) hI5a (by decide) (.string x.id.name)) hI5b (by decide) (.slice pa2 x.attrs.length cap2)) hI5c (by decide) (.slice pa3 x.after.length cap3)
    have own3 := ownsRow_set (j := 7) (ownsRow_set (j := 6) (ownsRow_set (j := 5) (ownsRow_set (j := 4) hl5.after hI5 (by decide) (.string x.id.kind)) hI5a (by decide) (.string x.id.name)) hI5b (by decide) (.slice pa2 x.attrs.length cap2)) hI5c (by decide) (.slice pa3 x.after.length cap3)
    have own6 : Hid (OwnR w.heap.size ((((w5.setCell ⟨w.heap.size + 1, 4, none⟩ (.string x.id.kind)).setCell ⟨w.heap.size + 1, 5, none⟩ (.string x.id.name)).setCell ⟨w.heap.size + 1, 6, none⟩ (.slice pa2 x.attrs.length cap2)).setCell ⟨w.heap.size + 1, 7, none⟩ (.slice pa3 x.after.length cap3)) (.slice pa2 x.attrs.length cap2) (.slice pa3 x.after.length cap3) x) := ⟨⟨_, _, rfl⟩, ⟨_, _, rfl⟩, own2, own3⟩
    have X6 : Hid (Ext w ((((w5.setCell ⟨w.heap.size + 1, 4, none⟩ (.string x.id.kind)).setCell ⟨w.heap.size + 1, 5, none⟩ (.string x.id.name)).setCell ⟨w.heap.size + 1, 6, none⟩ (.slice pa2 x.attrs.length cap2)).setCell ⟨w.heap.size + 1, 7, none⟩ (.slice pa3 x.after.length cap3))) :=
      ((((((((Ext.refl w).alloc _).alloc _).trans he.out).setCell (p := ⟨w.heap.size + 1, 4, none⟩) (by simp) _).setCell (p := ⟨w.heap.size + 1, 5, none⟩) (by simp) _).setCell (p := ⟨w.heap.size + 1, 6, none⟩) (by simp) _).setCell (p := ⟨w.heap.size + 1, 7, none⟩) (by simp) _)
    clear hI5a hI5b hI5c own2 own3 hl5
    replace hO5 := hide hO5; replace hI5 := hide hI5; replace hO6 := hide hO6; replace hI6 := hide hI6
    go_wp2_with fail
    refine (refEncode ⟨n1, n2, n3, n4, x⟩ _ _ _ (own6.out.resV hok.out)).mono ?_
    rintro e w7 ⟨rfl, he7⟩
    have hO7 := ext_heap0 he7 hO6.out
    have hI7 := ext_heap0 he7 hI6.out
    clear b0 b1 b2 b3 b4 b5 b6 b7 fI
    obtain ⟨b0, b1, b2, b3, b4, b5, b6, b7⟩ := ecells hI7
    obtain ⟨a0, a1, a2, a3, a4, a5, a6, a7⟩ := ecells hO7
    have fO := row_frozen hO7
    have X7 := hide (X6.out.trans he7)
    have own7 := hide (own6.out.ext he7)
    clear he7
    replace hO7 := hide hO7; replace hI7 := hide hI7
    cases hm7 : recB (⟨n1, n2, n3, n4, x⟩ : Recd)
    · have H2 : Hid (encE (⟨n1, n2, n3, n4, x⟩ : Recd) = 11) := by unfold encE; rw [hm7]; rfl
      have Hd : Hid (decOf (⟨n1, n2, n3, n4, x⟩ : Recd) s.data.toList = (noRec, 16)) := by show _ = _; unfold decOf; rw [if_neg (by simp [hm7])]
      generalize encS (⟨n1, n2, n3, n4, x⟩ : Recd) = es at *
      generalize encE (⟨n1, n2, n3, n4, x⟩ : Recd) = ee at *
      obtain rfl := H2.out
      go_wp2_with fail
      refine bodyPost_ret (v := .tuple #[.agg #[.int .i64 0, .int .i64 0, .int .i64 0, .int .i64 0, .string ⟨#[]⟩, .string ⟨#[]⟩, .slice none 0 0, .slice none 0 0], .int .i64 16]) (by simp [results, Try.results21, go_sem, a0, a1, a2, a3, a4, a5, a6, a7]) rfl ?_
      refine ⟨noRec, none, none, 0, 0, 16, rfl, ?_, okS_nil, OwnR.nil _ _, ?_⟩
      · show _ = _; rw [hd2.out]; exact Hd.out
      · exact ((Wrote.ext (B := w.heap.size) (T := fun _ => False) X7.out).set8 (Nat.le_refl _) _ _ _ _ _ _ _ _).toExt
    · have H2 : Hid (encE (⟨n1, n2, n3, n4, x⟩ : Recd) = 0) := by unfold encE; rw [hm7]; rfl
      have H1 : Hid (encS (⟨n1, n2, n3, n4, x⟩ : Recd) = ⟨(recL (⟨n1, n2, n3, n4, x⟩ : Recd)).toArray⟩) := by unfold encS; rw [hm7]; rfl
      generalize encS (⟨n1, n2, n3, n4, x⟩ : Recd) = es at *
      generalize encE (⟨n1, n2, n3, n4, x⟩ : Recd) = ee at *
      obtain rfl := H2.out
      have hes : Hid (es.toList = recL (⟨n1, n2, n3, n4, x⟩ : Recd)) := by show _ = _; rw [H1.out, ByteArray.toList_eq]
      cases hq : (es.toList == s.toList)
      · have Hd : Hid (decOf (⟨n1, n2, n3, n4, x⟩ : Recd) s.data.toList = (noRec, 16)) := by
          show _ = _
          unfold decOf
          rw [if_neg]
          rintro ⟨_, h2⟩
          rw [hes.out, ByteArray.toList_eq, h2] at hq
          simp at hq
        go_wp2_with fail
        refine bodyPost_ret (v := .tuple #[.agg #[.int .i64 0, .int .i64 0, .int .i64 0, .int .i64 0, .string ⟨#[]⟩, .string ⟨#[]⟩, .slice none 0 0, .slice none 0 0], .int .i64 16]) (by simp [results, Try.results21, go_sem, a0, a1, a2, a3, a4, a5, a6, a7]) rfl ?_
        refine ⟨noRec, none, none, 0, 0, 16, rfl, ?_, okS_nil, OwnR.nil _ _, ?_⟩
        · show _ = _; rw [hd2.out]; exact Hd.out
        · exact ((Wrote.ext (B := w.heap.size) (T := fun _ => False) X7.out).set8 (Nat.le_refl _) _ _ _ _ _ _ _ _).toExt
      · have Hd : Hid (decOf (⟨n1, n2, n3, n4, x⟩ : Recd) s.data.toList = ((⟨n1, n2, n3, n4, x⟩ : Recd), 0)) := by
          show _ = _
          unfold decOf
          have h2 : es.toList = s.toList := by simpa using hq
          rw [hes.out, ByteArray.toList_eq] at h2
          rw [if_pos ⟨hm7, h2⟩]
        have own2 := hide (ownsRow_set8 own7.out.attrs hO7.out (by decide) (.int .i64 n1) (.int .i64 n2) (.int .i64 n3) (.int .i64 n4) (.string x.id.kind) (.string x.id.name) (.slice pa2 x.attrs.length cap2) (.slice pa3 x.after.length cap3))
        have own3 := hide (ownsRow_set8 own7.out.after hO7.out (by decide) (.int .i64 n1) (.int .i64 n2) (.int .i64 n3) (.int .i64 n4) (.string x.id.kind) (.string x.id.name) (.slice pa2 x.attrs.length cap2) (.slice pa3 x.after.length cap3))
        go_wp2_with fail
        refine bodyPost_ret (v := .tuple #[.agg #[.int .i64 n1, .int .i64 n2, .int .i64 n3, .int .i64 n4, .string x.id.kind, .string x.id.name, .slice pa2 x.attrs.length cap2, .slice pa3 x.after.length cap3], .int .i64 0]) (by simp [results, Try.results21, go_sem, a0, a1, a2, a3, a4, a5, a6, a7]) rfl ?_
        refine ⟨(⟨n1, n2, n3, n4, x⟩ : Recd), pa2, pa3, cap2, cap3, 0, rfl, ?_, hok, ⟨⟨_, _, rfl⟩, ⟨_, _, rfl⟩, own2.out, own3.out⟩, ?_⟩
        · show _ = _; rw [hd2.out]; exact Hd.out
        · exact ((Wrote.ext (B := w.heap.size) (T := fun _ => False) X7.out).set8 (Nat.le_refl _) _ _ _ _ _ _ _ _).toExt
  · have hk' : ((n1 : Int) == 2) = false := by simp; omega
    have hd2 : Hid (rfRec s.data.toList = ⟨n1, n2, n3, 0, noRes⟩) := by show _ = _; rw [hdef.out, if_neg hk]
    clear hdef
    replace hk := hide hk
    go_wp2_with fail
    refine (refEncode ⟨n1, n2, n3, 0, noRes⟩ (.slice none 0 0) (.slice none 0 0) _ ((OwnR.nil 0 _).resV okS_nil)).mono ?_
    rintro e w7 ⟨rfl, he7⟩
    have hO7 := ext_heap0 he7 (two_lo w _ _)
    have hI7 := ext_heap0 he7 (two_hi w _ _)
    obtain ⟨b0, b1, b2, b3, b4, b5, b6, b7⟩ := ecells hI7
    obtain ⟨a0, a1, a2, a3, a4, a5, a6, a7⟩ := ecells hO7
    have fO := row_frozen hO7
    have hno : ¬ w.heap.size + 1 = w.heap.size := by omega
    have hno' : ¬ w.heap.size = w.heap.size + 1 := by omega
    have X7 := hide ((((Ext.refl w).alloc _).alloc _).trans he7)
    have hok := hide okS_nil
    have own7 := hide (OwnR.nil w.heap.size w7)
    clear he7
    replace hO7 := hide hO7; replace hI7 := hide hI7
    cases hm7 : recB (⟨n1, n2, n3, 0, noRes⟩ : Recd)
    · have H2 : Hid (encE (⟨n1, n2, n3, 0, noRes⟩ : Recd) = 11) := by unfold encE; rw [hm7]; rfl
      have Hd : Hid (decOf (⟨n1, n2, n3, 0, noRes⟩ : Recd) s.data.toList = (noRec, 16)) := by show _ = _; unfold decOf; rw [if_neg (by simp [hm7])]
      generalize encS (⟨n1, n2, n3, 0, noRes⟩ : Recd) = es at *
      generalize encE (⟨n1, n2, n3, 0, noRes⟩ : Recd) = ee at *
      obtain rfl := H2.out
      go_wp2_with fail
      refine bodyPost_ret (v := .tuple #[.agg #[.int .i64 0, .int .i64 0, .int .i64 0, .int .i64 0, .string ⟨#[]⟩, .string ⟨#[]⟩, .slice none 0 0, .slice none 0 0], .int .i64 16]) (by simp [results, Try.results21, go_sem, a0, a1, a2, a3, a4, a5, a6, a7]) rfl ?_
      refine ⟨noRec, none, none, 0, 0, 16, rfl, ?_, okS_nil, OwnR.nil _ _, ?_⟩
      · show _ = _; rw [hd2.out]; exact Hd.out
      · exact ((Wrote.ext (B := w.heap.size) (T := fun _ => False) X7.out).set8 (Nat.le_refl _) _ _ _ _ _ _ _ _).toExt
    · have H2 : Hid (encE (⟨n1, n2, n3, 0, noRes⟩ : Recd) = 0) := by unfold encE; rw [hm7]; rfl
      have H1 : Hid (encS (⟨n1, n2, n3, 0, noRes⟩ : Recd) = ⟨(recL (⟨n1, n2, n3, 0, noRes⟩ : Recd)).toArray⟩) := by unfold encS; rw [hm7]; rfl
      generalize encS (⟨n1, n2, n3, 0, noRes⟩ : Recd) = es at *
      generalize encE (⟨n1, n2, n3, 0, noRes⟩ : Recd) = ee at *
      obtain rfl := H2.out
      have hes : Hid (es.toList = recL (⟨n1, n2, n3, 0, noRes⟩ : Recd)) := by show _ = _; rw [H1.out, ByteArray.toList_eq]
      cases hq : (es.toList == s.toList)
      · have Hd : Hid (decOf (⟨n1, n2, n3, 0, noRes⟩ : Recd) s.data.toList = (noRec, 16)) := by
          show _ = _
          unfold decOf
          rw [if_neg]
          rintro ⟨_, h2⟩
          rw [hes.out, ByteArray.toList_eq, h2] at hq
          simp at hq
        go_wp2_with fail
        refine bodyPost_ret (v := .tuple #[.agg #[.int .i64 0, .int .i64 0, .int .i64 0, .int .i64 0, .string ⟨#[]⟩, .string ⟨#[]⟩, .slice none 0 0, .slice none 0 0], .int .i64 16]) (by simp [results, Try.results21, go_sem, a0, a1, a2, a3, a4, a5, a6, a7]) rfl ?_
        refine ⟨noRec, none, none, 0, 0, 16, rfl, ?_, okS_nil, OwnR.nil _ _, ?_⟩
        · show _ = _; rw [hd2.out]; exact Hd.out
        · exact ((Wrote.ext (B := w.heap.size) (T := fun _ => False) X7.out).set8 (Nat.le_refl _) _ _ _ _ _ _ _ _).toExt
      · have Hd : Hid (decOf (⟨n1, n2, n3, 0, noRes⟩ : Recd) s.data.toList = ((⟨n1, n2, n3, 0, noRes⟩ : Recd), 0)) := by
          show _ = _
          unfold decOf
          have h2 : es.toList = s.toList := by simpa using hq
          rw [hes.out, ByteArray.toList_eq] at h2
          rw [if_pos ⟨hm7, h2⟩]
        have own2 := hide (ownsRow_set8 own7.out.attrs hO7.out (by decide) (.int .i64 n1) (.int .i64 n2) (.int .i64 n3) (.int .i64 0) (.string ⟨#[]⟩) (.string ⟨#[]⟩) (.slice none 0 0) (.slice none 0 0))
        have own3 := hide (ownsRow_set8 own7.out.after hO7.out (by decide) (.int .i64 n1) (.int .i64 n2) (.int .i64 n3) (.int .i64 0) (.string ⟨#[]⟩) (.string ⟨#[]⟩) (.slice none 0 0) (.slice none 0 0))
        go_wp2_with fail
        refine bodyPost_ret (v := .tuple #[.agg #[.int .i64 n1, .int .i64 n2, .int .i64 n3, .int .i64 0, .string ⟨#[]⟩, .string ⟨#[]⟩, .slice none 0 0, .slice none 0 0], .int .i64 0]) (by simp [results, Try.results21, go_sem, a0, a1, a2, a3, a4, a5, a6, a7]) rfl ?_
        refine ⟨(⟨n1, n2, n3, 0, noRes⟩ : Recd), none, none, 0, 0, 0, rfl, ?_, hok, ⟨⟨_, _, rfl⟩, ⟨_, _, rfl⟩, own2.out, own3.out⟩, ?_⟩
        · show _ = _; rw [hd2.out]; exact Hd.out
        · exact ((Wrote.ext (B := w.heap.size) (T := fun _ => False) X7.out).set8 (Nat.le_refl _) _ _ _ _ _ _ _ _).toExt
end Go.Proofs.Ytokogjhcgdhapaa
