/-
  A record out of bytes: what the program's function answers.
-/
import Derived.Test.YtokogjhcgdhapaaRead4
namespace Go.Proofs.Ytokogjhcgdhapaa
open Go.RowKit

def noRec : Recd := ⟨0, 0, 0, 0, noRes⟩
/-- The record that bytes are, or none, and the error. -/
def decOf (r : Recd) (l : List UInt8) : Recd × Int := if recB r = true ∧ recL r = l then (r, 0) else (noRec, 16)
/-- What Decode answers, of the record that was read. -/
def DecIs (w : World) (r : Recd) (s : ByteArray) (e : Ending) (w' : World) : Prop :=
  ∃ (q : Recd) (pa2 pa3 : Option Addr) (cap2 cap3 : Nat) (en : Int), e = .returned (.tuple #[.agg #[.int .i64 q.kind, .int .i64 q.epoch, .int .i64 q.number, .int .i64 q.op, .string q.res.id.kind, .string q.res.id.name, .slice pa2 q.res.attrs.length cap2, .slice pa3 q.res.after.length cap3], .int .i64 en]) ∧ Hid (decOf r s.data.toList = (q, en)) ∧ Hid (okS q.res) ∧ Hid (OwnR w.heap.size w' (.slice pa2 q.res.attrs.length cap2) (.slice pa3 q.res.after.length cap3) q.res) ∧ Hid (Ext w w')

set_option maxRecDepth 100000 in
set_option maxHeartbeats 1600000 in
theorem decode (s : ByteArray) (w : World) (hs : s.size ≤ 9223372036854775807) :
    Calls Try.prog 22 #[.string s] w (DecIs w (rdRec s.data.toList) s) := by
  go_enter Try.func22, Try.ntmps22
  go_wp2_with fail
  refine (newReader s _).mono ?_
  rintro e w1 ⟨rfl, rfl⟩
  go_wp2_with fail
  refine (readRecord (w.heap.size + 1) s _ (two_hi w _ _) hs).mono ?_
  rintro e w2 ⟨r, pa2, pa3, cap2, cap3, rfl, hr, hok, hown, hW⟩
  have hO := r_keeps (t := 33) hW.out (two_lo w _ _) (by decide)
  have X2 := hide ((((Wrote.refl w.heap.size (· = 111) w).alloc _).alloc _).trans (hW.out.mono (Nat.le_succ _) (fun _ h => h))).toExt
  have hown' := hide (hown.out.low (show w.heap.size ≤ _ by simp; omega))
  obtain ⟨a0, a1, a2, a3, a4, a5, a6, a7⟩ := ecells hO
  have fO := row_frozen hO
  replace hO := hide hO
  go_wp2_with fail
  refine (encode r _ _ _ ((hown'.out.ext ((Ext.refl w2).alloc _)).resV hok.out)).mono ?_
  rintro e w3 ⟨rfl, he3⟩
  have X3 := hide (((Ext.refl w2).alloc _).trans he3)
  have hO3 := ext_heap0 X3.out hO.out
  have hV3 := ext_heap0 he3 (heap_alloc_new w2 _)
  obtain ⟨b0, b1, b2, b3, b4, b5, b6, b7⟩ := ecells hV3
  clear a0 a1 a2 a3 a4 a5 a6 a7 fO he3
  obtain ⟨a0, a1, a2, a3, a4, a5, a6, a7⟩ := ecells hO3
  have fO := row_frozen hO3
  have XX := hide (X2.out.trans X3.out)
  replace hO3 := hide hO3; replace hV3 := hide hV3
  cases hm : recB r
  · have H2 : Hid (encE r = 11) := by unfold encE; rw [hm]; rfl
    have Hd : Hid (decOf r s.data.toList = (noRec, 16)) := by show _ = _; unfold decOf; rw [if_neg (by simp [hm])]
    generalize encS r = es at *
    generalize encE r = ee at *
    obtain rfl := H2.out
    go_wp2_with fail
    refine bodyPost_ret (v := .tuple #[.agg #[.int .i64 0, .int .i64 0, .int .i64 0, .int .i64 0, .string ⟨#[]⟩, .string ⟨#[]⟩, .slice none 0 0, .slice none 0 0], .int .i64 16]) (by simp [results, Try.results22, go_sem, a0, a1, a2, a3, a4, a5, a6, a7]) rfl ?_
    refine ⟨noRec, none, none, 0, 0, 16, rfl, ?_, okS_nil, OwnR.nil _ _, ?_⟩
    · show _ = _; rw [hr.out]; exact Hd.out
    · exact ((Wrote.ext (B := w.heap.size) (T := fun _ => False) XX.out).set8 (Nat.le_refl _) _ _ _ _ _ _ _ _).toExt
  · have H2 : Hid (encE r = 0) := by unfold encE; rw [hm]; rfl
    have H1 : Hid (encS r = ⟨(recL r).toArray⟩) := by unfold encS; rw [hm]; rfl
    generalize encS r = es at *
    generalize encE r = ee at *
    obtain rfl := H2.out
    have hes : Hid (es.toList = recL r) := by show _ = _; rw [H1.out, ByteArray.toList_eq]
    have own' := hide (hown'.out.ext X3.out)
    cases hq : (es.toList == s.toList)
    · have Hd : Hid (decOf r s.data.toList = (noRec, 16)) := by
        show _ = _
        unfold decOf
        rw [if_neg]
        rintro ⟨_, h2⟩
        rw [hes.out, ByteArray.toList_eq, h2] at hq
        simp at hq
      go_wp2_with fail
      refine bodyPost_ret (v := .tuple #[.agg #[.int .i64 0, .int .i64 0, .int .i64 0, .int .i64 0, .string ⟨#[]⟩, .string ⟨#[]⟩, .slice none 0 0, .slice none 0 0], .int .i64 16]) (by simp [results, Try.results22, go_sem, a0, a1, a2, a3, a4, a5, a6, a7]) rfl ?_
      refine ⟨noRec, none, none, 0, 0, 16, rfl, ?_, okS_nil, OwnR.nil _ _, ?_⟩
      · show _ = _; rw [hr.out]; exact Hd.out
      · exact ((Wrote.ext (B := w.heap.size) (T := fun _ => False) XX.out).set8 (Nat.le_refl _) _ _ _ _ _ _ _ _).toExt
    · have Hd : Hid (decOf r s.data.toList = (r, 0)) := by
        show _ = _
        unfold decOf
        have h2 : es.toList = s.toList := by simpa using hq
        rw [hes.out, ByteArray.toList_eq] at h2
        rw [if_pos ⟨hm, h2⟩]
      have own2 := hide (ownsRow_set8 own'.out.attrs hO3.out (by decide) (.int .i64 r.kind) (.int .i64 r.epoch) (.int .i64 r.number) (.int .i64 r.op) (.string r.res.id.kind) (.string r.res.id.name) (.slice pa2 r.res.attrs.length cap2) (.slice pa3 r.res.after.length cap3))
      have own3 := hide (ownsRow_set8 own'.out.after hO3.out (by decide) (.int .i64 r.kind) (.int .i64 r.epoch) (.int .i64 r.number) (.int .i64 r.op) (.string r.res.id.kind) (.string r.res.id.name) (.slice pa2 r.res.attrs.length cap2) (.slice pa3 r.res.after.length cap3))
      go_wp2_with fail
      refine bodyPost_ret (v := .tuple #[.agg #[.int .i64 r.kind, .int .i64 r.epoch, .int .i64 r.number, .int .i64 r.op, .string r.res.id.kind, .string r.res.id.name, .slice pa2 r.res.attrs.length cap2, .slice pa3 r.res.after.length cap3], .int .i64 0]) (by simp [results, Try.results22, go_sem, a0, a1, a2, a3, a4, a5, a6, a7]) rfl ?_
      refine ⟨r, pa2, pa3, cap2, cap3, 0, rfl, ?_, hok, ⟨⟨_, _, rfl⟩, ⟨_, _, rfl⟩, own2.out, own3.out⟩, ?_⟩
      · show _ = _; rw [hr.out]; exact Hd.out
      · exact ((Wrote.ext (B := w.heap.size) (T := fun _ => False) XX.out).set8 (Nat.le_refl _) _ _ _ _ _ _ _ _).toExt
end Go.Proofs.Ytokogjhcgdhapaa
