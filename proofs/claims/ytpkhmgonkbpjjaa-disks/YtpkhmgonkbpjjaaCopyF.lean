/-
  The table of files: a copy of it, that changes by itself.
-/
import Derived.Test.YtpkhmgonkbpjjaaJ11
import Derived.Laws.Cover3
namespace Go.Proofs.Ytpkhmgonkbpjjaa
open Go.RowKit

attribute [local go_sem] Go.World.cell?_alloc_some
theorem rowsNil (a : Option Addr) (n c : Nat) (w : World) : (binOp .eql 135 (.slice a n c) (.slice none 0 0)).run Try.prog w = .ok (.bool a.isNone) w := by
  simp only [binOp]
  simp [run_equal_slice_nil w 135 140 a n c Try.underlying135]

set_option maxRecDepth 100000 in
set_option maxHeartbeats 1600000 in
theorem cloneF (B : Nat) (u : Value) (rs : List RowF) (w : World) (ht : RowsF B w u rs) (hn : rs.length ≤ 2000000000000) :
    Calls Try.prog 68 #[u] w fun e w' => ∃ pa cap n, e = .returned (.slice pa n cap) ∧ Hid (RowsF w.heap.size w' (.slice pa n cap) rs) ∧ Hid (Ext w w') := by
  obtain ⟨i0, hi0, hz0, hz1, hz2⟩ := info_of infoRowF
  rcases ht.2 with ⟨rfl, h0⟩ | ⟨g, cap, cur, rfl, hbg, hgg, hcc, hcm, hcs, hcur⟩
  · obtain rfl : rs = [] := List.eq_nil_of_length_eq_zero h0
    have hq := rowsNil none 0 0 w
    go_enter Try.func68, Try.ntmps68
    go_wp2_with fail
    go_ret
    exact ⟨none, 0, 0, rfl, World.ownsRow_nil _ _ _ _, Ext.refl w⟩
  · have hq := rowsNil (some ⟨g, 0, none⟩) rs.length cap w
    have E0 := (Ext.refl w).alloc (.cells #[] 140)
    have hcell : ∀ j u, (cellsG cRowF rs)[j]? = some u → (w.alloc (.cells #[] 140)).cell? ((⟨g, 0, none⟩ : Addr).add j) = some u := fun j u hu => by
      rw [add_eq, Nat.zero_add]
      refine E0.cells ?_
      rw [← hcur, List.getElem?_take] at hu
      split at hu
      · simp only [World.cell?, hgg]; simpa using hu
      · cases hu
    have hnew : (w.alloc (.cells #[] 140)).ownsRow w.heap.size 140 2 (.slice (some ⟨w.heap.size, 0, none⟩) 0 0) 0 [] :=
      ⟨rfl, .inr ⟨w.heap.size, 0, #[], rfl, Nat.le_refl _, heap_alloc_new w _, Nat.le_refl _, by unfold maxLen; omega, rfl, rfl⟩⟩
    replace hcell := hide hcell; replace hnew := hide hnew; replace E0 := hide E0; replace hi0 := hide hi0; replace ht := hide ht; replace hgg := hide hgg; replace hcur := hide hcur
    by_cases hz : rs.length = 0
    · have hrs : rs = [] := List.eq_nil_of_length_eq_zero hz
      subst hrs
      clear hq hcell
      have hq := rowsNil (some ⟨g, 0, none⟩) 0 cap w
      rw [List.length_nil]
      go_enter Try.func68, Try.ntmps68
      go_wp2_with (at_builtin; refine Lib.wpList_append_run _ rfl _ _ 135 135 rfl _ _ rfl rfl _ _ (run_append_nothing _ _ _ _ 140 i0 Try.underlying135 hi0.out _ _ _ (Nat.le_refl _) _ (Src.ofSlice _ Try.underlying135 _ 0 _ [] (by simp) (fun j u hu => by simp at hu) (fun u hu => by cases hu))) ?_)
      go_ret
      exact ⟨some ⟨w.heap.size, 0, none⟩, 0, 0, rfl, hnew.out, E0⟩
    · replace hz : 0 < rs.length := by omega
      have hz' := hide hz
      clear hz
      go_enter Try.func68, Try.ntmps68
      go_wp2_with (at_builtin; go_must (refine wpList_append_lies _ rfl _ _ 135 rfl w.heap.size 140 i0 (.agg #[.string ⟨#[]⟩, .pointer none]) 2 24 Try.underlying135 hi0.out hz0 hz1 hz2 rfl (by omega) _ 0 [] rfl hnew.out ⟨g, 0, none⟩ rs.length cap (cellsG cRowF rs) rfl (cellsG_len cRowF_len rs) hcell.out (cellsRowF_one rs) hz'.out (by unfold maxLen; omega) (by omega) (by simp) _ rfl ?_; intro g1 cap1 w1 hown1 hgrow1 hat1 hlt1))
      go_ret
      rw [Nat.zero_add] at hown1
      refine ⟨some ⟨g1, 0, none⟩, cap1, rs.length, rfl, by show World.ownsRow _ _ _ _ _ _ _; simpa using hown1, ?_⟩
      have hK : Kept (fun k => k = w.heap.size) (w.alloc (.cells #[] 140)) w1 := ⟨hgrow1.os, hgrow1.tape, hgrow1.output, hgrow1.size, fun k hk hn => hgrow1.block k hk fun e => hn (Option.some.inj e)⟩
      exact ((E0.out.kept _).trans hK (fun k _ h => h)).ext (fun k hk h => by omega)

set_option maxRecDepth 100000 in
set_option maxHeartbeats 1600000 in
theorem tabCopyF (B : Nat) (u : Value) (rs : List RowF) (t : Nat) (w : World) (ht : TabAtF B w t u rs) :
    Calls Try.prog 37 #[.pointer (some ⟨t, 0, none⟩)] w fun e w' => ∃ t' v', e = .returned (.pointer (some ⟨t', 0, none⟩)) ∧ Hid (TabAtF w.heap.size w' t' v' rs) ∧ Hid (Ext w w') := by
  obtain ⟨pa, cap, rfl⟩ := ownsRow_form ht.rows
  have hf := hide (cloneF B _ rs w.drew (ht.ext (Ext.refl w).drew).rows ht.few)
  have c0 := tabF_c0 ht.at_
  have c1 := tabF_c1 ht.at_
  replace ht := hide ht
  go_enter Try.func37, Try.ntmps37
  go_wp2_with fail
  go_region_held3 (fun w' => w'.cell? ⟨t, 0, none⟩ = some (.func (.func 36) #[] #[]) ∧ w'.cell? ⟨t, 1, none⟩ = some (.slice pa rs.length cap)) (go_keep)
    ((go_at_call 68; refine hf.out.mono ?_; rintro e w1 ⟨pa1, cap1, n1, rfl, hr1, he1⟩; go_must (have q0 := he1.out.cells (p := ⟨t, 0, none⟩) (v := .func (.func 36) #[] #[]) (by simpa using c0); have q1 := he1.out.cells (p := ⟨t, 1, none⟩) (v := .slice pa rs.length cap) (by simpa using c1))))
  go_wp2
  go_ret
  have E2 := he1.out.trans ((Ext.refl w1).alloc (.cells #[.func (.func 36) #[] #[], .slice pa1 n1 cap1] 137))
  refine ⟨_, .slice pa1 n1 cap1, rfl, ⟨heap_alloc_new _ _, ownsRow_wrote hr1.out (Wrote.ext (B := 0) (T := fun _ => False) ((Ext.refl w1).alloc _)) id rfl, ht.out.up, ht.out.few, Ext.size ((Ext.refl w).drew.trans he1.out)⟩, (Ext.refl w).drew.trans E2⟩
end Go.Proofs.Ytpkhmgonkbpjjaa
