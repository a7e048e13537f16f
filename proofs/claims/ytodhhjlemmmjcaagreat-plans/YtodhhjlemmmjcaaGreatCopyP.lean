/-
  A resource that shares no list with the one it is made of.
-/
import Derived.Test.YtodhhjlemmmjcaaGreatRfApp
import Derived.Test.YtodhhjlemmmjcaaGreatJ15
import Derived.Test.YtodhhjlemmmjcaaGreatJ9
import Derived.Test.YtodhhjlemmmjcaaGreatRfSm
import Derived.Test.YtodhhjlemmmjcaaGreatJ6
import Derived.Deep.RegionHeld3
import Derived.Deep.DeepMust
import Derived.WalkKit
namespace Go.Proofs.YtodhhjlemmmjcaaGreat
open Go.RowKit

theorem flat_lenC {α β : Type} {f : α → List β} {n : Nat} (hf : ∀ x, (f x).length = n) (l : List α) : (l.flatMap f).length = l.length * n := by
  induction l with
  | nil => simp
  | cons a l ih => simp only [List.flatMap_cons, List.length_append, List.length_cons, ih, hf, Nat.succ_mul]; omega
theorem flat_split {α β : Type} {f : α → List β} {n : Nat} (hn : 0 < n) (hf : ∀ x, (f x).length = n) {l : List α} {j : Nat} {u : β} (h : (l.flatMap f)[j]? = some u) : ∃ x, l[j / n]? = some x ∧ (f x)[j % n]? = some u := by
  have hlen := flat_lenC hf l
  have hj := (List.getElem?_eq_some_iff.1 h).1
  rw [hlen] at hj
  have hi : j / n < l.length := (Nat.div_lt_iff_lt_mul hn).2 hj
  refine ⟨l[j / n], List.getElem?_eq_getElem hi, ?_⟩
  have h1 := flat_get hf (List.getElem?_eq_getElem hi) (Nat.mod_lt j hn)
  rw [Nat.mul_comm, Nat.div_add_mod] at h1
  rw [← h1]; exact h
theorem attrs_shows {w : World} {v : Value} {l : List Attrd} (h : AttrsV w v l) : ∃ a c, v = .slice a l.length c ∧ Shows w a l.length 4 (cellsA l) := by
  obtain ⟨a, cap, rfl, _, _, hin⟩ := h.shape
  refine ⟨a, cap, rfl, flat_lenC cA_len l, ?_, ?_⟩
  · rintro rfl
    rcases hin with h | ⟨b, off, h, _⟩
    · rw [h]; rfl
    · cases h
  · rintro ad rfl j u hu
    obtain ⟨x, hx, hr⟩ := flat_split (n := 4) (by decide) cA_len hu
    rcases hin with h | ⟨b, off, h, hin⟩
    · rw [h] at hx; simp at hx
    · cases h
      obtain ⟨h0, h1, h2, h3⟩ := hin _ x hx
      have hm := Nat.mod_lt j (show 0 < 4 by decide)
      have hd : off + j = off + j / 4 * 4 + j % 4 := by omega
      rw [add_eq, hd]
      match j % 4, hm, hr with
      | 0, _, hr => simp [cA] at hr; rw [← hr]; exact h0
      | 1, _, hr => simp [cA] at hr; rw [← hr]; exact h1
      | 2, _, hr => simp [cA] at hr; rw [← hr]; exact h2
      | 3, _, hr => simp [cA] at hr; rw [← hr]; exact h3
      | k + 4, hm, _ => omega
theorem ids_shows {w : World} {v : Value} {l : List IDd} (h : IDsV w v l) : ∃ a c, v = .slice a l.length c ∧ Shows w a l.length 2 (cellsI l) := by
  obtain ⟨a, cap, rfl, _, _, hin⟩ := h.shape
  refine ⟨a, cap, rfl, flat_lenC cI_len l, ?_, ?_⟩
  · rintro rfl
    rcases hin with h | ⟨b, off, h, _⟩
    · rw [h]; rfl
    · cases h
  · rintro ad rfl j u hu
    obtain ⟨x, hx, hr⟩ := flat_split (n := 2) (by decide) cI_len hu
    rcases hin with h | ⟨b, off, h, hin⟩
    · rw [h] at hx; simp at hx
    · cases h
      obtain ⟨h0, h1⟩ := hin _ x hx
      have hm := Nat.mod_lt j (show 0 < 2 by decide)
      have hd : off + j = off + j / 2 * 2 + j % 2 := by omega
      rw [add_eq, hd]
      match j % 2, hm, hr with
      | 0, _, hr => simp [cI] at hr; rw [← hr]; exact h0
      | 1, _, hr => simp [cI] at hr; rw [← hr]; exact h1
      | k + 2, hm, _ => omega
set_option maxRecDepth 100000 in
set_option maxHeartbeats 800000 in
theorem copyAttrs (v : Value) (l : List Attrd) (w : World) (hv : AttrsV w v l) :
    Calls Tryz.prog 78 #[v] w fun e w' => ∃ pa cap, e = .returned (.slice pa l.length cap) ∧ Hid (w'.ownsRow w.heap.size 62 4 (.slice pa l.length cap) l.length (cellsA l)) ∧ Hid (Ext w w') := by
  obtain ⟨a, c, rfl, hsh⟩ := attrs_shows hv
  have hf := hv.few
  obtain ⟨i0, hi0, hz0, hz1, hz2⟩ := info_of infoAttr
  replace hv := hide hv; replace hsh := hide hsh; replace hi0 := hide hi0
  go_enter Tryz.func78, Tryz.ntmps78
  go_wp2_with (at_builtin; go_must (refine wpList_append_any _ rfl _ _ 53 rfl w.heap.size 62 i0 (.agg #[.string ⟨#[]⟩, .bool false, .string ⟨#[]⟩, .int .i64 0]) 4 48 Tryz.underlying53 hi0.out hz0 hz1 hz2 rfl (by omega) (.slice none 0 0) 0 [] rfl (World.ownsRow_nil _ _ _ _) a l.length c (cellsA l) rfl hsh.out (cellsA_one l) (by unfold maxLen; omega) (by omega) (Nat.le_refl _) ?_; intro v1 w1 hown1 hW1; rw [Nat.zero_add, List.nil_append] at hown1; obtain ⟨pa1, cap1, rfl⟩ := ownsRow_form hown1))
  go_ret
  exact ⟨pa1, cap1, rfl, hown1, hW1.toExt⟩

set_option maxRecDepth 100000 in
set_option maxHeartbeats 800000 in
theorem copyIds (v : Value) (l : List IDd) (w : World) (hv : IDsV w v l) :
    Calls Tryz.prog 79 #[v] w fun e w' => ∃ pa cap, e = .returned (.slice pa l.length cap) ∧ Hid (w'.ownsRow w.heap.size 52 2 (.slice pa l.length cap) l.length (cellsI l)) ∧ Hid (Ext w w') := by
  obtain ⟨a, c, rfl, hsh⟩ := ids_shows hv
  have hf := hv.few
  obtain ⟨i0, hi0, hz0, hz1, hz2⟩ := info_of infoID
  replace hv := hide hv; replace hsh := hide hsh; replace hi0 := hide hi0
  go_enter Tryz.func79, Tryz.ntmps79
  go_wp2_with (at_builtin; go_must (refine wpList_append_any _ rfl _ _ 54 rfl w.heap.size 52 i0 (.agg #[.string ⟨#[]⟩, .string ⟨#[]⟩]) 2 32 Tryz.underlying54 hi0.out hz0 hz1 hz2 rfl (by omega) (.slice none 0 0) 0 [] rfl (World.ownsRow_nil _ _ _ _) a l.length c (cellsI l) rfl hsh.out (cellsI_one l) (by unfold maxLen; omega) (by omega) (Nat.le_refl _) ?_; intro v1 w1 hown1 hW1; rw [Nat.zero_add, List.nil_append] at hown1; obtain ⟨pa1, cap1, rfl⟩ := ownsRow_form hown1))
  go_ret
  exact ⟨pa1, cap1, rfl, hown1, hW1.toExt⟩

theorem set_atC {w : World} {k i : Nat} {c : Array Value} {t : TypeId} {fz : Nat × Nat} (hk : w.heap[k]? = some (.cells c t fz)) (v : Value) : (w.setCell ⟨k, i, none⟩ v).heap[k]? = some (.cells (c.setIfInBounds i v) t fz) := by
  simp [World.setCell, Array.getElem?_modify, hk]
theorem four_sets {B k : Nat} {w : World} {c : Array Value} {t : TypeId} {fz : Nat × Nat} (hk : w.heap[k]? = some (.cells c t fz)) (hb : B ≤ k) (v0 v1 v2 v3 : Value) : Wrote B (· = t) w ((((w.setCell ⟨k, 0, none⟩ v0).setCell ⟨k, 1, none⟩ v1).setCell ⟨k, 2, none⟩ v2).setCell ⟨k, 3, none⟩ v3) :=
  ((((Wrote.refl B (· = t) w).setCell (p := ⟨k, 0, none⟩) hb hk rfl v0).setCell (p := ⟨k, 1, none⟩) hb (set_atC hk v0) rfl v1).setCell (p := ⟨k, 2, none⟩) hb (set_atC (set_atC hk v0) v1) rfl v2).setCell (p := ⟨k, 3, none⟩) hb (set_atC (set_atC (set_atC hk v0) v1) v2) rfl v3
/-- What a copy of a resource is. -/
def CopyIs (w : World) (x : Resd) (e : Ending) (w' : World) : Prop :=
  ∃ (a2 a3 : Option Addr) (p2 p3 : Nat), e = .returned (.agg #[.string x.id.kind, .string x.id.name, .slice a2 x.attrs.length p2, .slice a3 x.after.length p3]) ∧ Hid (OwnR w.heap.size w' (.slice a2 x.attrs.length p2) (.slice a3 x.after.length p3) x) ∧ Hid (Ext w w')

attribute [local go_sem] Go.World.cell?_alloc_some
set_option maxRecDepth 100000 in
set_option maxHeartbeats 3200000 in
theorem copyRes (c2 c3 : Value) (x : Resd) (w : World) (hx : ResV w c2 c3 x) :
    Calls Tryz.prog 46 #[.agg #[.string x.id.kind, .string x.id.name, c2, c3]] w (CopyIs w x) := by
  obtain ⟨a2, p2, rfl⟩ := hx.attrs.form
  obtain ⟨a3, p3, rfl⟩ := hx.after.form
  replace hx := hide hx
  go_enter Tryz.func46, Tryz.ntmps46
  go_wp2_with fail
  have E0 := hide (((Ext.refl w).alloc (.cells #[.string x.id.kind, .string x.id.name, .slice a2 x.attrs.length p2, .slice a3 x.after.length p3] 56)).alloc (.cells #[.string ⟨#[]⟩, .string ⟨#[]⟩, .slice none 0 0, .slice none 0 0] 56))
  have A0 := hide (ext_at ((Ext.refl (w.alloc (.cells #[.string x.id.kind, .string x.id.name, .slice a2 x.attrs.length p2, .slice a3 x.after.length p3] 56))).alloc (.cells #[.string ⟨#[]⟩, .string ⟨#[]⟩, .slice none 0 0, .slice none 0 0] 56)) (heap_alloc_new w _))
  have B0 := hide (two_new w (.cells #[.string x.id.kind, .string x.id.name, .slice a2 x.attrs.length p2, .slice a3 x.after.length p3] 56) (.cells #[.string ⟨#[]⟩, .string ⟨#[]⟩, .slice none 0 0, .slice none 0 0] 56))
  have hno : ¬ w.heap.size = w.heap.size + 1 := by omega
  go_region_held3 (fun w' => w'.cell? ⟨w.heap.size, 0, none⟩ = some (.string x.id.kind) ∧ w'.cell? ⟨w.heap.size, 1, none⟩ = some (.string x.id.name) ∧ w'.cell? ⟨w.heap.size, 2, none⟩ = some (.slice a2 x.attrs.length p2) ∧ w'.cell? ⟨w.heap.size, 3, none⟩ = some (.slice a3 x.after.length p3)) (first | go_keep | (simp only [cell_set_far hno]; go_keep))
    ((first
      | (go_at_call 79; have X3 := hE1; refine (copyIds _ x.after _ (hx.out.after.ext (by first | exact E0.out.trans E1.out | exact (E0.out.trans E1.out).drew | exact (E0.out.trans E1.out).drewN _))).mono ?_; rintro e2 w2 ⟨pa2, cap2, rfl, hO2, hE2⟩; go_must (have E2 := hide (Ext.trans (by first | exact Ext.refl w1 | exact (Ext.refl w1).drew | exact (Ext.refl w1).drewN _) hE2.out); have A2 := ext_at E2.out A1.out; have B2 := ext_at E2.out B1.out; obtain ⟨q0, q1, q2, q3⟩ := boxIs A2; obtain ⟨r0, r1, r2, r3⟩ := boxIs B2; have f2 := row_frozen B2; replace A2 := hide A2; replace B2 := hide B2))
      | (go_at_call 78; refine (copyAttrs _ x.attrs _ (hx.out.attrs.ext (by first | exact E0.out | exact E0.out.drew | exact E0.out.drewN _))).mono ?_; rintro e1 w1 ⟨pa1, cap1, rfl, hO1, hE1⟩; go_must (have E1 := hide (Ext.trans (by first | exact Ext.refl _ | exact (Ext.refl _).drew | exact (Ext.refl _).drewN _) hE1.out : Ext ((w.alloc (.cells #[.string x.id.kind, .string x.id.name, .slice a2 x.attrs.length p2, .slice a3 x.after.length p3] 56)).alloc (.cells #[.string ⟨#[]⟩, .string ⟨#[]⟩, .slice none 0 0, .slice none 0 0] 56)) w1); have A1 := ext_at E1.out A0.out; have B1 := ext_at E1.out B0.out; obtain ⟨q0, q1, q2, q3⟩ := boxIs A1; replace A1 := hide A1; replace B1 := hide B1))))
  go_wp2_with fail
  have hb2 : w.heap.size ≤ w.heap.size + 1 := by omega
  have EX := hide (E0.out.trans (E1.out.trans E2.out))
  have hb1 : w.heap.size ≤ w1.heap.size := by have := Ext.size (E0.out.trans E1.out); omega
  have WR := hide (four_sets (B := w.heap.size) B2.out hb2 (.string x.id.kind) (.string x.id.name) (.slice pa1 x.attrs.length cap1) (.slice pa2 x.after.length cap2))
  refine bodyPost_ret (v := .agg #[.string x.id.kind, .string x.id.name, .slice pa1 x.attrs.length cap1, .slice pa2 x.after.length cap2]) (by simp [results, Tryz.results46, go_sem, r0, r1, r2, r3]) rfl ⟨pa1, pa2, cap1, cap2, rfl, ⟨⟨_, _, rfl⟩, ⟨_, _, rfl⟩, ?_, ?_⟩, EX.out.wrote WR.out (Nat.le_refl _)⟩
  · exact ownsRow_wrote (ownsRow_wrote (ownsRow_low hO1.out (by have := Ext.size E0.out; simp at *; omega)) (Wrote.ext (B := 0) (T := fun _ => False) E2.out) id rfl) WR.out (by decide) rfl
  · exact ownsRow_wrote (ownsRow_low hO2.out (by first | exact hb1 | (simp; exact hb1))) WR.out (by decide) rfl
end Go.Proofs.YtodhhjlemmmjcaaGreat
