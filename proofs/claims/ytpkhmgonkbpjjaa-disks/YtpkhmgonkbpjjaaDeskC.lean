/-
  A disk on both sides: what the other calls with an errno do on both.
-/
import Derived.Test.YtpkhmgonkbpjjaaJ12
import Derived.Deep.RegionHeld3
namespace Go.Proofs.Ytpkhmgonkbpjjaa
open Go.RowKit

attribute [local go_sem] Go.World.cell?_alloc_some

set_option maxRecDepth 100000 in
set_option maxHeartbeats 1600000 in
theorem deed5 (W0 : Nat) (w : World) (d x y b : Nat) (Ox Oy Ob : Nat → Prop) (vn : Value) (en : List (Value × Nat)) (D : DskS) (m : Nat) (K keep stay : Int) (name dst txt : ByteArray) (h : DeskIn W0 w d x y b Ox Oy Ob vn en D D) (hm : en.length ≤ m)  (hc : D.chs.length + 2 ≤ 2000000000000) (hz : name.size ≤ 4611686018427387904) :
    Calls Try.prog 6 #[.pointer (some ⟨d, 0, none⟩), deedV 5 K keep stay name dst txt] w (DeedIs W0 w d x y b D m) := by
  unfold deedV
  have X1 := (Ext.refl w).alloc (.cells #[.int .i64 5, .int .i64 K, .int .i64 keep, .int .i64 stay, .string name, .string dst, .string txt] 46)
  have X1d := X1.drew
  have hW := h.ext X1d
  have hx := hide (opRemove Ox (w.alloc (.cells #[.int .i64 5, .int .i64 K, .int .i64 keep, .int .i64 stay, .string name, .string dst, .string txt] 46)).drew x D name hW.dx (fun k hk => (hW.rx k hk).2) (by omega) hc)
  obtain ⟨b0, b1, b2, b3, b4, b5, b6⟩ := seven_at (heap_alloc_new w (.cells #[.int .i64 5, .int .i64 K, .int .i64 keep, .int .i64 stay, .string name, .string dst, .string txt] 46))
  have d0 : (w.alloc (.cells #[.int .i64 5, .int .i64 K, .int .i64 keep, .int .i64 stay, .string name, .string dst, .string txt] 46)).cell? ⟨d, 0, none⟩ = some (.pointer (some ⟨x, 0, none⟩)) := by simp [World.cell?, ext_heap X1 h.box]
  have hltd := h.ltd
  have hwb : Hid (∀ k, (k = d ∨ k = w.heap.size) → ¬ Ox k) := fun k hk hx => by
    rcases hk with rfl | rfl
    · exact h.nx hx
    · have := (h.rx _ hx).2; omega
  have hwb2 : Hid (∀ k, k = w.heap.size → ¬ Oy k) := fun k hk hy => by have := (h.ry k hy).2; omega
  have hW0 := hide h.size
  replace hW := hide hW; replace X1 := hide X1; replace X1d := hide X1d; replace h := hide h
  go_enter Try.func6, Try.ntmps6
  go_wp2_with fail
  go_region_held3 (fun w' => w'.cell? ⟨d, 0, none⟩ = some (.pointer (some ⟨x, 0, none⟩)) ∧ w'.cell? ⟨w.heap.size, 4, none⟩ = some (.string name)) (go_keep) ((go_at_call 18; refine hx.out.mono ?_; rintro e1 w1 ⟨rfl, h1, K1⟩; go_must (have k0 := K1.out.cell (p := ⟨d, 0, none⟩) (v := .pointer (some ⟨x, 0, none⟩)) (by simpa using d0) (hwb.out _ (.inl rfl)); have k4 := K1.out.cell (p := ⟨w.heap.size, 4, none⟩) (v := .string name) (by simp) (hwb.out _ (.inr rfl)))))
  have hI1 := hW.out.stepX h1.out K1.out
  have dy : w1.cell? ⟨d, 1, none⟩ = some (.pointer (some ⟨y, 0, none⟩)) := by simp [World.cell?, hI1.box]
  obtain ⟨vF, vC, kc, sc, hRI, hOy⟩ := hI1.dy
  have hy := hide (refRemove w1.drew y vF vC kc sc D name (hRI.ext (Ext.refl w1).drew) (by omega) (by omega))
  replace hI1 := hide hI1; replace hRI := hide hRI
  clear k0
  go_wp2_with fail
  go_region_held3 (fun w' => w'.cell? ⟨d, 1, none⟩ = some (.pointer (some ⟨y, 0, none⟩)) ∧ w'.cell? ⟨w.heap.size, 4, none⟩ = some (.string name)) (go_keep) ((go_at_call 19; refine hy.out.mono ?_; rintro e2 w2 ⟨rfl, h3t⟩; go_must (have hz := RefTo.at h3t.out hOy; have K2 := hide hz.2; have j0 := K2.out.cell (p := ⟨d, 1, none⟩) (v := .pointer (some ⟨y, 0, none⟩)) (by simpa using dy) hI1.out.ny; have j4 := K2.out.cell (p := ⟨w.heap.size, 4, none⟩) (v := .string name) (by simpa using k4) (hwb2.out _ rfl); have hR2 := hide hz.1; clear hz)))
  have hI2 := hide ((hI1.out.ext (Ext.refl w1).drew).stepY hR2.out K2.out)
  go_wp2_with fail
  go_ret
  refine ⟨rfl, ⟨_, ⟨_, _, _, _, _, hI2.out, by omega⟩, (act_len (fun e => (l_remove name e).1) (fun e => (l_remove name e).2))⟩, ?_⟩
  exact ((X1d.out.kept (fun k => W0 ≤ k)).trans K1.out (fun k _ hk => (hW.out.rx k hk).1)).trans (((Ext.refl w1).drew.kept Oy).trans K2.out (fun _ _ h => h)) (fun k _ hk => (hI1.out.ry k hk).1)

set_option maxRecDepth 100000 in
set_option maxHeartbeats 1600000 in
theorem deed6 (W0 : Nat) (w : World) (d x y b : Nat) (Ox Oy Ob : Nat → Prop) (vn : Value) (en : List (Value × Nat)) (D : DskS) (m : Nat) (K keep stay : Int) (name dst txt : ByteArray) (h : DeskIn W0 w d x y b Ox Oy Ob vn en D D) (hm : en.length ≤ m)  (hc : D.chs.length + 2 ≤ 2000000000000) :
    Calls Try.prog 6 #[.pointer (some ⟨d, 0, none⟩), deedV 6 K keep stay name dst txt] w (DeedIs W0 w d x y b D m) := by
  unfold deedV
  have X1 := (Ext.refl w).alloc (.cells #[.int .i64 6, .int .i64 K, .int .i64 keep, .int .i64 stay, .string name, .string dst, .string txt] 46)
  have X1d := X1
  have hW := h.ext X1d
  have hx := hide (opSyncN Ox (w.alloc (.cells #[.int .i64 6, .int .i64 K, .int .i64 keep, .int .i64 stay, .string name, .string dst, .string txt] 46)) x D hW.dx hc)
  obtain ⟨b0, b1, b2, b3, b4, b5, b6⟩ := seven_at (heap_alloc_new w (.cells #[.int .i64 6, .int .i64 K, .int .i64 keep, .int .i64 stay, .string name, .string dst, .string txt] 46))
  have d0 : (w.alloc (.cells #[.int .i64 6, .int .i64 K, .int .i64 keep, .int .i64 stay, .string name, .string dst, .string txt] 46)).cell? ⟨d, 0, none⟩ = some (.pointer (some ⟨x, 0, none⟩)) := by simp [World.cell?, ext_heap X1 h.box]
  have hltd := h.ltd
  have hwb : Hid (∀ k, (k = d ∨ k = w.heap.size) → ¬ Ox k) := fun k hk hx => by
    rcases hk with rfl | rfl
    · exact h.nx hx
    · have := (h.rx _ hx).2; omega
  have hwb2 : Hid (∀ k, k = w.heap.size → ¬ Oy k) := fun k hk hy => by have := (h.ry k hy).2; omega
  have hW0 := hide h.size
  replace hW := hide hW; replace X1 := hide X1; replace X1d := hide X1d; replace h := hide h
  go_enter Try.func6, Try.ntmps6
  go_wp2_with fail
  refine hx.out.mono ?_
  rintro e1 w1 ⟨rfl, h1, K1⟩
  have k0 := K1.out.cell (p := ⟨d, 0, none⟩) (v := .pointer (some ⟨x, 0, none⟩)) (by simpa using d0) (hwb.out _ (.inl rfl))
  have hI1 := hW.out.stepX h1.out K1.out
  have dy : w1.cell? ⟨d, 1, none⟩ = some (.pointer (some ⟨y, 0, none⟩)) := by simp [World.cell?, hI1.box]
  obtain ⟨vF, vC, kc, sc, hRI, hOy⟩ := hI1.dy
  have hy := hide (refSyncN w1 y vF vC kc sc D hRI (by omega))
  replace hI1 := hide hI1; replace hRI := hide hRI
  clear k0
  go_wp2_with fail
  refine hy.out.mono ?_
  rintro e2 w2 ⟨rfl, h3t⟩
  have hz := RefTo.at h3t.out hOy
  have K2 := hide hz.2
  have j0 := K2.out.cell (p := ⟨d, 1, none⟩) (v := .pointer (some ⟨y, 0, none⟩)) (by simpa using dy) hI1.out.ny
  have hR2 := hide hz.1
  clear hz
  have hI2 := hide ((hI1.out).stepY hR2.out K2.out)
  go_wp2_with fail
  go_ret
  refine ⟨rfl, ⟨_, ⟨_, _, _, _, _, hI2.out, by omega⟩, (sync_len (fun e => (l_syncN e).1) (fun e => (l_syncN e).2))⟩, ?_⟩
  exact ((X1d.out.kept (fun k => W0 ≤ k)).trans K1.out (fun k _ hk => (hW.out.rx k hk).1)).trans (K2.out) (fun k _ hk => (hI1.out.ry k hk).1)

set_option maxRecDepth 100000 in
set_option maxHeartbeats 1600000 in
theorem deed9 (W0 : Nat) (w : World) (d x y b : Nat) (Ox Oy Ob : Nat → Prop) (vn : Value) (en : List (Value × Nat)) (D : DskS) (m : Nat) (K keep stay : Int) (name dst txt : ByteArray) (h : DeskIn W0 w d x y b Ox Oy Ob vn en D D) (hm : en.length ≤ m)  (hK : K ≤ 9223372036854775807) (hst : stay ≤ 9223372036854775807) :
    Calls Try.prog 6 #[.pointer (some ⟨d, 0, none⟩), deedV 9 K keep stay name dst txt] w (DeedIs W0 w d x y b D m) := by
  unfold deedV
  have X1 := (Ext.refl w).alloc (.cells #[.int .i64 9, .int .i64 K, .int .i64 keep, .int .i64 stay, .string name, .string dst, .string txt] 46)
  have X1d := X1.drew
  have hW := h.ext X1d
  have hx := hide (opBreak Ox (w.alloc (.cells #[.int .i64 9, .int .i64 K, .int .i64 keep, .int .i64 stay, .string name, .string dst, .string txt] 46)).drew x D K keep stay hW.dx hK)
  obtain ⟨b0, b1, b2, b3, b4, b5, b6⟩ := seven_at (heap_alloc_new w (.cells #[.int .i64 9, .int .i64 K, .int .i64 keep, .int .i64 stay, .string name, .string dst, .string txt] 46))
  have d0 : (w.alloc (.cells #[.int .i64 9, .int .i64 K, .int .i64 keep, .int .i64 stay, .string name, .string dst, .string txt] 46)).cell? ⟨d, 0, none⟩ = some (.pointer (some ⟨x, 0, none⟩)) := by simp [World.cell?, ext_heap X1 h.box]
  have hltd := h.ltd
  have hwb : Hid (∀ k, (k = d ∨ k = w.heap.size) → ¬ Ox k) := fun k hk hx => by
    rcases hk with rfl | rfl
    · exact h.nx hx
    · have := (h.rx _ hx).2; omega
  have hwb2 : Hid (∀ k, k = w.heap.size → ¬ Oy k) := fun k hk hy => by have := (h.ry k hy).2; omega
  have hW0 := hide h.size
  replace hW := hide hW; replace X1 := hide X1; replace X1d := hide X1d; replace h := hide h
  go_enter Try.func6, Try.ntmps6
  go_wp2_with fail
  go_region_held3 (fun w' => w'.cell? ⟨d, 0, none⟩ = some (.pointer (some ⟨x, 0, none⟩)) ∧ w'.cell? ⟨w.heap.size, 1, none⟩ = some (.int .i64 K) ∧ w'.cell? ⟨w.heap.size, 2, none⟩ = some (.int .i64 keep) ∧ w'.cell? ⟨w.heap.size, 3, none⟩ = some (.int .i64 stay)) (go_keep) ((go_at_call 28; refine hx.out.mono ?_; rintro e1 w1 ⟨rfl, h1, K1⟩; go_must (have k0 := K1.out.cell (p := ⟨d, 0, none⟩) (v := .pointer (some ⟨x, 0, none⟩)) (by simpa using d0) (hwb.out _ (.inl rfl)); have k1 := K1.out.cell (p := ⟨w.heap.size, 1, none⟩) (v := .int .i64 K) (by simp) (hwb.out _ (.inr rfl)); have k2 := K1.out.cell (p := ⟨w.heap.size, 2, none⟩) (v := .int .i64 keep) (by simp) (hwb.out _ (.inr rfl)); have k3 := K1.out.cell (p := ⟨w.heap.size, 3, none⟩) (v := .int .i64 stay) (by simp) (hwb.out _ (.inr rfl)))))
  have hI1 := hW.out.stepX h1.out K1.out
  have dy : w1.cell? ⟨d, 1, none⟩ = some (.pointer (some ⟨y, 0, none⟩)) := by simp [World.cell?, hI1.box]
  obtain ⟨vF, vC, kc, sc, hRI, hOy⟩ := hI1.dy
  have hy := hide (refBreak w1.drew y vF vC kc sc D K keep stay (hRI.ext (Ext.refl w1).drew) hK hst)
  replace hI1 := hide hI1; replace hRI := hide hRI
  clear k0
  go_wp2_with fail
  go_region_held3 (fun w' => w'.cell? ⟨d, 1, none⟩ = some (.pointer (some ⟨y, 0, none⟩)) ∧ w'.cell? ⟨w.heap.size, 1, none⟩ = some (.int .i64 K) ∧ w'.cell? ⟨w.heap.size, 2, none⟩ = some (.int .i64 keep) ∧ w'.cell? ⟨w.heap.size, 3, none⟩ = some (.int .i64 stay)) (go_keep) ((go_at_call 29; refine hy.out.mono ?_; rintro e2 w2 ⟨rfl, h3t⟩; go_must (have hz := RefTo.at h3t.out.choose_spec.choose_spec hOy; have K2 := hide hz.2; have j0 := K2.out.cell (p := ⟨d, 1, none⟩) (v := .pointer (some ⟨y, 0, none⟩)) (by simpa using dy) hI1.out.ny; have j1 := K2.out.cell (p := ⟨w.heap.size, 1, none⟩) (v := .int .i64 K) (by simpa using k1) (hwb2.out _ rfl); have j2 := K2.out.cell (p := ⟨w.heap.size, 2, none⟩) (v := .int .i64 keep) (by simpa using k2) (hwb2.out _ rfl); have j3 := K2.out.cell (p := ⟨w.heap.size, 3, none⟩) (v := .int .i64 stay) (by simpa using k3) (hwb2.out _ rfl); have hR2 := hide hz.1; clear hz)))
  have hI2 := hide ((hI1.out.ext (Ext.refl w1).drew).stepY hR2.out K2.out)
  go_wp2_with fail
  go_ret
  refine ⟨rfl, ⟨_, ⟨_, _, _, _, _, hI2.out, by omega⟩, (break_len D K keep stay)⟩, ?_⟩
  exact ((X1d.out.kept (fun k => W0 ≤ k)).trans K1.out (fun k _ hk => (hW.out.rx k hk).1)).trans (((Ext.refl w1).drew.kept Oy).trans K2.out (fun _ _ h => h)) (fun k _ hk => (hI1.out.ry k hk).1)

set_option maxRecDepth 100000 in
set_option maxHeartbeats 1600000 in
theorem deed10 (W0 : Nat) (w : World) (d x y b : Nat) (Ox Oy Ob : Nat → Prop) (vn : Value) (en : List (Value × Nat)) (D : DskS) (m : Nat) (K keep stay : Int) (name dst txt : ByteArray) (h : DeskIn W0 w d x y b Ox Oy Ob vn en D D) (hm : en.length ≤ m)  (hc : D.chs.length + 2 ≤ 2000000000000) (hst : stay ≤ 9223372036854775807) :
    Calls Try.prog 6 #[.pointer (some ⟨d, 0, none⟩), deedV 10 K keep stay name dst txt] w (DeedIs W0 w d x y b D m) := by
  unfold deedV
  have X1 := (Ext.refl w).alloc (.cells #[.int .i64 10, .int .i64 K, .int .i64 keep, .int .i64 stay, .string name, .string dst, .string txt] 46)
  have X1d := X1.drew
  have hW := h.ext X1d
  have hx := hide (opCrash Ox (w.alloc (.cells #[.int .i64 10, .int .i64 K, .int .i64 keep, .int .i64 stay, .string name, .string dst, .string txt] 46)).drew x D keep stay hW.dx (by omega))
  obtain ⟨b0, b1, b2, b3, b4, b5, b6⟩ := seven_at (heap_alloc_new w (.cells #[.int .i64 10, .int .i64 K, .int .i64 keep, .int .i64 stay, .string name, .string dst, .string txt] 46))
  have d0 : (w.alloc (.cells #[.int .i64 10, .int .i64 K, .int .i64 keep, .int .i64 stay, .string name, .string dst, .string txt] 46)).cell? ⟨d, 0, none⟩ = some (.pointer (some ⟨x, 0, none⟩)) := by simp [World.cell?, ext_heap X1 h.box]
  have hltd := h.ltd
  have hwb : Hid (∀ k, (k = d ∨ k = w.heap.size) → ¬ Ox k) := fun k hk hx => by
    rcases hk with rfl | rfl
    · exact h.nx hx
    · have := (h.rx _ hx).2; omega
  have hwb2 : Hid (∀ k, k = w.heap.size → ¬ Oy k) := fun k hk hy => by have := (h.ry k hy).2; omega
  have hW0 := hide h.size
  replace hW := hide hW; replace X1 := hide X1; replace X1d := hide X1d; replace h := hide h
  go_enter Try.func6, Try.ntmps6
  go_wp2_with fail
  go_region_held3 (fun w' => w'.cell? ⟨d, 0, none⟩ = some (.pointer (some ⟨x, 0, none⟩)) ∧ w'.cell? ⟨w.heap.size, 2, none⟩ = some (.int .i64 keep) ∧ w'.cell? ⟨w.heap.size, 3, none⟩ = some (.int .i64 stay)) (go_keep) ((go_at_call 30; refine hx.out.mono ?_; rintro e1 w1 ⟨rfl, h1, K1⟩; go_must (have k0 := K1.out.cell (p := ⟨d, 0, none⟩) (v := .pointer (some ⟨x, 0, none⟩)) (by simpa using d0) (hwb.out _ (.inl rfl)); have k2 := K1.out.cell (p := ⟨w.heap.size, 2, none⟩) (v := .int .i64 keep) (by simp) (hwb.out _ (.inr rfl)); have k3 := K1.out.cell (p := ⟨w.heap.size, 3, none⟩) (v := .int .i64 stay) (by simp) (hwb.out _ (.inr rfl)))))
  have hI1 := hW.out.stepX h1.out K1.out
  have dy : w1.cell? ⟨d, 1, none⟩ = some (.pointer (some ⟨y, 0, none⟩)) := by simp [World.cell?, hI1.box]
  obtain ⟨vF, vC, kc, sc, hRI, hOy⟩ := hI1.dy
  have hy := hide (refCrash w1.drew y vF vC kc sc D keep stay (hRI.ext (Ext.refl w1).drew) (by omega) hst)
  replace hI1 := hide hI1; replace hRI := hide hRI
  clear k0
  go_wp2_with fail
  go_region_held3 (fun w' => w'.cell? ⟨d, 1, none⟩ = some (.pointer (some ⟨y, 0, none⟩)) ∧ w'.cell? ⟨w.heap.size, 2, none⟩ = some (.int .i64 keep) ∧ w'.cell? ⟨w.heap.size, 3, none⟩ = some (.int .i64 stay)) (go_keep) ((go_at_call 31; refine hy.out.mono ?_; rintro e2 w2 ⟨rfl, h3t⟩; go_must (have hz := RefTo.at h3t.out hOy; have K2 := hide hz.2; have j0 := K2.out.cell (p := ⟨d, 1, none⟩) (v := .pointer (some ⟨y, 0, none⟩)) (by simpa using dy) hI1.out.ny; have j2 := K2.out.cell (p := ⟨w.heap.size, 2, none⟩) (v := .int .i64 keep) (by simpa using k2) (hwb2.out _ rfl); have j3 := K2.out.cell (p := ⟨w.heap.size, 3, none⟩) (v := .int .i64 stay) (by simpa using k3) (hwb2.out _ rfl); have hR2 := hide hz.1; clear hz)))
  have hI2 := hide ((hI1.out.ext (Ext.refl w1).drew).stepY hR2.out K2.out)
  go_wp2_with fail
  go_ret
  refine ⟨rfl, ⟨_, ⟨_, _, _, _, _, hI2.out, by omega⟩, (crash_len D keep stay)⟩, ?_⟩
  exact ((X1d.out.kept (fun k => W0 ≤ k)).trans K1.out (fun k _ hk => (hW.out.rx k hk).1)).trans (((Ext.refl w1).drew.kept Oy).trans K2.out (fun _ _ h => h)) (fun k _ hk => (hI1.out.ry k hk).1)
end Go.Proofs.Ytpkhmgonkbpjjaa
