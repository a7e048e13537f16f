/-
  A disk on both sides: what a call with an errno does on both.
-/
import Derived.Test.YtpkhmgonkbpjjaaJ12
import Derived.Deep.RegionHeld3
namespace Go.Proofs.Ytpkhmgonkbpjjaa
open Go.RowKit

attribute [local go_sem] Go.World.cell?_alloc_some

set_option maxRecDepth 100000 in
set_option maxHeartbeats 1600000 in
theorem deed1 (W0 : Nat) (w : World) (d x y b : Nat) (Ox Oy Ob : Nat → Prop) (vn : Value) (en : List (Value × Nat)) (D : DskS) (m : Nat) (K keep stay : Int) (name dst txt : ByteArray) (h : DeskIn W0 w d x y b Ox Oy Ob vn en D D) (hm : en.length ≤ m)  (hc : D.chs.length + 2 ≤ 2000000000000) (hf : D.files.length + 1 ≤ 2000000000000) (hz : name.size ≤ 4611686018427387904) (hzs : txt.size ≤ 4611686018427387904) :
    Calls Try.prog 6 #[.pointer (some ⟨d, 0, none⟩), deedV 1 K keep stay name dst txt] w (DeedIs W0 w d x y b D m) := by
  unfold deedV
  have X1 := (Ext.refl w).alloc (.cells #[.int .i64 1, .int .i64 K, .int .i64 keep, .int .i64 stay, .string name, .string dst, .string txt] 46)
  have X1d := X1.drew
  have hW := h.ext X1d
  have hx := hide (opWrite Ox (w.alloc (.cells #[.int .i64 1, .int .i64 K, .int .i64 keep, .int .i64 stay, .string name, .string dst, .string txt] 46)).drew x D name txt hW.dx (fun k hk => (hW.rx k hk).2) (by omega) (by omega) hc)
  obtain ⟨b0, b1, b2, b3, b4, b5, b6⟩ := seven_at (heap_alloc_new w (.cells #[.int .i64 1, .int .i64 K, .int .i64 keep, .int .i64 stay, .string name, .string dst, .string txt] 46))
  have d0 : (w.alloc (.cells #[.int .i64 1, .int .i64 K, .int .i64 keep, .int .i64 stay, .string name, .string dst, .string txt] 46)).cell? ⟨d, 0, none⟩ = some (.pointer (some ⟨x, 0, none⟩)) := by simp [World.cell?, ext_heap X1 h.box]
  have hltd := h.ltd
  have hwb : Hid (∀ k, (k = d ∨ k = w.heap.size) → ¬ Ox k) := fun k hk hx => by
    rcases hk with rfl | rfl
    · exact h.nx hx
    · have := (h.rx _ hx).2; omega
  have hwb2 : Hid (∀ k, k = w.heap.size → ¬ Oy k) := fun k hk hy => by have := (h.ry k hy).2; omega
  have hW0 := hide h.size
  replace hW := hide hW; replace X1 := hide X1; replace X1d := hide X1d; replace h := hide h
  go_enter Try.func6, Try.ntmps6
  go_wp2_with fail
  go_region_held3 (fun w' => w'.cell? ⟨d, 0, none⟩ = some (.pointer (some ⟨x, 0, none⟩)) ∧ w'.cell? ⟨w.heap.size, 4, none⟩ = some (.string name) ∧ w'.cell? ⟨w.heap.size, 6, none⟩ = some (.string txt)) (go_keep) ((go_at_call 10; refine hx.out.mono ?_; rintro e1 w1 ⟨rfl, h1, K1⟩; go_must (have k0 := K1.out.cell (p := ⟨d, 0, none⟩) (v := .pointer (some ⟨x, 0, none⟩)) (by simpa using d0) (hwb.out _ (.inl rfl)); have k4 := K1.out.cell (p := ⟨w.heap.size, 4, none⟩) (v := .string name) (by simp) (hwb.out _ (.inr rfl)); have k6 := K1.out.cell (p := ⟨w.heap.size, 6, none⟩) (v := .string txt) (by simp) (hwb.out _ (.inr rfl)))))
  have hI1 := hW.out.stepX h1.out K1.out
  have dy : w1.cell? ⟨d, 1, none⟩ = some (.pointer (some ⟨y, 0, none⟩)) := by simp [World.cell?, hI1.box]
  obtain ⟨vF, vC, kc, sc, hRI, hOy⟩ := hI1.dy
  have hy := hide (refWrite w1.drew y vF vC kc sc D name txt (hRI.ext (Ext.refl w1).drew) (by omega) hf (by omega) hzs)
  replace hI1 := hide hI1; replace hRI := hide hRI
  clear k0
  go_wp2_with fail
  go_region_held3 (fun w' => w'.cell? ⟨d, 1, none⟩ = some (.pointer (some ⟨y, 0, none⟩)) ∧ w'.cell? ⟨w.heap.size, 4, none⟩ = some (.string name) ∧ w'.cell? ⟨w.heap.size, 6, none⟩ = some (.string txt)) (go_keep) ((go_at_call 11; refine hy.out.mono ?_; rintro e2 w2 ⟨rfl, h3t⟩; go_must (have hz := RefTo.at h3t.out hOy; have K2 := hide hz.2; have j0 := K2.out.cell (p := ⟨d, 1, none⟩) (v := .pointer (some ⟨y, 0, none⟩)) (by simpa using dy) hI1.out.ny; have j4 := K2.out.cell (p := ⟨w.heap.size, 4, none⟩) (v := .string name) (by simpa using k4) (hwb2.out _ rfl); have j6 := K2.out.cell (p := ⟨w.heap.size, 6, none⟩) (v := .string txt) (by simpa using k6) (hwb2.out _ rfl); have hR2 := hide hz.1; clear hz)))
  have hI2 := hide ((hI1.out.ext (Ext.refl w1).drew).stepY hR2.out K2.out)
  go_wp2_with fail
  go_ret
  refine ⟨rfl, ⟨_, ⟨_, _, _, _, _, hI2.out, by omega⟩, (act_len (fun e => (l_write name txt e).1) (fun e => (l_write name txt e).2))⟩, ?_⟩
  exact ((X1d.out.kept (fun k => W0 ≤ k)).trans K1.out (fun k _ hk => (hW.out.rx k hk).1)).trans (((Ext.refl w1).drew.kept Oy).trans K2.out (fun _ _ h => h)) (fun k _ hk => (hI1.out.ry k hk).1)

set_option maxRecDepth 100000 in
set_option maxHeartbeats 1600000 in
theorem deed2 (W0 : Nat) (w : World) (d x y b : Nat) (Ox Oy Ob : Nat → Prop) (vn : Value) (en : List (Value × Nat)) (D : DskS) (m : Nat) (K keep stay : Int) (name dst txt : ByteArray) (h : DeskIn W0 w d x y b Ox Oy Ob vn en D D) (hm : en.length ≤ m)  (hc : D.chs.length + 2 ≤ 2000000000000) (hz : name.size ≤ 4611686018427387904) (hzs : txt.size ≤ 4611686018427387904) :
    Calls Try.prog 6 #[.pointer (some ⟨d, 0, none⟩), deedV 2 K keep stay name dst txt] w (DeedIs W0 w d x y b D m) := by
  unfold deedV
  have X1 := (Ext.refl w).alloc (.cells #[.int .i64 2, .int .i64 K, .int .i64 keep, .int .i64 stay, .string name, .string dst, .string txt] 46)
  have X1d := X1.drew
  have hW := h.ext X1d
  have hx := hide (opAppend Ox (w.alloc (.cells #[.int .i64 2, .int .i64 K, .int .i64 keep, .int .i64 stay, .string name, .string dst, .string txt] 46)).drew x D name txt hW.dx (fun k hk => (hW.rx k hk).2) (by omega) (by omega) hc)
  obtain ⟨b0, b1, b2, b3, b4, b5, b6⟩ := seven_at (heap_alloc_new w (.cells #[.int .i64 2, .int .i64 K, .int .i64 keep, .int .i64 stay, .string name, .string dst, .string txt] 46))
  have d0 : (w.alloc (.cells #[.int .i64 2, .int .i64 K, .int .i64 keep, .int .i64 stay, .string name, .string dst, .string txt] 46)).cell? ⟨d, 0, none⟩ = some (.pointer (some ⟨x, 0, none⟩)) := by simp [World.cell?, ext_heap X1 h.box]
  have hltd := h.ltd
  have hwb : Hid (∀ k, (k = d ∨ k = w.heap.size) → ¬ Ox k) := fun k hk hx => by
    rcases hk with rfl | rfl
    · exact h.nx hx
    · have := (h.rx _ hx).2; omega
  have hwb2 : Hid (∀ k, k = w.heap.size → ¬ Oy k) := fun k hk hy => by have := (h.ry k hy).2; omega
  have hW0 := hide h.size
  replace hW := hide hW; replace X1 := hide X1; replace X1d := hide X1d; replace h := hide h
  go_enter Try.func6, Try.ntmps6
  go_wp2_with fail
  go_region_held3 (fun w' => w'.cell? ⟨d, 0, none⟩ = some (.pointer (some ⟨x, 0, none⟩)) ∧ w'.cell? ⟨w.heap.size, 4, none⟩ = some (.string name) ∧ w'.cell? ⟨w.heap.size, 6, none⟩ = some (.string txt)) (go_keep) ((go_at_call 12; refine hx.out.mono ?_; rintro e1 w1 ⟨rfl, h1, K1⟩; go_must (have k0 := K1.out.cell (p := ⟨d, 0, none⟩) (v := .pointer (some ⟨x, 0, none⟩)) (by simpa using d0) (hwb.out _ (.inl rfl)); have k4 := K1.out.cell (p := ⟨w.heap.size, 4, none⟩) (v := .string name) (by simp) (hwb.out _ (.inr rfl)); have k6 := K1.out.cell (p := ⟨w.heap.size, 6, none⟩) (v := .string txt) (by simp) (hwb.out _ (.inr rfl)))))
  have hI1 := hW.out.stepX h1.out K1.out
  have dy : w1.cell? ⟨d, 1, none⟩ = some (.pointer (some ⟨y, 0, none⟩)) := by simp [World.cell?, hI1.box]
  obtain ⟨vF, vC, kc, sc, hRI, hOy⟩ := hI1.dy
  have hy := hide (refAppend w1.drew y vF vC kc sc D name txt (hRI.ext (Ext.refl w1).drew) (by omega) (by omega) hzs)
  replace hI1 := hide hI1; replace hRI := hide hRI
  clear k0
  go_wp2_with fail
  go_region_held3 (fun w' => w'.cell? ⟨d, 1, none⟩ = some (.pointer (some ⟨y, 0, none⟩)) ∧ w'.cell? ⟨w.heap.size, 4, none⟩ = some (.string name) ∧ w'.cell? ⟨w.heap.size, 6, none⟩ = some (.string txt)) (go_keep) ((go_at_call 13; refine hy.out.mono ?_; rintro e2 w2 ⟨rfl, h3t⟩; go_must (have hz := RefTo.at h3t.out hOy; have K2 := hide hz.2; have j0 := K2.out.cell (p := ⟨d, 1, none⟩) (v := .pointer (some ⟨y, 0, none⟩)) (by simpa using dy) hI1.out.ny; have j4 := K2.out.cell (p := ⟨w.heap.size, 4, none⟩) (v := .string name) (by simpa using k4) (hwb2.out _ rfl); have j6 := K2.out.cell (p := ⟨w.heap.size, 6, none⟩) (v := .string txt) (by simpa using k6) (hwb2.out _ rfl); have hR2 := hide hz.1; clear hz)))
  have hI2 := hide ((hI1.out.ext (Ext.refl w1).drew).stepY hR2.out K2.out)
  go_wp2_with fail
  go_ret
  refine ⟨rfl, ⟨_, ⟨_, _, _, _, _, hI2.out, by omega⟩, (act_len (fun e => (l_append name txt e).1) (fun e => (l_append name txt e).2))⟩, ?_⟩
  exact ((X1d.out.kept (fun k => W0 ≤ k)).trans K1.out (fun k _ hk => (hW.out.rx k hk).1)).trans (((Ext.refl w1).drew.kept Oy).trans K2.out (fun _ _ h => h)) (fun k _ hk => (hI1.out.ry k hk).1)

set_option maxRecDepth 100000 in
set_option maxHeartbeats 1600000 in
theorem deed3 (W0 : Nat) (w : World) (d x y b : Nat) (Ox Oy Ob : Nat → Prop) (vn : Value) (en : List (Value × Nat)) (D : DskS) (m : Nat) (K keep stay : Int) (name dst txt : ByteArray) (h : DeskIn W0 w d x y b Ox Oy Ob vn en D D) (hm : en.length ≤ m)  (hc : D.chs.length + 2 ≤ 2000000000000) (hz : name.size ≤ 4611686018427387904) :
    Calls Try.prog 6 #[.pointer (some ⟨d, 0, none⟩), deedV 3 K keep stay name dst txt] w (DeedIs W0 w d x y b D m) := by
  unfold deedV
  have X1 := (Ext.refl w).alloc (.cells #[.int .i64 3, .int .i64 K, .int .i64 keep, .int .i64 stay, .string name, .string dst, .string txt] 46)
  have X1d := X1.drew
  have hW := h.ext X1d
  have hx := hide (opSync Ox (w.alloc (.cells #[.int .i64 3, .int .i64 K, .int .i64 keep, .int .i64 stay, .string name, .string dst, .string txt] 46)).drew x D name hW.dx (fun k hk => (hW.rx k hk).2) (by omega) hc)
  obtain ⟨b0, b1, b2, b3, b4, b5, b6⟩ := seven_at (heap_alloc_new w (.cells #[.int .i64 3, .int .i64 K, .int .i64 keep, .int .i64 stay, .string name, .string dst, .string txt] 46))
  have d0 : (w.alloc (.cells #[.int .i64 3, .int .i64 K, .int .i64 keep, .int .i64 stay, .string name, .string dst, .string txt] 46)).cell? ⟨d, 0, none⟩ = some (.pointer (some ⟨x, 0, none⟩)) := by simp [World.cell?, ext_heap X1 h.box]
  have hltd := h.ltd
  have hwb : Hid (∀ k, (k = d ∨ k = w.heap.size) → ¬ Ox k) := fun k hk hx => by
    rcases hk with rfl | rfl
    · exact h.nx hx
    · have := (h.rx _ hx).2; omega
  have hwb2 : Hid (∀ k, k = w.heap.size → ¬ Oy k) := fun k hk hy => by have := (h.ry k hy).2; omega
  have hW0 := hide h.size
  replace hW := hide hW; replace X1 := hide X1; replace X1d := hide X1d; replace h := hide h
  go_enter Try.func6, Try.ntmps6
  go_wp2_with fail
  go_region_held3 (fun w' => w'.cell? ⟨d, 0, none⟩ = some (.pointer (some ⟨x, 0, none⟩)) ∧ w'.cell? ⟨w.heap.size, 4, none⟩ = some (.string name)) (go_keep) ((go_at_call 14; refine hx.out.mono ?_; rintro e1 w1 ⟨rfl, h1, K1⟩; go_must (have k0 := K1.out.cell (p := ⟨d, 0, none⟩) (v := .pointer (some ⟨x, 0, none⟩)) (by simpa using d0) (hwb.out _ (.inl rfl)); have k4 := K1.out.cell (p := ⟨w.heap.size, 4, none⟩) (v := .string name) (by simp) (hwb.out _ (.inr rfl)))))
  have hI1 := hW.out.stepX h1.out K1.out
  have dy : w1.cell? ⟨d, 1, none⟩ = some (.pointer (some ⟨y, 0, none⟩)) := by simp [World.cell?, hI1.box]
  obtain ⟨vF, vC, kc, sc, hRI, hOy⟩ := hI1.dy
  have hy := hide (refSync w1.drew y vF vC kc sc D name (hRI.ext (Ext.refl w1).drew) (by omega) (by omega))
  replace hI1 := hide hI1; replace hRI := hide hRI
  clear k0
  go_wp2_with fail
  go_region_held3 (fun w' => w'.cell? ⟨d, 1, none⟩ = some (.pointer (some ⟨y, 0, none⟩)) ∧ w'.cell? ⟨w.heap.size, 4, none⟩ = some (.string name)) (go_keep) ((go_at_call 15; refine hy.out.mono ?_; rintro e2 w2 ⟨rfl, h3t⟩; go_must (have hz := RefTo.at h3t.out hOy; have K2 := hide hz.2; have j0 := K2.out.cell (p := ⟨d, 1, none⟩) (v := .pointer (some ⟨y, 0, none⟩)) (by simpa using dy) hI1.out.ny; have j4 := K2.out.cell (p := ⟨w.heap.size, 4, none⟩) (v := .string name) (by simpa using k4) (hwb2.out _ rfl); have hR2 := hide hz.1; clear hz)))
  have hI2 := hide ((hI1.out.ext (Ext.refl w1).drew).stepY hR2.out K2.out)
  go_wp2_with fail
  go_ret
  refine ⟨rfl, ⟨_, ⟨_, _, _, _, _, hI2.out, by omega⟩, (sync_len (fun e => (l_sync name e).1) (fun e => (l_sync name e).2))⟩, ?_⟩
  exact ((X1d.out.kept (fun k => W0 ≤ k)).trans K1.out (fun k _ hk => (hW.out.rx k hk).1)).trans (((Ext.refl w1).drew.kept Oy).trans K2.out (fun _ _ h => h)) (fun k _ hk => (hI1.out.ry k hk).1)

set_option maxRecDepth 100000 in
set_option maxHeartbeats 1600000 in
theorem deed4 (W0 : Nat) (w : World) (d x y b : Nat) (Ox Oy Ob : Nat → Prop) (vn : Value) (en : List (Value × Nat)) (D : DskS) (m : Nat) (K keep stay : Int) (name dst txt : ByteArray) (h : DeskIn W0 w d x y b Ox Oy Ob vn en D D) (hm : en.length ≤ m)  (hc : D.chs.length + 2 ≤ 2000000000000) (hz : name.size ≤ 4611686018427387904) (hzt : dst.size ≤ 4611686018427387904) :
    Calls Try.prog 6 #[.pointer (some ⟨d, 0, none⟩), deedV 4 K keep stay name dst txt] w (DeedIs W0 w d x y b D m) := by
  unfold deedV
  have X1 := (Ext.refl w).alloc (.cells #[.int .i64 4, .int .i64 K, .int .i64 keep, .int .i64 stay, .string name, .string dst, .string txt] 46)
  have X1d := X1.drew
  have hW := h.ext X1d
  have hx := hide (opRename Ox (w.alloc (.cells #[.int .i64 4, .int .i64 K, .int .i64 keep, .int .i64 stay, .string name, .string dst, .string txt] 46)).drew x D name dst hW.dx (fun k hk => (hW.rx k hk).2) (by omega) (by omega) hc)
  obtain ⟨b0, b1, b2, b3, b4, b5, b6⟩ := seven_at (heap_alloc_new w (.cells #[.int .i64 4, .int .i64 K, .int .i64 keep, .int .i64 stay, .string name, .string dst, .string txt] 46))
  have d0 : (w.alloc (.cells #[.int .i64 4, .int .i64 K, .int .i64 keep, .int .i64 stay, .string name, .string dst, .string txt] 46)).cell? ⟨d, 0, none⟩ = some (.pointer (some ⟨x, 0, none⟩)) := by simp [World.cell?, ext_heap X1 h.box]
  have hltd := h.ltd
  have hwb : Hid (∀ k, (k = d ∨ k = w.heap.size) → ¬ Ox k) := fun k hk hx => by
    rcases hk with rfl | rfl
    · exact h.nx hx
    · have := (h.rx _ hx).2; omega
  have hwb2 : Hid (∀ k, k = w.heap.size → ¬ Oy k) := fun k hk hy => by have := (h.ry k hy).2; omega
  have hW0 := hide h.size
  replace hW := hide hW; replace X1 := hide X1; replace X1d := hide X1d; replace h := hide h
  go_enter Try.func6, Try.ntmps6
  go_wp2_with fail
  go_region_held3 (fun w' => w'.cell? ⟨d, 0, none⟩ = some (.pointer (some ⟨x, 0, none⟩)) ∧ w'.cell? ⟨w.heap.size, 4, none⟩ = some (.string name) ∧ w'.cell? ⟨w.heap.size, 5, none⟩ = some (.string dst)) (go_keep) ((go_at_call 16; refine hx.out.mono ?_; rintro e1 w1 ⟨rfl, h1, K1⟩; go_must (have k0 := K1.out.cell (p := ⟨d, 0, none⟩) (v := .pointer (some ⟨x, 0, none⟩)) (by simpa using d0) (hwb.out _ (.inl rfl)); have k4 := K1.out.cell (p := ⟨w.heap.size, 4, none⟩) (v := .string name) (by simp) (hwb.out _ (.inr rfl)); have k5 := K1.out.cell (p := ⟨w.heap.size, 5, none⟩) (v := .string dst) (by simp) (hwb.out _ (.inr rfl)))))
  have hI1 := hW.out.stepX h1.out K1.out
  have dy : w1.cell? ⟨d, 1, none⟩ = some (.pointer (some ⟨y, 0, none⟩)) := by simp [World.cell?, hI1.box]
  obtain ⟨vF, vC, kc, sc, hRI, hOy⟩ := hI1.dy
  have hy := hide (refRename w1.drew y vF vC kc sc D name dst (hRI.ext (Ext.refl w1).drew) (by omega) (by omega) (by omega))
  replace hI1 := hide hI1; replace hRI := hide hRI
  clear k0
  go_wp2_with fail
  go_region_held3 (fun w' => w'.cell? ⟨d, 1, none⟩ = some (.pointer (some ⟨y, 0, none⟩)) ∧ w'.cell? ⟨w.heap.size, 4, none⟩ = some (.string name) ∧ w'.cell? ⟨w.heap.size, 5, none⟩ = some (.string dst)) (go_keep) ((go_at_call 17; refine hy.out.mono ?_; rintro e2 w2 ⟨rfl, h3t⟩; go_must (have hz := RefTo.at h3t.out hOy; have K2 := hide hz.2; have j0 := K2.out.cell (p := ⟨d, 1, none⟩) (v := .pointer (some ⟨y, 0, none⟩)) (by simpa using dy) hI1.out.ny; have j4 := K2.out.cell (p := ⟨w.heap.size, 4, none⟩) (v := .string name) (by simpa using k4) (hwb2.out _ rfl); have j5 := K2.out.cell (p := ⟨w.heap.size, 5, none⟩) (v := .string dst) (by simpa using k5) (hwb2.out _ rfl); have hR2 := hide hz.1; clear hz)))
  have hI2 := hide ((hI1.out.ext (Ext.refl w1).drew).stepY hR2.out K2.out)
  go_wp2_with fail
  go_ret
  refine ⟨rfl, ⟨_, ⟨_, _, _, _, _, hI2.out, by omega⟩, (act_len (fun e => (l_rename name dst e).1) (fun e => (l_rename name dst e).2))⟩, ?_⟩
  exact ((X1d.out.kept (fun k => W0 ≤ k)).trans K1.out (fun k _ hk => (hW.out.rx k hk).1)).trans (((Ext.refl w1).drew.kept Oy).trans K2.out (fun _ _ h => h)) (fun k _ hk => (hI1.out.ry k hk).1)
end Go.Proofs.Ytpkhmgonkbpjjaa
