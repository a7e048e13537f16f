/-
  The book: what putting the lists of a resource into it does.
-/
/-
  The book is looked at: every list reads as it was marked.
-/
import Derived.Test.YtodhhjlemmmjcaaGreatBookI
import Derived.Deep.QuietTactic
import Derived.BigQuiet
namespace Go.Proofs.YtodhhjlemmmjcaaGreat
open Go.RowKit

def TurnR (c2 c3 va vi : Value) (O : Nat) (b : Nat) : Prop := some b = c2.ownBlock ∨ some b = c3.ownBlock ∨ some b = va.ownBlock ∨ some b = vi.ownBlock ∨ b = O
def OwnedR (B O : Nat) (w : World) (va vi vn vr vs vc : Value) (ea ei : List (Value × Nat)) (c2 c3 : Value) (e : Ending) (w' : World) : Prop :=
  ∃ (va' vi' : Value) (en em : List (Value × Nat)), e = .returned (.tuple #[]) ∧ Hid (BkAt B w' O va' vi' vn vr vs vc (ea ++ en) (ei ++ em)) ∧ en.length = 4 ∧ em.length = 4 ∧ Hid (∀ x ∈ en, MarkG 62 4 mkA w' x) ∧ Hid (∀ x ∈ em, MarkG 52 2 mkI w' x) ∧ Hid (∀ x ∈ en, ∀ g, x.1.ownBlock = some g → c2.ownBlock = some g ∨ w.heap.size ≤ g) ∧ Hid (∀ x ∈ em, ∀ g, x.1.ownBlock = some g → c3.ownBlock = some g ∨ w.heap.size ≤ g) ∧ Hid (Kept (TurnR c2 c3 va vi O) w w') ∧ Hid (∀ g, va'.ownBlock = some g → va.ownBlock = some g ∨ w.heap.size ≤ g) ∧ Hid (∀ g, vi'.ownBlock = some g → vi.ownBlock = some g ∨ w.heap.size ≤ g)

theorem OwnR.extB {B : Nat} {w w' : World} {c2 c3 : Value} {x : Resd} (h : OwnR B w c2 c3 x) (e : Ext w w') : OwnR B w' c2 c3 x :=
  ⟨h.f2, h.f3, ownsRow_keep h.attrs (e.kept (fun _ => False)) (fun _ _ _ => id), ownsRow_keep h.after (e.kept (fun _ => False)) (fun _ _ _ => id)⟩
theorem res_notA {B O : Nat} {w : World} {va vi vn vr vs vc l : Value} {ea ei : List (Value × Nat)} {n k : Nat} {xs : List Value} {c : Array Value} (hb : BkAt B w O va vi vn vr vs vc ea ei) (hl : w.ownsRow B 62 4 l n xs) (hk : w.heap[k]? = some (.cells c 56 (0, 0))) : ¬ TurnA l va O k := by
  rintro (h | h | h)
  · exact ownsRow_ne hl hk (by decide) h
  · exact ownsRow_ne hb.a hk (by decide) h
  · exact tag_ne hk hb.o (by decide) h
theorem res_notI {B O : Nat} {w : World} {va vi vn vr vs vc l : Value} {ea ei : List (Value × Nat)} {n k : Nat} {xs : List Value} {c : Array Value} (hb : BkAt B w O va vi vn vr vs vc ea ei) (hl : w.ownsRow B 52 2 l n xs) (hk : w.heap[k]? = some (.cells c 56 (0, 0))) : ¬ TurnA l vi O k := by
  rintro (h | h | h)
  · exact ownsRow_ne hl hk (by decide) h
  · exact ownsRow_ne hb.i hk (by decide) h
  · exact tag_ne hk hb.o (by decide) h

theorem id_notA {B O : Nat} {w : World} {va vi vn vr vs vc l : Value} {ea ei : List (Value × Nat)} {n k : Nat} {xs : List Value} {c : Array Value} (hb : BkAt B w O va vi vn vr vs vc ea ei) (hl : w.ownsRow B 62 4 l n xs) (hk : w.heap[k]? = some (.cells c 52 (0, 0))) : ¬ TurnA l va O k := by
  rintro (h | h | h)
  · exact ownsRow_ne hl hk (by decide) h
  · exact ownsRow_ne hb.a hk (by decide) h
  · exact tag_ne hk hb.o (by decide) h
theorem at_notI {B O : Nat} {w : World} {va vi vn vr vs vc l : Value} {ea ei : List (Value × Nat)} {n k : Nat} {xs : List Value} {c : Array Value} (hb : BkAt B w O va vi vn vr vs vc ea ei) (hl : w.ownsRow B 52 2 l n xs) (hk : w.heap[k]? = some (.cells c 62 (0, 0))) : ¬ TurnA l vi O k := by
  rintro (h | h | h)
  · exact ownsRow_ne hl hk (by decide) h
  · exact ownsRow_ne hb.i hk (by decide) h
  · exact tag_ne hk hb.o (by decide) h
theorem Ext.keptT {D : Nat → Prop} {a b c : World} (h : Ext a b) (g : Kept D b c) : Kept D a c := (h.kept (fun _ => False)).trans' g

set_option maxRecDepth 100000 in
set_option maxHeartbeats 3200000 in
theorem ownResource (B O : Nat) (w : World) (va vi vn vr vs vc : Value) (ea ei : List (Value × Nat)) (c2 c3 : Value) (x : Resd) (hb : BkAt B w O va vi vn vr vs vc ea ei) (hB : B ≤ w.heap.size) (hx : OwnR B w c2 c3 x) (h2 : x.attrs.length ≤ 1000) (h3 : x.after.length ≤ 1000) (he : ea.length ≤ 3000000) (hf : ei.length ≤ 3000000) :
    Calls Tryz.prog 30 #[.pointer (some ⟨O, 0, none⟩), .agg #[.string x.id.kind, .string x.id.name, c2, c3]] w (OwnedR B O w va vi vn vr vs vc ea ei c2 c3) := by
  obtain ⟨a2, p2, rfl⟩ := hx.f2
  obtain ⟨a3, p3, rfl⟩ := hx.f3
  replace hb := hide hb; replace hx := hide hx
  go_enter Tryz.func30, Tryz.ntmps30
  go_wp2_with fail
  have X0 : Ext w (w.alloc (.cells #[.string x.id.kind, .string x.id.name, .slice a2 x.attrs.length p2, .slice a3 x.after.length p3] 56)).drew := ((Ext.refl w).alloc _).drew
  have hb0 := hide (hb.out.ext X0)
  have hx0 := hide (hx.out.extB X0)
  have hlO : O < w.heap.size := (Array.getElem?_eq_some_iff.1 hb.out.o).1
  have hR0 : (w.alloc (.cells #[.string x.id.kind, .string x.id.name, .slice a2 x.attrs.length p2, .slice a3 x.after.length p3] 56)).drew.heap[w.heap.size]? = some (.cells #[.string x.id.kind, .string x.id.name, .slice a2 x.attrs.length p2, .slice a3 x.after.length p3] 56 (0, 0)) := heap_alloc_new w _
  have hB0 : B ≤ (w.alloc (.cells #[.string x.id.kind, .string x.id.name, .slice a2 x.attrs.length p2, .slice a3 x.after.length p3] 56)).drew.heap.size := Nat.le_trans hB X0.size
  replace X0 := hide X0; replace hR0 := hide hR0; replace hB0 := hide hB0
  go_region_held3 (fun w' => w'.cell? ⟨w.heap.size, 2, none⟩ = some (.slice a2 x.attrs.length p2)) (go_keep)
    ((go_at_call 62; refine (ownAttrs B O _ va vi vn vr vs vc ea ei _ _ _ hb0.out hB0.out hx0.out.attrs h2 he).mono ?_; rintro e w1 ⟨va1, en, rfl, hb1, hen, hm1, hl1, hk1, hq1⟩; go_must (have hR1 := hk1.out.heap hR0.out (res_notA hb0.out hx0.out.attrs hR0.out); obtain ⟨q0, q1, q2, q3⟩ := four_cells hR1; replace hR1 := hide hR1)))
  have hf1 := hide (ownsRow_keep hx0.out.after hk1.out (fun g c hg => id_notA hb0.out hx0.out.attrs hg))
  have X1 : Ext w1 w1.drew := (Ext.refl w1).drew
  have hb1' := hide (hb1.out.ext X1)
  have hf1' := hide (ownsRow_keep hf1.out (X1.kept (fun _ => False)) (fun _ _ _ => id))
  have hR1' : w1.drew.heap[w.heap.size]? = some (.cells #[.string x.id.kind, .string x.id.name, .slice a2 x.attrs.length p2, .slice a3 x.after.length p3] 56 (0, 0)) := ext_heap X1 hR1.out
  have hB1 : B ≤ w1.drew.heap.size := Nat.le_trans (Nat.le_trans hB0.out hk1.out.size) X1.size
  rename_i hHeld
  clear hHeld q0 q1 q2
  replace hB1 := hide hB1; replace hR1' := hide hR1'; replace X1 := hide X1
  go_wp2_with fail
  go_region_held3 (fun w' => w'.cell? ⟨w.heap.size, 3, none⟩ = some (.slice a3 x.after.length p3)) (go_keep)
    ((go_at_call 63; refine (ownIds B O _ vi va1 vn vr vs vc ei (ea ++ en) _ _ _ hb1'.out hB1.out hf1'.out h3 hf).mono ?_; rintro e w2 ⟨vi2, em, rfl, hb2, hem, hm2, hl2, hk2, hq2⟩; go_must (have hR2 := hk2.out.heap hR1'.out (res_notI hb1'.out hf1'.out hR1'.out); clear q3; obtain ⟨q0, q1, q2, q3⟩ := four_cells hR2; replace hR2 := hide hR2)))
  go_wp2_with fail
  refine ⟨rfl, .tuple #[], by simp [results, Tryz.results30], ?_⟩
  have K2 : Kept (TurnA (.slice a3 x.after.length p3) vi O) w1 w2 := X1.out.keptT hk2.out
  have hsz1 : w.heap.size ≤ w1.drew.heap.size := Nat.le_trans (Nat.le_trans X0.out.size hk1.out.size) X1.out.size
  refine ⟨va1, vi2, en, em, rfl, hb2, hen, hem, fun y hy => (hm1.out y hy).kept (fun g c _ hg => K2.heap hg (at_notI hb1.out hf1.out hg)), hm2, fun y hy g hg => (hl1.out y hy g hg).imp id (Nat.le_trans X0.out.size), fun y hy g hg => (hl2.out y hy g hg).imp id (Nat.le_trans hsz1), ?_, fun g hg => (hq1.out g hg).imp id (Nat.le_trans X0.out.size), fun g hg => (hq2.out g hg).imp id (Nat.le_trans hsz1)⟩
  refine ((X0.out.kept (fun _ => False)).trans' (hk1.out.mono (D' := TurnR (.slice a2 x.attrs.length p2) (.slice a3 x.after.length p3) va vi O) ?_)).trans K2 ?_
  · rintro b _ (h | h | h)
    · exact .inl h
    · exact .inr (.inr (.inl h))
    · exact .inr (.inr (.inr (.inr h)))
  · rintro b _ (h | h | h)
    · exact .inr (.inl h)
    · exact .inr (.inr (.inr (.inl h)))
    · exact .inr (.inr (.inr (.inr h)))
theorem own_row {w : World} {B : Nat} {T : TypeId} {sz : Nat} {v : Value} {n g : Nat} {xs : List Value} (h : w.ownsRow B T sz v n xs) (hg : v.ownBlock = some g) : ∃ c, w.heap[g]? = some (.cells c T (0, 0)) := by
  rcases h.2 with ⟨rfl, _⟩ | ⟨g', cap, cur, rfl, _, hh, _⟩
  · simp [Value.ownBlock] at hg
  · obtain rfl : g' = g := by simpa [Value.ownBlock] using hg
    exact ⟨cur, hh⟩
theorem rec_notR {B O : Nat} {w : World} {va vi vn vr vs vc c2 c3 : Value} {ea ei : List (Value × Nat)} {x : Resd} {k : Nat} {c : Array Value} (hb : BkAt B w O va vi vn vr vs vc ea ei) (hx : OwnR B w c2 c3 x) (hk : w.heap[k]? = some (.cells c 84 (0, 0))) : ¬ TurnR c2 c3 va vi O k := by
  rintro (h | h | h | h | h)
  · exact ownsRow_ne hx.attrs hk (by decide) h
  · exact ownsRow_ne hx.after hk (by decide) h
  · exact ownsRow_ne hb.a hk (by decide) h
  · exact ownsRow_ne hb.i hk (by decide) h
  · exact tag_ne hk hb.o (by decide) h
theorem at_notR {B O : Nat} {w : World} {va vi vn vr vs vc c2 c3 : Value} {ea ei : List (Value × Nat)} {x : Resd} {k : Nat} {c : Array Value} (hb : BkAt B w O va vi vn vr vs vc ea ei) (hx : OwnR B w c2 c3 x) (hk : w.heap[k]? = some (.cells c 62 (0, 0))) (hn : c2.ownBlock = some k → False) : ¬ TurnR c2 c3 va vi O k := by
  rintro (h | h | h | h | h)
  · exact hn h.symm
  · exact ownsRow_ne hx.after hk (by decide) h
  · exact ownsRow_ne hb.a hk (by decide) h
  · exact ownsRow_ne hb.i hk (by decide) h
  · exact tag_ne hk hb.o (by decide) h
theorem id_notR {B O : Nat} {w : World} {va vi vn vr vs vc c2 c3 : Value} {ea ei : List (Value × Nat)} {x : Resd} {k : Nat} {c : Array Value} (hb : BkAt B w O va vi vn vr vs vc ea ei) (hx : OwnR B w c2 c3 x) (hk : w.heap[k]? = some (.cells c 52 (0, 0))) (hn : c3.ownBlock = some k → False) : ¬ TurnR c2 c3 va vi O k := by
  rintro (h | h | h | h | h)
  · exact ownsRow_ne hx.attrs hk (by decide) h
  · exact hn h.symm
  · exact ownsRow_ne hb.a hk (by decide) h
  · exact ownsRow_ne hb.i hk (by decide) h
  · exact tag_ne hk hb.o (by decide) h
theorem turn_low {B O : Nat} {w : World} {va vi vn vr vs vc c2 c3 : Value} {ea ei : List (Value × Nat)} {x : Resd} {k : Nat} (hb : BkAt B w O va vi vn vr vs vc ea ei) (hx : OwnR B w c2 c3 x) (h : TurnR c2 c3 va vi O k) : B ≤ k := by
  rcases h with h | h | h | h | h
  · exact (hx.attrs.lt k h.symm).1
  · exact (hx.after.lt k h.symm).1
  · exact (hb.a.lt k h.symm).1
  · exact (hb.i.lt k h.symm).1
  · subst h; exact hb.low
end Go.Proofs.YtodhhjlemmmjcaaGreat

namespace Go.Proofs.YtodhhjlemmmjcaaGreat
open Go.RowKit

theorem ent_cells {w : World} {B : Nat} {T : TypeId} {v : Value} {es : List (Value × Nat)} {i : Nat} {x : Value × Nat} (h : w.ownsRow B T 2 v es.length (cellsE es)) (hx : es[i]? = some x) :
    ∃ g cap, v = .slice (some ⟨g, 0, none⟩) es.length cap ∧ w.cell? ⟨g, i * 2, none⟩ = some x.1 ∧ w.cell? ⟨g, i * 2 + 1, none⟩ = some (.int .i64 x.2) := by
  have hi : i < es.length := (List.getElem?_eq_some_iff.1 hx).1
  obtain ⟨g, cap, rfl, _, _⟩ := h.form (by omega)
  refine ⟨g, cap, rfl, ?_, ?_⟩
  · have := h.cellAt (i * 2 + 0) (by omega)
    rw [Nat.add_zero] at this
    rw [this]
    exact flat_get cE_len hx (r := 0) (by omega)
  · rw [h.cellAt (i * 2 + 1) (by omega)]
    exact flat_get cE_len hx (r := 1) (by omega)
theorem mark_cell {w : World} {g : Nat} {c : Array Value} {T : TypeId} {n sz i r : Nat} {m : List Value} {u : Value} (hm : m.length = sz) (hg : w.heap[g]? = some (.cells c T (0, 0))) (ht : c.toList.take (n * sz) = rep n m) (hi : i < n) (hr : m[r]? = some u) : w.cell? ⟨g, i * sz + r, none⟩ = some u := by
  have hrs : r < sz := by rw [← hm]; exact (List.getElem?_eq_some_iff.1 hr).1
  have hlt : i * sz + r < n * sz := by
    have : (i + 1) * sz ≤ n * sz := Nat.mul_le_mul_right _ (by omega)
    rw [Nat.succ_mul] at this; omega
  have h1 : c[i * sz + r]? = some u := by
    rw [← Array.getElem?_toList, ← List.getElem?_take_of_lt hlt, ht, rep_get hm hi hrs]; exact hr
  simp [World.cell?, hg, h1]

set_option maxRecDepth 100000 in
set_option maxHeartbeats 3200000 in
theorem bookLooks (B O : Nat) (w : World) (va vi vr vs vc : Value) (ea ei : List (Value × Nat)) (hb : BkAt B w O va vi (.slice none 0 0) vr vs vc ea ei) (he : ea.length ≤ 3000000) (hf : ei.length ≤ 3000000) (hA : ∀ x ∈ ea, MarkG 62 4 mkA w x) (hI : ∀ x ∈ ei, MarkG 52 2 mkI w x) :
    Calls Tryz.prog 32 #[.pointer (some ⟨O, 0, none⟩)] w fun e w' => e = .returned (.bool true) ∧ Ext w w' := by
  obtain ⟨pe, ce, rfl⟩ := ownsRow_form hb.a
  obtain ⟨pf, cf, rfl⟩ := ownsRow_form hb.i
  obtain ⟨o0, o1, o2, o3, o4, o5⟩ := six_celB hb.o
  have O0 := hide o0; have O1 := hide o1; have O2 := hide o2
  clear o0 o1 o2 o3 o4 o5
  replace hb := hide hb; replace hA := hide hA; replace hI := hide hI
  go_enter Tryz.func32, Tryz.ntmps32
  go_wp2_with fail
  go_loopw [3] (fun i wr => ∃ j : Nat, j ≤ ea.length ∧ i = .int .i64 j ∧ Ext w wr) (fun i _ => ea.length - (intOf i).toNat)
  case atStart => exact ⟨0, Nat.zero_le _, rfl, Ext.refl _⟩
  case round =>
    obtain ⟨j, hj, rfl, hx⟩ := hrel
    have o0 := hx.cells O0.out
    by_cases hlt : j < ea.length
    · obtain ⟨x, hxj⟩ := some_of_lt hlt
      obtain ⟨g, cap, hv, k0, k1⟩ := ent_cells hb.out.a hxj
      obtain ⟨rfl, rfl⟩ : pe = some ⟨g, 0, none⟩ ∧ ce = cap := by simpa using hv
      clear hv
      obtain ⟨hk, pa, n, ca, h1, h2, h3, h4, h5⟩ := hA.out x (List.mem_of_getElem? hxj)
      rw [h1] at k0
      have K0 := hide k0; have K1 := hide k1
      replace k0 := hx.cells k0; replace k1 := hx.cells k1
      have j2 : (j : Int) < (ea.length : Int) := by omega
      have j4 : (0 : Int) ≤ (j : Int) := by omega
      replace hxj := hide hxj; replace h1 := hide h1; replace hx := hide hx
      clear o0 k0 k1
      have o0 := hx.out.cells O0.out; have k0 := hx.out.cells K0.out; have k1 := hx.out.cells K1.out
      go_wp2_with fail
      clear o0 k0 k1
      obtain ⟨wo, rfl⟩ : ∃ wo : World, wo = wr := ⟨_, rfl⟩
      go_loopw [5] (fun i w2 => ∃ q : Nat, q ≤ n ∧ i = .int .i64 q ∧ Ext (wo.alloc (.cells (mkA x.2).toArray 62)) w2) (fun i _ => n - (intOf i).toNat)
      case atStart => exact ⟨0, Nat.zero_le _, rfl, Ext.refl _⟩
      case round =>
        obtain ⟨q, hq, rfl, e2⟩ := hrel
        have E2 : Ext w wr := (hx.out.alloc _).trans e2
        have hM := ext_heap e2 (heap_alloc_new wo _)
        obtain ⟨m0, m1, m2, m3⟩ := four_cells hM
        have p0 := E2.cells O0.out
        have k0 := E2.cells K0.out
        have k1 := E2.cells K1.out
        by_cases hltq : q < n
        · rcases h5 with h5 | ⟨g', c, rfl, hg, ht⟩
          · omega
          have c0 := E2.cells (mark_cell (r := 0) (sz := 4) (m := mkA x.2) (u := (.string ⟨#[]⟩)) rfl hg ht hltq rfl)
          have c1 := E2.cells (mark_cell (r := 1) (sz := 4) (m := mkA x.2) (u := (.bool false)) rfl hg ht hltq rfl)
          have c2 := E2.cells (mark_cell (r := 2) (sz := 4) (m := mkA x.2) (u := (.string ⟨#[]⟩)) rfl hg ht hltq rfl)
          have c3 := E2.cells (mark_cell (r := 3) (sz := 4) (m := mkA x.2) (u := (.int .i64 (-9 - (x.2 : Int)))) rfl hg ht hltq rfl)
          rw [Nat.add_zero] at c0
          have i2 : (q : Int) < (n : Int) := by omega
          have i4 : (0 : Int) ≤ (q : Int) := by omega
          replace E2 := hide E2; replace e2 := hide e2; replace hM := hide hM; replace hg := hide hg; replace ht := hide ht
          go_wp2_with fail
          go_quiet (fail)
          go_wp2_with fail
          go_roundw
          case rel => exact ⟨q + 1, by omega, by go_num, e2.out.drewN _⟩
          case measure => simp [intOf]; omega
        · replace E2 := hide E2; replace e2 := hide e2; replace hM := hide hM; replace h5 := hide h5
          go_wp2_with fail
          go_roundw
          case rel => exact ⟨j + 1, by omega, by go_num, E2.out⟩
          case measure => simp [intOf]; omega
    · have hxw := hide hx
      clear hx
      have o1 := hxw.out.cells O1.out
      go_wp2_with fail
      clear o0 o1 hlt hj
      obtain ⟨wa, rfl⟩ : ∃ wa : World, wa = wr := ⟨_, rfl⟩
      go_loopw [6] (fun i wr => ∃ j : Nat, j ≤ ei.length ∧ i = .int .i64 j ∧ Ext w wr) (fun i _ => ei.length - (intOf i).toNat)
      case atStart => exact ⟨0, Nat.zero_le _, rfl, hxw.out⟩
      case round =>
        obtain ⟨j, hj, rfl, hx⟩ := hrel
        have o1 := hx.cells O1.out
        by_cases hlt : j < ei.length
        · obtain ⟨x, hxj⟩ := some_of_lt hlt
          obtain ⟨g, cap, hv, k0, k1⟩ := ent_cells hb.out.i hxj
          obtain ⟨rfl, rfl⟩ : pf = some ⟨g, 0, none⟩ ∧ cf = cap := by simpa using hv
          clear hv
          obtain ⟨hk, pa, n, ca, h1, h2, h3, h4, h5⟩ := hI.out x (List.mem_of_getElem? hxj)
          rw [h1] at k0
          have K0 := hide k0; have K1 := hide k1
          replace k0 := hx.cells k0; replace k1 := hx.cells k1
          have j2 : (j : Int) < (ei.length : Int) := by omega
          have j4 : (0 : Int) ≤ (j : Int) := by omega
          replace hxj := hide hxj; replace h1 := hide h1; replace hx := hide hx
          go_wp2_with fail
          refine (textOf x.2 _ (by omega) (by omega)).mono ?_
          rintro e wo ⟨rfl, heo⟩
          have hxo := hide (hx.out.trans heo)
          clear o1 k0 k1 heo
          go_wp2_with fail
          go_loopw [8] (fun i w2 => ∃ q : Nat, q ≤ n ∧ i = .int .i64 q ∧ Ext (wo.alloc (.cells (mkI x.2).toArray 52)) w2) (fun i _ => n - (intOf i).toNat)
          case atStart => exact ⟨0, Nat.zero_le _, rfl, Ext.refl _⟩
          case round =>
            obtain ⟨q, hq, rfl, e2⟩ := hrel
            have E2 : Ext w wr := (hxo.out.alloc _).trans e2
            have hM := ext_heap e2 (heap_alloc_new wo _)
            have m0 := id_c0 hM
            have m1 := id_c1 hM
            have p0 := E2.cells O1.out
            have k0 := E2.cells K0.out
            have k1 := E2.cells K1.out
            by_cases hltq : q < n
            · rcases h5 with h5 | ⟨g', c, rfl, hg, ht⟩
              · omega
              have c0 := E2.cells (mark_cell (r := 0) (sz := 2) (m := mkI x.2) (u := .string (textD x.2)) rfl hg ht hltq rfl)
              have c1 := E2.cells (mark_cell (r := 1) (sz := 2) (m := mkI x.2) (u := .string ⟨#[]⟩) rfl hg ht hltq rfl)
              rw [Nat.add_zero] at c0
              have i2 : (q : Int) < (n : Int) := by omega
              have i4 : (0 : Int) ≤ (q : Int) := by omega
              replace E2 := hide E2; replace e2 := hide e2; replace hM := hide hM; replace hg := hide hg; replace ht := hide ht
              go_wp2_with fail
              go_quiet (fail)
              go_wp2_with fail
              go_roundw
              case rel => exact ⟨q + 1, by omega, by go_num, e2.out.drewN _⟩
              case measure => simp [intOf]; omega
            · replace E2 := hide E2; replace e2 := hide e2; replace hM := hide hM; replace h5 := hide h5
              go_wp2_with fail
              go_roundw
              case rel => exact ⟨j + 1, by omega, by go_num, E2.out⟩
              case measure => simp [intOf]; omega
        · have o2 := hx.cells O2.out
          replace hx := hide hx
          go_wp2_with fail
          go_loop [9] (fun i => i = .int .i64 0) (fun _ => 0)
          case atStart => rfl
          case round =>
            subst hrel
            go_wp2_with fail
            go_ret
            exact ⟨rfl, hx.out⟩
end Go.Proofs.YtodhhjlemmmjcaaGreat
