/-
  The book is looked at: every list reads as it was marked.
-/
/-
  The books are looked at, where there are lists of resources, too.
-/
import Derived.Test.YtkjjfdejfihpfaaGreatBookR
import Derived.Deep.QuietTactic
import Derived.BigQuiet
import Derived.Test.YtkjjfdejfihpfaaGreatBookQ
import Derived.Test.YtkjjfdejfihpfaaGreatJ11
namespace Go.Proofs.YtkjjfdejfihpfaaGreat
open Go.RowKit

theorem ent_cells {w : World} {B : Nat} {T : TypeId} {v : Value} {es : List (Value × Nat)} {i : Nat} {x : Value × Nat} (h : w.ownsRow B T 2 v es.length (cellsE es)) (hx : es[i]? = some x) :
    ∃ g cap, v = .slice (some ⟨g, 0, none⟩) es.length cap ∧ w.cell? ⟨g, i * 2, none⟩ = some x.1 ∧ w.cell? ⟨g, i * 2 + 1, none⟩ = some (.int .i64 x.2) := by
  have hi : i < es.length := (List.getElem?_eq_some_iff.1 hx).1
  obtain ⟨g, cap, rfl, _, _⟩ := h.form (by omega)
  refine ⟨g, cap, rfl, ?_, ?_⟩
  · have := h.cellAt (i * 2 + 0) (by omega)
    rw [Nat.add_zero] at this
    rw [this]
    exact flat_get cE_len hx (r := 0) (by omega)
  · rw [h.cellAt (i * 2 + 1) (by omega)]
    exact flat_get cE_len hx (r := 1) (by omega)
theorem mark_cell {w : World} {g : Nat} {c : Array Value} {T : TypeId} {n sz i r : Nat} {m : List Value} {u : Value} (hm : m.length = sz) (hg : w.heap[g]? = some (.cells c T (0, 0))) (ht : c.toList.take (n * sz) = rep n m) (hi : i < n) (hr : m[r]? = some u) : w.cell? ⟨g, i * sz + r, none⟩ = some u := by
  have hrs : r < sz := by rw [← hm]; exact (List.getElem?_eq_some_iff.1 hr).1
  have hlt : i * sz + r < n * sz := by
    have : (i + 1) * sz ≤ n * sz := Nat.mul_le_mul_right _ (by omega)
    rw [Nat.succ_mul] at this; omega
  have h1 : c[i * sz + r]? = some u := by
    rw [← Array.getElem?_toList, ← List.getElem?_take_of_lt hlt, ht, rep_get hm hi hrs]; exact hr
  simp [World.cell?, hg, h1]

set_option maxRecDepth 100000 in
set_option maxHeartbeats 3200000 in
theorem bookLooks (B O : Nat) (w : World) (va vi vr vs vc : Value) (ea ei : List (Value × Nat)) (hb : BkAt B w O va vi (.slice none 0 0) vr vs vc ea ei) (he : ea.length ≤ 3000000) (hf : ei.length ≤ 3000000) (hA : ∀ x ∈ ea, MarkG 42 4 mkA w x) (hI : ∀ x ∈ ei, MarkG 37 2 mkI w x) :
    Calls Tryz.prog 51 #[.pointer (some ⟨O, 0, none⟩)] w fun e w' => e = .returned (.bool true) ∧ Ext w w' := by
  obtain ⟨pe, ce, rfl⟩ := ownsRow_form hb.a
  obtain ⟨pf, cf, rfl⟩ := ownsRow_form hb.i
  obtain ⟨o0, o1, o2, o3, o4, o5⟩ := six_celB hb.o
  have O0 := hide o0; have O1 := hide o1; have O2 := hide o2
  clear o0 o1 o2 o3 o4 o5
  replace hb := hide hb; replace hA := hide hA; replace hI := hide hI
  go_enter Tryz.func51, Tryz.ntmps51
  go_wp2_with fail
  go_loopw [3] (fun i wr => ∃ j : Nat, j ≤ ea.length ∧ i = .int .i64 j ∧ Ext w wr) (fun i _ => ea.length - (intOf i).toNat)
  case atStart => exact ⟨0, Nat.zero_le _, rfl, Ext.refl _⟩
  case round =>
    obtain ⟨j, hj, rfl, hx⟩ := hrel
    have o0 := hx.cells O0.out
    by_cases hlt : j < ea.length
    · obtain ⟨x, hxj⟩ := some_of_lt hlt
      obtain ⟨g, cap, hv, k0, k1⟩ := ent_cells hb.out.a hxj
      obtain ⟨rfl, rfl⟩ : pe = some ⟨g, 0, none⟩ ∧ ce = cap := by simpa using hv
      clear hv
      obtain ⟨hk, pa, n, ca, h1, h2, h3, h4, h5⟩ := hA.out x (List.mem_of_getElem? hxj)
      rw [h1] at k0
      have K0 := hide k0; have K1 := hide k1
      replace k0 := hx.cells k0; replace k1 := hx.cells k1
      have j2 : (j : Int) < (ea.length : Int) := by omega
      have j4 : (0 : Int) ≤ (j : Int) := by omega
      replace hxj := hide hxj; replace h1 := hide h1; replace hx := hide hx
      clear o0 k0 k1
      have o0 := hx.out.cells O0.out; have k0 := hx.out.cells K0.out; have k1 := hx.out.cells K1.out
      go_wp2_with fail
      clear o0 k0 k1
      obtain ⟨wo, rfl⟩ : ∃ wo : World, wo = wr := ⟨_, rfl⟩
      go_loopw [5] (fun i w2 => ∃ q : Nat, q ≤ n ∧ i = .int .i64 q ∧ Ext (wo.alloc (.cells (mkA x.2).toArray 42)) w2) (fun i _ => n - (intOf i).toNat)
      case atStart => exact ⟨0, Nat.zero_le _, rfl, Ext.refl _⟩
      case round =>
        obtain ⟨q, hq, rfl, e2⟩ := hrel
        have E2 : Ext w wr := (hx.out.alloc _).trans e2
        have hM := ext_heap e2 (heap_alloc_new wo _)
        obtain ⟨m0, m1, m2, m3⟩ := four_cells hM
        have p0 := E2.cells O0.out
        have k0 := E2.cells K0.out
        have k1 := E2.cells K1.out
        by_cases hltq : q < n
        · rcases h5 with h5 | ⟨g', c, rfl, hg, ht⟩
          · omega
          have c0 := E2.cells (mark_cell (r := 0) (sz := 4) (m := mkA x.2) (u := (.string ⟨#[]⟩)) rfl hg ht hltq rfl)
          have c1 := E2.cells (mark_cell (r := 1) (sz := 4) (m := mkA x.2) (u := (.bool false)) rfl hg ht hltq rfl)
          have c2 := E2.cells (mark_cell (r := 2) (sz := 4) (m := mkA x.2) (u := (.string ⟨#[]⟩)) rfl hg ht hltq rfl)
          have c3 := E2.cells (mark_cell (r := 3) (sz := 4) (m := mkA x.2) (u := (.int .i64 (-9 - (x.2 : Int)))) rfl hg ht hltq rfl)
          rw [Nat.add_zero] at c0
          have i2 : (q : Int) < (n : Int) := by omega
          have i4 : (0 : Int) ≤ (q : Int) := by omega
          replace E2 := hide E2; replace e2 := hide e2; replace hM := hide hM; replace hg := hide hg; replace ht := hide ht
          go_wp2_with fail
          go_quiet (fail)
          go_wp2_with fail
          go_roundw
          case rel => exact ⟨q + 1, by omega, by go_num, e2.out.drewN _⟩
          case measure => simp [intOf]; omega
        · replace E2 := hide E2; replace e2 := hide e2; replace hM := hide hM; replace h5 := hide h5
          go_wp2_with fail
          go_roundw
          case rel => exact ⟨j + 1, by omega, by go_num, E2.out⟩
          case measure => simp [intOf]; omega
    · have hxw := hide hx
      clear hx
      have o1 := hxw.out.cells O1.out
      go_wp2_with fail
      clear o0 o1 hlt hj
      obtain ⟨wa, rfl⟩ : ∃ wa : World, wa = wr := ⟨_, rfl⟩
      go_loopw [6] (fun i wr => ∃ j : Nat, j ≤ ei.length ∧ i = .int .i64 j ∧ Ext w wr) (fun i _ => ei.length - (intOf i).toNat)
      case atStart => exact ⟨0, Nat.zero_le _, rfl, hxw.out⟩
      case round =>
        obtain ⟨j, hj, rfl, hx⟩ := hrel
        have o1 := hx.cells O1.out
        by_cases hlt : j < ei.length
        · obtain ⟨x, hxj⟩ := some_of_lt hlt
          obtain ⟨g, cap, hv, k0, k1⟩ := ent_cells hb.out.i hxj
          obtain ⟨rfl, rfl⟩ : pf = some ⟨g, 0, none⟩ ∧ cf = cap := by simpa using hv
          clear hv
          obtain ⟨hk, pa, n, ca, h1, h2, h3, h4, h5⟩ := hI.out x (List.mem_of_getElem? hxj)
          rw [h1] at k0
          have K0 := hide k0; have K1 := hide k1
          replace k0 := hx.cells k0; replace k1 := hx.cells k1
          have j2 : (j : Int) < (ei.length : Int) := by omega
          have j4 : (0 : Int) ≤ (j : Int) := by omega
          replace hxj := hide hxj; replace h1 := hide h1; replace hx := hide hx
          go_wp2_with fail
          refine (textOf x.2 _ (by omega) (by omega)).mono ?_
          rintro e wo ⟨rfl, heo⟩
          have hxo := hide (hx.out.trans heo)
          clear o1 k0 k1 heo
          go_wp2_with fail
          go_loopw [8] (fun i w2 => ∃ q : Nat, q ≤ n ∧ i = .int .i64 q ∧ Ext (wo.alloc (.cells (mkI x.2).toArray 37)) w2) (fun i _ => n - (intOf i).toNat)
          case atStart => exact ⟨0, Nat.zero_le _, rfl, Ext.refl _⟩
          case round =>
            obtain ⟨q, hq, rfl, e2⟩ := hrel
            have E2 : Ext w wr := (hxo.out.alloc _).trans e2
            have hM := ext_heap e2 (heap_alloc_new wo _)
            have m0 := id_c0 hM
            have m1 := id_c1 hM
            have p0 := E2.cells O1.out
            have k0 := E2.cells K0.out
            have k1 := E2.cells K1.out
            by_cases hltq : q < n
            · rcases h5 with h5 | ⟨g', c, rfl, hg, ht⟩
              · omega
              have c0 := E2.cells (mark_cell (r := 0) (sz := 2) (m := mkI x.2) (u := .string (textD x.2)) rfl hg ht hltq rfl)
              have c1 := E2.cells (mark_cell (r := 1) (sz := 2) (m := mkI x.2) (u := .string ⟨#[]⟩) rfl hg ht hltq rfl)
              rw [Nat.add_zero] at c0
              have i2 : (q : Int) < (n : Int) := by omega
              have i4 : (0 : Int) ≤ (q : Int) := by omega
              replace E2 := hide E2; replace e2 := hide e2; replace hM := hide hM; replace hg := hide hg; replace ht := hide ht
              go_wp2_with fail
              go_quiet (fail)
              go_wp2_with fail
              go_roundw
              case rel => exact ⟨q + 1, by omega, by go_num, e2.out.drewN _⟩
              case measure => simp [intOf]; omega
            · replace E2 := hide E2; replace e2 := hide e2; replace hM := hide hM; replace h5 := hide h5
              go_wp2_with fail
              go_roundw
              case rel => exact ⟨j + 1, by omega, by go_num, E2.out⟩
              case measure => simp [intOf]; omega
        · have o2 := hx.cells O2.out
          replace hx := hide hx
          go_wp2_with fail
          go_loop [9] (fun i => i = .int .i64 0) (fun _ => 0)
          case atStart => rfl
          case round =>
            subst hrel
            go_wp2_with fail
            go_ret
            exact ⟨rfl, hx.out⟩
end Go.Proofs.YtkjjfdejfihpfaaGreat

namespace Go.Proofs.YtkjjfdejfihpfaaGreat
open Go.RowKit

def mrkR (k : Nat) : Resd := ⟨⟨textD k, ⟨#[]⟩⟩, [], []⟩
theorem digs_len : ∀ (n : Nat) (k : Int), (digs n k).length = n
  | 0, _ => rfl
  | n + 1, k => by simp [digs, digs_len n]
theorem mrkR_resV (w : World) (k : Nat) : ResV w (.slice none 0 0) (.slice none 0 0) (mrkR k) := by
  have hz : (textD k).size = 12 := by
    show (markL ++ digs 8 k).toArray.size = 12
    simp [digs_len, markL]
  exact ⟨⟨by show (textD k).size ≤ _; omega, Nat.zero_le _⟩, ⟨⟨none, 0, rfl, Nat.le_refl _, by decide, .inl rfl⟩, Nat.zero_le _, fun x h => (by cases h)⟩, ⟨⟨none, 0, rfl, Nat.le_refl _, by decide, .inl rfl⟩, Nat.zero_le _, fun x h => (by cases h)⟩⟩

set_option maxRecDepth 100000 in
set_option maxHeartbeats 3200000 in
theorem booksLookQ (B O : Nat) (w : World) (va vi vc : Value) (ea ei ec : List (Value × Nat)) (hb : BkAt B w O va vi (.slice none 0 0) vc (.slice none 0 0) (.slice none 0 0) ea ei) (hc : w.ownsRow B 96 2 vc ec.length (cellsE ec)) (he : ea.length ≤ 3000000) (hf : ei.length ≤ 3000000) (hg : ec.length ≤ 1000) (hA : ∀ x ∈ ea, MarkG 42 4 mkA w x) (hI : ∀ x ∈ ei, MarkG 37 2 mkI w x) (hC : ∀ x ∈ ec, MarkG 40 4 mkQ w x) :
    Calls Tryz.prog 26 #[.pointer (some ⟨O, 0, none⟩)] w fun e w' => e = .returned (.bool true) ∧ Ext w w' := by
  obtain ⟨pe, ce, rfl⟩ := ownsRow_form hc
  obtain ⟨o0, o1, o2, o3, o4, o5⟩ := six_celB hb.o
  have O3 := hide o3; have O4 := hide o4; have O5 := hide o5
  replace hb := hide hb; replace hA := hide hA; replace hI := hide hI; replace hC := hide hC; replace hc := hide hc
  go_enter Tryz.func26, Tryz.ntmps26
  go_wp2_with fail
  clear o0 o1 o2 o3 o4 o5
  go_loopw [3] (fun i wr => ∃ j : Nat, j ≤ ec.length ∧ i = .int .i64 j ∧ Ext w wr) (fun i _ => ec.length - (intOf i).toNat)
  case atStart => exact ⟨0, Nat.zero_le _, rfl, Ext.refl _⟩
  case round =>
    obtain ⟨j, hj, rfl, hx⟩ := hrel
    have o3 := hx.cells O3.out
    by_cases hlt : j < ec.length
    · obtain ⟨x, hxj⟩ := some_of_lt hlt
      obtain ⟨g, cap, hv, k0, k1⟩ := ent_cells hc.out hxj
      obtain ⟨rfl, rfl⟩ : pe = some ⟨g, 0, none⟩ ∧ ce = cap := by simpa using hv
      clear hv
      obtain ⟨hk, pa, n, ca, h1, h2, h3, h4, h5⟩ := hC.out x (List.mem_of_getElem? hxj)
      rw [h1] at k0
      have K0 := hide k0; have K1 := hide k1
      have j2 : (j : Int) < (ec.length : Int) := by omega
      have j4 : (0 : Int) ≤ (j : Int) := by omega
      replace hxj := hide hxj; replace h1 := hide h1; replace hx := hide hx
      clear o3 k0 k1
      have o3 := hx.out.cells O3.out; have k0 := hx.out.cells K0.out; have k1 := hx.out.cells K1.out
      have hcall := hide (resourceOf (x.2 : Int) wr (by omega) (by omega))
      go_wp2_with fail
      refine hcall.out.mono ?_
      rintro e w4 ⟨rfl, he4⟩
      have hx4 := hide (hx.out.trans he4)
      clear o3 k0 k1 hcall
      have o3 := hx4.out.cells O3.out; have k0 := hx4.out.cells K0.out; have k1 := hx4.out.cells K1.out
      replace he4 := hide he4
      go_wp2_with fail
      clear o3 k0 k1
      have X5 : Ext w (w4.alloc (.cells #[.string (textD x.2), .string ⟨#[]⟩, .slice none 0 0, .slice none 0 0] 40)) := hx4.out.alloc _
      obtain ⟨w5, hw5⟩ : ∃ w5 : World, w5 = w4.alloc (.cells #[.string (textD x.2), .string ⟨#[]⟩, .slice none 0 0, .slice none 0 0] 40) := ⟨_, rfl⟩
      rw [← hw5] at X5
      have hM : w5.heap[w4.heap.size]? = some (.cells #[.string (textD x.2), .string ⟨#[]⟩, .slice none 0 0, .slice none 0 0] 40 (0, 0)) := by rw [hw5]; exact heap_alloc_new w4 _
      replace X5 := hide X5; replace hM := hide hM; replace hw5 := hide hw5
      go_loopw [5] (fun i w2 => ∃ q : Nat, q ≤ n ∧ i = .int .i64 q ∧ Ext w5 w2) (fun i _ => n - (intOf i).toNat)
      case atStart => exact ⟨0, Nat.zero_le _, rfl, by rw [hw5.out]; exact Ext.refl _⟩
      case round =>
        obtain ⟨q, hq, rfl, e2⟩ := hrel
        have E2 : Ext w wr := X5.out.trans e2
        have o3 := E2.cells O3.out
        have k0 := E2.cells K0.out
        have k1 := E2.cells K1.out
        by_cases hltq : q < n
        · rcases h5 with h5 | ⟨g', c, rfl, hg', ht⟩
          · omega
          have c0 := E2.cells (mark_cell (r := 0) (sz := 4) (m := mkQ x.2) (u := .string (textD x.2)) rfl hg' ht hltq rfl)
          have c1 := E2.cells (mark_cell (r := 1) (sz := 4) (m := mkQ x.2) (u := .string ⟨#[]⟩) rfl hg' ht hltq rfl)
          have c2 := E2.cells (mark_cell (r := 2) (sz := 4) (m := mkQ x.2) (u := .slice none 0 0) rfl hg' ht hltq rfl)
          have c3 := E2.cells (mark_cell (r := 3) (sz := 4) (m := mkQ x.2) (u := .slice none 0 0) rfl hg' ht hltq rfl)
          rw [Nat.add_zero] at c0
          obtain ⟨d0, d1, d2, d3⟩ := four_cells (ext_heap e2 hM.out)
          have i2 : (q : Int) < (n : Int) := by omega
          have i4 : (0 : Int) ≤ (q : Int) := by omega
          have hsame := hide (sameRes (.slice none 0 0) (.slice none 0 0) (.slice none 0 0) (.slice none 0 0) (mrkR x.2) wr.drew (mrkR_resV _ _) (mrkR_resV _ _))
          replace E2 := hide E2; replace e2 := hide e2; replace hg' := hide hg'; replace ht := hide ht
          go_wp2_with fail
          go_region_held3 (fun w' => w'.cell? ⟨O, 3, none⟩ = some (.slice (some ⟨g, 0, none⟩) ec.length ce) ∧ w'.cell? ⟨g, j * 2, none⟩ = some (.slice (some ⟨g', 0, none⟩) n ca) ∧ w'.cell? ⟨g', q * 4, none⟩ = some (.string (textD x.2)) ∧ w'.cell? ⟨g', q * 4 + 1, none⟩ = some (.string ⟨#[]⟩) ∧ w'.cell? ⟨g', q * 4 + 2, none⟩ = some (.slice none 0 0) ∧ w'.cell? ⟨g', q * 4 + 3, none⟩ = some (.slice none 0 0) ∧ w'.cell? ⟨w4.heap.size, 0, none⟩ = some (.string (textD x.2)) ∧ w'.cell? ⟨w4.heap.size, 1, none⟩ = some (.string ⟨#[]⟩) ∧ w'.cell? ⟨w4.heap.size, 2, none⟩ = some (.slice none 0 0) ∧ w'.cell? ⟨w4.heap.size, 3, none⟩ = some (.slice none 0 0)) (go_keep)
            ((go_at_call 42; refine hsame.out.mono ?_; rintro e w7 ⟨rfl, he7⟩; go_must (have p0 := he7.cells (p := ⟨O, 3, none⟩) (v := .slice (some ⟨g, 0, none⟩) ec.length ce) (by simpa using o3); have p1 := he7.cells (p := ⟨g, j * 2, none⟩) (v := .slice (some ⟨g', 0, none⟩) n ca) (by simpa using k0); have p2 := he7.cells (p := ⟨g', q * 4, none⟩) (v := .string (textD x.2)) (by simpa using c0); have p3 := he7.cells (p := ⟨g', q * 4 + 1, none⟩) (v := .string ⟨#[]⟩) (by simpa using c1); have p4 := he7.cells (p := ⟨g', q * 4 + 2, none⟩) (v := .slice none 0 0) (by simpa using c2); have p5 := he7.cells (p := ⟨g', q * 4 + 3, none⟩) (v := .slice none 0 0) (by simpa using c3); have p6 := he7.cells (p := ⟨w4.heap.size, 0, none⟩) (v := .string (textD x.2)) (by simpa using d0); have p7 := he7.cells (p := ⟨w4.heap.size, 1, none⟩) (v := .string ⟨#[]⟩) (by simpa using d1); have p8 := he7.cells (p := ⟨w4.heap.size, 2, none⟩) (v := .slice none 0 0) (by simpa using d2); have p9 := he7.cells (p := ⟨w4.heap.size, 3, none⟩) (v := .slice none 0 0) (by simpa using d3)); replace he7 := hide he7))
          go_wp2_with fail
          go_roundw
          case rel => exact ⟨q + 1, by omega, by go_num, (e2.out.drew).trans he7.out⟩
          case measure => simp [intOf]; omega
        · replace E2 := hide E2; replace e2 := hide e2; replace h5 := hide h5
          go_wp2_with fail
          go_roundw
          case rel => exact ⟨j + 1, by omega, by go_num, E2.out⟩
          case measure => simp [intOf]; omega
    · have o4 := hx.cells O4.out
      have o5 := hx.cells O5.out
      have hxw := hide hx
      clear hx
      obtain ⟨wo, rfl⟩ : ∃ wo : World, wo = wr := ⟨_, rfl⟩
      go_wp2_with fail
      go_loop [7] (fun i => i = .int .i64 0) (fun _ => 0)
      case atStart => rfl
      case round =>
        subst hrel
        go_wp2_with fail
        go_loop [11] (fun i => i = .int .i64 0) (fun _ => 0)
        case atStart => rfl
        case round =>
          subst hrel
          go_wp2_with fail
          refine (bookLooks B O _ va vi _ _ _ ea ei (hb.out.ext hxw.out) he hf (fun y hy => (hA.out y hy).ext hxw.out) (fun y hy => (hI.out y hy).ext hxw.out)).mono ?_
          rintro e w1 ⟨rfl, he1⟩
          replace he1 := hide he1
          go_wp2_with fail
          go_ret
          exact ⟨rfl, hxw.out.trans he1.out⟩
end Go.Proofs.YtkjjfdejfihpfaaGreat
