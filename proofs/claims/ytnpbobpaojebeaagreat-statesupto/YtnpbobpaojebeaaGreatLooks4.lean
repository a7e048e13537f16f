/-
  The books are looked at, where there are lists of resources, too.
-/
import Derived.Test.YtnpbobpaojebeaaGreatLooks
import Derived.Test.YtnpbobpaojebeaaGreatBookQ
import Derived.Test.YtnpbobpaojebeaaGreatJ10
namespace Go.Proofs.YtnpbobpaojebeaaGreat
open Go.RowKit

def mrkR (k : Nat) : Resd := ⟨⟨textD k, ⟨#[]⟩⟩, [], []⟩
theorem digs_len : ∀ (n : Nat) (k : Int), (digs n k).length = n
  | 0, _ => rfl
  | n + 1, k => by simp [digs, digs_len n]
theorem mrkR_resV (w : World) (k : Nat) : ResV w (.slice none 0 0) (.slice none 0 0) (mrkR k) := by
  have hz : (textD k).size = 12 := by
    show (markL ++ digs 8 k).toArray.size = 12
    simp [digs_len, markL]
  exact ⟨⟨by show (textD k).size ≤ _; omega, Nat.zero_le _⟩, ⟨⟨none, 0, rfl, Nat.le_refl _, by decide, .inl rfl⟩, Nat.zero_le _, fun x h => (by cases h)⟩, ⟨⟨none, 0, rfl, Nat.le_refl _, by decide, .inl rfl⟩, Nat.zero_le _, fun x h => (by cases h)⟩⟩

set_option maxRecDepth 100000 in
set_option maxHeartbeats 3200000 in
theorem booksLookQ (B O : Nat) (w : World) (va vi vc : Value) (ea ei ec : List (Value × Nat)) (hb : BkAt B w O va vi (.slice none 0 0) vc (.slice none 0 0) (.slice none 0 0) ea ei) (hc : w.ownsRow B 96 2 vc ec.length (cellsE ec)) (he : ea.length ≤ 3000000) (hf : ei.length ≤ 3000000) (hg : ec.length ≤ 1000) (hA : ∀ x ∈ ea, MarkG 42 4 mkA w x) (hI : ∀ x ∈ ei, MarkG 37 2 mkI w x) (hC : ∀ x ∈ ec, MarkG 40 4 mkQ w x) :
    Calls Tryz.prog 26 #[.pointer (some ⟨O, 0, none⟩)] w fun e w' => e = .returned (.bool true) ∧ Ext w w' := by
  obtain ⟨pe, ce, rfl⟩ := ownsRow_form hc
  obtain ⟨o0, o1, o2, o3, o4, o5⟩ := six_cells hb.o
  have O3 := hide o3; have O4 := hide o4; have O5 := hide o5
  replace hb := hide hb; replace hA := hide hA; replace hI := hide hI; replace hC := hide hC; replace hc := hide hc
  go_enter Tryz.func26, Tryz.ntmps26
  go_wp2_with fail
  clear o0 o1 o2 o3 o4 o5
  go_loopw [3] (fun i wr => ∃ j : Nat, j ≤ ec.length ∧ i = .int .i64 j ∧ Ext w wr) (fun i _ => ec.length - (intOf i).toNat)
  case atStart => exact ⟨0, Nat.zero_le _, rfl, Ext.refl _⟩
  case round =>
    obtain ⟨j, hj, rfl, hx⟩ := hrel
    have o3 := hx.cells O3.out
    by_cases hlt : j < ec.length
    · obtain ⟨x, hxj⟩ := some_of_lt hlt
      obtain ⟨g, cap, hv, k0, k1⟩ := ent_cells hc.out hxj
      obtain ⟨rfl, rfl⟩ : pe = some ⟨g, 0, none⟩ ∧ ce = cap := by simpa using hv
      clear hv
      obtain ⟨hk, pa, n, ca, h1, h2, h3, h4, h5⟩ := hC.out x (List.mem_of_getElem? hxj)
      rw [h1] at k0
      have K0 := hide k0; have K1 := hide k1
      have j2 : (j : Int) < (ec.length : Int) := by omega
      have j4 : (0 : Int) ≤ (j : Int) := by omega
      replace hxj := hide hxj; replace h1 := hide h1; replace hx := hide hx
      clear o3 k0 k1
      have o3 := hx.out.cells O3.out; have k0 := hx.out.cells K0.out; have k1 := hx.out.cells K1.out
      have hcall := hide (resourceOf (x.2 : Int) wr (by omega) (by omega))
      go_wp2_with fail
      refine hcall.out.mono ?_
      rintro e w4 ⟨rfl, he4⟩
      have hx4 := hide (hx.out.trans he4)
      clear o3 k0 k1 hcall
      have o3 := hx4.out.cells O3.out; have k0 := hx4.out.cells K0.out; have k1 := hx4.out.cells K1.out
      replace he4 := hide he4
      go_wp2_with fail
      clear o3 k0 k1
      have X5 : Ext w (w4.alloc (.cells #[.string (textD x.2), .string ⟨#[]⟩, .slice none 0 0, .slice none 0 0] 40)) := hx4.out.alloc _
      obtain ⟨w5, hw5⟩ : ∃ w5 : World, w5 = w4.alloc (.cells #[.string (textD x.2), .string ⟨#[]⟩, .slice none 0 0, .slice none 0 0] 40) := ⟨_, rfl⟩
      rw [← hw5] at X5
      have hM : w5.heap[w4.heap.size]? = some (.cells #[.string (textD x.2), .string ⟨#[]⟩, .slice none 0 0, .slice none 0 0] 40 (0, 0)) := by rw [hw5]; exact heap_alloc_new w4 _
      replace X5 := hide X5; replace hM := hide hM; replace hw5 := hide hw5
      go_loopw [5] (fun i w2 => ∃ q : Nat, q ≤ n ∧ i = .int .i64 q ∧ Ext w5 w2) (fun i _ => n - (intOf i).toNat)
      case atStart => exact ⟨0, Nat.zero_le _, rfl, by rw [hw5.out]; exact Ext.refl _⟩
      case round =>
        obtain ⟨q, hq, rfl, e2⟩ := hrel
        have E2 : Ext w wr := X5.out.trans e2
        have o3 := E2.cells O3.out
        have k0 := E2.cells K0.out
        have k1 := E2.cells K1.out
        by_cases hltq : q < n
        · rcases h5 with h5 | ⟨g', c, rfl, hg', ht⟩
          · omega
          have c0 := E2.cells (mark_cell (r := 0) (sz := 4) (m := mkQ x.2) (u := .string (textD x.2)) rfl hg' ht hltq rfl)
          have c1 := E2.cells (mark_cell (r := 1) (sz := 4) (m := mkQ x.2) (u := .string ⟨#[]⟩) rfl hg' ht hltq rfl)
          have c2 := E2.cells (mark_cell (r := 2) (sz := 4) (m := mkQ x.2) (u := .slice none 0 0) rfl hg' ht hltq rfl)
          have c3 := E2.cells (mark_cell (r := 3) (sz := 4) (m := mkQ x.2) (u := .slice none 0 0) rfl hg' ht hltq rfl)
          rw [Nat.add_zero] at c0
          obtain ⟨d0, d1, d2, d3⟩ := four_cells (ext_heap e2 hM.out)
          have i2 : (q : Int) < (n : Int) := by omega
          have i4 : (0 : Int) ≤ (q : Int) := by omega
          have hsame := hide (sameRes (.slice none 0 0) (.slice none 0 0) (.slice none 0 0) (.slice none 0 0) (mrkR x.2) wr.drew (mrkR_resV _ _) (mrkR_resV _ _))
          replace E2 := hide E2; replace e2 := hide e2; replace hg' := hide hg'; replace ht := hide ht
          go_wp2_with fail
          go_region_held3 (fun w' => w'.cell? ⟨O, 3, none⟩ = some (.slice (some ⟨g, 0, none⟩) ec.length ce) ∧ w'.cell? ⟨g, j * 2, none⟩ = some (.slice (some ⟨g', 0, none⟩) n ca) ∧ w'.cell? ⟨g', q * 4, none⟩ = some (.string (textD x.2)) ∧ w'.cell? ⟨g', q * 4 + 1, none⟩ = some (.string ⟨#[]⟩) ∧ w'.cell? ⟨g', q * 4 + 2, none⟩ = some (.slice none 0 0) ∧ w'.cell? ⟨g', q * 4 + 3, none⟩ = some (.slice none 0 0) ∧ w'.cell? ⟨w4.heap.size, 0, none⟩ = some (.string (textD x.2)) ∧ w'.cell? ⟨w4.heap.size, 1, none⟩ = some (.string ⟨#[]⟩) ∧ w'.cell? ⟨w4.heap.size, 2, none⟩ = some (.slice none 0 0) ∧ w'.cell? ⟨w4.heap.size, 3, none⟩ = some (.slice none 0 0)) (go_keep)
            ((go_at_call 42; refine hsame.out.mono ?_; rintro e w7 ⟨rfl, he7⟩; go_must (have p0 := he7.cells (p := ⟨O, 3, none⟩) (v := .slice (some ⟨g, 0, none⟩) ec.length ce) (by simpa using o3); have p1 := he7.cells (p := ⟨g, j * 2, none⟩) (v := .slice (some ⟨g', 0, none⟩) n ca) (by simpa using k0); have p2 := he7.cells (p := ⟨g', q * 4, none⟩) (v := .string (textD x.2)) (by simpa using c0); have p3 := he7.cells (p := ⟨g', q * 4 + 1, none⟩) (v := .string ⟨#[]⟩) (by simpa using c1); have p4 := he7.cells (p := ⟨g', q * 4 + 2, none⟩) (v := .slice none 0 0) (by simpa using c2); have p5 := he7.cells (p := ⟨g', q * 4 + 3, none⟩) (v := .slice none 0 0) (by simpa using c3); have p6 := he7.cells (p := ⟨w4.heap.size, 0, none⟩) (v := .string (textD x.2)) (by simpa using d0); have p7 := he7.cells (p := ⟨w4.heap.size, 1, none⟩) (v := .string ⟨#[]⟩) (by simpa using d1); have p8 := he7.cells (p := ⟨w4.heap.size, 2, none⟩) (v := .slice none 0 0) (by simpa using d2); have p9 := he7.cells (p := ⟨w4.heap.size, 3, none⟩) (v := .slice none 0 0) (by simpa using d3)); replace he7 := hide he7))
          go_wp2_with fail
          go_roundw
          case rel => exact ⟨q + 1, by omega, by go_num, (e2.out.drew).trans he7.out⟩
          case measure => simp [intOf]; omega
        · replace E2 := hide E2; replace e2 := hide e2; replace h5 := hide h5
          go_wp2_with fail
          go_roundw
          case rel => exact ⟨j + 1, by omega, by go_num, E2.out⟩
          case measure => simp [intOf]; omega
    · have o4 := hx.cells O4.out
      have o5 := hx.cells O5.out
      have hxw := hide hx
      clear hx
      obtain ⟨wo, rfl⟩ : ∃ wo : World, wo = wr := ⟨_, rfl⟩
      go_wp2_with fail
      go_loop [7] (fun i => i = .int .i64 0) (fun _ => 0)
      case atStart => rfl
      case round =>
        subst hrel
        go_wp2_with fail
        go_loop [11] (fun i => i = .int .i64 0) (fun _ => 0)
        case atStart => rfl
        case round =>
          subst hrel
          go_wp2_with fail
          refine (bookLooks B O _ va vi _ _ _ ea ei (hb.out.ext hxw.out) he hf (fun y hy => (hA.out y hy).ext hxw.out) (fun y hy => (hI.out y hy).ext hxw.out)).mono ?_
          rintro e w1 ⟨rfl, he1⟩
          replace he1 := hide he1
          go_wp2_with fail
          go_ret
          exact ⟨rfl, hxw.out.trans he1.out⟩
end Go.Proofs.YtnpbobpaojebeaaGreat
