/-
  The books are looked at, where there are lists of records, too.
-/
import Derived.Test.YtjefheonhafboaaLooks
import Derived.Test.YtjefheonhafboaaBookD
import Derived.Test.YtjefheonhafboaaJ4
namespace Go.Proofs.Ytjefheonhafboaa
open Go.RowKit

theorem noResV (w : World) : ResV w (.slice none 0 0) (.slice none 0 0) noRes := (OwnR.nil 0 w).resV okS_nil

set_option maxRecDepth 100000 in
set_option maxHeartbeats 3200000 in
theorem booksLookC (B O : Nat) (w : World) (va vi vc : Value) (ea ei ec : List (Value × Nat)) (hb : BkAt B w O va vi (.slice none 0 0) (.slice none 0 0) (.slice none 0 0) vc ea ei) (hc : w.ownsRow B 62 2 vc ec.length (cellsE ec)) (he : ea.length ≤ 3000000) (hf : ei.length ≤ 3000000) (hg : ec.length ≤ 1000) (hA : ∀ x ∈ ea, MarkG 88 4 mkA w x) (hI : ∀ x ∈ ei, MarkG 44 2 mkI w x) (hC : ∀ x ∈ ec, MarkG 52 8 mkC w x) :
    Calls Try.prog 8 #[.pointer (some ⟨O, 0, none⟩)] w fun e w' => e = .returned (.bool true) ∧ Ext w w' := by
  obtain ⟨pe, ce, rfl⟩ := ownsRow_form hc
  obtain ⟨o0, o1, o2, o3, o4, o5⟩ := six_cells hb.o
  have O5 := hide o5
  replace hb := hide hb; replace hA := hide hA; replace hI := hide hI; replace hC := hide hC; replace hc := hide hc
  go_enter Try.func8, Try.ntmps8
  go_wp2_with fail
  go_loop [3] (fun i => i = .int .i64 0) (fun _ => 0)
  case atStart => rfl
  case round =>
    subst hrel
    go_wp2_with fail
    go_loop [7] (fun i => i = .int .i64 0) (fun _ => 0)
    case atStart => rfl
    case round =>
      subst hrel
      go_wp2_with fail
      clear o0 o1 o2 o3 o4 o5
      go_loopw [11] (fun i wr => ∃ j : Nat, j ≤ ec.length ∧ i = .int .i64 j ∧ Ext w wr) (fun i _ => ec.length - (intOf i).toNat)
      case atStart => exact ⟨0, Nat.zero_le _, rfl, Ext.refl _⟩
      case round =>
        obtain ⟨j, hj, rfl, hx⟩ := hrel
        have o5 := hx.cells O5.out
        by_cases hlt : j < ec.length
        · obtain ⟨x, hxj⟩ := some_of_lt hlt
          obtain ⟨g, cap, hv, k0, k1⟩ := ent_cells hc.out hxj
          obtain ⟨rfl, rfl⟩ : pe = some ⟨g, 0, none⟩ ∧ ce = cap := by simpa using hv
          clear hv
          obtain ⟨hk, pa, n, ca, h1, h2, h3, h4, h5⟩ := hC.out x (List.mem_of_getElem? hxj)
          rw [h1] at k0
          have K0 := hide k0; have K1 := hide k1
          have j2 : (j : Int) < (ec.length : Int) := by omega
          have j4 : (0 : Int) ≤ (j : Int) := by omega
          replace hxj := hide hxj; replace h1 := hide h1; replace hx := hide hx
          clear o5 k0 k1
          have o5 := hx.out.cells O5.out; have k0 := hx.out.cells K0.out; have k1 := hx.out.cells K1.out
          go_wp2_with fail
          clear o5 k0 k1
          obtain ⟨wo, rfl⟩ : ∃ wo : World, wo = wr := ⟨_, rfl⟩
          go_loopw [12] (fun i w2 => ∃ q : Nat, q ≤ n ∧ i = .int .i64 q ∧ Ext wo w2) (fun i _ => n - (intOf i).toNat)
          case atStart => exact ⟨0, Nat.zero_le _, rfl, Ext.refl _⟩
          case round =>
            obtain ⟨q, hq, rfl, e2⟩ := hrel
            have E2 : Ext w wr := hx.out.trans e2
            have o5 := E2.cells O5.out
            have k0 := E2.cells K0.out
            have k1 := E2.cells K1.out
            by_cases hltq : q < n
            · rcases h5 with h5 | ⟨g', c, rfl, hg, ht⟩
              · omega
              have c0 := E2.cells (mark_cell (r := 0) (sz := 8) (m := mkC x.2) (u := .int .i64 (-9 - (x.2 : Int))) rfl hg ht hltq rfl)
              have c1 := E2.cells (mark_cell (r := 1) (sz := 8) (m := mkC x.2) (u := .int .i64 0) rfl hg ht hltq rfl)
              have c2 := E2.cells (mark_cell (r := 2) (sz := 8) (m := mkC x.2) (u := .int .i64 0) rfl hg ht hltq rfl)
              have c3 := E2.cells (mark_cell (r := 3) (sz := 8) (m := mkC x.2) (u := .int .i64 0) rfl hg ht hltq rfl)
              have c4 := E2.cells (mark_cell (r := 4) (sz := 8) (m := mkC x.2) (u := .string ⟨#[]⟩) rfl hg ht hltq rfl)
              have c5 := E2.cells (mark_cell (r := 5) (sz := 8) (m := mkC x.2) (u := .string ⟨#[]⟩) rfl hg ht hltq rfl)
              have c6 := E2.cells (mark_cell (r := 6) (sz := 8) (m := mkC x.2) (u := .slice none 0 0) rfl hg ht hltq rfl)
              have c7 := E2.cells (mark_cell (r := 7) (sz := 8) (m := mkC x.2) (u := .slice none 0 0) rfl hg ht hltq rfl)
              rw [Nat.add_zero] at c0
              have i2 : (q : Int) < (n : Int) := by omega
              have i4 : (0 : Int) ≤ (q : Int) := by omega
              replace E2 := hide E2; replace e2 := hide e2; replace hg := hide hg; replace ht := hide ht
              go_wp2_with fail
              refine (sameRes (.slice none 0 0) (.slice none 0 0) (.slice none 0 0) (.slice none 0 0) noRes _ (noResV _) (noResV _)).mono ?_
              rintro e w1 ⟨rfl, he1⟩
              have X1 := hide (((Ext.refl wr).alloc _).trans he1)
              have m0 := he1.cells (p := ⟨wr.heap.size, 0, none⟩) (v := .int .i64 (-9 - (x.2 : Int))) (by simp [go_sem])
              clear he1 o5 k0 k1 c0 c1 c2 c3 c4 c5 c6 c7
              have o5 := (E2.out.trans X1.out).cells O5.out
              have k0 := (E2.out.trans X1.out).cells K0.out
              have k1 := (E2.out.trans X1.out).cells K1.out
              go_wp2_with fail
              go_quiet (fail)
              go_wp2_with fail
              go_roundw
              case rel => exact ⟨q + 1, by omega, by go_num, (e2.out.trans X1.out).drewN _⟩
              case measure => simp [intOf]; omega
            · replace E2 := hide E2; replace e2 := hide e2; replace h5 := hide h5
              go_wp2_with fail
              go_roundw
              case rel => exact ⟨j + 1, by omega, by go_num, E2.out⟩
              case measure => simp [intOf]; omega
        · have hxw := hide hx
          clear hx
          go_wp2_with fail
          refine (bookLooks B O _ va vi _ _ _ ea ei (hb.out.ext hxw.out) he hf (fun y hy => (hA.out y hy).ext hxw.out) (fun y hy => (hI.out y hy).ext hxw.out)).mono ?_
          rintro e w1 ⟨rfl, he1⟩
          replace he1 := hide he1
          go_wp2_with fail
          go_ret
          exact ⟨rfl, hxw.out.trans he1.out⟩
end Go.Proofs.Ytjefheonhafboaa
