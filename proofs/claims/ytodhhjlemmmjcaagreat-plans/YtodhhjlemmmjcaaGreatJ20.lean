/-
  A key is looked for among the rows (table Rs).
-/
/-
  A key is looked for among the rows (table St).
-/
import Derived.Test.YtodhhjlemmmjcaaGreatInsRs
import Derived.Test.YtodhhjlemmmjcaaGreatJ12
import Derived.Laws.BitsAllLaws
import Derived.Test.YtodhhjlemmmjcaaGreatInsSt
namespace Go.Proofs.YtodhhjlemmmjcaaGreat
open Go.RowKit

theorem rowsRs_in {B : Nat} {w : World} {pa : Option Addr} {n cap : Nat} {rs : List RowRs} (h : RowsRs B w (.slice pa n cap) rs) : n = rs.length ∧ n ≤ cap ∧ cap ≤ maxLen ∧ (rs = [] ∨ ∃ g, pa = some ⟨g, 0, none⟩ ∧ ∀ (i : Nat) x, rs[i]? = some x → ∀ r u, (cRowRs x)[r]? = some u → w.cell? ⟨g, i * 6 + r, none⟩ = some u) := by
  rcases h.2 with ⟨h1, h2⟩ | ⟨g, c, cur, h1, _, hg, hc, hm, hs, ht⟩
  · cases h1
    exact ⟨h2.symm, Nat.le_refl _, by unfold maxLen; omega, .inl (List.eq_nil_of_length_eq_zero h2)⟩
  · cases h1
    refine ⟨rfl, hc, hm, .inr ⟨g, rfl, fun i x hx r u hu => ?_⟩⟩
    have hlt : i < rs.length := (List.getElem?_eq_some_iff.1 hx).1
    have hr : r < 6 := (List.getElem?_eq_some_iff.1 hu).1
    have h1 : (cellsG cRowRs rs)[i * 6 + r]? = (cRowRs x)[r]? := flat_get cRowRs_len hx hr
    rw [← hu, ← h1, ← ht, List.getElem?_take, if_pos (by omega)]
    simp [World.cell?, hg]

set_option maxRecDepth 100000 in
set_option maxHeartbeats 800000 in
theorem findCmpRs (x : RowRs) (a : IDd) (p t : Nat) (w : World) (hp : w.cell? ⟨p, 0, none⟩ = some (.pointer (some ⟨t, 0, none⟩))) (ht : w.cell? ⟨t, 0, none⟩ = some (.func (.func 53) #[] #[])) :
    Calls Tryz.prog 105 #[.agg #[.string x.key.kind, .string x.key.name, .string x.val.x.id.kind, .string x.val.x.id.name, .slice x.val.a2 x.val.n2 x.val.p2, .slice x.val.a3 x.val.n3 x.val.p3], .agg #[.string a.kind, .string a.name], .pointer (some ⟨p, 0, none⟩)] w fun e w' => e = .returned (.int .i64 (cmpI x.key a)) ∧ Ext w w' := by
  have hpl : p < w.heap.size := World.block_lt_of_cell? w _ hp
  have htl : t < w.heap.size := World.block_lt_of_cell? w _ ht
  have g0 := World.cell?_alloc_past (w := w.alloc (.cells #[.string x.key.kind, .string x.key.name, .string x.val.x.id.kind, .string x.val.x.id.name, .slice x.val.a2 x.val.n2 x.val.p2, .slice x.val.a3 x.val.n3 x.val.p3] 135)) (.cells #[.string a.kind, .string a.name] 52) p 0 (by simp; omega)
  have g1 := World.cell?_alloc_past (w := w.alloc (.cells #[.string x.key.kind, .string x.key.name, .string x.val.x.id.kind, .string x.val.x.id.name, .slice x.val.a2 x.val.n2 x.val.p2, .slice x.val.a3 x.val.n3 x.val.p3] 135)) (.cells #[.string a.kind, .string a.name] 52) t 0 (by simp; omega)
  rw [World.cell?_alloc_past (w := w) _ p 0 hpl, hp] at g0
  rw [World.cell?_alloc_past (w := w) _ t 0 htl, ht] at g1
  replace hp := hide hp; replace ht := hide ht; replace hpl := hide hpl; replace htl := hide htl
  go_enter Tryz.func105, Tryz.ntmps105
  go_wp2_with fail
  go_region_held3 (fun w' => w'.cell? ⟨p, 0, none⟩ = some (.pointer (some ⟨t, 0, none⟩)) ∧ w'.cell? ⟨t, 0, none⟩ = some (.func (.func 53) #[] #[]) ∧ w'.cell? ⟨w.heap.size, 0, none⟩ = some (.string x.key.kind) ∧ w'.cell? ⟨w.heap.size, 1, none⟩ = some (.string x.key.name) ∧ w'.cell? ⟨w.heap.size + 1, 0, none⟩ = some (.string a.kind) ∧ w'.cell? ⟨w.heap.size + 1, 1, none⟩ = some (.string a.name)) (go_keep)
    ((go_at_call 53; refine (compareIDs x.key a _).mono ?_; rintro e w1 ⟨rfl, he1⟩; go_must (have q0 := he1.cells (p := ⟨p, 0, none⟩) (by simp [g0]; rfl); have q1 := he1.cells (p := ⟨t, 0, none⟩) (by simp [g1]; rfl); have qa0 := he1.cells (p := ⟨w.heap.size, 0, none⟩) (v := .string x.key.kind) (by simp [go_sem]); have qa1 := he1.cells (p := ⟨w.heap.size, 1, none⟩) (v := .string x.key.name) (by simp [go_sem]); have qb0 := he1.cells (p := ⟨w.heap.size + 1, 0, none⟩) (v := .string a.kind) (by simp [go_sem]); have qb1 := he1.cells (p := ⟨w.heap.size + 1, 1, none⟩) (v := .string a.name) (by simp [go_sem])); replace he1 := hide he1))
  go_wp2
  go_ret
  exact ⟨rfl, (((Ext.refl _).alloc _).alloc _).drew.trans he1.out⟩

/-- What the look for a key answers. -/
def SrcIsRs (w : World) (rs : List RowRs) (a : IDd) (e : Ending) (w' : World) : Prop :=
  ∃ (i : Nat) (b : Bool), e = .returned (.tuple #[.int .i64 i, .bool b]) ∧ i ≤ rs.length ∧ Hid (StandsG cmpI RowRs.key rs a i) ∧ Hid (b = true ↔ HasK RowRs.key rs a) ∧ Hid (b = true → ∃ x, rs[i]? = some x ∧ x.key = a) ∧ Hid (Ext w w')

set_option maxRecDepth 100000 in
set_option maxHeartbeats 3200000 in
theorem searchRs (B : Nat) (v : Value) (rs : List RowRs) (a : IDd) (p t : Nat) (w : World) (hv : RowsRs B w v rs) (hu : UpG cmpI RowRs.key rs) (hn : rs.length ≤ 1000000)
    (hp : w.cell? ⟨p, 0, none⟩ = some (.pointer (some ⟨t, 0, none⟩))) (ht : w.cell? ⟨t, 0, none⟩ = some (.func (.func 53) #[] #[])) :
    Calls Tryz.prog 104 #[v, .agg #[.string a.kind, .string a.name], .func (.func 105) #[] #[.pointer (some ⟨p, 0, none⟩)]] w (SrcIsRs w rs a) := by
  obtain ⟨pa, cap, rfl⟩ := ownsRow_form hv
  obtain ⟨-, hc1, hc2, hin⟩ := rowsRs_in hv
  unfold maxLen at hc2
  replace hin := hide hin; replace hp := hide hp; replace ht := hide ht; replace hv := hide hv; replace hu := hide hu
  go_enter Tryz.func104, Tryz.ntmps104
  go_wp2_with fail
  go_loopw [9, 10] (fun i j wr => ∃ i' j' : Nat, i' ≤ j' ∧ j' ≤ rs.length ∧ i = .int .i64 i' ∧ j = .int .i64 j' ∧ Hid (∀ (k : Nat) x, k < i' → rs[k]? = some x → cmpI x.key a < 0) ∧ Hid (∀ (k : Nat) x, j' ≤ k → rs[k]? = some x → 0 ≤ cmpI x.key a) ∧ Hid (Ext (w.alloc (.cells #[.string a.kind, .string a.name] 52)) wr)) (fun i j _ => (intOf j).toNat - (intOf i).toNat)
  case atStart => exact ⟨0, rs.length, Nat.zero_le _, Nat.le_refl _, rfl, rfl, fun _ _ h => absurd h (by omega), fun k x h hx => absurd (List.getElem?_eq_some_iff.1 hx).1 (by omega), Ext.refl _⟩
  case round =>
    obtain ⟨i, j, hij, hj, rfl, rfl, hA, hB, hx⟩ := hrel
    have X0 := hide (((Ext.refl w).alloc _).trans hx.out)
    have m0 := hx.out.cells (p := ⟨w.heap.size, 0, none⟩) (v := .string a.kind) (by simp [go_sem])
    have m1 := hx.out.cells (p := ⟨w.heap.size, 1, none⟩) (v := .string a.name) (by simp [go_sem])
    have hp1 := hide (X0.out.drew.cells hp.out)
    have ht1 := hide (X0.out.drew.cells ht.out)
    by_cases hlt : i < j
    · obtain ⟨h, hh⟩ : ∃ h, h = (i + j) / 2 := ⟨_, rfl⟩
      have e1 : IntKind.u64.wrap ((i : Int) + (j : Int)) = ((i + j : Nat) : Int) := by rw [IntKind.wrap_u64]; omega
      obtain ⟨x, hxh⟩ := some_of_lt (show h < rs.length by omega)
      rcases hin.out with hnil | ⟨g, rfl, hI⟩
      · rw [hnil] at hj; simp at hj; omega
      replace hI := hI h x hxh
      have k0 := X0.out.cells (hI 0 _ rfl)
      have k1 := X0.out.cells (hI 1 _ rfl)
      have k2 := X0.out.cells (hI 2 _ rfl)
      have k3 := X0.out.cells (hI 3 _ rfl)
      have k4 := X0.out.cells (hI 4 _ rfl)
      have k5 := X0.out.cells (hI 5 _ rfl)
      rw [Nat.add_zero] at k0
      have h2 : (h : Int) < (rs.length : Int) := by omega
      have h3 : (0 : Int) ≤ (h : Int) := by omega
      have h4 : ((i : Int) + (j : Int)) / 2 = (h : Int) := by omega
      have hlo : i ≤ h := by omega
      have hhi : h < j := by omega
      replace hI := hide hI; replace hxh := hide hxh; replace hh := hide hh
      go_wp2_with fail
      go_region_held3 (fun w' => w'.cell? ⟨g, h * 6, none⟩ = some (.string x.key.kind) ∧ w'.cell? ⟨g, h * 6 + 1, none⟩ = some (.string x.key.name) ∧ w'.cell? ⟨g, h * 6 + 2, none⟩ = some (.string x.val.x.id.kind) ∧ w'.cell? ⟨g, h * 6 + 3, none⟩ = some (.string x.val.x.id.name) ∧ w'.cell? ⟨g, h * 6 + 4, none⟩ = some (.slice x.val.a2 x.val.n2 x.val.p2) ∧ w'.cell? ⟨g, h * 6 + 5, none⟩ = some (.slice x.val.a3 x.val.n3 x.val.p3) ∧ w'.cell? ⟨w.heap.size, 0, none⟩ = some (.string a.kind) ∧ w'.cell? ⟨w.heap.size, 1, none⟩ = some (.string a.name)) (go_keep)
        ((go_at_call 105; refine (findCmpRs x a p t wr.drew hp1.out ht1.out).mono ?_; rintro e w1 ⟨rfl, he1⟩; go_must (have qr0 := he1.cells (p := ⟨g, h * 6, none⟩) (v := .string x.key.kind) (by simpa using k0); have qr1 := he1.cells (p := ⟨g, h * 6 + 1, none⟩) (v := .string x.key.name) (by simpa using k1); have qr2 := he1.cells (p := ⟨g, h * 6 + 2, none⟩) (v := .string x.val.x.id.kind) (by simpa using k2); have qr3 := he1.cells (p := ⟨g, h * 6 + 3, none⟩) (v := .string x.val.x.id.name) (by simpa using k3); have qr4 := he1.cells (p := ⟨g, h * 6 + 4, none⟩) (v := .slice x.val.a2 x.val.n2 x.val.p2) (by simpa using k4); have qr5 := he1.cells (p := ⟨g, h * 6 + 5, none⟩) (v := .slice x.val.a3 x.val.n3 x.val.p3) (by simpa using k5); have qk0 := he1.cells (p := ⟨w.heap.size, 0, none⟩) (v := .string a.kind) (by simpa using m0); have qk1 := he1.cells (p := ⟨w.heap.size, 1, none⟩) (v := .string a.name) (by simpa using m1)); replace he1 := hide he1))
      by_cases hb : cmpI x.key a < 0
      · go_wp2_with fail
        go_roundw
        case rel => exact ⟨h + 1, j, by omega, hj, by go_num, rfl, hu.out.stands ordI hxh.out hb, hB, hx.out.drew.trans he1.out⟩
        case measure => simp [intOf]; omega
      · have hb' : ¬ cmpI x.key a < 0 := hb
        replace hb' := hide hb'
        go_wp2_with fail
        go_roundw
        case rel => exact ⟨i, h, by omega, by omega, rfl, rfl, hA, hu.out.stands' ordI hxh.out (by first | exact hb'.out | exact Int.not_lt.2 hb'.out), hx.out.drew.trans he1.out⟩
        case measure => simp [intOf]; omega
    · obtain rfl : i = j := by omega
      have hst : Hid (StandsG cmpI RowRs.key rs a i) := ⟨hj, hA.out, fun k x hk hx => Int.not_lt.2 (hB.out k x hk hx)⟩
      by_cases hend : i < rs.length
      · obtain ⟨x, hxh⟩ := some_of_lt hend
        rcases hin.out with hnil | ⟨g, rfl, hI⟩
        · rw [hnil] at hend; simp at hend
        replace hI := hI i x hxh
        have k0 := X0.out.cells (hI 0 _ rfl)
        have k1 := X0.out.cells (hI 1 _ rfl)
        have k2 := X0.out.cells (hI 2 _ rfl)
        have k3 := X0.out.cells (hI 3 _ rfl)
        have k4 := X0.out.cells (hI 4 _ rfl)
        have k5 := X0.out.cells (hI 5 _ rfl)
        rw [Nat.add_zero] at k0
        have h2 : (i : Int) < (rs.length : Int) := by omega
        have h3 : (0 : Int) ≤ (i : Int) := by omega
        replace hI := hide hI; replace hxh := hide hxh
        go_wp2_with fail
        go_region_held3 (fun w' => w'.cell? ⟨g, i * 6, none⟩ = some (.string x.key.kind) ∧ w'.cell? ⟨g, i * 6 + 1, none⟩ = some (.string x.key.name) ∧ w'.cell? ⟨g, i * 6 + 2, none⟩ = some (.string x.val.x.id.kind) ∧ w'.cell? ⟨g, i * 6 + 3, none⟩ = some (.string x.val.x.id.name) ∧ w'.cell? ⟨g, i * 6 + 4, none⟩ = some (.slice x.val.a2 x.val.n2 x.val.p2) ∧ w'.cell? ⟨g, i * 6 + 5, none⟩ = some (.slice x.val.a3 x.val.n3 x.val.p3) ∧ w'.cell? ⟨w.heap.size, 0, none⟩ = some (.string a.kind) ∧ w'.cell? ⟨w.heap.size, 1, none⟩ = some (.string a.name)) (go_keep)
          ((go_at_call 105; refine (findCmpRs x a p t wr.drew hp1.out ht1.out).mono ?_; rintro e w1 ⟨rfl, he1⟩; go_must (have qr0 := he1.cells (p := ⟨g, i * 6, none⟩) (v := .string x.key.kind) (by simpa using k0); have qr1 := he1.cells (p := ⟨g, i * 6 + 1, none⟩) (v := .string x.key.name) (by simpa using k1); have qr2 := he1.cells (p := ⟨g, i * 6 + 2, none⟩) (v := .string x.val.x.id.kind) (by simpa using k2); have qr3 := he1.cells (p := ⟨g, i * 6 + 3, none⟩) (v := .string x.val.x.id.name) (by simpa using k3); have qr4 := he1.cells (p := ⟨g, i * 6 + 4, none⟩) (v := .slice x.val.a2 x.val.n2 x.val.p2) (by simpa using k4); have qr5 := he1.cells (p := ⟨g, i * 6 + 5, none⟩) (v := .slice x.val.a3 x.val.n3 x.val.p3) (by simpa using k5); have qk0 := he1.cells (p := ⟨w.heap.size, 0, none⟩) (v := .string a.kind) (by simpa using m0); have qk1 := he1.cells (p := ⟨w.heap.size, 1, none⟩) (v := .string a.name) (by simpa using m1)); replace he1 := hide he1))
        go_wp2
        go_ret2
        refine ⟨i, cmpI x.key a == 0, rfl, hj, hst, ?_, ?_, X0.out.drew.trans he1.out⟩
        · show _ ↔ _
          constructor
          · intro h; exact StandsG.there ordI hxh.out (by simpa using h)
          · intro h
            by_cases e : cmpI x.key a = 0
            · simpa using e
            · exact absurd h (hst.out.gone ordI hu.out fun y hy => by rw [hxh.out] at hy; cases hy; exact e)
        · intro h
          exact ⟨x, hxh.out, ordI.zero.1 (by simpa using h)⟩
      · have h2 : ¬ (i : Int) < (rs.length : Int) := by omega
        go_wp2_with fail
        go_quiet (fail)
        go_wp2
        go_ret2
        refine ⟨i, false, rfl, hj, hst, ?_, ?_, X0.out.drewN _⟩
        · show _ ↔ _
          constructor
          · intro h; cases h
          · intro h
            exact absurd h (hst.out.gone ordI hu.out fun y hy => absurd (List.getElem?_eq_some_iff.1 hy).1 (by omega))
        · intro h; cases h
end Go.Proofs.YtodhhjlemmmjcaaGreat

namespace Go.Proofs.YtodhhjlemmmjcaaGreat
open Go.RowKit

theorem rowsSt_in {B : Nat} {w : World} {pa : Option Addr} {n cap : Nat} {rs : List RowSt} (h : RowsSt B w (.slice pa n cap) rs) : n = rs.length ∧ n ≤ cap ∧ cap ≤ maxLen ∧ (rs = [] ∨ ∃ g, pa = some ⟨g, 0, none⟩ ∧ ∀ (i : Nat) x, rs[i]? = some x → ∀ r u, (cRowSt x)[r]? = some u → w.cell? ⟨g, i * 7 + r, none⟩ = some u) := by
  rcases h.2 with ⟨h1, h2⟩ | ⟨g, c, cur, h1, _, hg, hc, hm, hs, ht⟩
  · cases h1
    exact ⟨h2.symm, Nat.le_refl _, by unfold maxLen; omega, .inl (List.eq_nil_of_length_eq_zero h2)⟩
  · cases h1
    refine ⟨rfl, hc, hm, .inr ⟨g, rfl, fun i x hx r u hu => ?_⟩⟩
    have hlt : i < rs.length := (List.getElem?_eq_some_iff.1 hx).1
    have hr : r < 7 := (List.getElem?_eq_some_iff.1 hu).1
    have h1 : (cellsG cRowSt rs)[i * 7 + r]? = (cRowSt x)[r]? := flat_get cRowSt_len hx hr
    rw [← hu, ← h1, ← ht, List.getElem?_take, if_pos (by omega)]
    simp [World.cell?, hg]

set_option maxRecDepth 100000 in
set_option maxHeartbeats 800000 in
theorem findCmpSt (x : RowSt) (a : IDd) (p t : Nat) (w : World) (hp : w.cell? ⟨p, 0, none⟩ = some (.pointer (some ⟨t, 0, none⟩))) (ht : w.cell? ⟨t, 0, none⟩ = some (.func (.func 53) #[] #[])) :
    Calls Tryz.prog 91 #[.agg #[.string x.key.kind, .string x.key.name, .int .i64 x.val.op, .string x.val.r.x.id.kind, .string x.val.r.x.id.name, .slice x.val.r.a2 x.val.r.n2 x.val.r.p2, .slice x.val.r.a3 x.val.r.n3 x.val.r.p3], .agg #[.string a.kind, .string a.name], .pointer (some ⟨p, 0, none⟩)] w fun e w' => e = .returned (.int .i64 (cmpI x.key a)) ∧ Ext w w' := by
  have hpl : p < w.heap.size := World.block_lt_of_cell? w _ hp
  have htl : t < w.heap.size := World.block_lt_of_cell? w _ ht
  have g0 := World.cell?_alloc_past (w := w.alloc (.cells #[.string x.key.kind, .string x.key.name, .int .i64 x.val.op, .string x.val.r.x.id.kind, .string x.val.r.x.id.name, .slice x.val.r.a2 x.val.r.n2 x.val.r.p2, .slice x.val.r.a3 x.val.r.n3 x.val.r.p3] 140)) (.cells #[.string a.kind, .string a.name] 52) p 0 (by simp; omega)
  have g1 := World.cell?_alloc_past (w := w.alloc (.cells #[.string x.key.kind, .string x.key.name, .int .i64 x.val.op, .string x.val.r.x.id.kind, .string x.val.r.x.id.name, .slice x.val.r.a2 x.val.r.n2 x.val.r.p2, .slice x.val.r.a3 x.val.r.n3 x.val.r.p3] 140)) (.cells #[.string a.kind, .string a.name] 52) t 0 (by simp; omega)
  rw [World.cell?_alloc_past (w := w) _ p 0 hpl, hp] at g0
  rw [World.cell?_alloc_past (w := w) _ t 0 htl, ht] at g1
  replace hp := hide hp; replace ht := hide ht; replace hpl := hide hpl; replace htl := hide htl
  go_enter Tryz.func91, Tryz.ntmps91
  go_wp2_with fail
  go_region_held3 (fun w' => w'.cell? ⟨p, 0, none⟩ = some (.pointer (some ⟨t, 0, none⟩)) ∧ w'.cell? ⟨t, 0, none⟩ = some (.func (.func 53) #[] #[]) ∧ w'.cell? ⟨w.heap.size, 0, none⟩ = some (.string x.key.kind) ∧ w'.cell? ⟨w.heap.size, 1, none⟩ = some (.string x.key.name) ∧ w'.cell? ⟨w.heap.size + 1, 0, none⟩ = some (.string a.kind) ∧ w'.cell? ⟨w.heap.size + 1, 1, none⟩ = some (.string a.name)) (go_keep)
    ((go_at_call 53; refine (compareIDs x.key a _).mono ?_; rintro e w1 ⟨rfl, he1⟩; go_must (have q0 := he1.cells (p := ⟨p, 0, none⟩) (by simp [g0]; rfl); have q1 := he1.cells (p := ⟨t, 0, none⟩) (by simp [g1]; rfl); have qa0 := he1.cells (p := ⟨w.heap.size, 0, none⟩) (v := .string x.key.kind) (by simp [go_sem]); have qa1 := he1.cells (p := ⟨w.heap.size, 1, none⟩) (v := .string x.key.name) (by simp [go_sem]); have qb0 := he1.cells (p := ⟨w.heap.size + 1, 0, none⟩) (v := .string a.kind) (by simp [go_sem]); have qb1 := he1.cells (p := ⟨w.heap.size + 1, 1, none⟩) (v := .string a.name) (by simp [go_sem])); replace he1 := hide he1))
  go_wp2
  go_ret
  exact ⟨rfl, (((Ext.refl _).alloc _).alloc _).drew.trans he1.out⟩

/-- What the look for a key answers. -/
def SrcIsSt (w : World) (rs : List RowSt) (a : IDd) (e : Ending) (w' : World) : Prop :=
  ∃ (i : Nat) (b : Bool), e = .returned (.tuple #[.int .i64 i, .bool b]) ∧ i ≤ rs.length ∧ Hid (StandsG cmpI RowSt.key rs a i) ∧ Hid (b = true ↔ HasK RowSt.key rs a) ∧ Hid (b = true → ∃ x, rs[i]? = some x ∧ x.key = a) ∧ Hid (Ext w w')

set_option maxRecDepth 100000 in
set_option maxHeartbeats 3200000 in
theorem searchSt (B : Nat) (v : Value) (rs : List RowSt) (a : IDd) (p t : Nat) (w : World) (hv : RowsSt B w v rs) (hu : UpG cmpI RowSt.key rs) (hn : rs.length ≤ 1000000)
    (hp : w.cell? ⟨p, 0, none⟩ = some (.pointer (some ⟨t, 0, none⟩))) (ht : w.cell? ⟨t, 0, none⟩ = some (.func (.func 53) #[] #[])) :
    Calls Tryz.prog 90 #[v, .agg #[.string a.kind, .string a.name], .func (.func 91) #[] #[.pointer (some ⟨p, 0, none⟩)]] w (SrcIsSt w rs a) := by
  obtain ⟨pa, cap, rfl⟩ := ownsRow_form hv
  obtain ⟨-, hc1, hc2, hin⟩ := rowsSt_in hv
  unfold maxLen at hc2
  replace hin := hide hin; replace hp := hide hp; replace ht := hide ht; replace hv := hide hv; replace hu := hide hu
  go_enter Tryz.func90, Tryz.ntmps90
  go_wp2_with fail
  go_loopw [9, 10] (fun i j wr => ∃ i' j' : Nat, i' ≤ j' ∧ j' ≤ rs.length ∧ i = .int .i64 i' ∧ j = .int .i64 j' ∧ Hid (∀ (k : Nat) x, k < i' → rs[k]? = some x → cmpI x.key a < 0) ∧ Hid (∀ (k : Nat) x, j' ≤ k → rs[k]? = some x → 0 ≤ cmpI x.key a) ∧ Hid (Ext (w.alloc (.cells #[.string a.kind, .string a.name] 52)) wr)) (fun i j _ => (intOf j).toNat - (intOf i).toNat)
  case atStart => exact ⟨0, rs.length, Nat.zero_le _, Nat.le_refl _, rfl, rfl, fun _ _ h => absurd h (by omega), fun k x h hx => absurd (List.getElem?_eq_some_iff.1 hx).1 (by omega), Ext.refl _⟩
  case round =>
    obtain ⟨i, j, hij, hj, rfl, rfl, hA, hB, hx⟩ := hrel
    have X0 := hide (((Ext.refl w).alloc _).trans hx.out)
    have m0 := hx.out.cells (p := ⟨w.heap.size, 0, none⟩) (v := .string a.kind) (by simp [go_sem])
    have m1 := hx.out.cells (p := ⟨w.heap.size, 1, none⟩) (v := .string a.name) (by simp [go_sem])
    have hp1 := hide (X0.out.drew.cells hp.out)
    have ht1 := hide (X0.out.drew.cells ht.out)
    by_cases hlt : i < j
    · obtain ⟨h, hh⟩ : ∃ h, h = (i + j) / 2 := ⟨_, rfl⟩
      have e1 : IntKind.u64.wrap ((i : Int) + (j : Int)) = ((i + j : Nat) : Int) := by rw [IntKind.wrap_u64]; omega
      obtain ⟨x, hxh⟩ := some_of_lt (show h < rs.length by omega)
      rcases hin.out with hnil | ⟨g, rfl, hI⟩
      · rw [hnil] at hj; simp at hj; omega
      replace hI := hI h x hxh
      have k0 := X0.out.cells (hI 0 _ rfl)
      have k1 := X0.out.cells (hI 1 _ rfl)
      have k2 := X0.out.cells (hI 2 _ rfl)
      have k3 := X0.out.cells (hI 3 _ rfl)
      have k4 := X0.out.cells (hI 4 _ rfl)
      have k5 := X0.out.cells (hI 5 _ rfl)
      have k6 := X0.out.cells (hI 6 _ rfl)
      rw [Nat.add_zero] at k0
      have h2 : (h : Int) < (rs.length : Int) := by omega
      have h3 : (0 : Int) ≤ (h : Int) := by omega
      have h4 : ((i : Int) + (j : Int)) / 2 = (h : Int) := by omega
      have hlo : i ≤ h := by omega
      have hhi : h < j := by omega
      replace hI := hide hI; replace hxh := hide hxh; replace hh := hide hh
      go_wp2_with fail
      go_region_held3 (fun w' => w'.cell? ⟨g, h * 7, none⟩ = some (.string x.key.kind) ∧ w'.cell? ⟨g, h * 7 + 1, none⟩ = some (.string x.key.name) ∧ w'.cell? ⟨g, h * 7 + 2, none⟩ = some (.int .i64 x.val.op) ∧ w'.cell? ⟨g, h * 7 + 3, none⟩ = some (.string x.val.r.x.id.kind) ∧ w'.cell? ⟨g, h * 7 + 4, none⟩ = some (.string x.val.r.x.id.name) ∧ w'.cell? ⟨g, h * 7 + 5, none⟩ = some (.slice x.val.r.a2 x.val.r.n2 x.val.r.p2) ∧ w'.cell? ⟨g, h * 7 + 6, none⟩ = some (.slice x.val.r.a3 x.val.r.n3 x.val.r.p3) ∧ w'.cell? ⟨w.heap.size, 0, none⟩ = some (.string a.kind) ∧ w'.cell? ⟨w.heap.size, 1, none⟩ = some (.string a.name)) (go_keep)
        ((go_at_call 91; refine (findCmpSt x a p t wr.drew hp1.out ht1.out).mono ?_; rintro e w1 ⟨rfl, he1⟩; go_must (have qr0 := he1.cells (p := ⟨g, h * 7, none⟩) (v := .string x.key.kind) (by simpa using k0); have qr1 := he1.cells (p := ⟨g, h * 7 + 1, none⟩) (v := .string x.key.name) (by simpa using k1); have qr2 := he1.cells (p := ⟨g, h * 7 + 2, none⟩) (v := .int .i64 x.val.op) (by simpa using k2); have qr3 := he1.cells (p := ⟨g, h * 7 + 3, none⟩) (v := .string x.val.r.x.id.kind) (by simpa using k3); have qr4 := he1.cells (p := ⟨g, h * 7 + 4, none⟩) (v := .string x.val.r.x.id.name) (by simpa using k4); have qr5 := he1.cells (p := ⟨g, h * 7 + 5, none⟩) (v := .slice x.val.r.a2 x.val.r.n2 x.val.r.p2) (by simpa using k5); have qr6 := he1.cells (p := ⟨g, h * 7 + 6, none⟩) (v := .slice x.val.r.a3 x.val.r.n3 x.val.r.p3) (by simpa using k6); have qk0 := he1.cells (p := ⟨w.heap.size, 0, none⟩) (v := .string a.kind) (by simpa using m0); have qk1 := he1.cells (p := ⟨w.heap.size, 1, none⟩) (v := .string a.name) (by simpa using m1)); replace he1 := hide he1))
      by_cases hb : cmpI x.key a < 0
      · go_wp2_with fail
        go_roundw
        case rel => exact ⟨h + 1, j, by omega, hj, by go_num, rfl, hu.out.stands ordI hxh.out hb, hB, hx.out.drew.trans he1.out⟩
        case measure => simp [intOf]; omega
      · have hb' : ¬ cmpI x.key a < 0 := hb
        replace hb' := hide hb'
        go_wp2_with fail
        go_roundw
        case rel => exact ⟨i, h, by omega, by omega, rfl, rfl, hA, hu.out.stands' ordI hxh.out (by first | exact hb'.out | exact Int.not_lt.2 hb'.out), hx.out.drew.trans he1.out⟩
        case measure => simp [intOf]; omega
    · obtain rfl : i = j := by omega
      have hst : Hid (StandsG cmpI RowSt.key rs a i) := ⟨hj, hA.out, fun k x hk hx => Int.not_lt.2 (hB.out k x hk hx)⟩
      by_cases hend : i < rs.length
      · obtain ⟨x, hxh⟩ := some_of_lt hend
        rcases hin.out with hnil | ⟨g, rfl, hI⟩
        · rw [hnil] at hend; simp at hend
        replace hI := hI i x hxh
        have k0 := X0.out.cells (hI 0 _ rfl)
        have k1 := X0.out.cells (hI 1 _ rfl)
        have k2 := X0.out.cells (hI 2 _ rfl)
        have k3 := X0.out.cells (hI 3 _ rfl)
        have k4 := X0.out.cells (hI 4 _ rfl)
        have k5 := X0.out.cells (hI 5 _ rfl)
        have k6 := X0.out.cells (hI 6 _ rfl)
        rw [Nat.add_zero] at k0
        have h2 : (i : Int) < (rs.length : Int) := by omega
        have h3 : (0 : Int) ≤ (i : Int) := by omega
        replace hI := hide hI; replace hxh := hide hxh
        go_wp2_with fail
        go_region_held3 (fun w' => w'.cell? ⟨g, i * 7, none⟩ = some (.string x.key.kind) ∧ w'.cell? ⟨g, i * 7 + 1, none⟩ = some (.string x.key.name) ∧ w'.cell? ⟨g, i * 7 + 2, none⟩ = some (.int .i64 x.val.op) ∧ w'.cell? ⟨g, i * 7 + 3, none⟩ = some (.string x.val.r.x.id.kind) ∧ w'.cell? ⟨g, i * 7 + 4, none⟩ = some (.string x.val.r.x.id.name) ∧ w'.cell? ⟨g, i * 7 + 5, none⟩ = some (.slice x.val.r.a2 x.val.r.n2 x.val.r.p2) ∧ w'.cell? ⟨g, i * 7 + 6, none⟩ = some (.slice x.val.r.a3 x.val.r.n3 x.val.r.p3) ∧ w'.cell? ⟨w.heap.size, 0, none⟩ = some (.string a.kind) ∧ w'.cell? ⟨w.heap.size, 1, none⟩ = some (.string a.name)) (go_keep)
          ((go_at_call 91; refine (findCmpSt x a p t wr.drew hp1.out ht1.out).mono ?_; rintro e w1 ⟨rfl, he1⟩; go_must (have qr0 := he1.cells (p := ⟨g, i * 7, none⟩) (v := .string x.key.kind) (by simpa using k0); have qr1 := he1.cells (p := ⟨g, i * 7 + 1, none⟩) (v := .string x.key.name) (by simpa using k1); have qr2 := he1.cells (p := ⟨g, i * 7 + 2, none⟩) (v := .int .i64 x.val.op) (by simpa using k2); have qr3 := he1.cells (p := ⟨g, i * 7 + 3, none⟩) (v := .string x.val.r.x.id.kind) (by simpa using k3); have qr4 := he1.cells (p := ⟨g, i * 7 + 4, none⟩) (v := .string x.val.r.x.id.name) (by simpa using k4); have qr5 := he1.cells (p := ⟨g, i * 7 + 5, none⟩) (v := .slice x.val.r.a2 x.val.r.n2 x.val.r.p2) (by simpa using k5); have qr6 := he1.cells (p := ⟨g, i * 7 + 6, none⟩) (v := .slice x.val.r.a3 x.val.r.n3 x.val.r.p3) (by simpa using k6); have qk0 := he1.cells (p := ⟨w.heap.size, 0, none⟩) (v := .string a.kind) (by simpa using m0); have qk1 := he1.cells (p := ⟨w.heap.size, 1, none⟩) (v := .string a.name) (by simpa using m1)); replace he1 := hide he1))
        go_wp2
        go_ret2
        refine ⟨i, cmpI x.key a == 0, rfl, hj, hst, ?_, ?_, X0.out.drew.trans he1.out⟩
        · show _ ↔ _
          constructor
          · intro h; exact StandsG.there ordI hxh.out (by simpa using h)
          · intro h
            by_cases e : cmpI x.key a = 0
            · simpa using e
            · exact absurd h (hst.out.gone ordI hu.out fun y hy => by rw [hxh.out] at hy; cases hy; exact e)
        · intro h
          exact ⟨x, hxh.out, ordI.zero.1 (by simpa using h)⟩
      · have h2 : ¬ (i : Int) < (rs.length : Int) := by omega
        go_wp2_with fail
        go_quiet (fail)
        go_wp2
        go_ret2
        refine ⟨i, false, rfl, hj, hst, ?_, ?_, X0.out.drewN _⟩
        · show _ ↔ _
          constructor
          · intro h; cases h
          · intro h
            exact absurd h (hst.out.gone ordI hu.out fun y hy => absurd (List.getElem?_eq_some_iff.1 hy).1 (by omega))
        · intro h; cases h
end Go.Proofs.YtodhhjlemmmjcaaGreat
