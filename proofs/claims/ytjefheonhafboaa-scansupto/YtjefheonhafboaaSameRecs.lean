/-
  Two lists of records that are the same.
-/
import Derived.Test.YtjefheonhafboaaJ4
import Derived.Test.YtjefheonhafboaaScan2
import Derived.Deep.RegionHeld3
import Derived.Deep.DeepMust
namespace Go.Proofs.Ytjefheonhafboaa
open Go.RowKit

theorem rec_at {B : Nat} {w : World} {v : Value} {ps : List RecP} {i : Nat} {p : RecP} (h : RecsAt B w v ps) (hp : ps[i]? = some p) :
    ∃ g cap a2 p2 a3 p3, v = .slice (some ⟨g, 0, none⟩) ps.length cap ∧ p.c2 = .slice a2 p.r.res.attrs.length p2 ∧ p.c3 = .slice a3 p.r.res.after.length p3 ∧ ResV w p.c2 p.c3 p.r.res ∧ ∀ r u, (cRc p)[r]? = some u → w.cell? ⟨g, i * 8 + r, none⟩ = some u := by
  have hi : i < ps.length := (List.getElem?_eq_some_iff.1 hp).1
  obtain ⟨h1, h2⟩ := h.each p (List.mem_of_getElem? hp)
  obtain ⟨a2, p2, e2⟩ := h1.f2
  obtain ⟨a3, p3, e3⟩ := h1.f3
  have hrow := h.row
  obtain ⟨g, cap, rfl, _, _⟩ := hrow.form (by omega)
  refine ⟨g, cap, a2, p2, a3, p3, rfl, e2, e3, h1.resV h2, fun r u hu => ?_⟩
  have hr : r < 8 := (List.getElem?_eq_some_iff.1 hu).1
  rw [hrow.cellAt (i * 8 + r) (by omega)]
  exact (flat_get cRc_len hp hr).trans hu

set_option maxRecDepth 100000 in
set_option maxHeartbeats 3200000 in
theorem sameRecords (B B' : Nat) (u v : Value) (ps qs : List RecP) (w : World) (hu : RecsAt B w u ps) (hv : RecsAt B' w v qs) (hpq : ps.map RecP.r = qs.map RecP.r) (hn : ps.length ≤ 150000) :
    Calls Try.prog 6 #[u, v] w fun e w' => e = .returned (.bool true) ∧ Ext w w' := by
  have hlen : ps.length = qs.length := by have := congrArg List.length hpq; simpa using this
  obtain ⟨pu, cu, rfl⟩ := ownsRow_form hu.row
  obtain ⟨pv, cv, hvv⟩ := ownsRow_form hv.row
  rw [← hlen] at hvv
  subst hvv
  replace hu := hide hu; replace hv := hide hv; replace hpq := hide hpq; replace hlen := hide hlen
  go_enter Try.func6, Try.ntmps6
  go_wp2
  go_loopw [5] (fun i wr => ∃ k : Nat, k ≤ ps.length ∧ i = .int .i64 k ∧ Ext w wr) (fun i _ => ps.length - (intOf i).toNat)
  case atStart => exact ⟨0, Nat.zero_le _, rfl, Ext.refl _⟩
  case round =>
    obtain ⟨k, hk, rfl, he⟩ := hrel
    by_cases hlt : k < ps.length
    · obtain ⟨p, hp⟩ := some_of_lt hlt
      obtain ⟨q, hq⟩ := some_of_lt (show k < qs.length by have := hlen.out; omega)
      have hr : p.r = q.r := by
        have h1 : (ps.map RecP.r)[k]? = some p.r := by simp [hp]
        rw [hpq.out] at h1
        simp [hq] at h1
        exact h1.symm
      obtain ⟨g, cu', a2, p2, a3, p3, e1, e2, e3, hres, hc⟩ := rec_at (hu.out.ext he) hp
      obtain ⟨g', cv', b2, q2, b3, q3, f1, f2, f3, hres', hc'⟩ := rec_at (hv.out.ext he) hq
      obtain ⟨rfl, rfl⟩ : pu = some ⟨g, 0, none⟩ ∧ cu = cu' := by simpa using e1
      obtain ⟨rfl, rfl⟩ : pv = some ⟨g', 0, none⟩ ∧ cv = cv' := by
        have := f1; simp at this; exact ⟨this.1, this.2.2⟩
      obtain ⟨x, c2, c3⟩ := p
      obtain ⟨y, d2, d3⟩ := q
      dsimp only at hr e2 e3 f2 f3 hres hres'
      subst hr e2 e3 f2 f3
      have g0 := hc 0 _ rfl
      have g1 := hc 1 _ rfl
      have g2 := hc 2 _ rfl
      have g3 := hc 3 _ rfl
      have g4 := hc 4 _ rfl
      have g5 := hc 5 _ rfl
      have g6 := hc 6 _ rfl
      have g7 := hc 7 _ rfl
      rw [Nat.add_zero] at g0
      have k0 := hc' 0 _ rfl
      have k1 := hc' 1 _ rfl
      have k2 := hc' 2 _ rfl
      have k3 := hc' 3 _ rfl
      have k4 := hc' 4 _ rfl
      have k5 := hc' 5 _ rfl
      have k6 := hc' 6 _ rfl
      have k7 := hc' 7 _ rfl
      rw [Nat.add_zero] at k0
      have i2 : (k : Int) < (ps.length : Int) := by omega
      have i4 : (0 : Int) ≤ (k : Int) := by omega
      clear e1 f1 hc hc'
      replace he := hide he; replace hp := hide hp; replace hq := hide hq; replace hres := hide hres; replace hres' := hide hres'
      go_wp2_with fail
      go_region_held3 (fun w' => w'.cell? ⟨g, k * 8, none⟩ = some (.int .i64 x.kind) ∧ w'.cell? ⟨g, k * 8 + 1, none⟩ = some (.int .i64 x.epoch) ∧ w'.cell? ⟨g, k * 8 + 2, none⟩ = some (.int .i64 x.number) ∧ w'.cell? ⟨g, k * 8 + 3, none⟩ = some (.int .i64 x.op) ∧ w'.cell? ⟨g, k * 8 + 4, none⟩ = some (.string x.res.id.kind) ∧ w'.cell? ⟨g, k * 8 + 5, none⟩ = some (.string x.res.id.name) ∧ w'.cell? ⟨g, k * 8 + 6, none⟩ = some (.slice a2 x.res.attrs.length p2) ∧ w'.cell? ⟨g, k * 8 + 7, none⟩ = some (.slice a3 x.res.after.length p3) ∧ w'.cell? ⟨g', k * 8, none⟩ = some (.int .i64 x.kind) ∧ w'.cell? ⟨g', k * 8 + 1, none⟩ = some (.int .i64 x.epoch) ∧ w'.cell? ⟨g', k * 8 + 2, none⟩ = some (.int .i64 x.number) ∧ w'.cell? ⟨g', k * 8 + 3, none⟩ = some (.int .i64 x.op) ∧ w'.cell? ⟨g', k * 8 + 4, none⟩ = some (.string x.res.id.kind) ∧ w'.cell? ⟨g', k * 8 + 5, none⟩ = some (.string x.res.id.name) ∧ w'.cell? ⟨g', k * 8 + 6, none⟩ = some (.slice b2 x.res.attrs.length q2) ∧ w'.cell? ⟨g', k * 8 + 7, none⟩ = some (.slice b3 x.res.after.length q3)) (go_keep)
        ((go_at_call 13; refine (sameRecord x _ _ _ _ _ (hres.out.ext (Ext.refl _).drew) (hres'.out.ext (Ext.refl _).drew)).mono ?_; rintro e w1 ⟨rfl, he1⟩; go_must (have m0 := he1.cells (p := ⟨g, k * 8, none⟩) (v := .int .i64 x.kind) (by simpa using g0); have m1 := he1.cells (p := ⟨g, k * 8 + 1, none⟩) (v := .int .i64 x.epoch) (by simpa using g1); have m2 := he1.cells (p := ⟨g, k * 8 + 2, none⟩) (v := .int .i64 x.number) (by simpa using g2); have m3 := he1.cells (p := ⟨g, k * 8 + 3, none⟩) (v := .int .i64 x.op) (by simpa using g3); have m4 := he1.cells (p := ⟨g, k * 8 + 4, none⟩) (v := .string x.res.id.kind) (by simpa using g4); have m5 := he1.cells (p := ⟨g, k * 8 + 5, none⟩) (v := .string x.res.id.name) (by simpa using g5); have m6 := he1.cells (p := ⟨g, k * 8 + 6, none⟩) (v := .slice a2 x.res.attrs.length p2) (by simpa using g6); have m7 := he1.cells (p := ⟨g, k * 8 + 7, none⟩) (v := .slice a3 x.res.after.length p3) (by simpa using g7); have n0 := he1.cells (p := ⟨g', k * 8, none⟩) (v := .int .i64 x.kind) (by simpa using k0); have n1 := he1.cells (p := ⟨g', k * 8 + 1, none⟩) (v := .int .i64 x.epoch) (by simpa using k1); have n2 := he1.cells (p := ⟨g', k * 8 + 2, none⟩) (v := .int .i64 x.number) (by simpa using k2); have n3 := he1.cells (p := ⟨g', k * 8 + 3, none⟩) (v := .int .i64 x.op) (by simpa using k3); have n4 := he1.cells (p := ⟨g', k * 8 + 4, none⟩) (v := .string x.res.id.kind) (by simpa using k4); have n5 := he1.cells (p := ⟨g', k * 8 + 5, none⟩) (v := .string x.res.id.name) (by simpa using k5); have n6 := he1.cells (p := ⟨g', k * 8 + 6, none⟩) (v := .slice b2 x.res.attrs.length q2) (by simpa using k6); have n7 := he1.cells (p := ⟨g', k * 8 + 7, none⟩) (v := .slice b3 x.res.after.length q3) (by simpa using k7); replace he1 := hide he1)))
      go_wp2
      go_roundw
      case rel => exact ⟨k + 1, by omega, by go_num, he.out.drew.trans he1.out⟩
      case measure => simp [intOf]; omega
    · replace he := hide he
      go_wp2
      go_ret
      exact ⟨rfl, he.out⟩
end Go.Proofs.Ytjefheonhafboaa
