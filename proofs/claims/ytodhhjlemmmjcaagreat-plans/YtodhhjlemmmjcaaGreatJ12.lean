/-
  Resources that may be: what the reference's function answers of a list.
-/
/-
  The two orders of keys.
-/
/-
  Two lists of resources that are the same: what the functions that compare them answer.
-/
/-
  What is lent: rows of IDs, Attrs and resources with more behind each.
-/
/-
  Two lists of resources that are the same.
-/
import Derived.Test.YtodhhjlemmmjcaaGreatRefMay
import Derived.Test.YtodhhjlemmmjcaaGreatJ11
import Derived.Test.YtodhhjlemmmjcaaGreatJ2
import Derived.Test.YtodhhjlemmmjcaaGreatJ7
import Derived.Test.YtodhhjlemmmjcaaGreatJ8
import Derived.Test.YtodhhjlemmmjcaaGreatSame
import Derived.Test.YtodhhjlemmmjcaaGreatJ9
namespace Go.Proofs.YtodhhjlemmmjcaaGreat
open Go.RowKit

set_option maxRecDepth 100000 in
set_option maxHeartbeats 3200000 in
theorem refMays (v : Value) (l : List Resd) (w : World) (hv : RessV w v l) :
    Calls Tryz.prog 11 #[v] w fun e w' => e = .returned (.bool (mayAllB l)) ∧ Ext w w' := by
  obtain ⟨⟨a, cap, rfl, hcap, hmax, hs⟩, hfew⟩ := hv
  by_cases h12 : 12 < l.length
  · have H := hide (show mayAllB l = false by simp [mayAllB]; omega)
    have h' : (12 : Int) < (l.length : Int) := by omega
    replace hs := hide hs
    go_enter Tryz.func11, Tryz.ntmps11
    go_wp2_with fail
    go_ret
    exact ⟨retB (by rw [unhide H]), Ext.refl _⟩
  have h' : decide ((12 : Int) < (l.length : Int)) = false := by simp; omega
  have H := hide (show mayAllB l = (l.all mayB && risesB lessR l) by simp only [mayAllB]; rw [decide_eq_true (show l.length ≤ 12 by omega)]; simp)
  replace h12 := hide h12
  go_enter Tryz.func11, Tryz.ntmps11
  go_wp2
  go_loopw [3] (fun i wr => ∃ k : Nat, k ≤ l.length ∧ i = .int .i64 k ∧ Hid ((l.take k).all mayB = true ∧ risesB lessR (l.take k) = true) ∧ Ext w wr) (fun i _ => l.length - (intOf i).toNat)
  case atStart => exact ⟨0, Nat.zero_le _, rfl, by simp [Hid, risesB], Ext.refl _⟩
  case round =>
    obtain ⟨k, hk, rfl, hall, he⟩ := hrel
    by_cases hlt : k < l.length
    · rcases hs with rfl | ⟨b, off, rfl, hin⟩
      · simp at hlt
      obtain ⟨x, hx⟩ := some_of_lt hlt
      obtain ⟨g0, g1, c2, c3, g2, g3, hres⟩ := (hin.ext he) k x hx
      have hres0 := hide hres
      obtain ⟨a2, p2, rfl⟩ := hres.attrs.form
      obtain ⟨a3, p3, rfl⟩ := hres.after.form
      clear hres
      have Hs := hide (all_succ (p := mayB) hx hall.out.1)
      have Hf := hide (all_no (p := mayB) hx)
      have i2 : (k : Int) < (l.length : Int) := by omega
      have i4 : (0 : Int) ≤ (k : Int) := by omega
      by_cases hk0 : k = 0
      · have e0 : ((k : Int) == 0) = true := by simpa using hk0
        have Hr : Hid (risesB lessR (l.take (k + 1)) = true) := by subst hk0; exact rises_one _
        replace hin := hide hin; replace he := hide he; replace hx := hide hx; replace hk0 := hide hk0
        go_wp2_with fail
        refine (refMay _ _ x _ hres0.out).mono ?_
        rintro e w1 ⟨rfl, he1⟩
        replace he1 := hide he1
        go_wp2_with fail
        go_quiet (fail)
        cases hb : mayB x
        · go_wp2
          go_ret
          exact ⟨retB (by rw [unhide H, unhide Hf hb]; rfl), (he.out.trans he1.out).drewN _⟩
        · go_wp2
          go_roundw
          case rel => exact ⟨k + 1, by omega, by go_num, ⟨by rw [unhide Hs]; exact hb, unhide Hr⟩, (he.out.trans he1.out).drewN _⟩
          case measure => simp [intOf]; omega
      · obtain ⟨q, hq⟩ : ∃ q, k = q + 1 := ⟨k - 1, by omega⟩
        obtain ⟨z, hz⟩ := some_of_lt (show q < l.length by omega)
        obtain ⟨k0, k1, _⟩ := (hin.ext he) q z hz
        have e0 : ((k : Int) == 0) = false := by simpa using hk0
        have e1 : IntKind.i64.wrap ((k : Int) - 1) = (q : Int) := by rw [IntKind.wrap_i64]; omega
        have i1 : (0 : Int) ≤ (q : Int) := by omega
        have i3 : (q : Int) < (l.length : Int) := by omega
        have Hr : Hid (risesB lessR (l.take (k + 1)) = (risesB lessR (l.take k) && lessR z x)) := by subst hq; exact rises_take (lt := lessR) hz hx
        have Hg : Hid (lessR z x = false → risesB lessR l = false) := by subst hq; exact rises_no (lt := lessR) hz hx
        replace hin := hide hin; replace he := hide he; replace hx := hide hx; replace hk0 := hide hk0; replace hq := hide hq; replace hz := hide hz
        go_wp2_with fail
        refine (refMay _ _ x _ hres0.out).mono ?_
        rintro e w1 ⟨rfl, he1⟩
        have j0 := he1.cells k0; have j1 := he1.cells k1; have m0 := he1.cells g0; have m1 := he1.cells g1
        clear k0 k1 g0 g1 g2 g3
        replace he1 := hide he1
        go_wp2_with fail
        go_region_held3 (fun w' => w'.cell? ⟨b, off + q * 4, none⟩ = some (.string z.id.kind) ∧ w'.cell? ⟨b, off + q * 4 + 1, none⟩ = some (.string z.id.name) ∧ w'.cell? ⟨b, off + k * 4, none⟩ = some (.string x.id.kind) ∧ w'.cell? ⟨b, off + k * 4 + 1, none⟩ = some (.string x.id.name)) (go_keep)
          ((go_at_call 34; refine (refLess z.id x.id _).mono ?_; rintro e w2 ⟨rfl, he2⟩; have q0 := he2.cells (p := ⟨b, off + q * 4, none⟩) (v := .string z.id.kind) (by simpa using j0); have q1 := he2.cells (p := ⟨b, off + q * 4 + 1, none⟩) (v := .string z.id.name) (by simpa using j1); have q2 := he2.cells (p := ⟨b, off + k * 4, none⟩) (v := .string x.id.kind) (by simpa using m0); have q3 := he2.cells (p := ⟨b, off + k * 4 + 1, none⟩) (v := .string x.id.name) (by simpa using m1); replace he2 := hide he2))
        cases hb : mayB x
        · go_wp2
          go_ret
          exact ⟨retB (by rw [unhide H, unhide Hf hb]; rfl), (he.out.trans he1.out).drew.trans he2.out⟩
        cases hl : lessI z.id x.id
        · go_wp2
          go_ret
          exact ⟨retB (by rw [unhide H, unhide Hg hl]; simp), (he.out.trans he1.out).drew.trans he2.out⟩
        · go_wp2
          go_roundw
          case rel => exact ⟨k + 1, by omega, by go_num, ⟨by rw [unhide Hs]; exact hb, by rw [unhide Hr, hall.out.2]; exact hl⟩, (he.out.trans he1.out).drew.trans he2.out⟩
          case measure => simp [intOf]; omega
    · have Hl : Hid (l.take k = l) := List.take_of_length_le (by omega)
      have Hf2 : Hid (mayAllB l = true) := by
        have h := hall.out; rw [unhide Hl] at h; have := unhide H; rw [h.1, h.2] at this; simpa [Hid] using this
      replace he := hide he
      replace hs := hide hs
      go_wp2
      go_ret
      exact ⟨retB (by rw [unhide Hf2]), he.out⟩
end Go.Proofs.YtodhhjlemmmjcaaGreat

namespace Go.Proofs.YtodhhjlemmmjcaaGreat
open Go.RowKit

theorem ordI : OrdK cmpI := ⟨cmpI_zero, cmpI_flip, cmpI_trans⟩
theorem ordS : OrdK cmpS := ⟨cmpS_zero, cmpS_flip, cmpS_trans⟩
end Go.Proofs.YtodhhjlemmmjcaaGreat

namespace Go.Proofs.YtodhhjlemmmjcaaGreat
open Go.RowKit

set_option maxRecDepth 100000 in
set_option maxHeartbeats 1600000 in
theorem sameRes (c2 c3 d2 d3 : Value) (x : Resd) (w : World) (hu : ResV w c2 c3 x) (hv : ResV w d2 d3 x) :
    Calls Tryz.prog 31 #[.agg #[.string x.id.kind, .string x.id.name, c2, c3], .agg #[.string x.id.kind, .string x.id.name, d2, d3]] w fun e w' => e = .returned (.bool true) ∧ Ext w w' := by
  obtain ⟨a2, p2, rfl⟩ := hu.attrs.form
  obtain ⟨a3, p3, rfl⟩ := hu.after.form
  obtain ⟨b2, q2, rfl⟩ := hv.attrs.form
  obtain ⟨b3, q3, rfl⟩ := hv.after.form
  replace hu := hide hu; replace hv := hide hv
  go_enter Tryz.func31, Tryz.ntmps31
  go_wp2_with fail
  have x0 : Ext w ((w.alloc (.cells #[.string x.id.kind, .string x.id.name, .slice a2 x.attrs.length p2, .slice a3 x.after.length p3] 56)).alloc (.cells #[.string x.id.kind, .string x.id.name, .slice b2 x.attrs.length q2, .slice b3 x.after.length q3] 56)) := ((Ext.refl _).alloc _).alloc _
  replace x0 := hide x0
  refine (sameAttrs _ _ x.attrs _ (hu.out.attrs.ext x0.out) (hv.out.attrs.ext x0.out)).mono ?_
  rintro e w1 ⟨rfl, he1⟩
  have x1 := hide (x0.out.trans he1)
  have c0 := he1.cells (p := ⟨w.heap.size, 0, none⟩) (v := .string x.id.kind) (by simp [go_sem, World.cell?_alloc_past])
  have c1 := he1.cells (p := ⟨w.heap.size, 1, none⟩) (v := .string x.id.name) (by simp [go_sem, World.cell?_alloc_past])
  have c3 := he1.cells (p := ⟨w.heap.size, 3, none⟩) (v := .slice a3 x.after.length p3) (by simp [go_sem, World.cell?_alloc_past])
  have d0 := he1.cells (p := ⟨w.heap.size + 1, 0, none⟩) (v := .string x.id.kind) (by simp [go_sem])
  have d1 := he1.cells (p := ⟨w.heap.size + 1, 1, none⟩) (v := .string x.id.name) (by simp [go_sem])
  have d3 := he1.cells (p := ⟨w.heap.size + 1, 3, none⟩) (v := .slice b3 x.after.length q3) (by simp [go_sem])
  clear he1
  have C0 := hide c0; have C1 := hide c1; have D0 := hide d0; have D1 := hide d1
  go_wp2_with fail
  refine (sameIds _ _ x.after _ (hu.out.after.ext x1.out) (hv.out.after.ext x1.out)).mono ?_
  rintro e w2 ⟨rfl, he2⟩
  have x2 := hide (x1.out.trans he2)
  clear c0 c1 c3 d0 d1 d3
  have c0 := he2.cells C0.out; have c1 := he2.cells C1.out; have d0 := he2.cells D0.out; have d1 := he2.cells D1.out
  clear he2
  go_wp2
  go_ret
  exact ⟨rfl, x2.out⟩
end Go.Proofs.YtodhhjlemmmjcaaGreat

namespace Go.Proofs.YtodhhjlemmmjcaaGreat
open Go.RowKit

/-- A resource that is lent: where its two lists lie. -/
structure Pt where
  x : Resd
  a : Nat
  f : Nat
def cP (p : Pt) : List Value := [.string p.x.id.kind, .string p.x.id.name, .slice (some ⟨p.a, 0, none⟩) p.x.attrs.length (p.x.attrs.length + 8), .slice (some ⟨p.f, 0, none⟩) p.x.after.length (p.x.after.length + 8)]
theorem cP_len (p : Pt) : (cP p).length = 4 := rfl
def slA (p : Pt) : Value := .slice (some ⟨p.a, 0, none⟩) (p.x.attrs.length + 8) (p.x.attrs.length + 8)
def slF (p : Pt) : Value := .slice (some ⟨p.f, 0, none⟩) (p.x.after.length + 8) (p.x.after.length + 8)
/-- What has been lent so far, from block B on: the struct, its list of resources, and theirs. -/
structure Lending (B : Nat) (n : Nat) (ps : List Pt) (w : World) (O L : Nat) (va vf : Value) (rest : List Value) : Prop where
  o : w.heap[O]? = some (.cells #[.slice (some ⟨L, 0, none⟩) (n + 8) (n + 8), va, vf] 43 (0, 0))
  l : w.heap[L]? = some (.cells (ps.flatMap cP ++ rest).toArray 56 (0, 0))
  va : w.ownsRow B 53 1 va ps.length (ps.map slA)
  vf : w.ownsRow B 54 1 vf ps.length (ps.map slF)
  a : ∀ p ∈ ps, w.heap[p.a]? = some (.cells (cellsA (p.x.attrs ++ List.replicate 8 markA)).toArray 62 (0, 0))
  f : ∀ p ∈ ps, w.heap[p.f]? = some (.cells (cellsI (p.x.after ++ List.replicate 8 markI)).toArray 52 (0, 0))
  apart : ps.Pairwise fun p q => p.a ≠ q.a ∧ p.f ≠ q.f
  low : B ≤ O ∧ B ≤ L ∧ ∀ p ∈ ps, B ≤ p.a ∧ B ≤ p.f
  ok : ∀ p ∈ ps, okR p.x
theorem Lending.ext {B n : Nat} {ps : List Pt} {w w' : World} {O L : Nat} {va vf : Value} {rest : List Value} (h : Lending B n ps w O L va vf rest) (e : Ext w w') : Lending B n ps w' O L va vf rest :=
  have k := e.kept fun _ => False
  ⟨k.heap h.o id, k.heap h.l id, ownsRow_keep h.va k fun _ _ _ => id, ownsRow_keep h.vf k fun _ _ _ => id, fun p hp => k.heap (h.a p hp) id, fun p hp => k.heap (h.f p hp) id, h.apart, h.low, h.ok⟩
end Go.Proofs.YtodhhjlemmmjcaaGreat

namespace Go.Proofs.YtodhhjlemmmjcaaGreat
open Go.RowKit

set_option maxRecDepth 100000 in
set_option maxHeartbeats 3200000 in
theorem sameRess (u v : Value) (l : List Resd) (w : World) (hu : RessV w u l) (hv : RessV w v l) :
    Calls Tryz.prog 26 #[u, v] w fun e w' => e = .returned (.bool true) ∧ Ext w w' := by
  obtain ⟨⟨a, cap, rfl, hcap, hmax, hs⟩, hfew⟩ := hu
  obtain ⟨⟨a', cap', rfl, hcap', hmax', hs'⟩, hfew'⟩ := hv
  go_enter Tryz.func26, Tryz.ntmps26
  go_wp2
  go_loopw [5] (fun i wr => ∃ k : Nat, k ≤ l.length ∧ i = .int .i64 k ∧ Ext w wr) (fun i _ => l.length - (intOf i).toNat)
  case atStart => exact ⟨0, Nat.zero_le _, rfl, Ext.refl _⟩
  case round =>
    obtain ⟨k, hk, rfl, he⟩ := hrel
    by_cases hlt : k < l.length
    · rcases hs with rfl | ⟨b, off, rfl, hin⟩
      · simp at hlt
      rcases hs' with rfl | ⟨b', off', rfl, hin'⟩
      · simp at hlt
      obtain ⟨x, hx⟩ := some_of_lt hlt
      obtain ⟨g0, g1, c2, c3, g2, g3, hres⟩ := (hin.ext he) k x hx
      obtain ⟨k0, k1, d2, d3, k2, k3, hres'⟩ := (hin'.ext he) k x hx
      have hr := hide hres; have hr' := hide hres'
      obtain ⟨a2, p2, rfl⟩ := hres.attrs.form
      obtain ⟨a3, p3, rfl⟩ := hres.after.form
      obtain ⟨b2, q2, rfl⟩ := hres'.attrs.form
      obtain ⟨b3, q3, rfl⟩ := hres'.after.form
      clear hres hres'
      have i2 : (k : Int) < (l.length : Int) := by omega
      have i4 : (0 : Int) ≤ (k : Int) := by omega
      replace hin := hide hin; replace hin' := hide hin'
      replace he := hide he
      replace hx := hide hx
      go_wp2_with fail
      go_region_held3 (fun w' => w'.cell? ⟨b, off + k * 4, none⟩ = some (.string x.id.kind) ∧ w'.cell? ⟨b, off + k * 4 + 1, none⟩ = some (.string x.id.name) ∧ w'.cell? ⟨b, off + k * 4 + 2, none⟩ = some (.slice a2 x.attrs.length p2) ∧ w'.cell? ⟨b, off + k * 4 + 3, none⟩ = some (.slice a3 x.after.length p3) ∧ w'.cell? ⟨b', off' + k * 4, none⟩ = some (.string x.id.kind) ∧ w'.cell? ⟨b', off' + k * 4 + 1, none⟩ = some (.string x.id.name) ∧ w'.cell? ⟨b', off' + k * 4 + 2, none⟩ = some (.slice b2 x.attrs.length q2) ∧ w'.cell? ⟨b', off' + k * 4 + 3, none⟩ = some (.slice b3 x.after.length q3)) (go_keep)
        ((go_at_call 31; refine (sameRes _ _ _ _ x _ (hr.out.ext (Ext.refl _).drew) (hr'.out.ext (Ext.refl _).drew)).mono ?_; rintro e w1 ⟨rfl, he1⟩; have q0 := he1.cells (p := ⟨b, off + k * 4, none⟩) (v := .string x.id.kind) (by simpa using g0); have q1 := he1.cells (p := ⟨b, off + k * 4 + 1, none⟩) (v := .string x.id.name) (by simpa using g1); have q4 := he1.cells (p := ⟨b, off + k * 4 + 2, none⟩) (v := .slice a2 x.attrs.length p2) (by simpa using g2); have q5 := he1.cells (p := ⟨b, off + k * 4 + 3, none⟩) (v := .slice a3 x.after.length p3) (by simpa using g3); have r0 := he1.cells (p := ⟨b', off' + k * 4, none⟩) (v := .string x.id.kind) (by simpa using k0); have r1 := he1.cells (p := ⟨b', off' + k * 4 + 1, none⟩) (v := .string x.id.name) (by simpa using k1); have r4 := he1.cells (p := ⟨b', off' + k * 4 + 2, none⟩) (v := .slice b2 x.attrs.length q2) (by simpa using k2); have r5 := he1.cells (p := ⟨b', off' + k * 4 + 3, none⟩) (v := .slice b3 x.after.length q3) (by simpa using k3); replace he1 := hide he1))
      go_wp2
      go_roundw
      case rel => exact ⟨k + 1, by omega, by go_num, he.out.drew.trans he1.out⟩
      case measure => simp [intOf]; omega
    · replace he := hide he
      replace hs := hide hs; replace hs' := hide hs'
      go_wp2
      go_ret
      exact ⟨rfl, he.out⟩
end Go.Proofs.YtodhhjlemmmjcaaGreat
