/-
  Resources that may be: what the reference's function answers of a list.
-/
import Derived.Test.YtjebmabffocobaaDoorRefMay
import Derived.Test.YtjebmabffocobaaDoorMays2
namespace Go.Proofs.YtjebmabffocobaaDoor
open Go.RowKit

set_option maxRecDepth 100000 in
set_option maxHeartbeats 3200000 in
theorem refMays (v : Value) (l : List Resd) (w : World) (hv : RessV w v l) :
    Calls Tryd.prog 12 #[v] w fun e w' => e = .returned (.bool (mayAllB l)) ∧ Ext w w' := by
  obtain ⟨⟨a, cap, rfl, hcap, hmax, hs⟩, hfew⟩ := hv
  by_cases h12 : 12 < l.length
  · have H := hide (show mayAllB l = false by simp [mayAllB]; omega)
    have h' : (12 : Int) < (l.length : Int) := by omega
    replace hs := hide hs
    go_enter Tryd.func12, Tryd.ntmps12
    go_wp2_with fail
    go_ret
    exact ⟨retB (by rw [unhide H]), Ext.refl _⟩
  have h' : decide ((12 : Int) < (l.length : Int)) = false := by simp; omega
  have H := hide (show mayAllB l = (l.all mayB && risesB lessR l) by simp only [mayAllB]; rw [decide_eq_true (show l.length ≤ 12 by omega)]; simp)
  replace h12 := hide h12
  go_enter Tryd.func12, Tryd.ntmps12
  go_wp2
  go_loopw [3] (fun i wr => ∃ k : Nat, k ≤ l.length ∧ i = .int .i64 k ∧ Hid ((l.take k).all mayB = true ∧ risesB lessR (l.take k) = true) ∧ Ext w wr) (fun i _ => l.length - (intOf i).toNat)
  case atStart => exact ⟨0, Nat.zero_le _, rfl, by simp [Hid, risesB], Ext.refl _⟩
  case round =>
    obtain ⟨k, hk, rfl, hall, he⟩ := hrel
    by_cases hlt : k < l.length
    · rcases hs with rfl | ⟨b, off, rfl, hin⟩
      · simp at hlt
      obtain ⟨x, hx⟩ := some_of_lt hlt
      obtain ⟨g0, g1, c2, c3, g2, g3, hres⟩ := (hin.ext he) k x hx
      have hres0 := hide hres
      obtain ⟨a2, p2, rfl⟩ := hres.attrs.form
      obtain ⟨a3, p3, rfl⟩ := hres.after.form
      clear hres
      have Hs := hide (all_succ (p := mayB) hx hall.out.1)
      have Hf := hide (all_no (p := mayB) hx)
      have i2 : (k : Int) < (l.length : Int) := by omega
      have i4 : (0 : Int) ≤ (k : Int) := by omega
      by_cases hk0 : k = 0
      · have e0 : ((k : Int) == 0) = true := by simpa using hk0
        have Hr : Hid (risesB lessR (l.take (k + 1)) = true) := by subst hk0; exact rises_one _
        replace hin := hide hin; replace he := hide he; replace hx := hide hx; replace hk0 := hide hk0
        go_wp2_with fail
        refine (refMay _ _ x _ hres0.out).mono ?_
        rintro e w1 ⟨rfl, he1⟩
        replace he1 := hide he1
        go_wp2_with fail
        go_quiet (fail)
        cases hb : mayB x
        · go_wp2
          go_ret
          exact ⟨retB (by rw [unhide H, unhide Hf hb]; rfl), (he.out.trans he1.out).drewN _⟩
        · go_wp2
          go_roundw
          case rel => exact ⟨k + 1, by omega, by go_num, ⟨by rw [unhide Hs]; exact hb, unhide Hr⟩, (he.out.trans he1.out).drewN _⟩
          case measure => simp [intOf]; omega
      · obtain ⟨q, hq⟩ : ∃ q, k = q + 1 := ⟨k - 1, by omega⟩
        obtain ⟨z, hz⟩ := some_of_lt (show q < l.length by omega)
        obtain ⟨k0, k1, _⟩ := (hin.ext he) q z hz
        have e0 : ((k : Int) == 0) = false := by simpa using hk0
        have e1 : IntKind.i64.wrap ((k : Int) - 1) = (q : Int) := by rw [IntKind.wrap_i64]; omega
        have i1 : (0 : Int) ≤ (q : Int) := by omega
        have i3 : (q : Int) < (l.length : Int) := by omega
        have Hr : Hid (risesB lessR (l.take (k + 1)) = (risesB lessR (l.take k) && lessR z x)) := by subst hq; exact rises_take (lt := lessR) hz hx
        have Hg : Hid (lessR z x = false → risesB lessR l = false) := by subst hq; exact rises_no (lt := lessR) hz hx
        replace hin := hide hin; replace he := hide he; replace hx := hide hx; replace hk0 := hide hk0; replace hq := hide hq; replace hz := hide hz
        go_wp2_with fail
        refine (refMay _ _ x _ hres0.out).mono ?_
        rintro e w1 ⟨rfl, he1⟩
        have j0 := he1.cells k0; have j1 := he1.cells k1; have m0 := he1.cells g0; have m1 := he1.cells g1
        clear k0 k1 g0 g1 g2 g3
        replace he1 := hide he1
        go_wp2_with fail
        go_region_held3 (fun w' => w'.cell? ⟨b, off + q * 4, none⟩ = some (.string z.id.kind) ∧ w'.cell? ⟨b, off + q * 4 + 1, none⟩ = some (.string z.id.name) ∧ w'.cell? ⟨b, off + k * 4, none⟩ = some (.string x.id.kind) ∧ w'.cell? ⟨b, off + k * 4 + 1, none⟩ = some (.string x.id.name)) (go_keep)
          ((go_at_call 26; refine (refLess z.id x.id _).mono ?_; rintro e w2 ⟨rfl, he2⟩; have q0 := he2.cells (p := ⟨b, off + q * 4, none⟩) (v := .string z.id.kind) (by simpa using j0); have q1 := he2.cells (p := ⟨b, off + q * 4 + 1, none⟩) (v := .string z.id.name) (by simpa using j1); have q2 := he2.cells (p := ⟨b, off + k * 4, none⟩) (v := .string x.id.kind) (by simpa using m0); have q3 := he2.cells (p := ⟨b, off + k * 4 + 1, none⟩) (v := .string x.id.name) (by simpa using m1); replace he2 := hide he2))
        cases hb : mayB x
        · go_wp2
          go_ret
          exact ⟨retB (by rw [unhide H, unhide Hf hb]; rfl), (he.out.trans he1.out).drew.trans he2.out⟩
        cases hl : lessI z.id x.id
        · go_wp2
          go_ret
          exact ⟨retB (by rw [unhide H, unhide Hg hl]; simp), (he.out.trans he1.out).drew.trans he2.out⟩
        · go_wp2
          go_roundw
          case rel => exact ⟨k + 1, by omega, by go_num, ⟨by rw [unhide Hs]; exact hb, by rw [unhide Hr, hall.out.2]; exact hl⟩, (he.out.trans he1.out).drew.trans he2.out⟩
          case measure => simp [intOf]; omega
    · have Hl : Hid (l.take k = l) := List.take_of_length_le (by omega)
      have Hf2 : Hid (mayAllB l = true) := by
        have h := hall.out; rw [unhide Hl] at h; have := unhide H; rw [h.1, h.2] at this; simpa [Hid] using this
      replace he := hide he
      replace hs := hide hs
      go_wp2
      go_ret
      exact ⟨retB (by rw [unhide Hf2]), he.out⟩
end Go.Proofs.YtjebmabffocobaaDoor
