/-
  Records that may be: what the reference's functions answer.
-/
import Derived.Test.YtokogjhcgdhapaaRecMay
import Derived.Test.YtokogjhcgdhapaaRefMay
namespace Go.Proofs.Ytokogjhcgdhapaa
open Go.RowKit

set_option maxRecDepth 100000 in
set_option maxHeartbeats 800000 in
theorem refSameNone (b : Bool) (k n : ByteArray) (a2 a3 : Option Addr) (n2 n3 p2 p3 : Nat) (w : World) (h2 : n2 ≤ 4398046511200) (h3 : n3 ≤ 4398046511200) (hb : Hid (b = (k.data.toList.isEmpty && n.data.toList.isEmpty && decide (n2 = 0) && decide (n3 = 0)))) :
    Calls Try.prog 33 #[.agg #[.string k, .string n, .slice a2 n2 p2, .slice a3 n3 p3], .agg #[.string ⟨#[]⟩, .string ⟨#[]⟩, .slice none 0 0, .slice none 0 0]] w fun e w' => e = .returned (.bool b) ∧ Ext w w' := by
  by_cases hk : k.toList = []
  · by_cases hn : n.toList = []
    · by_cases h20 : n2 = 0
      · by_cases h30 : n3 = 0
        · have H : Hid (b = true) := by rw [hb.out]; simp [← ByteArray.toList_eq, hk, hn, h20, h30, Hid]
          subst h20 h30
          go_enter Try.func33, Try.ntmps33
          go_wp2_with fail
          go_loop [5] (fun i => i = .int .i64 0) (fun _ => 0)
          case atStart => rfl
          case round =>
            subst hrel
            go_wp2
            go_loop [6] (fun i => i = .int .i64 0) (fun _ => 0)
            case atStart => rfl
            case round =>
              subst hrel
              go_wp2
              go_ret
              exact ⟨retB (by rw [H.out]), ((Ext.refl _).alloc _).alloc _⟩
        · have H : Hid (b = false) := by rw [hb.out]; simp [h30, Hid]
          subst h20
          have h3' : ((n3 : Int) != 0) = true := by simp; omega
          go_enter Try.func33, Try.ntmps33
          go_wp2_with fail
          go_ret
          exact ⟨retB (by rw [H.out]), ((Ext.refl _).alloc _).alloc _⟩
      · have H : Hid (b = false) := by rw [hb.out]; simp [h20, Hid]
        have h2' : ((n2 : Int) != 0) = true := by simp; omega
        go_enter Try.func33, Try.ntmps33
        go_wp2_with fail
        go_ret
        exact ⟨retB (by rw [H.out]), ((Ext.refl _).alloc _).alloc _⟩
    · have H : Hid (b = false) := by rw [hb.out]; simp [← ByteArray.toList_eq, hn, Hid]
      go_enter Try.func33, Try.ntmps33
      go_wp2_with fail
      go_ret
      exact ⟨retB (by rw [H.out]), ((Ext.refl _).alloc _).alloc _⟩
  · have H : Hid (b = false) := by rw [hb.out]; simp [← ByteArray.toList_eq, hk, Hid]
    go_enter Try.func33, Try.ntmps33
    go_wp2_with fail
    go_ret
    exact ⟨retB (by rw [H.out]), ((Ext.refl _).alloc _).alloc _⟩

theorem rec_cells' {w : World} {k : Nat} {r : Recd} {c2 c3 : Value} {t : TypeId} {fz : Nat × Nat} (h : w.heap[k]? = some (.cells #[.int .i64 r.kind, .int .i64 r.epoch, .int .i64 r.number, .int .i64 r.op, .string r.res.id.kind, .string r.res.id.name, c2, c3] t fz)) :
    w.cell? ⟨k, 0, none⟩ = some (.int .i64 r.kind) ∧ w.cell? ⟨k, 1, none⟩ = some (.int .i64 r.epoch) ∧ w.cell? ⟨k, 2, none⟩ = some (.int .i64 r.number) ∧ w.cell? ⟨k, 3, none⟩ = some (.int .i64 r.op) ∧ w.cell? ⟨k, 4, none⟩ = some (.string r.res.id.kind) ∧ w.cell? ⟨k, 5, none⟩ = some (.string r.res.id.name) ∧ w.cell? ⟨k, 6, none⟩ = some c2 ∧ w.cell? ⟨k, 7, none⟩ = some c3 := by
  simp [World.cell?, h]
theorem empty_eq (x : Resd) : emptyB x = (x.id.kind.data.toList.isEmpty && x.id.name.data.toList.isEmpty && decide (x.attrs.length = 0) && decide (x.after.length = 0)) := by
  simp only [emptyB]
  cases x.attrs <;> cases x.after <;> simp

set_option maxRecDepth 100000 in
set_option maxHeartbeats 3200000 in
theorem refRecMay (r : Recd) (c2 c3 : Value) (w : World) (hr : ResV w c2 c3 r.res) :
    Calls Try.prog 15 #[.agg #[.int .i64 r.kind, .int .i64 r.epoch, .int .i64 r.number, .int .i64 r.op, .string r.res.id.kind, .string r.res.id.name, c2, c3]] w fun e w' => e = .returned (.bool (recB r)) ∧ Ext w w' := by
  have hr0 := hide hr
  obtain ⟨hI, hA, hF⟩ := hr
  obtain ⟨a2, p2, rfl⟩ := hA.form
  obtain ⟨a3, p3, rfl⟩ := hF.form
  have nA := hA.few
  have nF := hF.few
  replace hA := hide hA; replace hF := hide hF; replace hI := hide hI
  go_enter Try.func15, Try.ntmps15
  have Ho := hide (@recB_out r)
  have Hi := hide (@recB_in r)
  by_cases h1 : r.epoch < 1
  · have h1' : decide (r.epoch < 1) = true := by simpa using h1
    go_wp2_with fail
    go_ret
    exact ⟨retB (by rw [Ho.out (by omega)]), ((Ext.refl _).alloc _).alloc _⟩
  have h1' : decide (r.epoch < 1) = false := by simpa using h1
  by_cases h2 : 1000000 < r.epoch
  · have h2' : decide (1000000 < r.epoch) = true := by simpa using h2
    go_wp2_with fail
    go_ret
    exact ⟨retB (by rw [Ho.out (by omega)]), ((Ext.refl _).alloc _).alloc _⟩
  have h2' : decide (1000000 < r.epoch) = false := by simpa using h2
  by_cases h3 : r.number < 0
  · have h3' : decide (r.number < 0) = true := by simpa using h3
    go_wp2_with fail
    go_ret
    exact ⟨retB (by rw [Ho.out (by omega)]), ((Ext.refl _).alloc _).alloc _⟩
  have h3' : decide (r.number < 0) = false := by simpa using h3
  by_cases h4 : 1000000 < r.number
  · have h4' : decide (1000000 < r.number) = true := by simpa using h4
    go_wp2_with fail
    go_ret
    exact ⟨retB (by rw [Ho.out (by omega)]), ((Ext.refl _).alloc _).alloc _⟩
  have h4' : decide (1000000 < r.number) = false := by simpa using h4
  have HI := hide (Hi.out (by omega))
  clear Ho Hi
  have HJ : Hid (recB r = (if (r.kind == 1) = true then noneB r && r.number == 0 else if (r.kind == 2) = true then mayB r.res && decide (1 ≤ r.op) && decide (r.op ≤ 3) else if (r.kind == 3) = true then noneB r else if (r.kind == 4) = true then noneB r else false)) := by
    show _ = _
    rw [HI.out]
    simp only [beq_iff_eq, stepB]
    split
    · rw [Bool.and_comm]
    · split
      · cases mayB r.res <;> simp
      · split
        · split
          · rfl
          · rw [if_pos (by omega)]
        · rw [if_neg (by omega), if_neg (by omega)]
  have hno := hide (show noneB r = (r.op == 0 && emptyB r.res) from rfl)
  have hem := hide (empty_eq r.res)
  clear h1 h2 h3 h4 HI
  cases h0 : (r.op == 0)
  · have HN : Hid (noneB r = false) := by rw [hno.out, h0]; rfl
    generalize noneB r = nb at *
    obtain rfl := HN.out
    replace h0 : (r.op == 0) = false := h0
    cases k1 : (r.kind == 1)
    · cases k2 : (r.kind == 2)
      · cases k3 : (r.kind == 3)
        · cases k4 : (r.kind == 4)
          · go_wp2_with fail
            go_ret
            exact ⟨retB (by rw [HJ.out]; simp [k1, k2, k3, k4]), ((Ext.refl _).alloc _).alloc _⟩
          · go_wp2_with fail
            go_ret
            exact ⟨retB (by rw [HJ.out]; simp [k1, k2, k3, k4]), ((Ext.refl _).alloc _).alloc _⟩
        · go_wp2_with fail
          go_ret
          exact ⟨retB (by rw [HJ.out]; simp [k1, k2, k3]), ((Ext.refl _).alloc _).alloc _⟩
      · go_wp2_with fail
        refine (refMay _ _ r.res _ (hr0.out.ext (((Ext.refl _).alloc _).alloc _))).mono ?_
        rintro e w2 ⟨rfl, he2⟩
        have q3 := he2.cells (p := ⟨w.heap.size, 3, none⟩) (v := .int .i64 r.op) (by simp [go_sem])
        replace he2 := hide he2
        go_wp2_with fail
        all_goals go_ret
        all_goals exact ⟨retB (by rw [HJ.out]; first | (simp_all; done) | (simp_all; omega)), (((Ext.refl _).alloc _).alloc _).trans he2.out⟩
    · go_wp2_with fail
      go_ret
      exact ⟨retB (by rw [HJ.out]; simp [k1]), ((Ext.refl _).alloc _).alloc _⟩
  · have HN : Hid (noneB r = (r.res.id.kind.data.toList.isEmpty && r.res.id.name.data.toList.isEmpty && decide (r.res.attrs.length = 0) && decide (r.res.after.length = 0))) := by rw [hno.out, h0, hem.out]; rfl
    clear hno hem
    generalize noneB r = nb at *
    go_wp2_with fail
    refine (refSameNone nb _ _ _ _ _ _ _ _ _ nA nF HN).mono ?_
    rintro e w1 ⟨rfl, he1⟩
    have q0 := he1.cells (p := ⟨w.heap.size, 0, none⟩) (v := .int .i64 r.kind) (by simp [go_sem])
    have q3 := he1.cells (p := ⟨w.heap.size, 3, none⟩) (v := .int .i64 r.op) (by simp [go_sem])
    have q4 := he1.cells (p := ⟨w.heap.size, 4, none⟩) (v := .string r.res.id.kind) (by simp [go_sem])
    have q5 := he1.cells (p := ⟨w.heap.size, 5, none⟩) (v := .string r.res.id.name) (by simp [go_sem])
    have q6 := he1.cells (p := ⟨w.heap.size, 6, none⟩) (v := .slice a2 r.res.attrs.length p2) (by simp [go_sem])
    have q7 := he1.cells (p := ⟨w.heap.size, 7, none⟩) (v := .slice a3 r.res.after.length p3) (by simp [go_sem])
    have t1 := he1.cells (p := ⟨w.heap.size + 1, 1, none⟩) (v := .int .i64 r.number) (by simp [go_sem])
    have X1 := hide ((((Ext.refl w).alloc _).alloc _).trans he1)
    clear he1
    cases k1 : (r.kind == 1)
    · cases k2 : (r.kind == 2)
      · cases k3 : (r.kind == 3)
        · cases k4 : (r.kind == 4)
          · go_wp2_with fail
            go_ret
            exact ⟨retB (by rw [HJ.out]; simp [k1, k2, k3, k4]), X1.out⟩
          · go_wp2_with fail
            go_ret
            exact ⟨retB (by rw [HJ.out]; simp [k1, k2, k3, k4]), X1.out⟩
        · go_wp2_with fail
          go_ret
          exact ⟨retB (by rw [HJ.out]; simp [k1, k2, k3]), X1.out⟩
      · go_wp2_with fail
        refine (refMay _ _ r.res _ (hr0.out.ext X1.out)).mono ?_
        rintro e w2 ⟨rfl, he2⟩
        have p3' := he2.cells q3
        replace he2 := hide he2
        go_wp2_with fail
        all_goals go_ret
        all_goals exact ⟨retB (by rw [HJ.out]; first | (simp_all; done) | (simp_all; omega)), X1.out.trans he2.out⟩
    · go_wp2_with fail
      all_goals go_ret
      all_goals exact ⟨retB (by rw [HJ.out]; first | (simp_all; done) | (simp_all; omega)), X1.out⟩
end Go.Proofs.Ytokogjhcgdhapaa
