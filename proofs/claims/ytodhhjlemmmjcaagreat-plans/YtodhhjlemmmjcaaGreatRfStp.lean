/-
  The reference: Steps of lists that are whole.
-/
import Derived.Test.YtodhhjlemmmjcaaGreatRfSpN
import Derived.Test.YtodhhjlemmmjcaaGreatRfHeld
import Derived.Test.YtodhhjlemmmjcaaGreatRfSm
import Derived.Test.YtodhhjlemmmjcaaGreatJ5
import Derived.Test.YtodhhjlemmmjcaaGreatWhole
import Derived.Test.YtodhhjlemmmjcaaGreatJ6
import Derived.Deep.DeepCutAuto
import Derived.Deep.CutBlock
import Derived.Deep.AppendLies
import Derived.Deep.RegionHeld3
import Derived.BigQuiet
namespace Go.Proofs.YtodhhjlemmmjcaaGreat
open Go.RowKit

attribute [local go_sem] Go.World.cell?_alloc_some
theorem meas_lt {K n M i : Nat} (h : n + 1 ≤ K) : (K - (n + 1)) * (M + 1) + (M - 0) < (K - n) * (M + 1) + (M - i) := by
  obtain ⟨d, rfl⟩ : ∃ d, K = n + 1 + d := ⟨K - (n + 1), by omega⟩
  rw [show n + 1 + d - (n + 1) = d by omega, show n + 1 + d - n = d + 1 by omega, Nat.succ_mul]
  omega
theorem FineP.apart {l : List Resd} (h : FineP l) : Apart l := may_apart h.1
theorem FineP.all {l : List Resd} (h : FineP l) : ∀ x ∈ l, ∀ a ∈ x.after, ∃ j, placeL l a = some j := by
  intro x hx a ha
  obtain ⟨i, hi⟩ := List.mem_iff_getElem?.1 hx
  obtain ⟨k, hk⟩ := List.mem_iff_getElem?.1 ha
  exact h.2.1 i x hi k a hk
theorem map_done {α : Type} {f : α → Bool} {l : List α} {fl : List Bool} (hn : fl.length = l.length) (h : ∀ a : Nat, a < l.length → fl[a]? = (l.map f)[a]?) : fl = l.map f := by
  apply List.ext_getElem?
  intro i
  by_cases hi : i < l.length
  · exact h i hi
  · rw [List.getElem?_eq_none (by omega), List.getElem?_eq_none (by simp; omega)]
theorem map_step {α : Type} {f : α → Bool} {l : List α} {fl : List Bool} {i : Nat} {x : α} {b : Bool} (hx : l[i]? = some x) (hb : b = f x) (hn : fl.length = l.length) (h : ∀ a : Nat, a < i → fl[a]? = (l.map f)[a]?) : (fl.set i b).length = l.length ∧ ∀ a : Nat, a < i + 1 → (fl.set i b)[a]? = (l.map f)[a]? := by
  have hi := (List.getElem?_eq_some_iff.1 hx).1
  refine ⟨by simp [hn], fun a ha => ?_⟩
  rw [List.getElem?_set]
  by_cases e : i = a
  · subst e
    rw [if_pos rfl, if_pos (by omega), List.getElem?_map, hx, hb]; rfl
  · rw [if_neg e]; exact h a (by omega)
/-- What the steps made so far, and the marks, say. -/
structure LpM (l m : List Resd) (ps : List StepP) (i : Nat) (fl : List Bool) : Prop where
  len : fl.length = m.length
  held : ∀ j : Nat, j < i → fl[j]? = some true → HeldI m fl j
  out : ps.map stepOf ++ ordF (mayMake m) (flagT (opOf l) m fl).length (flagT (opOf l) m fl) = ordF (mayMake m) (makesL l m).length (makesL l m)
  sum : ps.length + (flagT (opOf l) m fl).length = (makesL l m).length
theorem flagT_le {op : Resd → Nat} : ∀ (l : List Resd) (fl : List Bool), (flagT op l fl).length ≤ l.length
  | [], _ => by simp [flagT]
  | _ :: _, [] => by simp [flagT]
  | x :: l, b :: fl => by
    have := flagT_le (op := op) l fl
    unfold flagT
    split
    · simp; exact this
    · simp; omega
theorem LpM.few {l m : List Resd} {ps : List StepP} {i : Nat} {fl : List Bool} (h : LpM l m ps i fl) : ps.length ≤ m.length := by
  have h1 := h.sum
  have h2 : (makesL l m).length ≤ m.length := by unfold makesL; exact List.length_filterMap_le _ _
  omega
theorem LpM.skip {l m : List Resd} {ps : List StepP} {i : Nat} {fl : List Bool} (h : LpM l m ps i fl) (hi : fl[i]? = some true → HeldI m fl i) : LpM l m ps (i + 1) fl := by
  refine ⟨h.len, fun j hj hf => ?_, h.out, h.sum⟩
  by_cases e : j = i
  · subst e; exact hi hf
  · exact h.held j (by omega) hf
theorem LpM.take {l m : List Resd} {ps : List StepP} {i : Nat} {fl : List Bool} {x : Resd} {c2 c3 : Value} (h : LpM l m ps i fl) (hd : Apart m) (hx : m[i]? = some x) (hf : fl[i]? = some true) (hh : ¬ HeldI m fl i) : LpM l m (ps ++ [⟨opOf l x, x, c2, c3⟩]) 0 (fl.set i false) := by
  have hl := flag_len (op := opOf l) hx hf
  refine ⟨by simp [h.len], fun j hj => absurd hj (by omega), ?_, ?_⟩
  · rw [← h.out, hl, ord_make hd hx hf hh h.held, List.map_append, List.append_assoc]
    rfl
  · have := h.sum
    simp; omega
theorem LpM.done {l m : List Resd} {ps : List StepP} {i : Nat} {fl : List Bool} (h : LpM l m ps i fl) (hd : Apart m) (hi : m.length ≤ i) : ps.map stepOf = ordF (mayMake m) (makesL l m).length (makesL l m) := by
  rw [← h.out, ord_make_end hd fun j hj => h.held j (by omega), List.append_nil]
/-- The same, of what is taken away. -/
structure LpD (old : List Resd) (A D : List StepD) (ps : List StepP) (i : Nat) (fl : List Bool) : Prop where
  len : fl.length = old.length
  held : ∀ j : Nat, j < i → fl[j]? = some true → NeededI old fl j
  out : ps.map stepOf ++ ordF mayDel (flagT (fun _ => 3) old fl).length (flagT (fun _ => 3) old fl) = A ++ ordF mayDel D.length D
  sum : ps.length + (flagT (fun _ => 3) old fl).length = A.length + D.length
theorem LpD.skip {old : List Resd} {A D : List StepD} {ps : List StepP} {i : Nat} {fl : List Bool} (h : LpD old A D ps i fl) (hi : fl[i]? = some true → NeededI old fl i) : LpD old A D ps (i + 1) fl := by
  refine ⟨h.len, fun j hj hf => ?_, h.out, h.sum⟩
  by_cases e : j = i
  · subst e; exact hi hf
  · exact h.held j (by omega) hf
theorem LpD.take {old : List Resd} {A D : List StepD} {ps : List StepP} {i : Nat} {fl : List Bool} {x : Resd} {c2 c3 : Value} (h : LpD old A D ps i fl) (hx : old[i]? = some x) (hf : fl[i]? = some true) (hh : ¬ NeededI old fl i) : LpD old A D (ps ++ [⟨3, x, c2, c3⟩]) 0 (fl.set i false) := by
  have hl := flag_len (op := fun _ => 3) hx hf
  refine ⟨by simp [h.len], fun j hj => absurd hj (by omega), ?_, ?_⟩
  · rw [← h.out, hl, ord_del hx hf hh h.held, List.map_append, List.append_assoc]
    rfl
  · have := h.sum
    simp; omega
theorem LpD.done {old : List Resd} {A D : List StepD} {ps : List StepP} {i : Nat} {fl : List Bool} (h : LpD old A D ps i fl) (hi : old.length ≤ i) : ps.map stepOf = A ++ ordF mayDel D.length D := by
  rw [← h.out, ord_del_end fun j hj => h.held j (by omega), List.append_nil]
/-- Steps of our own, whose resources came in. -/
structure OutS (w wr : World) (v : Value) (ps : List StepP) : Prop where
  row : wr.ownsRow w.heap.size 60 5 v ps.length (ps.flatMap cSt)
  each : ∀ p ∈ ps, ResV w p.c2 p.c3 p.x
theorem OutS.ext {w wr wr' : World} {v : Value} {ps : List StepP} (h : OutS w wr v ps) (e : Ext wr wr') : OutS w wr' v ps :=
  ⟨ownsRow_wrote h.row (Wrote.ext (B := 0) (T := fun _ => False) e) id rfl, h.each⟩
theorem OutS.mark {w wr : World} {v : Value} {ps : List StepP} (h : OutS w wr v ps) {C i : Nat} {fl : List Bool} (hr : rowB wr C fl) (b : Bool) : OutS w (wr.setCell ⟨C, i, none⟩ (.bool b)) v ps := by
  obtain ⟨c, hc, -, -⟩ := hr
  exact ⟨ownsRow_set h.row hc (by decide) _, h.each⟩
theorem OutS.more {w wr w' : World} {pa : Option Addr} {cap g c : Nat} {ps : List StepP} {p : StepP} (h : OutS w wr (.slice pa ps.length cap) ps) (ho : w'.ownsRow w.heap.size 60 5 (.slice (some ⟨g, 0, none⟩) (ps.length + 1) c) (ps.length + 1) (ps.flatMap cSt ++ cSt p)) (hp : ResV w p.c2 p.c3 p.x) : OutS w w' (.slice (some ⟨g, 0, none⟩) (ps ++ [p]).length c) (ps ++ [p]) := by
  have hl : (ps ++ [p]).length = ps.length + 1 := by simp
  refine ⟨?_, fun q hq => ?_⟩
  · rw [hl, List.flatMap_append]; simpa using ho
  · rcases List.mem_append.1 hq with hq | hq
    · exact h.each q hq
    · obtain rfl : q = p := by simpa using hq
      exact hp
theorem rowB_grown {w wr w' : World} {v : Value} {ps : List StepP} {C : Nat} {fl : List Bool} (hO : OutS w wr v ps) (hr : rowB wr C fl) (hg : wr.grownBy w' v.ownBlock) : rowB w' C fl := by
  refine World.rowIs.of_block hr (hg.block C (World.rowIs.lt hr) fun e => ?_)
  rcases hO.row.2 with ⟨h, _⟩ | ⟨g, cap, cur, h, _, hgb, _⟩
  · rw [h] at e; simp [Value.ownBlock] at e
  · rw [h] at e
    obtain rfl : C = g := by simpa [Value.ownBlock] using e
    obtain ⟨c, hc, _⟩ := hr
    rw [hgb] at hc
    simp only [Option.some.injEq, Obj.cells.injEq] at hc
    exact absurd hc.2.1 (by decide)
theorem gone_none {m : List Resd} {x : Resd} (h : placeL m x.id = none) : isGone m x = true := by
  simp only [isGone, decide_eq_true_eq, List.mem_map]
  rintro ⟨y, hy, e⟩
  have := List.findIdx?_eq_none_iff.1 h y hy
  rw [e] at this
  simp at this
theorem gone_some {m : List Resd} {x : Resd} {j : Nat} (h : placeL m x.id = some j) : isGone m x = false := by
  obtain ⟨y, hy, e⟩ := place_id h
  simp only [isGone, decide_eq_false_iff_not, Classical.not_not, List.mem_map]
  exact ⟨y, List.mem_of_getElem? hy, e⟩
/-- So far, one that is to go needs it. -/
def NeedK (l : List Resd) (fl : List Bool) (x : Resd) (k : Nat) : Prop := ∃ (k' : Nat) (y : Resd), k' < k ∧ l[k']? = some y ∧ fl[k']? = some true ∧ x.id ∈ y.after
theorem need_all {l : List Resd} {fl : List Bool} {i : Nat} {x : Resd} (hx : l[i]? = some x) : NeedK l fl x l.length ↔ NeededI l fl i := by
  constructor
  · rintro ⟨k, y, -, h1, h2, h3⟩; exact ⟨k, y, x, h1, h2, hx, h3⟩
  · rintro ⟨k, y, x', h1, h2, h3, h4⟩
    obtain rfl : x = x' := by simpa using hx.symm.trans h3
    exact ⟨k, y, (List.getElem?_eq_some_iff.1 h1).1, h1, h2, h4⟩
theorem need_step {l : List Resd} {fl : List Bool} {x y : Resd} {k : Nat} (hy : l[k]? = some y) : NeedK l fl x (k + 1) ↔ NeedK l fl x k ∨ (fl[k]? = some true ∧ x.id ∈ y.after) := by
  constructor
  · rintro ⟨k', z, h0, h1, h2, h3⟩
    by_cases e : k' = k
    · subst e
      obtain rfl : y = z := by simpa using hy.symm.trans h1
      exact .inr ⟨h2, h3⟩
    · exact .inl ⟨k', z, by omega, h1, h2, h3⟩
  · rintro (⟨k', z, h0, h1, h2, h3⟩ | ⟨h1, h2⟩)
    · exact ⟨k', z, by omega, h1, h2, h3⟩
    · exact ⟨k, y, by omega, hy, h1, h2⟩
theorem take_mem2 {α : Type} {l : List α} {t : Nat} {a b : α} (h : l[t]? = some a) : b ∈ l.take (t + 1) ↔ b ∈ l.take t ∨ b = a := by
  rw [List.take_add_one, h]; simp
theorem id_same {a b : IDd} (h1 : a.kind = b.kind) (h2 : a.name = b.name) : a = b := by cases a; cases b; simp only at h1 h2; rw [h1, h2]

set_option maxRecDepth 100000 in
set_option maxHeartbeats 12800000 in
theorem refSteps (u v : Value) (l m : List Resd) (w : World) (hu : RessV w u l) (hv : RessV w v m) (hl : FineP l) (hm : FineP m) :
    Calls Tryz.prog 4 #[u, v] w fun e w' => ∃ out, e = .returned (.tuple #[out, .int .i64 0]) ∧ Hid (StepsV w' out (stepsS l m)) ∧ Hid (Ext w w') := by
  have hm1 := hide (refMays u l w hu)
  have l12 := may_few hl.1
  have m12 := may_few hm.1
  obtain ⟨pu, cu, rfl, cu1, cu2, hul⟩ := hu.shape
  obtain ⟨pv, cv, rfl, cv1, cv2, hvm⟩ := hv.shape
  obtain ⟨i0, hi0, hz0, hz1, hz2⟩ := info_of infoStep
  replace hu := hide hu; replace hv := hide hv; replace hl := hide hl; replace hm := hide hm; replace hul := hide hul; replace hvm := hide hvm; replace hi0 := hide hi0
  go_enter Tryz.func4, Tryz.ntmps4
  go_upto_region 1 with fail
  go_cut [6] (fun bv wx => bv = .bool true ∧ Hid (Ext w wx))
  case first =>
    have e1 := hl.out.1
    go_wp2_with fail
    refine hm1.out.mono ?_
    rintro e1 w1 ⟨rfl, he1⟩
    replace he1 := hide he1
    rw [hl.out.1]
    go_wp2_with fail
    refine (refWhole _ l _ (hu.out.ext he1.out) (Nat.le_trans l12 (by decide))).mono ?_
    rintro e2 w2 ⟨b2, rfl, hb2, he2⟩
    obtain rfl : b2 = true := hb2.2 hl.out.2
    replace he2 := hide he2
    go_wp2_with fail
    go_meet
    exact ⟨rfl, he1.out.trans he2.out⟩
  case rest =>
    obtain ⟨rfl, hx1⟩ := hcut
    obtain ⟨w1, rfl⟩ : ∃ w1 : World, w1 = wc := ⟨_, rfl⟩
    have hm2 := hide (refMays _ m w1 (hv.out.ext hx1.out))
    go_upto_region 2 with fail
    go_cut [7] (fun bv wx => bv = .bool true ∧ Hid (Ext w wx))
    case first =>
      go_wp2_with fail
      refine hm2.out.mono ?_
      rintro e2 w2 ⟨rfl, he2⟩
      replace he2 := hide he2
      rw [hm.out.1]
      go_wp2_with fail
      refine (refWhole _ m _ ((hv.out.ext hx1.out).ext he2.out) (Nat.le_trans m12 (by decide))).mono ?_
      rintro e3 w3 ⟨b3, rfl, hb3, he3⟩
      obtain rfl : b3 = true := hb3.2 hm.out.2
      replace he3 := hide he3
      go_wp2_with fail
      go_meet
      exact ⟨rfl, hx1.out.trans (he2.out.trans he3.out)⟩
    case rest =>
      clear hm1 hm2 hx1
      obtain ⟨rfl, hx2⟩ := hcut
      obtain ⟨w2, rfl⟩ : ∃ w2 : World, w2 = wc := ⟨_, rfl⟩
      have hmk := make_bools m.length (by omega)
      go_wp2_with fail
      go_loopw [10] (fun iv wr => ∃ (i : Nat) (fl : List Bool), i ≤ m.length ∧ iv = .int .i64 i ∧ Hid (fl.length = m.length ∧ ∀ a : Nat, a < i → fl[a]? = (m.map (isMake l))[a]?) ∧ Hid (rowB wr w2.heap.size fl) ∧ Hid (Ext w2 wr)) (fun iv _ => m.length - (intOf iv).toNat)
      case atStart => exact ⟨0, List.replicate m.length false, Nat.zero_le _, rfl, ⟨by simp, fun a h => by omega⟩, rowB_made w2 _, (Ext.refl _).alloc _⟩
      case round =>
        obtain ⟨i, fl, hi, rfl, hfl, hrow, hx⟩ := hrel
        have X := hide (hx2.out.trans hx.out)
        by_cases hlt : i < m.length
        · obtain ⟨x, hxi⟩ := some_of_lt hlt
          rcases hvm.out with h | ⟨b, off, rfl, hres⟩
          · rw [h] at hlt; simp at hlt
          obtain ⟨g0, g1, c2, c3, g2, g3, hR⟩ := hres i x hxi
          obtain ⟨a2, p2, rfl⟩ := hR.attrs.form
          obtain ⟨a3, p3, rfl⟩ := hR.after.form
          have G := hide (And.intro g0 (And.intro g1 (And.intro g2 g3)))
          replace g0 := X.out.cells g0; replace g1 := X.out.cells g1
          clear g2 g3
          have i2 : (i : Int) < (m.length : Int) := by omega
          have i4 : (0 : Int) ≤ (i : Int) := by omega
          replace hres := hide hres; replace hR := hide hR; replace hxi := hide hxi
          clear hmk
          go_wp2_with fail
          refine (refFind _ l x.id _ (hu.out.ext X.out)).mono ?_
          rintro e3 w3 ⟨rfl, he3⟩
          have X3 := hide (X.out.trans he3)
          have R3 := hide (hrow.out.ext he3)
          have E3 := hide (hx.out.trans he3)
          clear g0 g1
          replace he3 := hide he3
          obtain ⟨q, hq⟩ : ∃ q, fl[i]? = some q := ⟨_, List.getElem?_eq_getElem (by rw [hfl.out.1]; exact hlt)⟩
          have cq := R3.out.cell hq
          have fq := World.rowIs.frozen R3.out i
          cases hp : placeL l x.id with
          | none =>
            have hpi : placeI l x.id = -1 := by unfold placeI; rw [hp]
            have hst := hide (map_step (f := isMake l) (b := true) hxi.out (by simp [isMake, hp]) hfl.out.1 hfl.out.2)
            rw [hpi]
            replace hp := hide hp; replace hpi := hide hpi; replace hq := hide hq
            go_wp2_with fail
            go_big_region
            go_wp2_with fail
            go_roundw
            case rel => exact ⟨i + 1, fl.set i true, by omega, by go_num, hst, (R3.out.set i true).ext (Ext.refl _).drew, (E3.out.setCell (Nat.le_refl _) _).drew⟩
            case measure => simp [intOf]; omega
          | some j =>
            have hpi : placeI l x.id = (j : Int) := by unfold placeI; rw [hp]
            obtain ⟨y, hyj, -⟩ := place_id hp
            have hjl := place_lt hp
            rcases hul.out with h | ⟨b', off', rfl, hres'⟩
            · rw [h] at hjl; simp at hjl
            obtain ⟨k0, k1, d2, d3, k2, k3, hR'⟩ := hres' j y hyj
            obtain ⟨q2, r2, rfl⟩ := hR'.attrs.form
            obtain ⟨q3, r3, rfl⟩ := hR'.after.form
            have hblt : Hid (b' < w.heap.size) := World.block_lt_of_cell? w _ k0
            replace k0 := X3.out.cells k0; replace k1 := X3.out.cells k1; replace k2 := X3.out.cells k2; replace k3 := X3.out.cells k3
            obtain ⟨g0, g1, g2, g3⟩ := G.out
            replace g0 := X3.out.cells g0; replace g1 := X3.out.cells g1; replace g2 := X3.out.cells g2; replace g3 := X3.out.cells g3
            have hst : Hid (∀ b : Bool, (b = true ↔ y = x) → (fl.set i (!b)).length = m.length ∧ ∀ a : Nat, a < i + 1 → (fl.set i (!b))[a]? = (m.map (isMake l))[a]?) := fun b hb => map_step (f := isMake l) hxi.out (by
              simp only [isMake, hp]
              cases b
              · have : ¬ y = x := fun e => by have := hb.2 e; cases this
                simp
                rw [hyj]
                simpa using this
              · simp
                rw [hyj, hb.1 rfl]) hfl.out.1 hfl.out.2
            rw [hpi]
            have j2 : (j : Int) < (l.length : Int) := by omega
            have j4 : (0 : Int) ≤ (j : Int) := by omega
            have j5 : decide ((j : Int) < 0) = false := by simp
            have nb : ¬ b = w2.heap.size := by have := World.block_lt_of_cell? w _ G.out.1; have := Ext.size hx2.out; simp only at *; omega
            have nb' : ¬ b' = w2.heap.size := by have := hblt.out; have := Ext.size hx2.out; omega
            have hsame := hide (fun wz (e : Ext w3 wz) => refSame (.slice q2 y.attrs.length r2) (.slice q3 y.after.length r3) (.slice a2 x.attrs.length p2) (.slice a3 x.after.length p3) y x wz (hR'.ext (X3.out.trans e)) (hR.out.ext (X3.out.trans e)))
            replace hp := hide hp; replace hpi := hide hpi; replace hyj := hide hyj; replace hres' := hide hres'; replace hR' := hide hR'; replace hq := hide hq
            go_wp2_with fail
            go_region_held3 (fun w' => w'.cell? ⟨b', off' + j * 4, none⟩ = some (.string y.id.kind) ∧ w'.cell? ⟨b', off' + j * 4 + 1, none⟩ = some (.string y.id.name) ∧ w'.cell? ⟨b', off' + j * 4 + 2, none⟩ = some (.slice q2 y.attrs.length r2) ∧ w'.cell? ⟨b', off' + j * 4 + 3, none⟩ = some (.slice q3 y.after.length r3) ∧ w'.cell? ⟨b, off + i * 4, none⟩ = some (.string x.id.kind) ∧ w'.cell? ⟨b, off + i * 4 + 1, none⟩ = some (.string x.id.name) ∧ w'.cell? ⟨b, off + i * 4 + 2, none⟩ = some (.slice a2 x.attrs.length p2) ∧ w'.cell? ⟨b, off + i * 4 + 3, none⟩ = some (.slice a3 x.after.length p3)) (first | go_keep | (simp only [cell_set_far nb, cell_set_far nb']; go_keep))
              ((go_at_call 14; refine (hsame.out _ (by first | exact (Ext.refl w3).drew | exact (Ext.refl w3).drewN _ | exact Ext.refl w3)).mono ?_; rintro e4 w4 ⟨b4, rfl, hb4, he4⟩; go_must (have E4 : Hid (Ext w3 w4) := (by first | exact (Ext.refl w3).drew.trans he4.out | exact ((Ext.refl w3).drewN _).trans he4.out | exact he4.out); have R4 := hide (R3.out.ext E4.out); have cq4 := R4.out.cell hq.out; have fq4 := World.rowIs.frozen R4.out i; have z0 := E4.out.cells k0; have z1 := E4.out.cells k1; have z2 := E4.out.cells k2; have z3 := E4.out.cells k3; have z4 := E4.out.cells g0; have z5 := E4.out.cells g1; have z6 := E4.out.cells g2; have z7 := E4.out.cells g3)))
            go_wp2_with fail
            go_roundw
            case rel => exact ⟨i + 1, fl.set i (!b4), by omega, by go_num, hst.out b4 hb4.out, (R4.out.set i (!b4)).ext (by first | exact Ext.refl _ | exact (Ext.refl _).drew), (by first | exact (E3.out.trans E4.out).setCell (Nat.le_refl _) _ | exact ((E3.out.trans E4.out).setCell (Nat.le_refl _) _).drew)⟩
            case measure => simp [intOf]; omega
        · obtain rfl : i = m.length := by omega
          have hfe : Hid (fl = m.map (isMake l)) := map_done hfl.out.1 hfl.out.2
          have hst : Hid (LpM l m [] 0 fl) := by
            refine ⟨hfl.out.1, fun j hj => absurd hj (by omega), ?_, ?_⟩
            · rw [hfe.out, ← makes_flag]; rfl
            · rw [hfe.out, ← makes_flag]; simp
          clear hfl hfe hmk
          have hCw : Hid (w.heap.size ≤ w2.heap.size) := Ext.size hx2.out
          have hmk2 := make_bools l.length (by omega)
          go_wp2_with fail
          go_loopw [8, 12] (fun ov iv wr => ∃ (ps : List StepP) (pa : Option Addr) (cap i : Nat) (fl : List Bool), ov = .slice pa ps.length cap ∧ iv = .int .i64 i ∧ i ≤ m.length ∧ Hid (LpM l m ps i fl) ∧ Hid (OutS w wr (.slice pa ps.length cap) ps) ∧ Hid (rowB wr w2.heap.size fl) ∧ Hid (Ext w wr)) (fun ov iv _ => ((makesL l m).length - lenV ov) * (m.length + 1) + (m.length - (intOf iv).toNat))
          case atStart => exact ⟨[], none, 0, 0, fl, rfl, rfl, Nat.zero_le _, hst, ⟨World.ownsRow_nil _ _ _ _, fun p hp => (by cases hp)⟩, hrow, X⟩
          case round =>
            clear hst hrow X hx
            obtain ⟨ps, pa, cap, i, fl, rfl, rfl, hi, hL, hO, hrow, hX⟩ := hrel
            have hpsn := hL.out.few
            by_cases hlt : i < m.length
            · obtain ⟨x, hxi⟩ := some_of_lt hlt
              rcases hvm.out with h | ⟨b, off, rfl, hres⟩
              · rw [h] at hlt; simp at hlt
              obtain ⟨g0, g1, c2, c3, g2, g3, hR⟩ := hres i x hxi
              obtain ⟨a2, p2, rfl⟩ := hR.attrs.form
              obtain ⟨a3, p3, rfl⟩ := hR.after.form
              have i2 : (i : Int) < (m.length : Int) := by omega
              have i4 : (0 : Int) ≤ (i : Int) := by omega
              replace hres := hide hres; replace hR := hide hR; replace hxi := hide hxi; replace g0 := hide g0; replace g1 := hide g1; replace g2 := hide g2; replace g3 := hide g3
              obtain ⟨q, hq⟩ : ∃ q, fl[i]? = some q := ⟨_, List.getElem?_eq_getElem (by rw [hL.out.len]; exact hlt)⟩
              replace hq := hide hq
              go_wp2_with fail
              refine (refHeld _ m w2.heap.size fl hm.out.apart hm.out.2.2 hm.out.all hL.out.len (rankI m i) i _ (Nat.le_refl _) hlt (hv.out.ext hX.out) hrow.out).mono ?_
              rintro e4 w4 ⟨b4, rfl, hb4, he4⟩
              have X4 := hide (hX.out.trans he4.out)
              have R4 := hide (hrow.out.ext he4.out)
              have O4 := hide (hO.out.ext he4.out)
              have cq := R4.out.cell hq.out
              clear he4 hX hrow hO
              cases q with
              | false =>
                go_wp2_with fail
                go_roundw
                case rel => exact ⟨ps, pa, cap, i + 1, fl, rfl, by go_num, by omega, hL.out.skip (fun h => by rw [hq.out] at h; cases h), O4, R4, X4⟩
                case measure => simp [intOf, lenV]; omega
              | true =>
                cases b4 with
                | true =>
                  go_wp2_with fail
                  go_roundw
                  case rel => exact ⟨ps, pa, cap, i + 1, fl, rfl, by go_num, by omega, hL.out.skip (fun _ => by first | exact hb4.out.1 rfl | exact hb4.out.1 trivial), O4, R4, X4⟩
                  case measure => simp [intOf, lenV]; omega
                | false =>
                  have hnot : Hid (¬ HeldI m fl i) := fun h => by have := hb4.out.2 h; cases this
                  have h0 := X4.out.cells g0.out
                  have h1 := X4.out.cells g1.out
                  go_wp2_with fail
                  refine (refFind _ l x.id _ (hu.out.ext X4.out)).mono ?_
                  rintro e5 w5 ⟨rfl, he5⟩
                  have X5 := hide (X4.out.trans he5)
                  have R5 := hide (R4.out.ext he5)
                  have O5 := hide (O4.out.ext he5)
                  clear he5 cq h0 h1
                  have h0 := X5.out.cells g0.out
                  have h1 := X5.out.cells g1.out
                  have h2 := X5.out.cells g2.out
                  have h3 := X5.out.cells g3.out
                  cases hp : placeL l x.id with
                  | none =>
                    have hop : opOf l x = 1 := by simp [opOf, hp]
                    have hT := hL.out.take (c2 := .slice a2 x.attrs.length p2) (c3 := .slice a3 x.after.length p3) hm.out.apart hxi.out hq.out hnot.out
                    rw [hop] at hT
                    replace hT := hide hT; replace hop := hide hop
                    have hK : ps.length + 1 ≤ (makesL l m).length := by have := hT.out.sum; simp at this; omega
                    have hpi : placeI l x.id = -1 := by unfold placeI; rw [hp]
                    rw [hpi]
                    replace hp := hide hp; replace hpi := hide hpi
                    go_wp2_with (at_builtin; go_must (refine wpList_append_lies _ rfl (.tmp 98) (.tmp 105) 23 rfl w.heap.size 60 i0 (.agg #[.int .i64 0, .string ⟨#[]⟩, .string ⟨#[]⟩, .slice none 0 0, .slice none 0 0]) 5 88 Tryz.underlying23 hi0.out hz0 hz1 hz2 rfl (by omega) _ ps.length (ps.flatMap cSt) rfl (O5.out.row.alloc _) ⟨w5.heap.size, 0, none⟩ 1 1 (cSt ⟨1, x, .slice a2 x.attrs.length p2, .slice a3 x.after.length p3⟩) rfl rfl ?_ cSt_one (by omega) (by unfold maxLen; omega) (by omega) (by have := Ext.size X5.out; simp; omega) (w5.heap.size + 1) (by simp) ?_; (intro r u hu; rw [add_eq]; (match r, hu with | 0, hu => (simp [cSt] at hu; subst hu; simp [go_sem]) | 1, hu => (simp [cSt] at hu; subst hu; simp [go_sem]) | 2, hu => (simp [cSt] at hu; subst hu; simp [go_sem]) | 3, hu => (simp [cSt] at hu; subst hu; simp [go_sem]) | 4, hu => (simp [cSt] at hu; subst hu; simp [go_sem]) | _ + 5, hu => (simp [cSt] at hu))); intro g6 cap6 w6 hown6 hgrow6 hat6 hlt6; have R6 := hide (rowB_grown (O5.out.ext ((Ext.refl w5).alloc _)) (R5.out.ext ((Ext.refl w5).alloc _)) hgrow6); have cq6 := R6.out.cell hq.out; have fq6 := World.rowIs.frozen R6.out i))
                    have hW6 : Wrote w.heap.size (· = 60) w5 w6 := (Wrote.refl w.heap.size _ w5).grownAt O5.out.row rfl hgrow6
                    have X6 := hide (X5.out.wrote hW6 (Nat.le_refl _))
                    have O6 := hide (OutS.more O5.out hown6 (p := ⟨1, x, .slice a2 x.attrs.length p2, .slice a3 x.after.length p3⟩) hR.out)
                    go_roundw
                    case rel =>
                      have hl6 : (ps ++ [(⟨1, x, .slice a2 x.attrs.length p2, .slice a3 x.after.length p3⟩ : StepP)]).length = ps.length + 1 := by simp
                      exact ⟨_, some ⟨g6, 0, none⟩, cap6, 0, fl.set i false, by rw [hl6], by go_num, Nat.zero_le _, hT, O6.out.mark R6.out false, R6.out.set i false, X6.out.setCell hCw.out _⟩
                    case measure => simpa [intOf, lenV] using meas_lt (i := i) (M := m.length) hK
                  | some j =>
                    have hop : opOf l x = 2 := by simp [opOf, hp]
                    have hT := hL.out.take (c2 := .slice a2 x.attrs.length p2) (c3 := .slice a3 x.after.length p3) hm.out.apart hxi.out hq.out hnot.out
                    rw [hop] at hT
                    replace hT := hide hT; replace hop := hide hop
                    have hK : ps.length + 1 ≤ (makesL l m).length := by have := hT.out.sum; simp at this; omega
                    have hpi : placeI l x.id = (j : Int) := by unfold placeI; rw [hp]
                    have j5 : (0 : Int) ≤ (j : Int) := by omega
                    rw [hpi]
                    replace hp := hide hp; replace hpi := hide hpi
                    go_wp2_with (at_builtin; go_must (refine wpList_append_lies _ rfl (.tmp 98) (.tmp 105) 23 rfl w.heap.size 60 i0 (.agg #[.int .i64 0, .string ⟨#[]⟩, .string ⟨#[]⟩, .slice none 0 0, .slice none 0 0]) 5 88 Tryz.underlying23 hi0.out hz0 hz1 hz2 rfl (by omega) _ ps.length (ps.flatMap cSt) rfl (O5.out.row.alloc _) ⟨w5.heap.size, 0, none⟩ 1 1 (cSt ⟨2, x, .slice a2 x.attrs.length p2, .slice a3 x.after.length p3⟩) rfl rfl ?_ cSt_one (by omega) (by unfold maxLen; omega) (by omega) (by have := Ext.size X5.out; simp; omega) (w5.heap.size + 1) (by simp) ?_; (intro r u hu; rw [add_eq]; (match r, hu with | 0, hu => (simp [cSt] at hu; subst hu; simp [go_sem]) | 1, hu => (simp [cSt] at hu; subst hu; simp [go_sem]) | 2, hu => (simp [cSt] at hu; subst hu; simp [go_sem]) | 3, hu => (simp [cSt] at hu; subst hu; simp [go_sem]) | 4, hu => (simp [cSt] at hu; subst hu; simp [go_sem]) | _ + 5, hu => (simp [cSt] at hu))); intro g6 cap6 w6 hown6 hgrow6 hat6 hlt6; have R6 := hide (rowB_grown (O5.out.ext ((Ext.refl w5).alloc _)) (R5.out.ext ((Ext.refl w5).alloc _)) hgrow6); have cq6 := R6.out.cell hq.out; have fq6 := World.rowIs.frozen R6.out i))
                    have hW6 : Wrote w.heap.size (· = 60) w5 w6 := (Wrote.refl w.heap.size _ w5).grownAt O5.out.row rfl hgrow6
                    have X6 := hide (X5.out.wrote hW6 (Nat.le_refl _))
                    have O6 := hide (OutS.more O5.out hown6 (p := ⟨2, x, .slice a2 x.attrs.length p2, .slice a3 x.after.length p3⟩) hR.out)
                    go_roundw
                    case rel =>
                      have hl6 : (ps ++ [(⟨2, x, .slice a2 x.attrs.length p2, .slice a3 x.after.length p3⟩ : StepP)]).length = ps.length + 1 := by simp
                      exact ⟨_, some ⟨g6, 0, none⟩, cap6, 0, fl.set i false, by rw [hl6], by go_num, Nat.zero_le _, hT, O6.out.mark R6.out false, R6.out.set i false, X6.out.setCell hCw.out _⟩
                    case measure => simpa [intOf, lenV] using meas_lt (i := i) (M := m.length) hK
            · obtain rfl : i = m.length := by omega
              have hdn : Hid (ps.map stepOf = ordF (mayMake m) (makesL l m).length (makesL l m)) := hL.out.done hm.out.apart (Nat.le_refl _)
              clear hL hrow
              obtain ⟨w6, rfl⟩ : ∃ w6 : World, w6 = wr := ⟨_, rfl⟩
              have hC6 : Hid (w.heap.size ≤ w6.heap.size) := Ext.size hX.out
              go_wp2_with fail
              go_loopw [16] (fun iv wr => ∃ (i : Nat) (fl : List Bool), i ≤ l.length ∧ iv = .int .i64 i ∧ Hid (fl.length = l.length ∧ ∀ a : Nat, a < i → fl[a]? = (l.map (isGone m))[a]?) ∧ Hid (rowB wr w6.heap.size fl) ∧ Hid (Ext w6 wr)) (fun iv _ => l.length - (intOf iv).toNat)
              case atStart => exact ⟨0, List.replicate l.length false, Nat.zero_le _, rfl, ⟨by simp, fun a h => by omega⟩, rowB_made w6 _, (Ext.refl _).alloc _⟩
              case round =>
                obtain ⟨i, fl, hi, rfl, hfl, hrow, hx⟩ := hrel
                clear hmk2
                have X := hide (hX.out.trans hx.out)
                by_cases hlt : i < l.length
                · obtain ⟨x, hxi⟩ := some_of_lt hlt
                  rcases hul.out with h | ⟨b, off, rfl, hres⟩
                  · rw [h] at hlt; simp at hlt
                  obtain ⟨g0, g1, -⟩ := hres i x hxi
                  replace g0 := X.out.cells g0; replace g1 := X.out.cells g1
                  have i2 : (i : Int) < (l.length : Int) := by omega
                  have i4 : (0 : Int) ≤ (i : Int) := by omega
                  replace hres := hide hres; replace hxi := hide hxi
                  go_wp2_with fail
                  refine (refFind _ m x.id _ (hv.out.ext X.out)).mono ?_
                  rintro e7 w7 ⟨rfl, he7⟩
                  have R7 := hide (hrow.out.ext he7)
                  have E7 := hide (hx.out.trans he7)
                  clear g0 g1
                  replace he7 := hide he7
                  obtain ⟨q, hq⟩ : ∃ q, fl[i]? = some q := ⟨_, List.getElem?_eq_getElem (by rw [hfl.out.1]; exact hlt)⟩
                  have cq := R7.out.cell hq
                  have fq := World.rowIs.frozen R7.out i
                  replace hq := hide hq
                  cases hp : placeL m x.id with
                  | none =>
                    have hpi : placeI m x.id = -1 := by unfold placeI; rw [hp]
                    have hst := hide (map_step (f := isGone m) (b := true) hxi.out (gone_none hp).symm hfl.out.1 hfl.out.2)
                    rw [hpi]
                    replace hp := hide hp; replace hpi := hide hpi
                    go_wp2_with fail
                    go_roundw
                    case rel => exact ⟨i + 1, fl.set i true, by omega, by go_num, hst, R7.out.set i true, E7.out.setCell (Nat.le_refl _) _⟩
                    case measure => simp [intOf]; omega
                  | some j =>
                    have hpi : placeI m x.id = (j : Int) := by unfold placeI; rw [hp]
                    have hst := hide (map_step (f := isGone m) (b := false) hxi.out (gone_some hp).symm hfl.out.1 hfl.out.2)
                    rw [hpi]
                    have j5 : decide ((j : Int) < 0) = false := by simp
                    have j6 : ¬ (j : Int) < 0 := by omega
                    replace hp := hide hp; replace hpi := hide hpi
                    go_wp2_with fail
                    go_roundw
                    case rel => exact ⟨i + 1, fl.set i false, by omega, by go_num, hst, R7.out.set i false, E7.out.setCell (Nat.le_refl _) _⟩
                    case measure => simp [intOf]; omega
                · obtain rfl : i = l.length := by omega
                  have hfe : Hid (fl = l.map (isGone m)) := map_done hfl.out.1 hfl.out.2
                  obtain ⟨A, hA⟩ : ∃ A, A = ps.map stepOf := ⟨_, rfl⟩
                  have hAl : A.length ≤ 12 := by rw [hA, List.length_map]; omega
                  obtain ⟨D, hD⟩ : ∃ D, D = delsL l m := ⟨_, rfl⟩
                  have hst : Hid (LpD l A D ps 0 fl) := by
                    refine ⟨hfl.out.1, fun j hj => absurd hj (by omega), ?_, ?_⟩
                    · rw [hfe.out, ← dels_flag, hA, hD]
                    · rw [hfe.out, ← dels_flag, hA, hD, List.length_map]
                  have hDl : D.length ≤ 12 := by
                    have h1 : D.length ≤ l.length := by rw [hD, dels_flag]; exact flagT_le _ _
                    omega
                  have hO6 := hide (hO.out.ext hx.out)
                  replace hA := hide hA; replace hD := hide hD
                  clear hfl hfe hO
                  go_wp2_with fail
                  go_loopw [8, 17] (fun ov iv wr => ∃ (ps : List StepP) (pa : Option Addr) (cap i : Nat) (fl : List Bool), ov = .slice pa ps.length cap ∧ iv = .int .i64 i ∧ i ≤ l.length ∧ Hid (LpD l A D ps i fl) ∧ Hid (OutS w wr (.slice pa ps.length cap) ps) ∧ Hid (rowB wr w6.heap.size fl) ∧ Hid (Ext w wr)) (fun ov iv _ => (A.length + D.length - lenV ov) * (l.length + 1) + (l.length - (intOf iv).toNat))
                  case atStart => exact ⟨ps, pa, cap, 0, fl, rfl, rfl, Nat.zero_le _, hst, hO6, hrow, X⟩
                  case round =>
                    clear hst hrow X hx hX hO6 hpsn
                    obtain ⟨ps, pa, cap, i, fl, rfl, rfl, hi, hL, hO, hrow, hX⟩ := hrel
                    have hpsn : ps.length ≤ 24 := by have := hL.out.sum; omega
                    by_cases hlt : i < l.length
                    · obtain ⟨x, hxi⟩ := some_of_lt hlt
                      rcases hul.out with h | ⟨b, off, rfl, hres⟩
                      · rw [h] at hlt; simp at hlt
                      obtain ⟨g0, g1, c2, c3, g2, g3, hR⟩ := hres i x hxi
                      obtain ⟨a2, p2, rfl⟩ := hR.attrs.form
                      obtain ⟨a3, p3, rfl⟩ := hR.after.form
                      have i2 : (i : Int) < (l.length : Int) := by omega
                      have i4 : (0 : Int) ≤ (i : Int) := by omega
                      replace hres := hide hres; replace hR := hide hR; replace hxi := hide hxi; replace g0 := hide g0; replace g1 := hide g1; replace g2 := hide g2; replace g3 := hide g3
                      obtain ⟨q, hq⟩ : ∃ q, fl[i]? = some q := ⟨_, List.getElem?_eq_getElem (by rw [hL.out.len]; exact hlt)⟩
                      replace hq := hide hq
                      obtain ⟨wo, rfl⟩ : ∃ wo : World, wo = wr := ⟨_, rfl⟩
                      go_wp2_with fail
                      go_loopw [18, 19] (fun nv kv wr => ∃ (nb : Bool) (k : Nat), nv = .bool nb ∧ kv = .int .i64 k ∧ k ≤ l.length ∧ Hid (nb = true ↔ NeedK l fl x k) ∧ Hid (Ext wo wr)) (fun _ kv _ => l.length - (intOf kv).toNat)
                      case atStart =>
                        refine ⟨false, 0, rfl, rfl, Nat.zero_le _, ⟨fun h => (by cases h), ?_⟩, Ext.refl _⟩
                        rintro ⟨k', y, h, -⟩
                        omega
                      case round =>
                        obtain ⟨nb, k, rfl, rfl, hk, hnb, hxo⟩ := hrel
                        by_cases hltk : k < l.length
                        · obtain ⟨y, hyk⟩ := some_of_lt hltk
                          obtain ⟨-, -, d2, d3, -, f3, hRy⟩ := hres.out k y hyk
                          obtain ⟨q3, r3, rfl, s1, s2, hids⟩ := hRy.after.shape
                          have nF := hRy.after.few
                          have k2 : (k : Int) < (l.length : Int) := by omega
                          have k4 : (0 : Int) ≤ (k : Int) := by omega
                          obtain ⟨qk, hqk⟩ : ∃ qk, fl[k]? = some qk := ⟨_, List.getElem?_eq_getElem (by rw [hL.out.len]; exact hltk)⟩
                          replace f3 := hide f3; replace hRy := hide hRy; replace hyk := hide hyk; replace hids := hide hids; replace hqk := hide hqk
                          obtain ⟨wk, rfl⟩ : ∃ wk : World, wk = wr := ⟨_, rfl⟩
                          go_wp2_with fail
                          go_loopw [18, 20] (fun nv tv wr => ∃ (nb' : Bool) (t : Nat), nv = .bool nb' ∧ tv = .int .i64 t ∧ t ≤ y.after.length ∧ Hid (nb' = true ↔ NeedK l fl x k ∨ (fl[k]? = some true ∧ x.id ∈ y.after.take t)) ∧ Hid (Ext wo wr)) (fun _ tv _ => y.after.length - (intOf tv).toNat)
                          case atStart => exact ⟨nb, 0, rfl, rfl, Nat.zero_le _, ⟨fun h => .inl (hnb.out.1 h), fun h => hnb.out.2 (h.resolve_right (by simp))⟩, hxo⟩
                          case round =>
                            obtain ⟨nb', t, rfl, rfl, ht, hnb', hxt⟩ := hrel
                            have ck := (hrow.out.ext hxt.out).cell hqk.out
                            have h3 := (hX.out.trans hxt.out).cells f3.out
                            cases qk with
                            | false =>
                              go_wp2_with fail
                              go_roundw
                              case rel =>
                                refine ⟨nb', k + 1, rfl, by go_num, by omega, ?_, hxt⟩
                                refine hnb'.out.trans ((or_congr_right ?_).trans (need_step hyk.out).symm)
                                constructor
                                · rintro ⟨h, -⟩; rw [hqk.out] at h; cases h
                                · rintro ⟨h, -⟩; rw [hqk.out] at h; cases h
                              case measure => simp [intOf]; omega
                            | true =>
                              by_cases hltt : t < y.after.length
                              · obtain ⟨a, ha⟩ := some_of_lt hltt
                                rcases hids.out with h | ⟨b3, off3, rfl, hin3⟩
                                · rw [h] at hltt; simp at hltt
                                obtain ⟨v0, v1⟩ := hin3 t a ha
                                replace v0 := (hX.out.trans hxt.out).cells v0; replace v1 := (hX.out.trans hxt.out).cells v1
                                have u0 := (hX.out.trans hxt.out).cells g0.out; have u1 := (hX.out.trans hxt.out).cells g1.out
                                have t2 : (t : Int) < (y.after.length : Int) := by omega
                                have t4 : (0 : Int) ≤ (t : Int) := by omega
                                have hmem : Hid (∀ z : Bool, (z = true ↔ nb' = true ∨ x.id = a) → (z = true ↔ NeedK l fl x k ∨ (fl[k]? = some true ∧ x.id ∈ y.after.take (t + 1)))) := fun z hz => by
                                  rw [hz, hnb'.out, take_mem2 ha, hqk.out]
                                  constructor
                                  · rintro ((h | ⟨_, h⟩) | h)
                                    · exact .inl h
                                    · exact .inr ⟨rfl, .inl h⟩
                                    · exact .inr ⟨rfl, .inr h⟩
                                  · rintro (h | ⟨_, h | h⟩)
                                    · exact .inl (.inl h)
                                    · exact .inl (.inr ⟨rfl, h⟩)
                                    · exact .inr h
                                replace ha := hide ha; replace hin3 := hide hin3
                                go_wp2_with fail
                                cases nb' with
                                | true =>
                                  go_quiet (fail)
                                  go_wp2_with fail
                                  go_roundw
                                  case rel => exact ⟨true, t + 1, rfl, by go_num, by omega, hmem.out true ⟨fun _ => .inl rfl, fun _ => rfl⟩, hxt.out.drewN _⟩
                                  case measure => simp [intOf]; omega
                                | false =>
                                  by_cases e1 : a.kind = x.id.kind
                                  · by_cases e2 : a.name = x.id.name
                                    · have e5 : a.kind.toList = x.id.kind.toList := by rw [e1]
                                      have e6 : a.name.toList = x.id.name.toList := by rw [e2]
                                      have hz : Hid (x.id = a) := (id_same e1 e2).symm
                                      replace e1 := hide e1; replace e2 := hide e2
                                      go_quiet (fail)
                                      go_wp2_with fail
                                      go_roundw
                                      case rel => exact ⟨true, t + 1, rfl, by go_num, by omega, hmem.out true ⟨fun _ => .inr hz.out, fun _ => rfl⟩, hxt.out.drewN _⟩
                                      case measure => simp [intOf]; omega
                                    · have e5 : a.kind.toList = x.id.kind.toList := by rw [e1]
                                      have e6 : ¬ a.name.toList = x.id.name.toList := fun h => e2 (ba_inj h)
                                      have e7 : (a.name.toList == x.id.name.toList) = false := by simpa using e6
                                      have hz : Hid (¬ x.id = a) := fun h => e2 (by rw [h])
                                      replace e1 := hide e1; replace e2 := hide e2
                                      go_quiet (fail)
                                      go_wp2_with fail
                                      go_roundw
                                      case rel => exact ⟨false, t + 1, rfl, by go_num, by omega, hmem.out false ⟨fun h => (by cases h), fun h => absurd (h.resolve_left (by simp)) hz.out⟩, hxt.out.drewN _⟩
                                      case measure => simp [intOf]; omega
                                  · have e6 : ¬ a.kind.toList = x.id.kind.toList := fun h => e1 (ba_inj h)
                                    have e7 : (a.kind.toList == x.id.kind.toList) = false := by simpa using e6
                                    have hz : Hid (¬ x.id = a) := fun h => e1 (by rw [h])
                                    replace e1 := hide e1
                                    go_quiet (fail)
                                    go_wp2_with fail
                                    go_roundw
                                    case rel => exact ⟨false, t + 1, rfl, by go_num, by omega, hmem.out false ⟨fun h => (by cases h), fun h => absurd (h.resolve_left (by simp)) hz.out⟩, hxt.out.drewN _⟩
                                    case measure => simp [intOf]; omega
                              · obtain rfl : t = y.after.length := by omega
                                go_wp2_with fail
                                go_roundw
                                case rel =>
                                  refine ⟨nb', k + 1, rfl, by go_num, by omega, ?_, hxt⟩
                                  refine hnb'.out.trans ((or_congr_right ?_).trans (need_step hyk.out).symm)
                                  rw [List.take_length]
                                case measure => simp [intOf]; omega
                        · obtain rfl : k = l.length := by omega
                          have hneed : Hid (nb = true ↔ NeededI l fl i) := hnb.out.trans (need_all hxi.out)
                          have X4 := hide (hX.out.trans hxo.out)
                          have R4 := hide (hrow.out.ext hxo.out)
                          have O4 := hide (hO.out.ext hxo.out)
                          have cq := R4.out.cell hq.out
                          clear hnb hX hrow hO hxo
                          cases q with
                          | false =>
                            go_wp2_with fail
                            go_roundw
                            case rel => exact ⟨ps, pa, cap, i + 1, fl, rfl, by go_num, by omega, hL.out.skip (fun h => by rw [hq.out] at h; cases h), O4, R4, X4⟩
                            case measure => simp [intOf, lenV]; omega
                          | true =>
                            cases nb with
                            | true =>
                              have hyes : Hid (NeededI l fl i) := hneed.out.1 rfl
                              go_wp2_with fail
                              go_roundw
                              case rel => exact ⟨ps, pa, cap, i + 1, fl, rfl, by go_num, by omega, hL.out.skip (fun _ => hyes.out), O4, R4, X4⟩
                              case measure => simp [intOf, lenV]; omega
                            | false =>
                              have hnot : Hid (¬ NeededI l fl i) := fun h => by have := hneed.out.2 h; cases this
                              obtain ⟨w5, rfl⟩ : ∃ w5 : World, w5 = wr := ⟨_, rfl⟩
                              have h0 := X4.out.cells g0.out
                              have h1 := X4.out.cells g1.out
                              have h2 := X4.out.cells g2.out
                              have h3 := X4.out.cells g3.out
                              have hT := hide (hL.out.take (c2 := .slice a2 x.attrs.length p2) (c3 := .slice a3 x.after.length p3) hxi.out hq.out hnot.out)
                              have hK : ps.length + 1 ≤ A.length + D.length := by have := hT.out.sum; simp at this; omega
                              go_wp2_with (at_builtin; go_must (refine wpList_append_lies _ rfl (.tmp 183) (.tmp 189) 23 rfl w.heap.size 60 i0 (.agg #[.int .i64 0, .string ⟨#[]⟩, .string ⟨#[]⟩, .slice none 0 0, .slice none 0 0]) 5 88 Tryz.underlying23 hi0.out hz0 hz1 hz2 rfl (by omega) _ ps.length (ps.flatMap cSt) rfl (O4.out.row.alloc _) ⟨w5.heap.size, 0, none⟩ 1 1 (cSt ⟨3, x, .slice a2 x.attrs.length p2, .slice a3 x.after.length p3⟩) rfl rfl ?_ cSt_one (by omega) (by unfold maxLen; omega) (by omega) (by have := Ext.size X4.out; simp; omega) (w5.heap.size + 1) (by simp) ?_; (intro r u hu; rw [add_eq]; (match r, hu with | 0, hu => (simp [cSt] at hu; subst hu; simp [go_sem]) | 1, hu => (simp [cSt] at hu; subst hu; simp [go_sem]) | 2, hu => (simp [cSt] at hu; subst hu; simp [go_sem]) | 3, hu => (simp [cSt] at hu; subst hu; simp [go_sem]) | 4, hu => (simp [cSt] at hu; subst hu; simp [go_sem]) | _ + 5, hu => (simp [cSt] at hu))); intro g6 cap6 w9 hown6 hgrow6 hat6 hlt6; have R6 := hide (rowB_grown (O4.out.ext ((Ext.refl w5).alloc _)) (R4.out.ext ((Ext.refl w5).alloc _)) hgrow6); have cq6 := R6.out.cell hq.out; have fq6 := World.rowIs.frozen R6.out i))
                              have hW6 : Wrote w.heap.size (· = 60) w5 w9 := (Wrote.refl w.heap.size _ w5).grownAt O4.out.row rfl hgrow6
                              have X6 := hide (X4.out.wrote hW6 (Nat.le_refl _))
                              have O6 := hide (OutS.more O4.out hown6 (p := ⟨3, x, .slice a2 x.attrs.length p2, .slice a3 x.after.length p3⟩) hR.out)
                              go_roundw
                              case rel =>
                                have hl6 : (ps ++ [(⟨3, x, .slice a2 x.attrs.length p2, .slice a3 x.after.length p3⟩ : StepP)]).length = ps.length + 1 := by simp
                                exact ⟨_, some ⟨g6, 0, none⟩, cap6, 0, fl.set i false, by rw [hl6], by go_num, Nat.zero_le _, hT, O6.out.mark R6.out false, R6.out.set i false, X6.out.setCell hC6.out _⟩
                              case measure => simpa [intOf, lenV] using meas_lt (i := i) (M := l.length) hK
                    · obtain rfl : i = l.length := by omega
                      have hfin : Hid (ps.map stepOf = stepsS l m) := by
                        show _ = _
                        rw [hL.out.done (Nat.le_refl _), hA.out, hD.out, hdn.out]; rfl
                      go_wp2_with fail
                      go_ret2
                      refine ⟨_, rfl, ?_, hX⟩
                      rw [← hfin.out]
                      exact stepsV_of hO.out.row (fun p hp => (hO.out.each p hp).ext hX.out) (by omega)
end Go.Proofs.YtodhhjlemmmjcaaGreat
