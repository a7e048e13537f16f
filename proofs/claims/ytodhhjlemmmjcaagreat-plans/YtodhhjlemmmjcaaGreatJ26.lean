/-
  What both answer: the plain plan, or that the lists may not be.
-/
/-
  The books are looked at, where there are lists of steps, too.
-/
/-
  The law Plans: it answers true.
-/
import Derived.Test.YtodhhjlemmmjcaaGreatRfStp
import Derived.Test.YtodhhjlemmmjcaaGreatStepsP
import Derived.Test.YtodhhjlemmmjcaaGreatJ18
import Derived.Test.YtodhhjlemmmjcaaGreatBookT
import Derived.Test.YtodhhjlemmmjcaaGreatJ15
import Derived.Test.YtodhhjlemmmjcaaGreatUnspD
import Derived.Test.YtodhhjlemmmjcaaGreatLend
namespace Go.Proofs.YtodhhjlemmmjcaaGreat
open Go.RowKit

open Classical in
noncomputable def planS (l m : List Resd) : List StepD := if FineP l ∧ FineP m then stepsS l m else []
open Classical in
noncomputable def errS (l m : List Resd) : Int := if FineP l ∧ FineP m then 0 else 11
theorem stepsV_nil (w : World) : StepsV w (.slice none 0 0) [] := ⟨⟨none, 0, rfl, Nat.le_refl _, by decide, .inl rfl⟩, Nat.zero_le _⟩
theorem refPlan (u v : Value) (l m : List Resd) (w : World) (hu : RessV w u l) (hv : RessV w v m) :
    Calls Tryz.prog 4 #[u, v] w fun e w' => ∃ out, e = .returned (.tuple #[out, .int .i64 (errS l m)]) ∧ Hid (StepsV w' out (planS l m)) ∧ Hid (Ext w w') := by
  by_cases h : FineP l ∧ FineP m
  · refine (refSteps u v l m w hu hv h.1 h.2).mono ?_
    rintro e w' ⟨out, rfl, h1, h2⟩
    refine ⟨out, ?_, ?_, h2⟩
    · unfold errS; rw [if_pos h]
    · unfold planS; rw [if_pos h]; exact h1
  · refine (refStepsNo u v l m w hu hv h).mono ?_
    rintro e w' ⟨rfl, h2⟩
    refine ⟨.slice none 0 0, ?_, ?_, h2⟩
    · unfold errS; rw [if_neg h]
    · unfold planS; rw [if_neg h]; exact stepsV_nil w'
/-- What plan.Steps answers. -/
def PlanIs (w : World) (l m : List Resd) (e : Ending) (w' : World) : Prop :=
  ∃ (pa : Option Addr) (cap : Nat) (ss : List StepC), e = .returned (.tuple #[.slice pa ss.length cap, .int .i64 (errS l m)]) ∧ Hid (ss.map StepC.d = planS l m) ∧ Hid (StpsAt w.heap.size w' (.slice pa ss.length cap) ss) ∧ Hid (Ext w w') ∧ ss.length ≤ 24 ∧ (errS l m ≠ 0 → pa = none)
theorem progPlan (u v : Value) (l m : List Resd) (w : World) (hu : RessV w u l) (hv : RessV w v m) :
    Calls Tryz.prog 6 #[u, v] w (PlanIs w l m) := by
  by_cases h : FineP l ∧ FineP m
  · refine (stepsYes u v l m w hu hv h.1 h.2).mono ?_
    rintro e w' ⟨pa, cap, ss, rfl, h1, h2, h3⟩
    refine ⟨pa, cap, ss, ?_, ?_, h2, h3, ?_, ?_⟩
    · unfold errS; rw [if_pos h]
    · show _ = _; unfold planS; rw [if_pos h]; exact h1
    · have h4 := congrArg List.length h1.out
      rw [List.length_map] at h4
      have h5 : (stepsS l m).length ≤ 24 := by
        unfold stepsS
        rw [List.length_append]
        have a1 := ordF_len (mayMake m) (makesL l m).length (makesL l m)
        have a2 := ordF_len mayDel (delsL l m).length (delsL l m)
        have a3 : (makesL l m).length ≤ m.length := List.length_filterMap_le _ _
        have a4 : (delsL l m).length ≤ l.length := by rw [dels_flag]; exact flagT_len _ _
        have a5 := may_few h.1.1
        have a6 := may_few h.2.1
        omega
      omega
    · intro h6; unfold errS at h6; rw [if_pos h] at h6; exact absurd rfl h6
  · refine (stepsNo u v l m w hu hv h).mono ?_
    rintro e w' ⟨rfl, h2⟩
    refine ⟨none, 0, [], ?_, ?_, ⟨World.ownsRow_nil _ _ _ _, fun s hs => (by cases hs), List.Pairwise.nil⟩, h2, by simp, fun _ => rfl⟩
    · unfold errS; rw [if_neg h]; rfl
    · show _ = _; unfold planS; rw [if_neg h]; rfl
theorem stepsV_stps {B : Nat} {w : World} {v : Value} {ss : List StepC} (h : StpsAt B w v ss) (hn : ss.length ≤ 1000) : StepsV w v (ss.map StepC.d) := by
  have h1 := stepsV_of (B := B) (w := w) (v := v) (ps := ss.map StepC.p) (by
    rw [List.length_map]
    have : (ss.map StepC.p).flatMap cSt = cellsV ss := by rw [List.flatMap_map]; rfl
    rw [this]; exact h.row) (fun p hp => by
    obtain ⟨s, hs, rfl⟩ := List.mem_map.1 hp
    exact (h.each s hs).1.resV (h.each s hs).2) (by rw [List.length_map]; exact hn)
  rw [List.map_map] at h1
  exact h1
theorem Upper.mono {C C' : Nat} {w w' : World} (h : Upper C w w') (hc : C ≤ C') : Upper C' w w' := ⟨h.1, fun k h1 h2 => h.2 k (Nat.le_trans hc h1) h2⟩
theorem StpsAt.upper {C : Nat} {w w' : World} {v : Value} {ss : List StepC} (h : StpsAt C w v ss) (k : Upper C w w') : StpsAt C w' v ss :=
  ⟨ownsRow_upper h.row k, fun s hs => by
    obtain ⟨⟨f2, f3, a, b⟩, ok⟩ := h.each s hs
    exact ⟨⟨f2, f3, ownsRow_upper a k, ownsRow_upper b k⟩, ok⟩, h.apart⟩
theorem StpsAt.ext {C : Nat} {w w' : World} {v : Value} {ss : List StepC} (h : StpsAt C w v ss) (k : Ext w w') : StpsAt C w' v ss := h.upper (Upper.ext k)
theorem StpsAt.low {C B : Nat} {w : World} {v : Value} {ss : List StepC} (h : StpsAt C w v ss) (hb : B ≤ C) : StpsAt B w v ss :=
  ⟨ownsRow_low h.row hb, fun s hs => ⟨(h.each s hs).1.low hb, (h.each s hs).2⟩, h.apart⟩
end Go.Proofs.YtodhhjlemmmjcaaGreat

namespace Go.Proofs.YtodhhjlemmmjcaaGreat
open Go.RowKit

theorem noResV (w : World) : ResV w (.slice none 0 0) (.slice none 0 0) noRes := (OwnR.nil 0 w).resV okS_nil

set_option maxRecDepth 100000 in
set_option maxHeartbeats 3200000 in
theorem booksLookS (B O : Nat) (w : World) (va vi vc : Value) (ea ei ec : List (Value × Nat)) (hb : BkAt B w O va vi (.slice none 0 0) (.slice none 0 0) vc (.slice none 0 0) ea ei) (hc : w.ownsRow B 75 2 vc ec.length (cellsE ec)) (he : ea.length ≤ 3000000) (hf : ei.length ≤ 3000000) (hg : ec.length ≤ 1000) (hA : ∀ x ∈ ea, MarkG 62 4 mkA w x) (hI : ∀ x ∈ ei, MarkG 52 2 mkI w x) (hC : ∀ x ∈ ec, MarkG 60 5 mkSt w x) :
    Calls Tryz.prog 10 #[.pointer (some ⟨O, 0, none⟩)] w fun e w' => e = .returned (.bool true) ∧ Ext w w' := by
  obtain ⟨pe, ce, rfl⟩ := ownsRow_form hc
  obtain ⟨o0, o1, o2, o3, o4, o5⟩ := six_celB hb.o
  have O4 := hide o4; have O5 := hide o5
  replace hb := hide hb; replace hA := hide hA; replace hI := hide hI; replace hC := hide hC; replace hc := hide hc
  go_enter Tryz.func10, Tryz.ntmps10
  go_wp2_with fail
  go_loop [3] (fun i => i = .int .i64 0) (fun _ => 0)
  case atStart => rfl
  case round =>
    subst hrel
    go_wp2_with fail
    clear o0 o1 o2 o3 o4 o5
    go_loopw [7] (fun i wr => ∃ j : Nat, j ≤ ec.length ∧ i = .int .i64 j ∧ Ext w wr) (fun i _ => ec.length - (intOf i).toNat)
    case atStart => exact ⟨0, Nat.zero_le _, rfl, Ext.refl _⟩
    case round =>
      obtain ⟨j, hj, rfl, hx⟩ := hrel
      have o4 := hx.cells O4.out
      by_cases hlt : j < ec.length
      · obtain ⟨x, hxj⟩ := some_of_lt hlt
        obtain ⟨g, cap, hv, k0, k1⟩ := ent_cells hc.out hxj
        obtain ⟨rfl, rfl⟩ : pe = some ⟨g, 0, none⟩ ∧ ce = cap := by simpa using hv
        clear hv
        obtain ⟨hk, pa, n, ca, h1, h2, h3, h4, h5⟩ := hC.out x (List.mem_of_getElem? hxj)
        rw [h1] at k0
        have K0 := hide k0; have K1 := hide k1
        have j2 : (j : Int) < (ec.length : Int) := by omega
        have j4 : (0 : Int) ≤ (j : Int) := by omega
        replace hxj := hide hxj; replace h1 := hide h1; replace hx := hide hx
        clear o4 k0 k1
        have o4 := hx.out.cells O4.out; have k0 := hx.out.cells K0.out; have k1 := hx.out.cells K1.out
        go_wp2_with fail
        clear o4 k0 k1
        obtain ⟨wo, rfl⟩ : ∃ wo : World, wo = wr := ⟨_, rfl⟩
        go_loopw [8] (fun i w2 => ∃ q : Nat, q ≤ n ∧ i = .int .i64 q ∧ Ext wo w2) (fun i _ => n - (intOf i).toNat)
        case atStart => exact ⟨0, Nat.zero_le _, rfl, Ext.refl _⟩
        case round =>
          obtain ⟨q, hq, rfl, e2⟩ := hrel
          have E2 : Ext w wr := hx.out.trans e2
          have o4 := E2.cells O4.out
          have k0 := E2.cells K0.out
          have k1 := E2.cells K1.out
          by_cases hltq : q < n
          · rcases h5 with h5 | ⟨g', c, rfl, hg, ht⟩
            · omega
            have c0 := E2.cells (mark_cell (r := 0) (sz := 5) (m := mkSt x.2) (u := .int .i64 (-9 - (x.2 : Int))) rfl hg ht hltq rfl)
            have c1 := E2.cells (mark_cell (r := 1) (sz := 5) (m := mkSt x.2) (u := .string ⟨#[]⟩) rfl hg ht hltq rfl)
            have c2 := E2.cells (mark_cell (r := 2) (sz := 5) (m := mkSt x.2) (u := .string ⟨#[]⟩) rfl hg ht hltq rfl)
            have c3 := E2.cells (mark_cell (r := 3) (sz := 5) (m := mkSt x.2) (u := .slice none 0 0) rfl hg ht hltq rfl)
            have c4 := E2.cells (mark_cell (r := 4) (sz := 5) (m := mkSt x.2) (u := .slice none 0 0) rfl hg ht hltq rfl)
            rw [Nat.add_zero] at c0
            have i2 : (q : Int) < (n : Int) := by omega
            have i4 : (0 : Int) ≤ (q : Int) := by omega
            replace E2 := hide E2; replace e2 := hide e2; replace hg := hide hg; replace ht := hide ht
            go_wp2_with fail
            refine (sameRes (.slice none 0 0) (.slice none 0 0) (.slice none 0 0) (.slice none 0 0) noRes _ (noResV _) (noResV _)).mono ?_
            rintro e w1 ⟨rfl, he1⟩
            have X1 := hide (((Ext.refl wr).alloc _).trans he1)
            have m0 := he1.cells (p := ⟨wr.heap.size, 0, none⟩) (v := .int .i64 (-9 - (x.2 : Int))) (by simp [go_sem])
            clear he1 o4 k0 k1 c0 c1 c2 c3 c4
            have o4 := (E2.out.trans X1.out).cells O4.out
            have k0 := (E2.out.trans X1.out).cells K0.out
            have k1 := (E2.out.trans X1.out).cells K1.out
            go_wp2_with fail
            go_quiet (fail)
            go_wp2_with fail
            go_roundw
            case rel => exact ⟨q + 1, by omega, by go_num, (e2.out.trans X1.out).drewN _⟩
            case measure => simp [intOf]; omega
          · replace E2 := hide E2; replace e2 := hide e2; replace h5 := hide h5
            go_wp2_with fail
            go_roundw
            case rel => exact ⟨j + 1, by omega, by go_num, E2.out⟩
            case measure => simp [intOf]; omega
      · have hxw := hide hx
        clear hx o4
        have o4 := hxw.out.cells O4.out
        go_wp2_with fail
        clear o4
        obtain ⟨wz, rfl⟩ : ∃ wz : World, wz = wr := ⟨_, rfl⟩
        have o5 := hxw.out.cells O5.out
        go_loop [11] (fun i => i = .int .i64 0) (fun _ => 0)
        case atStart => rfl
        case round =>
          subst hrel
          go_wp2_with fail
          refine (bookLooks B O _ va vi _ _ _ ea ei (hb.out.ext hxw.out) he hf (fun y hy => (hA.out y hy).ext hxw.out) (fun y hy => (hI.out y hy).ext hxw.out)).mono ?_
          rintro e w1 ⟨rfl, he1⟩
          replace he1 := hide he1
          go_wp2_with fail
          go_ret
          exact ⟨rfl, hxw.out.trans he1.out⟩
end Go.Proofs.YtodhhjlemmmjcaaGreat

namespace Go.Proofs.YtodhhjlemmmjcaaGreat
open Go.RowKit

theorem lent_upper {B n : Nat} {ps : List Pt} {w2 w4 w5 : World} {O L : Nat} {va vf : Value} {rest : List Value} (hL : Lending B n ps w2 O L va vf rest) (hk : Kept (LentD B L ps) w4 w5) : Upper w2.heap.size w4 w5 := by
  refine ⟨hk.size, fun k h1 h2 => hk.block k h2 ?_⟩
  rintro ⟨-, rfl | ⟨p, hp, rfl | rfl⟩⟩
  · have := (Array.getElem?_eq_some_iff.1 hL.l).1; omega
  · have := (Array.getElem?_eq_some_iff.1 (hL.a p hp)).1; omega
  · have := (Array.getElem?_eq_some_iff.1 (hL.f p hp)).1; omega
theorem Upper.at_ {C k : Nat} {w w' : World} {o : Obj} (h : Upper C w w') (hc : C ≤ k) (hk : w.heap[k]? = some o) : w'.heap[k]? = some o := (h.2 k hc (Array.getElem?_eq_some_iff.1 hk).1).trans hk
theorem Lending.upper {C n : Nat} {ps : List Pt} {w w' : World} {O L : Nat} {va vf : Value} {rest : List Value} (h : Lending C n ps w O L va vf rest) (k : Upper C w w') : Lending C n ps w' O L va vf rest :=
  ⟨k.at_ h.low.1 h.o, k.at_ h.low.2.1 h.l, ownsRow_upper h.va k, ownsRow_upper h.vf k, fun p hp => k.at_ (h.low.2.2 p hp).1 (h.a p hp), fun p hp => k.at_ (h.low.2.2 p hp).2 (h.f p hp), h.apart, h.low, h.ok⟩
theorem turnS_low {B O : Nat} {w : World} {va vi vn vr vs vc v : Value} {ea ei ec : List (Value × Nat)} {ps : List StepC} (hb : BkAt B w O va vi vn vr vc vs ea ei) (hc : w.ownsRow B 75 2 vc ec.length (cellsE ec)) (hps : StpsAt B w v ps) {g : Nat} (h : TurnSt ps v va vi vc O g) : B ≤ g := by
  rcases h with (⟨p, hp, h | h⟩ | h | h | h) | h | h
  · exact ((hps.each p hp).1.attrs.lt g h.symm).1
  · exact ((hps.each p hp).1.after.lt g h.symm).1
  · exact (hb.a.lt g h.symm).1
  · exact (hb.i.lt g h.symm).1
  · rw [h]; exact hb.low
  · exact (hps.row.lt g h.symm).1
  · exact (hc.lt g h.symm).1
/-- A mark that was there ahead of the list stays. -/
theorem markS_stay {B C O : Nat} {wr w7 w8 : World} {va vi vn vr vs vc v : Value} {ea ei ec : List (Value × Nat)} {ps : List StepC} {T : TypeId} {sz : Nat} {mk : Nat → List Value} {x : Value × Nat} (hm : MarkG T sz mk wr x) (hX : Ext wr w7) (hb : BkAt B w7 O va vi vn vr vc vs ea ei) (hc : w7.ownsRow B 75 2 vc ec.length (cellsE ec)) (hps : StpsAt C w7 v ps) (hC : wr.heap.size ≤ C) (hk : Kept (TurnSt ps v va vi vc O) w7 w8)
    (h1 : T ≠ 120) (h2 : T ≠ 122) (h3 : T ≠ 75) (h4 : T ≠ 37) : MarkG T sz mk w8 x := by
  refine hm.kept fun g c hg hcg => ?_
  have hlt := (Array.getElem?_eq_some_iff.1 hcg).1
  have hcg7 := ext_at hX hcg
  refine hk.heap hcg7 ?_
  have hn : ∀ {T' : TypeId} {n sz' : Nat} {u : Value} {xs : List Value}, w7.ownsRow C T' sz' u n xs → some g = u.ownBlock → False := fun ho h => by
    have h5 := ho.lt g h.symm
    omega
  rintro ((⟨p, hp, h | h⟩ | h | h | h) | h | h)
  · exact hn (hps.each p hp).1.attrs h
  · exact hn (hps.each p hp).1.after h
  · exact ownsRow_ne hb.a hcg7 h1 h
  · exact ownsRow_ne hb.i hcg7 h2 h
  · exact tag_ne hcg7 hb.o h4 h
  · exact hn hps.row h
  · exact ownsRow_ne hc hcg7 h3 h
/-- The books, in the midst of it. -/
structure BksAt (B : Nat) (wr : World) (va vi vs : Value) (ea ei es : List (Value × Nat)) : Prop where
  bk : BkAt B wr B va vi (.slice none 0 0) (.slice none 0 0) vs (.slice none 0 0) ea ei
  st : wr.ownsRow B 75 2 vs es.length (cellsE es)
  ma : ∀ x ∈ ea, MarkG 62 4 mkA wr x
  mi : ∀ x ∈ ei, MarkG 52 2 mkI wr x
  ms : ∀ x ∈ es, MarkG 60 5 mkSt wr x
theorem BksAt.ext {B : Nat} {w w' : World} {va vi vs : Value} {ea ei es : List (Value × Nat)} (h : BksAt B w va vi vs ea ei es) (e : Ext w w') : BksAt B w' va vi vs ea ei es :=
  ⟨h.bk.ext e, ownsRow_wrote h.st (Wrote.ext (B := 0) (T := fun _ => False) e) id rfl, fun x hx => (h.ma x hx).ext e, fun x hx => (h.mi x hx).ext e, fun x hx => (h.ms x hx).ext e⟩

set_option maxRecDepth 100000 in
set_option maxHeartbeats 6400000 in
theorem plansLaw (u v : Value) (l m : List Resd) (w : World) (hu : RessV w u l) (hv : RessV w v m) (hl : l.length ≤ 1759218604390) (hm : m.length ≤ 1759218604390) (hok : ∀ x ∈ l, okR x) (hok' : ∀ x ∈ m, okR x) :
    Calls Tryz.prog 3 #[u, v] w fun e w' => e = .returned (.bool true) ∧ Ext w w' := by
  obtain ⟨pu, cu, rfl, cu1, cu2, hul⟩ := hu.shape
  obtain ⟨pv, cv, rfl, cv1, cv2, hvm⟩ := hv.shape
  clear hul hvm
  replace hu := hide hu; replace hv := hide hv; replace hok := hide hok; replace hok' := hide hok'
  go_enter Tryz.func3, Tryz.ntmps3
  go_wp2_with fail
  refine (refPlan _ _ l m _ hu.out hv.out).mono ?_
  rintro e1 w1 ⟨out, rfl, hS1, hX1⟩
  obtain ⟨po, co, rfl, -, -, -⟩ := hS1.out.shape
  obtain ⟨ee, hee⟩ : ∃ ee, Hid (errS l m = ee) := ⟨_, rfl⟩
  rw [hee.out]
  obtain ⟨pl, hpl⟩ : ∃ pl, Hid (planS l m = pl) := ⟨_, rfl⟩
  rw [hpl.out] at hS1
  rw [hpl.out]
  have hbk0 : Hid (BksAt w1.heap.size (w1.alloc (.cells #[.slice none 0 0, .slice none 0 0, .slice none 0 0, .slice none 0 0, .slice none 0 0, .slice none 0 0] 37)) (.slice none 0 0) (.slice none 0 0) (.slice none 0 0) [] [] []) :=
    ⟨⟨heap_alloc_new w1 _, World.ownsRow_nil _ _ _ _, World.ownsRow_nil _ _ _ _, Nat.le_refl _⟩, World.ownsRow_nil _ _ _ _, fun x hx => (by cases hx), fun x hx => (by cases hx), fun x hx => (by cases hx)⟩
  have hx0 := hide ((Ext.refl w1).alloc (.cells #[.slice none 0 0, .slice none 0 0, .slice none 0 0, .slice none 0 0, .slice none 0 0, .slice none 0 0] 37))
  go_wp2_with fail
  go_loopw [8] (fun iv wr => ∃ (i : Nat) (va vi vs : Value) (ea ei es : List (Value × Nat)), i ≤ 2 ∧ iv = .int .i64 i ∧ ea.length ≤ 96 * i ∧ ei.length ≤ 96 * i ∧ es.length ≤ 4 * i ∧ Hid (BksAt w1.heap.size wr va vi vs ea ei es) ∧ Hid (Ext w1 wr)) (fun iv _ => 2 - (intOf iv).toNat)
  case atStart => exact ⟨0, _, _, _, [], [], [], Nat.zero_le _, rfl, Nat.le_refl _, Nat.le_refl _, Nat.le_refl _, hbk0, hx0⟩
  case round =>
    clear hbk0 hx0
    obtain ⟨i, va, vi, vs, ea, ei, es, hi, rfl, lea, lei, les, hB, hX⟩ := hrel
    by_cases hlt : i < 2
    · have i2 : (i : Int) < 2 := by omega
      obtain ⟨wo, rfl⟩ : ∃ wo : World, wo = wr := ⟨_, rfl⟩
      have Xw := hide (hX1.out.trans hX.out)
      go_wp2_with fail
      refine (lend _ l _ (hu.out.ext Xw.out) hl hok.out).mono ?_
      rintro e2 w2 ⟨he2, ps, O2, L2, va2, vf2, hpl2, rfl, hL2⟩
      replace he2 := hide he2; replace hL2 := hide hL2; replace hpl2 := hide hpl2
      go_wp2_with fail
      refine (lend _ m _ (hv.out.ext (Xw.out.trans he2.out)) hm hok'.out).mono ?_
      rintro e3 w3 ⟨he3, qs, O3, L3, va3, vf3, hpl3, rfl, hL3⟩
      replace he3 := hide he3; replace hL3 := hide hL3; replace hpl3 := hide hpl3
      have hps : Hid (ps.length = l.length) := by show _ = _; rw [← hpl2.out, List.length_map]
      have hqs : Hid (qs.length = m.length) := by show _ = _; rw [← hpl3.out, List.length_map]
      have hL23 := hide (hL2.out.ext he3.out)
      have o2 : w3.cell? ⟨O2, 0, none⟩ = some (.slice (some ⟨L2, 0, none⟩) (l.length + 8) (l.length + 8)) := (block_cell' hL23.out.o 0).trans rfl
      have o3 : w3.cell? ⟨O3, 0, none⟩ = some (.slice (some ⟨L3, 0, none⟩) (m.length + 8) (m.length + 8)) := (block_cell' hL3.out.o 0).trans rfl
      have r2 := hL23.out.ress hps.out hl
      rw [hpl2.out] at r2
      have r3 := hL3.out.ress hqs.out hm
      rw [hpl3.out] at r3
      replace r2 := hide r2; replace r3 := hide r3
      have j1 : (l.length : Int) ≤ (l.length : Int) + 8 := by omega
      have j2 : (m.length : Int) ≤ (m.length : Int) + 8 := by omega
      have hprog := hide (progPlan (.slice (some ⟨L2, 0, none⟩) l.length (l.length + 8)) (.slice (some ⟨L3, 0, none⟩) m.length (m.length + 8)) l m w3.drew (r2.out.ext (Ext.refl w3).drew) (r3.out.ext (Ext.refl w3).drew))
      unfold PlanIs at hprog
      rw [hee.out, hpl.out] at hprog
      go_wp2_with fail
      go_region_held3 (fun w' => w'.cell? ⟨O2, 0, none⟩ = some (.slice (some ⟨L2, 0, none⟩) (l.length + 8) (l.length + 8)) ∧ w'.cell? ⟨O3, 0, none⟩ = some (.slice (some ⟨L3, 0, none⟩) (m.length + 8) (m.length + 8))) (go_keep)
        ((go_at_call 6; refine hprog.out.mono ?_; rintro e4 w4 ⟨pa4, cap4, ss, rfl, hs4, hS4, hX4, hn4, hnil4⟩; go_must (have z2 := ((Ext.refl w3).drew.trans hX4.out).cells o2; have z3 := ((Ext.refl w3).drew.trans hX4.out).cells o3)))
      have X34 := hide ((Ext.refl w3).drew.trans hX4.out)
      have S4 : Hid (StpsAt w3.heap.size w4 (.slice pa4 ss.length cap4) ss) := hS4.out
      clear o2 o3 hprog hS4 hX4
      try clear z2 z3
      have Xo4 := hide (he2.out.trans (he3.out.trans X34.out))
      go_wp2_with fail
      refine (unspoiltD wo.heap.size _ l ps O2 L2 va2 vf2 _ (hu.out.ext (Xw.out.trans Xo4.out)) hl hok.out hpl2.out (hL23.out.ext X34.out)).mono ?_
      rintro e5 w5 ⟨rfl, hk5⟩
      have U5 := hide (lent_upper hL2.out hk5)
      have Xo5 := hide (Xo4.out.since hk5 (fun j h => h.1))
      replace hk5 := hide hk5
      go_wp2_with fail
      refine (unspoiltD w2.heap.size _ m qs O3 L3 va3 vf3 _ (hv.out.ext (Xw.out.trans Xo5.out)) hm hok'.out hpl3.out ((hL3.out.ext X34.out).upper U5.out)).mono ?_
      rintro e6 w6 ⟨rfl, hk6⟩
      have U6 := hide (lent_upper hL3.out hk6)
      have Xo6 := hide (Xo5.out.since hk6 (fun j h => Nat.le_trans (Ext.size he2.out) h.1))
      replace hk6 := hide hk6
      have S6 := hide ((S4.out.upper (U5.out.mono (Ext.size he3.out))).upper U6.out)
      have v6 := stepsV_stps S6.out (by omega)
      rw [hs4.out] at v6
      replace v6 := hide v6
      go_wp2_with fail
      refine (sameSteps _ _ pl _ v6.out (hS1.out.ext (hX.out.trans Xo6.out))).mono ?_
      rintro e7 w7 ⟨rfl, he7⟩
      have Xo7 := hide (Xo6.out.trans he7)
      have S7 := hide (S6.out.ext he7)
      have B7 := hide (hB.out.ext Xo7.out)
      have hC : Hid (wo.heap.size ≤ w3.heap.size) := Ext.size (he2.out.trans he3.out)
      have hwo : Hid (w1.heap.size ≤ w3.heap.size) := Nat.le_trans (Ext.size hX.out) hC.out
      have S7l := hide (S7.out.low hwo.out)
      have hown := hide (ownSteps w1.heap.size w1.heap.size w7 va vi (.slice none 0 0) (.slice none 0 0) vs (.slice none 0 0) ea ei es (.slice pa4 ss.length cap4) ss B7.out.bk B7.out.st (Ext.size (hX.out.trans Xo7.out)) S7l.out (by omega) (by omega) (by omega) (by omega))
      replace he7 := hide he7
      by_cases h0 : ee = 0
      · subst h0
        go_wp2_with fail
        refine hown.out.mono ?_
        rintro e8 w8 ⟨va8, vi8, vs8, en, em, eq, rfl, hb8, hc8, hen, hem, heq, hma8, hmi8, hms8, -, -, -, hk8⟩
        have mA : Hid (∀ x ∈ ea ++ en, MarkG 62 4 mkA w8 x) := fun x hx => (List.mem_append.1 hx).elim (fun h => markS_stay (hB.out.ma x h) Xo7.out B7.out.bk B7.out.st S7.out hC.out hk8.out (by decide) (by decide) (by decide) (by decide)) (fun h => hma8.out x h)
        have mI : Hid (∀ x ∈ ei ++ em, MarkG 52 2 mkI w8 x) := fun x hx => (List.mem_append.1 hx).elim (fun h => markS_stay (hB.out.mi x h) Xo7.out B7.out.bk B7.out.st S7.out hC.out hk8.out (by decide) (by decide) (by decide) (by decide)) (fun h => hmi8.out x h)
        have mS : Hid (∀ x ∈ es ++ eq, MarkG 60 5 mkSt w8 x) := fun x hx => (List.mem_append.1 hx).elim (fun h => markS_stay (hB.out.ms x h) Xo7.out B7.out.bk B7.out.st S7.out hC.out hk8.out (by decide) (by decide) (by decide) (by decide)) (fun h => hms8.out x h)
        have B8 : Hid (BksAt w1.heap.size w8 va8 vi8 vs8 (ea ++ en) (ei ++ em) (es ++ eq)) := ⟨hb8.out, hc8.out, mA.out, mI.out, mS.out⟩
        have X8 : Hid (Ext w1 w8) := (hX.out.trans Xo7.out).since hk8.out (fun g h => turnS_low B7.out.bk B7.out.st S7l.out h)
        clear hown
        go_wp2_with fail
        refine (booksLookS w1.heap.size w1.heap.size w8 va8 vi8 vs8 _ _ _ hb8.out hc8.out (by rw [List.length_append]; omega) (by rw [List.length_append]; omega) (by rw [List.length_append]; omega) mA.out mI.out mS.out).mono ?_
        rintro e9 w9 ⟨rfl, he9⟩
        replace he9 := hide he9
        go_wp2_with fail
        go_roundw
        case rel => exact ⟨i + 1, va8, vi8, vs8, ea ++ en, ei ++ em, es ++ eq, by omega, by go_num, by rw [List.length_append]; omega, by rw [List.length_append]; omega, by rw [List.length_append]; omega, B8.out.ext he9.out, X8.out.trans he9.out⟩
        case measure => simp [intOf]; omega
      · have h0' : (ee != 0) = true := by simpa using h0
        obtain rfl : pa4 = none := hnil4 h0
        replace h0 := hide h0
        go_wp2_with fail
        refine hown.out.mono ?_
        rintro e8 w8 ⟨va8, vi8, vs8, en, em, eq, rfl, hb8, hc8, hen, hem, heq, hma8, hmi8, hms8, -, -, -, hk8⟩
        have mA : Hid (∀ x ∈ ea ++ en, MarkG 62 4 mkA w8 x) := fun x hx => (List.mem_append.1 hx).elim (fun h => markS_stay (hB.out.ma x h) Xo7.out B7.out.bk B7.out.st S7.out hC.out hk8.out (by decide) (by decide) (by decide) (by decide)) (fun h => hma8.out x h)
        have mI : Hid (∀ x ∈ ei ++ em, MarkG 52 2 mkI w8 x) := fun x hx => (List.mem_append.1 hx).elim (fun h => markS_stay (hB.out.mi x h) Xo7.out B7.out.bk B7.out.st S7.out hC.out hk8.out (by decide) (by decide) (by decide) (by decide)) (fun h => hmi8.out x h)
        have mS : Hid (∀ x ∈ es ++ eq, MarkG 60 5 mkSt w8 x) := fun x hx => (List.mem_append.1 hx).elim (fun h => markS_stay (hB.out.ms x h) Xo7.out B7.out.bk B7.out.st S7.out hC.out hk8.out (by decide) (by decide) (by decide) (by decide)) (fun h => hms8.out x h)
        have B8 : Hid (BksAt w1.heap.size w8 va8 vi8 vs8 (ea ++ en) (ei ++ em) (es ++ eq)) := ⟨hb8.out, hc8.out, mA.out, mI.out, mS.out⟩
        have X8 : Hid (Ext w1 w8) := (hX.out.trans Xo7.out).since hk8.out (fun g h => turnS_low B7.out.bk B7.out.st S7l.out h)
        clear hown
        go_wp2_with fail
        refine (booksLookS w1.heap.size w1.heap.size w8 va8 vi8 vs8 _ _ _ hb8.out hc8.out (by rw [List.length_append]; omega) (by rw [List.length_append]; omega) (by rw [List.length_append]; omega) mA.out mI.out mS.out).mono ?_
        rintro e9 w9 ⟨rfl, he9⟩
        replace he9 := hide he9
        go_wp2_with fail
        go_roundw
        case rel => exact ⟨i + 1, va8, vi8, vs8, ea ++ en, ei ++ em, es ++ eq, by omega, by go_num, by rw [List.length_append]; omega, by rw [List.length_append]; omega, by rw [List.length_append]; omega, B8.out.ext he9.out, X8.out.trans he9.out⟩
        case measure => simp [intOf]; omega
    · obtain rfl : i = 2 := by omega
      go_wp2_with fail
      go_ret
      exact ⟨rfl, hX1.out.trans hX.out⟩
end Go.Proofs.YtodhhjlemmmjcaaGreat
