/-
  The books are looked at, where there are lists of records, too.
-/
/-
  The law Scans: it answers true.
-/
/-
  Scans returns true, and its argument reads behind the call as it read before: for every text, what the program's Scan answers is what the document's reference answers, twice, and the lists that came out are the caller's own.
  The condition: what comes in is of bulk at most 1048576 (the second form).
-/
import Derived.Test.YtmadjcnddokkoaaLooks
import Derived.Test.YtmadjcnddokkoaaBookD
import Derived.Test.YtmadjcnddokkoaaSameRec
import Derived.Test.YtmadjcnddokkoaaRefScan
import Derived.Test.YtmadjcnddokkoaaOpen
import Derived.WalkKit
import Derived.JoinedCond
namespace Go.Proofs.Ytmadjcnddokkoaa
open Go.RowKit

theorem noResV (w : World) : ResV w (.slice none 0 0) (.slice none 0 0) noRes := (OwnR.nil 0 w).resV okS_nil

set_option maxRecDepth 100000 in
set_option maxHeartbeats 3200000 in
theorem booksLookC (B O : Nat) (w : World) (va vi vc : Value) (ea ei ec : List (Value × Nat)) (hb : BkAt B w O va vi (.slice none 0 0) (.slice none 0 0) (.slice none 0 0) vc ea ei) (hc : w.ownsRow B 62 2 vc ec.length (cellsE ec)) (he : ea.length ≤ 3000000) (hf : ei.length ≤ 3000000) (hg : ec.length ≤ 1000) (hA : ∀ x ∈ ea, MarkG 88 4 mkA w x) (hI : ∀ x ∈ ei, MarkG 44 2 mkI w x) (hC : ∀ x ∈ ec, MarkG 52 8 mkC w x) :
    Calls Try.prog 8 #[.pointer (some ⟨O, 0, none⟩)] w fun e w' => e = .returned (.bool true) ∧ Ext w w' := by
  obtain ⟨pe, ce, rfl⟩ := ownsRow_form hc
  obtain ⟨o0, o1, o2, o3, o4, o5⟩ := six_cells hb.o
  have O5 := hide o5
  replace hb := hide hb; replace hA := hide hA; replace hI := hide hI; replace hC := hide hC; replace hc := hide hc
  go_enter Try.func8, Try.ntmps8
  go_wp2_with fail
  go_loop [3] (fun i => i = .int .i64 0) (fun _ => 0)
  case atStart => rfl
  case round =>
    subst hrel
    go_wp2_with fail
    go_loop [7] (fun i => i = .int .i64 0) (fun _ => 0)
    case atStart => rfl
    case round =>
      subst hrel
      go_wp2_with fail
      clear o0 o1 o2 o3 o4 o5
      go_loopw [11] (fun i wr => ∃ j : Nat, j ≤ ec.length ∧ i = .int .i64 j ∧ Ext w wr) (fun i _ => ec.length - (intOf i).toNat)
      case atStart => exact ⟨0, Nat.zero_le _, rfl, Ext.refl _⟩
      case round =>
        obtain ⟨j, hj, rfl, hx⟩ := hrel
        have o5 := hx.cells O5.out
        by_cases hlt : j < ec.length
        · obtain ⟨x, hxj⟩ := some_of_lt hlt
          obtain ⟨g, cap, hv, k0, k1⟩ := ent_cells hc.out hxj
          obtain ⟨rfl, rfl⟩ : pe = some ⟨g, 0, none⟩ ∧ ce = cap := by simpa using hv
          clear hv
          obtain ⟨hk, pa, n, ca, h1, h2, h3, h4, h5⟩ := hC.out x (List.mem_of_getElem? hxj)
          rw [h1] at k0
          have K0 := hide k0; have K1 := hide k1
          have j2 : (j : Int) < (ec.length : Int) := by omega
          have j4 : (0 : Int) ≤ (j : Int) := by omega
          replace hxj := hide hxj; replace h1 := hide h1; replace hx := hide hx
          clear o5 k0 k1
          have o5 := hx.out.cells O5.out; have k0 := hx.out.cells K0.out; have k1 := hx.out.cells K1.out
          go_wp2_with fail
          clear o5 k0 k1
          obtain ⟨wo, rfl⟩ : ∃ wo : World, wo = wr := ⟨_, rfl⟩
          go_loopw [12] (fun i w2 => ∃ q : Nat, q ≤ n ∧ i = .int .i64 q ∧ Ext wo w2) (fun i _ => n - (intOf i).toNat)
          case atStart => exact ⟨0, Nat.zero_le _, rfl, Ext.refl _⟩
          case round =>
            obtain ⟨q, hq, rfl, e2⟩ := hrel
            have E2 : Ext w wr := hx.out.trans e2
            have o5 := E2.cells O5.out
            have k0 := E2.cells K0.out
            have k1 := E2.cells K1.out
            by_cases hltq : q < n
            · rcases h5 with h5 | ⟨g', c, rfl, hg, ht⟩
              · omega
              have c0 := E2.cells (mark_cell (r := 0) (sz := 8) (m := mkC x.2) (u := .int .i64 (-9 - (x.2 : Int))) rfl hg ht hltq rfl)
              have c1 := E2.cells (mark_cell (r := 1) (sz := 8) (m := mkC x.2) (u := .int .i64 0) rfl hg ht hltq rfl)
              have c2 := E2.cells (mark_cell (r := 2) (sz := 8) (m := mkC x.2) (u := .int .i64 0) rfl hg ht hltq rfl)
              have c3 := E2.cells (mark_cell (r := 3) (sz := 8) (m := mkC x.2) (u := .int .i64 0) rfl hg ht hltq rfl)
              have c4 := E2.cells (mark_cell (r := 4) (sz := 8) (m := mkC x.2) (u := .string ⟨#[]⟩) rfl hg ht hltq rfl)
              have c5 := E2.cells (mark_cell (r := 5) (sz := 8) (m := mkC x.2) (u := .string ⟨#[]⟩) rfl hg ht hltq rfl)
              have c6 := E2.cells (mark_cell (r := 6) (sz := 8) (m := mkC x.2) (u := .slice none 0 0) rfl hg ht hltq rfl)
              have c7 := E2.cells (mark_cell (r := 7) (sz := 8) (m := mkC x.2) (u := .slice none 0 0) rfl hg ht hltq rfl)
              rw [Nat.add_zero] at c0
              have i2 : (q : Int) < (n : Int) := by omega
              have i4 : (0 : Int) ≤ (q : Int) := by omega
              replace E2 := hide E2; replace e2 := hide e2; replace hg := hide hg; replace ht := hide ht
              go_wp2_with fail
              refine (sameRes (.slice none 0 0) (.slice none 0 0) (.slice none 0 0) (.slice none 0 0) noRes _ (noResV _) (noResV _)).mono ?_
              rintro e w1 ⟨rfl, he1⟩
              have X1 := hide (((Ext.refl wr).alloc _).trans he1)
              have m0 := he1.cells (p := ⟨wr.heap.size, 0, none⟩) (v := .int .i64 (-9 - (x.2 : Int))) (by simp [go_sem])
              clear he1 o5 k0 k1 c0 c1 c2 c3 c4 c5 c6 c7
              have o5 := (E2.out.trans X1.out).cells O5.out
              have k0 := (E2.out.trans X1.out).cells K0.out
              have k1 := (E2.out.trans X1.out).cells K1.out
              go_wp2_with fail
              go_quiet (fail)
              go_wp2_with fail
              go_roundw
              case rel => exact ⟨q + 1, by omega, by go_num, (e2.out.trans X1.out).drewN _⟩
              case measure => simp [intOf]; omega
            · replace E2 := hide E2; replace e2 := hide e2; replace h5 := hide h5
              go_wp2_with fail
              go_roundw
              case rel => exact ⟨j + 1, by omega, by go_num, E2.out⟩
              case measure => simp [intOf]; omega
        · have hxw := hide hx
          clear hx
          go_wp2_with fail
          refine (bookLooks B O _ va vi _ _ _ ea ei (hb.out.ext hxw.out) he hf (fun y hy => (hA.out y hy).ext hxw.out) (fun y hy => (hI.out y hy).ext hxw.out)).mono ?_
          rintro e w1 ⟨rfl, he1⟩
          replace he1 := hide he1
          go_wp2_with fail
          go_ret
          exact ⟨rfl, hxw.out.trans he1.out⟩
end Go.Proofs.Ytmadjcnddokkoaa

namespace Go.Proofs.Ytmadjcnddokkoaa
open Go.RowKit

theorem RecsAt.stay {B : Nat} {w3 w6 w7 : World} {v : Value} {ps : List RecP} {D : Nat → Prop} (h : RecsAt B w3 v ps) (x : Ext w3 w6) (hk : Kept D w6 w7) (hD : ∀ g, B ≤ g → g < w3.heap.size → ¬ D g) : RecsAt B w7 v ps := by
  have h6 := h.ext x
  refine ⟨ownsRow_keptR h6.row hk fun g hg => hD g (h.row.lt g hg).1 (h.row.lt g hg).2, fun p hp => ⟨?_, (h.each p hp).2⟩, h.apart⟩
  obtain ⟨o3, _⟩ := h.each p hp
  obtain ⟨o6, _⟩ := h6.each p hp
  exact ⟨o6.f2, o6.f3, ownsRow_keptR o6.attrs hk fun g hg => hD g (o3.attrs.lt g hg).1 (o3.attrs.lt g hg).2, ownsRow_keptR o6.after hk fun g hg => hD g (o3.after.lt g hg).1 (o3.after.lt g hg).2⟩
/-- What is turned lies at or above the bound. -/
theorem turnC_low {B O : Nat} {w : World} {va vi vn vr vs vc v : Value} {ea ei ec : List (Value × Nat)} {ps : List RecP} (hb : BkAt B w O va vi vn vr vs vc ea ei) (hc : w.ownsRow B 62 2 vc ec.length (cellsE ec)) (hps : RecsAt B w v ps) {g : Nat} (h : TurnC ps v va vi vc O g) : B ≤ g := by
  rcases h with (⟨p, hp, h | h⟩ | h | h | h) | h | h
  · exact ((hps.each p hp).1.attrs.lt g h.symm).1
  · exact ((hps.each p hp).1.after.lt g h.symm).1
  · exact (hb.a.lt g h.symm).1
  · exact (hb.i.lt g h.symm).1
  · rw [h]; exact hb.low
  · exact (hps.row.lt g h.symm).1
  · exact (hc.lt g h.symm).1
/-- A mark that lies outside what the second list reaches stays. -/
theorem mark_stay {B L O : Nat} {w3 w7 w8 : World} {va vi vn vr vs vc v : Value} {ea ei ec : List (Value × Nat)} {ps : List RecP} {T : TypeId} {sz : Nat} {mk : Nat → List Value} {x : Value × Nat} (hm : MarkG T sz mk w7 x) (hb : BkAt B w7 O va vi vn vr vs vc ea ei) (hc : w7.ownsRow B 62 2 vc ec.length (cellsE ec)) (hps : RecsAt L w3 v ps) (hk : Kept (TurnC ps v va vi vc O) w7 w8)
    (h1 : T ≠ 86) (h2 : T ≠ 90) (h3 : T ≠ 62) (h4 : T ≠ 36) (hr : ∀ g, x.1.ownBlock = some g → g < L ∨ w3.heap.size ≤ g) : MarkG T sz mk w8 x := by
  refine hm.kept fun g c hg hcg => hk.heap hcg ?_
  have hn : ∀ {T' : TypeId} {n sz' : Nat} {u : Value} {xs : List Value}, w3.ownsRow L T' sz' u n xs → some g = u.ownBlock → False := fun ho h => by
    have h5 := ho.lt g h.symm
    rcases hr g hg with h6 | h6 <;> omega
  rintro ((⟨p, hp, h | h⟩ | h | h | h) | h | h)
  · exact hn (hps.each p hp).1.attrs h
  · exact hn (hps.each p hp).1.after h
  · exact ownsRow_ne hb.a hcg h1 h
  · exact ownsRow_ne hb.i hcg h2 h
  · exact tag_ne hcg hb.o h4 h
  · exact hn hps.row h
  · exact ownsRow_ne hc hcg h3 h

set_option maxRecDepth 100000 in
set_option maxHeartbeats 6400000 in
theorem scansLaw (s : ByteArray) (w : World) (hs : s.size ≤ 1048576) :
    Calls Try.prog 3 #[.string s] w fun e w' => e = .returned (.bool true) ∧ Ext w w' := by
  go_enter Try.func3, Try.ntmps3
  go_wp2_with fail
  refine (refScan s _ hs).mono ?_
  rintro e w1 ⟨ps, pa, ca, k, rfl, hd1, hn1, hr1, he1⟩
  go_wp2_with fail
  refine (scan s _ hs).mono ?_
  rintro e w2 ⟨qs, pb, cb, k2, rfl, hd2, hn2, hr2, he2⟩
  obtain ⟨hm2, rfl⟩ : ps.map RecP.r = qs.map RecP.r ∧ k = k2 := by have := hd1.out.symm.trans hd2.out; simpa using this
  go_wp2_with fail
  refine (scan s _ hs).mono ?_
  rintro e w3 ⟨rs, pc, cc, k3, rfl, hd3, hn3, hr3, he3⟩
  obtain ⟨hm3, rfl⟩ : ps.map RecP.r = rs.map RecP.r ∧ k = k3 := by have := hd1.out.symm.trans hd3.out; simpa using this
  replace hm2 := hide hm2; replace hm3 := hide hm3
  clear hd1 hd2 hd3
  have r1 := hide ((hr1.out.ext he2.out).ext he3.out)
  have r2 := hide (hr2.out.ext he3.out)
  have r3 := hide hr3.out
  go_wp2_with fail
  refine (sameRecords _ _ _ _ qs ps _ r2.out r1.out hm2.out.symm hn2).mono ?_
  rintro e w4 ⟨rfl, he4⟩
  replace he4 := hide he4
  go_wp2_with fail
  refine (sameRecords _ _ _ _ rs ps _ (r3.out.ext he4.out) (r1.out.ext he4.out) hm3.out.symm hn3).mono ?_
  rintro e w5 ⟨rfl, he5⟩
  have X5 := hide (he4.out.trans he5)
  clear he4 he5
  have X6 : Ext w5 (w5.alloc (.cells #[.slice none 0 0, .slice none 0 0, .slice none 0 0, .slice none 0 0, .slice none 0 0, .slice none 0 0] 36)) := (Ext.refl w5).alloc _
  have s1 : w1.heap.size ≤ w2.heap.size := he2.out.size
  have s2 : w2.heap.size ≤ w3.heap.size := he3.out.size
  have s3 : w3.heap.size ≤ w5.heap.size := X5.out.size
  have hbk : BkAt w1.heap.size (w5.alloc (.cells #[.slice none 0 0, .slice none 0 0, .slice none 0 0, .slice none 0 0, .slice none 0 0, .slice none 0 0] 36)) w5.heap.size (.slice none 0 0) (.slice none 0 0) (.slice none 0 0) (.slice none 0 0) (.slice none 0 0) (.slice none 0 0) [] [] :=
    ⟨heap_alloc_new w5 _, World.ownsRow_nil _ _ _ _, World.ownsRow_nil _ _ _ _, by omega⟩
  have hc6 : (w5.alloc (.cells #[.slice none 0 0, .slice none 0 0, .slice none 0 0, .slice none 0 0, .slice none 0 0, .slice none 0 0] 36)).ownsRow w1.heap.size 62 2 (.slice none 0 0) ([] : List (Value × Nat)).length (cellsE []) := World.ownsRow_nil _ _ _ _
  have lo6 := ((r2.out.ext X5.out).ext X6)
  have hB6 : w1.heap.size ≤ (w5.alloc (.cells #[.slice none 0 0, .slice none 0 0, .slice none 0 0, .slice none 0 0, .slice none 0 0, .slice none 0 0] 36)).heap.size := by have := X6.size; omega
  replace X6 := hide X6; replace hbk := hide hbk; replace hB6 := hide hB6; replace hc6 := hide hc6; replace lo6 := hide lo6
  replace s1 := hide s1; replace s2 := hide s2; replace s3 := hide s3
  go_wp2_with fail
  refine (ownRecords w1.heap.size w5.heap.size _ _ _ _ _ _ _ [] [] [] _ qs hbk.out hc6.out hB6.out lo6.out hn2 (by simp) (by simp) (by simp)).mono ?_
  rintro e w7 ⟨va7, vi7, vc7, en7, em7, eq7, rfl, hb7, hc7, hen7, hem7, heq7, hma7, hmi7, hmc7, hla7, hli7, hlc7, hk7⟩
  have hD7 : ∀ g, w2.heap.size ≤ g → g < w3.heap.size → ¬ TurnC qs (.slice pb qs.length cb) (.slice none 0 0) (.slice none 0 0) (.slice none 0 0) w5.heap.size g := by
    have h3 := s3.out
    rintro g hg1 hg2 ((⟨p, hp, h | h⟩ | h | h | h) | h | h)
    · have := ((hr2.out.each p hp).1.attrs.lt g h.symm).2; omega
    · have := ((hr2.out.each p hp).1.after.lt g h.symm).2; omega
    · cases h
    · cases h
    · omega
    · have := (hr2.out.row.lt g h.symm).2; omega
    · cases h
  have ow7 := hide (r3.out.stay (X5.out.trans X6.out) hk7.out hD7)
  have lo7 := hide (ow7.out.low (B' := w1.heap.size) s1.out)
  have hB7 := hide (Nat.le_trans hB6.out hk7.out.size)
  clear hD7
  go_wp2_with fail
  refine (ownRecords w1.heap.size w5.heap.size _ _ _ _ _ _ _ ([] ++ en7) ([] ++ em7) ([] ++ eq7) _ rs hb7.out hc7.out hB7.out lo7.out hn3 (by simp; omega) (by simp; omega) (by simp; omega)).mono ?_
  rintro e w8 ⟨va8, vi8, vc8, en8, em8, eq8, rfl, hb8, hc8, hen8, hem8, heq8, hma8, hmi8, hmc8, hla8, hli8, hlc8, hk8⟩
  have s6 : w3.heap.size ≤ (w5.alloc (.cells #[.slice none 0 0, .slice none 0 0, .slice none 0 0, .slice none 0 0, .slice none 0 0, .slice none 0 0] 36)).heap.size := Nat.le_trans s3.out X6.out.size
  have hA8 : Hid (∀ x ∈ ([] ++ en7) ++ en8, MarkG 88 4 mkA w8 x) := by
    intro x hx
    rcases List.mem_append.1 hx with hx | hx
    · rw [List.nil_append] at hx
      refine mark_stay (hma7.out x hx) hb7.out hc7.out r3.out hk8.out (by decide) (by decide) (by decide) (by decide) fun g hg => ?_
      rcases hla7.out x hx g hg with ⟨p, hp, h⟩ | h
      · exact .inl ((hr2.out.each p hp).1.attrs.lt g h).2
      · exact .inr (Nat.le_trans s6 h)
    · exact hma8.out x hx
  have hI8 : Hid (∀ x ∈ ([] ++ em7) ++ em8, MarkG 44 2 mkI w8 x) := by
    intro x hx
    rcases List.mem_append.1 hx with hx | hx
    · rw [List.nil_append] at hx
      refine mark_stay (hmi7.out x hx) hb7.out hc7.out r3.out hk8.out (by decide) (by decide) (by decide) (by decide) fun g hg => ?_
      rcases hli7.out x hx g hg with ⟨p, hp, h⟩ | h
      · exact .inl ((hr2.out.each p hp).1.after.lt g h).2
      · exact .inr (Nat.le_trans s6 h)
    · exact hmi8.out x hx
  have hC8 : Hid (∀ x ∈ ([] ++ eq7) ++ eq8, MarkG 52 8 mkC w8 x) := by
    intro x hx
    rcases List.mem_append.1 hx with hx | hx
    · rw [List.nil_append] at hx
      refine mark_stay (hmc7.out x hx) hb7.out hc7.out r3.out hk8.out (by decide) (by decide) (by decide) (by decide) fun g hg => ?_
      rcases hlc7.out x hx g hg with h | h
      · exact .inl (hr2.out.row.lt g h).2
      · exact .inr (Nat.le_trans s6 h)
    · exact hmc8.out x hx
  clear s6
  go_wp2_with fail
  refine (booksLookC w1.heap.size w5.heap.size _ va8 vi8 vc8 _ _ _ hb8.out hc8.out (by simp; omega) (by simp; omega) (by simp; omega) hA8.out hI8.out hC8.out).mono ?_
  rintro e w9 ⟨rfl, he9⟩
  replace he9 := hide he9
  go_wp2_with fail
  go_ret
  refine ⟨rfl, ?_⟩
  have hge := he1.out.size
  have k6 : Ext w (w5.alloc (.cells #[.slice none 0 0, .slice none 0 0, .slice none 0 0, .slice none 0 0, .slice none 0 0, .slice none 0 0] 36)) := (((he1.out.trans he2.out).trans he3.out).trans X5.out).trans X6.out
  have k7 : Ext w w7 := k6.since hk7.out (fun g hg => Nat.le_trans hge (turnC_low hbk.out hc6.out lo6.out hg))
  have k8 : Ext w w8 := k7.since hk8.out (fun g hg => Nat.le_trans hge (turnC_low hb7.out hc7.out lo7.out hg))
  exact k8.trans he9.out
end Go.Proofs.Ytmadjcnddokkoaa

namespace Go.Proofs.Ytmadjcnddokkoaa
open Go.ChangeShapes Go.WideShapes Go.ChangeAt Go.RowKit Go.Deep

theorem ownOff : ownKnob Try.prog.godebug = none := by kernel_rfl
theorem laidOutAll : laidOutB Try.prog = true := by kernel_rfl

/-- What is asked behind a call that turned nothing of what was there. -/
theorem post_ext {H : Type} {enc : TypeId × Value → H} {P : Program} {f : Func} {s : ChangeSpec} {fresh handsOn again : Bool} {W W' : World} {args : Array Value} {v : Value} {ds gs : List (DataW H)} {before pa pv : List MemPlace}
    (hW : DataW.Whole enc P f.params.toList s.vars false W args.toList ds gs before)
    (hres : ∀ (b : Nat) (sp : Nat → Bool) (hd : Bool), DataW.TrodAll enc P W' b sp hd f.resultTypes.toList (v.resultList f.resultTypes.size) (s.fn H (ds ++ gs)).results [])
    (hargs : ∀ sp : Nat → Bool, (∀ p ∈ before, sp p.block = true) → DataW.TrodAll enc P W' 0 sp true f.params.toList args.toList (s.fn H (ds ++ gs)).args pa)
    (hvars : ∀ sp : Nat → Bool, (∀ p ∈ before, sp p.block = true) → DataW.TrodVars enc P W' sp s.vars (s.fn H (ds ++ gs)).vars pv)
    (hps : before = pa ++ pv) (he : Ext W W')
    (hok : ∀ (j : Nat) (t : TypeId) (r : Value), f.resultTypes[j]? = some t → (v.resultList f.resultTypes.size)[j]? = some r → Value.okWide P W' .any 0 t r) :
    s.post enc P f false fresh handsOn again W args v W' := by
  have hlt : ∀ p ∈ before, p.block < W.heap.size := fun p hp => hW.lt p hp
  have hold : ∀ p ∈ before, (fun b => decide (b < W.heap.size)) p.block = true := fun p hp => by simpa using hlt p hp
  refine ⟨ds, gs, before, [], pa, pv, hW, hres _ _ _, hargs _ hold, hvars _ hold, Below.frame he _, fun _ => ⟨hok, _, _, ([] ++ pa) ++ pv, ⟨[] ++ pa, pv, trodAll_append (hargs _ (fun _ _ => rfl)) (hres _ _ _), hvars _ (fun _ _ => rfl), rfl, ?_, fun h => by cases h⟩, ?_⟩⟩
  · obtain ⟨_, _, _, _, _, hz, _⟩ := hW
    intro b off hp
    have hp' : MemPlace.cell b off ∈ before := by rw [hps]; simpa using hp
    rw [Below.frozen he (hlt _ hp')]
    exact hz b off hp'
  · intro p hp _
    rw [hps]; simpa using hp

set_option maxRecDepth 100000 in
theorem contract (H : Type) (enc : TypeId × Value → H) (W : World) (base : Nat) (args : Array Value) (ds gs : List (DataW H)) (before : List MemPlace)
    (hval : ∀ (j : Nat) t v, Try.f3.params[j]? = some t → args[j]? = some v → Value.okWide Try.prog W .any base t v)
    (hW : DataW.Whole enc Try.prog Try.f3.params.toList Rows.scansSpec.vars false W args.toList ds gs before) (hk : Rows.uptoSmall H (ds ++ gs) = true) :
    Calls Try.prog 3 args W fun e W' => ∃ v, e = .returned v ∧ Rows.scansSpec.post enc Try.prog Try.f3 false true false false W args v W' := by
  have hW' := hW
  obtain ⟨p, q, hA0, hV, rfl, hfz, hnd⟩ := hW
  have hA : DataW.TrodAll enc Try.prog W 0 (fun _ => true) true Try.f3.params.toList args.toList ds p := hA0
  rw [Try.params3] at hA
  obtain ⟨v0, vs0, d0, ds0, p0, q0, hargs, rfl, rfl, h0, r0⟩ := trodAll_cons hA
  obtain ⟨rfl, rfl, rfl⟩ := trodAll_nil r0
  obtain rfl : args = #[v0] := by cases args; simp_all
  obtain ⟨rfl, rfl⟩ := trodVars_none hV
  clear hA0
  simp only [List.append_nil] at hW' hk
  have hb : Rows.uptoBulk d0 ≤ 1048576 := by
    have h : Rows.uptoBulkAll [d0] ≤ 1048576 := of_decide_eq_true hk
    simp only [Rows.uptoBulkAll] at h; omega
  obtain ⟨fuel, hf⟩ := h0
  have h0 : DataW.Trod enc Try.prog W 0 (fun _ => true) true 9 v0 d0 p0 := ⟨fuel, hf⟩
  rw [Try.params3] at hval
  obtain ⟨s, rfl⟩ := okWide_string Try.underlying9 (hval 0 9 v0 rfl rfl)
  obtain ⟨s', hs', hs⟩ := openStr hf hb
  obtain rfl : s = s' := by
    have : [Value.string s] = [Value.string s'] := hs'
    simpa using this
  refine (scansLaw s W hs).mono fun e W' ⟨he, hg⟩ => ?_
  subst he
  refine ⟨_, rfl, post_ext (pa := p0) (pv := []) hW' (fun _ _ _ => trodAll_cons_mk (shut_bool Try.underlying4 _) trodAll_mk0) (fun sp hsp => ?_) (fun _ _ => rfl) (by simp) hg (ok_one (by kernel_rfl) rfl (okWide_bool_mk Try.underlying4 _))⟩
  have hlt := hW'.lt
  have k0 : DataW.Trod enc Try.prog W' 0 sp true 9 _ d0 p0 := WideElems.Trod_stays laidOutAll (by kernel_rfl) (of_decide_eq_true (by kernel_rfl)) h0 (fun x hx => Below.same hg (hlt x (by simp [hx]))) (fun x hx => hsp x (by simp [hx]))
  have h2 := trodAll_cons_mk k0 (trodAll_mk0 (enc := enc) (P := Try.prog) (w := W') (base := 0) (spare := sp) (held := true))
  rw [List.append_nil] at h2
  rw [Try.params3]
  exact h2

set_option maxRecDepth 100000 in
theorem lifted (os : Os) (started : os.Started) (H : Type) (enc : TypeId × Value → H) (F : Stop.Interp) :
    ReturnsInHanded {} Try.checked os 3 .any ((Rows.OpenSpec.upto Rows.scansSpec).pre6 enc Try.prog Try.f3 Rows.scansUptoRow.domain false) (((Rows.OpenSpec.upto Rows.scansSpec).at F).post enc Try.prog Try.f3 false true false false) := by
  refine returnsInHanded_of_cond (C := Try.checked) (s := Rows.OpenSpec.upto Rows.scansSpec) (k := Rows.uptoSmall) rfl ownOff started (by kernel_rfl) Try.func3
    (OpenSpec.witness (enc := enc) (C := Try.checked) (s := Rows.OpenSpec.upto Rows.scansSpec) (k := Rows.uptoSmall) rfl false ⟨#[], #[.string ⟨#[]⟩], []⟩ 16 (by kernel_rfl) (by kernel_rfl) (by kernel_rfl)
      (x := ([.lit (.string [])], [], [])) (by kernel_rfl) rfl (by kernel_rfl)) ?_
  intro W base args ds gs before hval hW _ hk _
  exact contract H enc W base args ds gs before hval hW hk

/-- Scans is true wherever what comes in is of bulk at most 1048576. -/
theorem scansUpto_holds : Rows.ScansUptoSaid :=
  OpenClaim.holds_of_cond 3 Try.f3 rfl rfl rfl rfl rfl rfl rfl ⟨rfl, rfl, rfl, rfl, rfl⟩ rfl rfl rfl rfl rfl (by kernel_rfl) Try.func3 (by kernel_rfl)
    (of_decide_eq_true (by kernel_rfl)) (by unfold Func.isWrapper; first | (rw [if_pos (by decide +kernel)]; kernel_rfl) | (rw [if_neg (by decide +kernel)]; exact ⟨rfl, rfl⟩))
    (fun os started H enc _ F => lifted os started H enc F)
end Go.Proofs.Ytmadjcnddokkoaa

