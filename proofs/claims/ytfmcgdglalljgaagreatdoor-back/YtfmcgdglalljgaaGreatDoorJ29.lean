/-
  The parser is made; what is looked for among what it has read.
-/
/-
  The parser: a resource that waits for itself is looked for.
-/
/-
  What is read is small: tokens, entries.
-/
import Derived.Test.YtfmcgdglalljgaaGreatDoorRsrP
import Derived.Test.YtfmcgdglalljgaaGreatDoorJ21
import Derived.Test.YtfmcgdglalljgaaGreatDoorJ28
namespace Go.Proofs.YtfmcgdglalljgaaGreatDoor
open Go.RowKit

set_option maxRecDepth 100000 in
set_option maxHeartbeats 1600000 in
theorem newParserP {B : Nat} {w : World} {vT : Value} {ts : List Tok} (h : w.ownsRow B 120 4 vT ts.length (cellsT ts)) (hB : B ≤ w.heap.size) :
    Calls Tryz.prog 40 #[vT] w fun e w' => ∃ P, e = .returned (.pointer (some ⟨P, 0, none⟩)) ∧ Hid (Std B w' P ts 0 [] [] []) ∧ Hid (Ext w w') := by
  obtain ⟨pa, cap, rfl⟩ := ownsRow_form h
  replace h := hide h
  go_enter Tryz.func40, Tryz.ntmps40
  go_wp2_with fail
  refine (tabNewE w).mono ?_
  rintro e1 w1 ⟨rfl, hT1, hw1⟩
  have X1 : Ext w w1 := by rw [hw1.out]; exact (Ext.refl w).alloc _
  have hN := heap_alloc_new w1 (.cells #[.slice pa ts.length cap, .int .i64 0, .pointer (some ⟨w.heap.size, 0, none⟩), .slice none 0 0, .slice none 0 0] 130)
  have X2 := (Ext.refl w1).alloc (.cells #[.slice pa ts.length cap, .int .i64 0, .pointer (some ⟨w.heap.size, 0, none⟩), .slice none 0 0, .slice none 0 0] 130)
  replace X1 := hide X1; replace X2 := hide X2; replace hN := hide hN
  go_wp2_with fail
  go_ret
  refine ⟨w1.heap.size, rfl, ⟨⟨w.heap.size, .slice pa ts.length cap, .slice none 0 0, .slice none 0 0, .slice none 0 0, ?_⟩, ⟨0, Nat.zero_le _, rfl, fun i b e hb => by cases hb⟩, Nat.le_trans hB (Nat.le_trans (Ext.size X1.out) (Ext.size X2.out)), Nat.zero_le _, Nat.zero_le _⟩, X1.out.trans X2.out⟩
  exact ⟨Nat.le_trans hB (Ext.size X1.out), hN.out, ownsRow_wr (D := fun _ _ => False) h.out (Wr.ext (X1.out.trans X2.out)) (fun _ _ _ => id), (hT1.out.ext X2.out).low hB, World.ownsRow_nil _ _ _ _, World.ownsRow_nil _ _ _ _⟩

open Classical in
/-- The first ref that is no resource of the text. -/
noncomputable def refsF (es : List EntD) : List (IDd × Nat) → Flt
  | [] => (0, 0)
  | r :: l => if r.1 ∈ es.map EntD.id then refsF es l else (9, r.2)
set_option maxRecDepth 100000 in
set_option maxHeartbeats 1600000 in
theorem checkRefs1 {B : Nat} {w : World} {P : Nat} {ts : List Tok} {i : Nat} {bs : List Nat} {es : List EntD} {rf : List (IDd × Nat)} (h : Std B w P ts i bs es rf) (r : IDd × Nat) (p : Nat) (hp : w.cell? ⟨p, 0, none⟩ = some (.pointer (some ⟨P, 0, none⟩))) :
    Calls Tryz.prog 72 #[.agg #[.string r.1.kind, .string r.1.name, .int .i64 r.2], .pointer (some ⟨p, 0, none⟩)] w fun e w' => ∃ b : Bool, e = .returned (.bool b) ∧ Hid (b = true ↔ r.1 ∉ es.map EntD.id) ∧ Hid (Ext w w') := by
  obtain ⟨⟨tE, vT, vE, vO, vR, hq⟩, ⟨M, hM, ho⟩, hB, h12, hf⟩ := h
  have X0 := (Ext.refl w).alloc (.cells #[.string r.1.kind, .string r.1.name, .int .i64 r.2] 133)
  have p0 := X0.cells hp
  have p2 := (five_cells (hq.ext X0).box).2.2.1
  have hT := hide ((hq.ents.ext X0).ext (Ext.refl _).drew)
  have hk := hide (rsOf_has (es := es) (bs := bs) ho.1)
  replace hq := hide hq; replace X0 := hide X0
  go_enter Tryz.func72, Tryz.ntmps72
  go_wp2_with fail
  have I0 := heap_alloc_new w (.cells #[.string r.1.kind, .string r.1.name, .int .i64 r.2] 133)
  have i0 := cell_of I0 0; have i1 := cell_of I0 1
  simp only [List.getElem?_toArray, List.getElem?_cons_zero, List.getElem?_cons_succ] at i0 i1
  replace I0 := hide I0
  generalize w.alloc (.cells #[.string r.1.kind, .string r.1.name, .int .i64 r.2] 133) = w1 at *
  go_region_held3 (fun w' => w'.cell? ⟨p, 0, none⟩ = some (.pointer (some ⟨P, 0, none⟩)) ∧ w'.cell? ⟨P, 2, none⟩ = some (.pointer (some ⟨tE, 0, none⟩)) ∧ w'.cell? ⟨w.heap.size, 0, none⟩ = some (.string r.1.kind) ∧ w'.cell? ⟨w.heap.size, 1, none⟩ = some (.string r.1.name)) (go_keep) ((go_at_call 73; refine (tabHasE B vE (rsOf es bs) r.1 tE _ hT.out).mono ?_; rintro e2 w2 ⟨b, rfl, hb, he2⟩; go_must (have z0 := he2.out.cells (p := ⟨p, 0, none⟩) p0; have z1 := he2.out.cells (p := ⟨P, 2, none⟩) p2; have z2 := he2.out.cells (p := ⟨w.heap.size, 0, none⟩) i0; have z3 := he2.out.cells (p := ⟨w.heap.size, 1, none⟩) i1)))
  go_wp2_with fail
  go_ret
  refine ⟨!b, rfl, ?_, X0.out.trans ((Ext.refl w1).drew.trans he2.out)⟩
  show _ ↔ _
  rw [← hk.out r.1, ← hb.out]
  cases b <;> simp

theorem refsF_skip {es : List EntD} : ∀ {l : List (IDd × Nat)} {j : Nat}, (∀ (i : Nat) y, i < j → l[i]? = some y → y.1 ∈ es.map EntD.id) → refsF es l = refsF es (l.drop j)
  | [], j, _ => by simp
  | r :: l, 0, _ => rfl
  | r :: l, j + 1, h => by
    have h0 := h 0 r (by omega) rfl
    have := refsF_skip (es := es) (l := l) (j := j) fun i y hi hy => h (i + 1) y (by omega) (by simpa using hy)
    rw [List.drop_succ_cons, ← this]
    conv => lhs; unfold refsF
    rw [if_pos h0]
/-- What the looking for a ref answers. -/
def FindRIs (w : World) (f : Flt) (e : Ending) (w' : World) : Prop :=
  Hid (Ext w w') ∧ ∃ k n pl, (e = .returned (.tuple #[.agg #[.string k, .string n, .int .i64 pl], .bool (f.1 != 0)])) ∧ Hid (f.1 ≠ 0 → pl = (f.2 : Int))
set_option maxRecDepth 100000 in
set_option maxHeartbeats 1600000 in
theorem findR {B : Nat} {w0 w : World} {P : Nat} {ts : List Tok} {i : Nat} {bs : List Nat} {es : List EntD} {rf : List (IDd × Nat)} (h : Std B w0 P ts i bs es rf) (hE : Ext w0 w) (hrf : rf.length ≤ 1000000) (v : Value) (hv : w0.ownsRow B 133 3 v rf.length (rf.flatMap cRf)) (p : Nat) (hp : w.cell? ⟨p, 0, none⟩ = some (.pointer (some ⟨P, 0, none⟩))) :
    Calls Tryz.prog 71 #[v, .func (.func 72) #[] #[.pointer (some ⟨p, 0, none⟩)]] w (FindRIs w (refsF es rf)) := by
  obtain ⟨pa, cap, rfl⟩ := ownsRow_form hv
  replace h := hide h; replace hE := hide hE; replace hp := hide hp; replace hv := hide hv
  go_enter Tryz.func71, Tryz.ntmps71
  go_wp2_with fail
  generalize hwx : w.alloc (.cells #[.string ⟨#[]⟩, .string ⟨#[]⟩, .int .i64 0] 133) = wx
  have Xx : Hid (Ext w wx) := by subst hwx; exact (Ext.refl w).alloc _
  have Ox : Hid (wx.heap[w.heap.size]? = some (.cells #[.string ⟨#[]⟩, .string ⟨#[]⟩, .int .i64 0] 133)) := by subst hwx; exact heap_alloc_new w _
  replace hwx := hide hwx
  go_loopw [11] (fun k wr => ∃ j : Nat, j ≤ rf.length ∧ k = .int .i64 j ∧ Hid (∀ (i : Nat) y, i < j → rf[i]? = some y → y.1 ∈ es.map EntD.id) ∧ Hid (Ext wx wr)) (fun k _ => rf.length - (intOf k).toNat)
  case atStart => exact ⟨0, Nat.zero_le _, rfl, fun _ _ h => absurd h (by omega), Ext.refl _⟩
  case round =>
    obtain ⟨j, hj, rfl, hno, hx⟩ := hrel
    have X0 := hide (Xx.out.trans hx.out)
    have hO := ext_heap hx.out Ox.out
    by_cases hlt : j < rf.length
    · obtain ⟨x, hxj⟩ := some_of_lt hlt
      rcases hv.out.2 with ⟨_, h0⟩ | ⟨g, cap', cur, hpv, _, hg, _, _, _, htk⟩
      · omega
      cases hpv
      have key : ∀ r, r < 3 → wr.cell? ⟨g, j * 3 + r, none⟩ = (cRf x)[r]? := by
        intro r hr
        have h1 : (rf.flatMap cRf)[j * 3 + r]? = (cRf x)[r]? := flat_get (f := cRf) (n := 3) (fun _ => rfl) hxj hr
        rw [← h1, ← htk, List.getElem?_take, if_pos (by omega)]
        have := ext_heap (hE.out.trans X0.out) hg
        simp [World.cell?, this]
      have k0 : wr.cell? ⟨g, j * 3, none⟩ = some (.string x.1.kind) := key 0 (by omega)
      have k1 : wr.cell? ⟨g, j * 3 + 1, none⟩ = some (.string x.1.name) := key 1 (by omega)
      have k2 : wr.cell? ⟨g, j * 3 + 2, none⟩ = some (.int .i64 x.2) := key 2 (by omega)
      clear key
      have j2 : (j : Int) < (rf.length : Int) := by omega
      have j4 : (0 : Int) ≤ (j : Int) := by omega
      replace hxj := hide hxj; replace hg := hide hg; replace htk := hide htk; replace hO := hide hO
      have XA := hide ((Ext.refl wr).alloc (.cells #[.string x.1.kind, .string x.1.name, .int .i64 x.2] 133))
      go_wp2_with fail
      refine (checkRefs1 (h.out.ext ((hE.out.trans X0.out).trans XA.out)) x p ((X0.out.trans XA.out).cells hp.out)).mono ?_
      rintro e1 w1 ⟨b, rfl, hb, he1⟩
      have hx1 := hide ((hx.out.trans XA.out).trans he1.out)
      have N1 := ext_heap he1.out (heap_alloc_new wr (.cells #[.string x.1.kind, .string x.1.name, .int .i64 x.2] 133))
      cases b
      · have hin : x.1 ∈ es.map EntD.id := Classical.byContradiction fun hn => by have := hb.out.2 hn; cases this
        replace N1 := hide N1
        go_wp2_with fail
        go_roundw
        case rel =>
          refine ⟨j + 1, by omega, by go_num, fun i y hi hy => ?_, hx1.out⟩
          by_cases hij : i = j
          · subst hij
            obtain rfl : x = y := by simpa [hxj.out] using hy
            exact hin
          · exact hno.out i y (by omega) hy
        case measure => simp [intOf]; omega
      · have hnin : x.1 ∉ es.map EntD.id := hb.out.1 rfl
        have hF : refsF es rf = (9, x.2) := by
          rw [refsF_skip hno.out, List.drop_eq_getElem_cons hlt]
          obtain ⟨_, he⟩ := List.getElem?_eq_some_iff.1 hxj.out
          rw [he]; unfold refsF; rw [if_neg hnin]
        have hO1 := ext_heap hx1.out Ox.out
        have n0 := cell_of N1 0; have n1 := cell_of N1 1; have n2 := cell_of N1 2
        have o0 := cell_of hO1 0; have o1 := cell_of hO1 1; have o2 := cell_of hO1 2
        simp only [List.getElem?_toArray, List.getElem?_cons_zero, List.getElem?_cons_succ] at n0 n1 n2 o0 o1 o2
        have fO := row_frozen hO1
        replace N1 := hide N1; replace hO1 := hide hO1
        go_wp2_with fail
        refine bodyPost_ret (v := .tuple #[.agg #[.string x.1.kind, .string x.1.name, .int .i64 x.2], .bool true]) (by simp [results, Tryz.results71, go_sem, o0, o1, o2]) rfl ?_
        rw [hF]
        refine ⟨((((Xx.out.trans hx1.out).setCell (p := ⟨w.heap.size, 0, none⟩) (Nat.le_refl _) _).setCell (p := ⟨w.heap.size, 1, none⟩) (Nat.le_refl _) _).setCell (p := ⟨w.heap.size, 2, none⟩) (Nat.le_refl _) _), x.1.kind, x.1.name, x.2, rfl, fun _ => rfl⟩
    · have heq : j = rf.length := by omega
      have hF : refsF es rf = (0, 0) := by
        rw [refsF_skip hno.out, heq, List.drop_length]; rfl
      have XA := (Ext.refl wr).alloc (.cells #[.string ⟨#[]⟩, .string ⟨#[]⟩, .int .i64 0] 133)
      have hO1 := ext_heap XA hO
      have o0 := cell_of hO1 0; have o1 := cell_of hO1 1; have o2 := cell_of hO1 2
      simp only [List.getElem?_toArray, List.getElem?_cons_zero, List.getElem?_cons_succ] at o0 o1 o2
      have fO := row_frozen hO1
      subst heq
      replace hO := hide hO; replace hO1 := hide hO1; replace XA := hide XA
      go_wp2_with fail
      refine bodyPost_ret (v := .tuple #[.agg #[.string ⟨#[]⟩, .string ⟨#[]⟩, .int .i64 0], .bool false]) (by simp [results, Tryz.results71, go_sem, o0, o1, o2]) rfl ?_
      rw [hF]
      exact ⟨((((X0.out.trans XA.out).setCell (p := ⟨w.heap.size, 0, none⟩) (Nat.le_refl _) _).setCell (p := ⟨w.heap.size, 1, none⟩) (Nat.le_refl _) _).setCell (p := ⟨w.heap.size, 2, none⟩) (Nat.le_refl _) _), ⟨#[]⟩, ⟨#[]⟩, 0, rfl, fun h => absurd rfl h⟩

set_option maxRecDepth 100000 in
set_option maxHeartbeats 1600000 in
theorem checkRefsP {B : Nat} {w : World} {P : Nat} {ts : List Tok} {i : Nat} {bs : List Nat} {es : List EntD} {rf : List (IDd × Nat)} (h : Std B w P ts i bs es rf) (hrf : rf.length ≤ 1000000) :
    Calls Tryz.prog 42 #[.pointer (some ⟨P, 0, none⟩)] w fun e w' => e = .returned (.agg #[.int .i64 (refsF es rf).1, .int .i64 (refsF es rf).2]) ∧ Hid (Ext w w') := by
  obtain ⟨tE, vT, vE, vO, vR, hq⟩ := h.par
  obtain ⟨pa, cap, rfl⟩ := ownsRow_form hq.refs
  have hcase : refsF es rf = (0, 0) ∨ ∃ q, refsF es rf = (9, q) := by
    clear hq h hrf
    induction rf with
    | nil => exact .inl rfl
    | cons r l ih =>
      unfold refsF
      split
      · exact ih
      · exact .inr ⟨_, rfl⟩
  replace hq := hide hq; replace h := hide h
  have X2 := ((Ext.refl w).alloc (.cells #[.pointer (some ⟨P, 0, none⟩)] 91)).alloc (.cells #[.int .i64 0, .int .i64 0] 88)
  have O2 := two_hi w (.cells #[.pointer (some ⟨P, 0, none⟩)] 91) (.cells #[.int .i64 0, .int .i64 0] 88)
  have B2 := ext_heap ((Ext.refl _).alloc (.cells #[.int .i64 0, .int .i64 0] 88)) (heap_alloc_new w (.cells #[.pointer (some ⟨P, 0, none⟩)] 91))
  have b0 := cell_of B2 0
  simp only [List.getElem?_toArray, List.getElem?_cons_zero] at b0
  have p4 := (five_cells (hq.out.ext X2).box).2.2.2.2
  have hfr := hide (findR h.out X2 hrf (.slice pa rf.length cap) hq.out.refs w.heap.size b0)
  replace X2 := hide X2; replace O2 := hide O2; replace B2 := hide B2
  rcases hcase with hF | ⟨q, hF⟩
  · rw [hF] at hfr ⊢
    replace hF := hide hF
    go_enter Tryz.func42, Tryz.ntmps42
    go_wp2_with fail
    refine hfr.out.mono ?_
    rintro e1 w1 ⟨he1, k, n, pl, rfl, hpl⟩
    have O1 := ext_heap (he1.out.trans ((Ext.refl w1).alloc (.cells #[.string k, .string n, .int .i64 pl] 133))) O2.out
    have X1 : Hid (Ext w _) := X2.out.trans (he1.out.trans ((Ext.refl w1).alloc (.cells #[.string k, .string n, .int .i64 pl] 133)))
    have o0 := two_c0 O1; have o1 := two_c1 O1; have fO := row_frozen O1
    replace O1 := hide O1
    have hb : ((0 : Int) != 0) = false := rfl
    go_wp2_with fail
    refine bodyPost_ret (v := .agg #[.int .i64 0, .int .i64 0]) (by simp [results, Tryz.results42, go_sem, o0, o1]) rfl ?_
    exact ⟨rfl, (X1.out.setCell (p := ⟨w.heap.size + 1, 0, none⟩) (Nat.le_succ _) _).setCell (p := ⟨w.heap.size + 1, 1, none⟩) (Nat.le_succ _) _⟩
  · rw [hF] at hfr ⊢
    replace hF := hide hF
    go_enter Tryz.func42, Tryz.ntmps42
    go_wp2_with fail
    refine hfr.out.mono ?_
    rintro e1 w1 ⟨he1, k, n, pl, rfl, hpl⟩
    have O1 := ext_heap (he1.out.trans ((Ext.refl w1).alloc (.cells #[.string k, .string n, .int .i64 pl] 133))) O2.out
    have X1 : Hid (Ext w _) := X2.out.trans (he1.out.trans ((Ext.refl w1).alloc (.cells #[.string k, .string n, .int .i64 pl] 133)))
    have o0 := two_c0 O1; have o1 := two_c1 O1; have fO := row_frozen O1
    replace O1 := hide O1
    obtain rfl := hpl.out (by simp)
    have N1 := ext_heap (Ext.refl _) (heap_alloc_new w1 (.cells #[.string k, .string n, .int .i64 q] 133))
    have n2 := cell_of N1 2
    simp only [List.getElem?_toArray, List.getElem?_cons_zero, List.getElem?_cons_succ] at n2
    replace N1 := hide N1
    have hb : ((9 : Int) != 0) = true := rfl
    go_wp2_with fail
    refine bodyPost_ret (v := .agg #[.int .i64 9, .int .i64 q]) (by simp [results, Tryz.results42, go_sem, o0, o1]) rfl ?_
    exact ⟨rfl, (X1.out.setCell (p := ⟨w.heap.size + 1, 0, none⟩) (Nat.le_succ _) _).setCell (p := ⟨w.heap.size + 1, 1, none⟩) (Nat.le_succ _) _⟩
end Go.Proofs.YtfmcgdglalljgaaGreatDoor

namespace Go.Proofs.YtfmcgdglalljgaaGreatDoor
open Go.RowKit

open Classical in
/-- The first resource, in the order of the text, that waits for itself. -/
noncomputable def circF (l : List Resd) : List EntD → Flt
  | [] => (0, 0)
  | e :: es => if IdCirc l e.id then (10, e.place) else circF l es
set_option maxRecDepth 100000 in
set_option maxHeartbeats 1600000 in
theorem checkCircles1 {w : World} {b p : Nat} {e : EntD} {v : Value} {l : List Resd} (h : EntAt 0 w b e) (hv : RessV w v l) (hU : (allAfter l).length ≤ 1000) (hp : w.cell? ⟨p, 0, none⟩ = some v) :
    Calls Tryz.prog 78 #[.pointer (some ⟨b, 0, none⟩), .pointer (some ⟨p, 0, none⟩)] w (CircIs w l e.id) := by
  obtain ⟨tA, tI, vA, vI, hE⟩ := h
  obtain ⟨e0, e1, -, -, -, -⟩ := six_cells hE.box
  have hwf := hide (waitsForItself v l e.id w.drew (hv.ext (Ext.refl w).drew) hU)
  obtain ⟨a1, c1, rfl, -, -, -⟩ := hv.shape
  replace hE := hide hE; replace hv := hide hv
  go_enter Tryz.func78, Tryz.ntmps78
  go_wp2_with fail
  go_region_held3 (fun w' => w'.cell? ⟨p, 0, none⟩ = some (.slice a1 l.length c1) ∧ w'.cell? ⟨b, 0, none⟩ = some (.string e.id.kind) ∧ w'.cell? ⟨b, 1, none⟩ = some (.string e.id.name)) (go_keep) ((go_at_call 52; refine hwf.out.mono ?_; rintro e1 w1 ⟨b1, rfl, hb1, he1⟩; go_must (have z0 := he1.out.cells (p := ⟨p, 0, none⟩) hp; have z1 := he1.out.cells (p := ⟨b, 0, none⟩) e0; have z2 := he1.out.cells (p := ⟨b, 1, none⟩) e1)))
  go_wp2_with fail
  go_ret
  exact ⟨b1, rfl, hb1, (Ext.refl w).drew.trans he1.out⟩

theorem circF_skip {l : List Resd} : ∀ {es : List EntD} {j : Nat}, (∀ (i : Nat) y, i < j → es[i]? = some y → ¬ IdCirc l y.id) → circF l es = circF l (es.drop j)
  | [], j, _ => by simp
  | r :: es, 0, _ => rfl
  | r :: es, j + 1, h => by
    have h0 := h 0 r (by omega) rfl
    have := circF_skip (l := l) (es := es) (j := j) fun i y hi hy => h (i + 1) y (by omega) (by simpa using hy)
    rw [List.drop_succ_cons, ← this]
    conv => lhs; unfold circF
    rw [if_neg h0]
/-- What the looking for a circle answers. -/
def FindEIs (w0 w : World) (f : Flt) (e : Ending) (w' : World) : Prop :=
  Hid (Ext w w') ∧ ((f = (0, 0) ∧ e = .returned (.tuple #[.pointer none, .bool false])) ∨ ∃ b x, f = (10, x.place) ∧ Hid (EntAt 0 w0 b x) ∧ e = .returned (.tuple #[.pointer (some ⟨b, 0, none⟩), .bool true]))
set_option maxRecDepth 100000 in
set_option maxHeartbeats 1600000 in
theorem findE {B M : Nat} {w0 w : World} {bs : List Nat} {es : List EntD} {l : List Resd} {v u : Value} (ho : Olds M w0 bs es) (hE : Ext w0 w) (hU : (allAfter l).length ≤ 1000) (hu : RessV w0 u l) (hf : bs.length ≤ 1000000) (hv : w0.ownsRow B 125 1 v bs.length (bs.flatMap cPt)) (p : Nat) (hp : w.cell? ⟨p, 0, none⟩ = some u) :
    Calls Tryz.prog 77 #[v, .func (.func 78) #[] #[.pointer (some ⟨p, 0, none⟩)]] w (FindEIs w0 w (circF l es)) := by
  obtain ⟨pa, cap, rfl⟩ := ownsRow_form hv
  replace ho := hide ho; replace hE := hide hE; replace hp := hide hp; replace hv := hide hv; replace hu := hide hu
  go_enter Tryz.func77, Tryz.ntmps77
  go_wp2_with fail
  go_loopw [11] (fun k wr => ∃ j : Nat, j ≤ bs.length ∧ k = .int .i64 j ∧ Hid (∀ (i : Nat) y, i < j → es[i]? = some y → ¬ IdCirc l y.id) ∧ Hid (Ext w wr)) (fun k _ => bs.length - (intOf k).toNat)
  case atStart => exact ⟨0, Nat.zero_le _, rfl, fun _ _ h => absurd h (by omega), Ext.refl _⟩
  case round =>
    obtain ⟨j, hj, rfl, hno, hx⟩ := hrel
    have hel := hide ho.out.1
    by_cases hlt : j < bs.length
    · obtain ⟨b, hbj⟩ := some_of_lt hlt
      obtain ⟨x, hxj⟩ := some_of_lt (l := es) (k := j) (by have := hel.out; omega)
      rcases hv.out.2 with ⟨_, h0⟩ | ⟨g, cap', cur, hpv, _, hg, _, _, _, htk⟩
      · omega
      cases hpv
      have k0 : wr.cell? ⟨g, j, none⟩ = some (.pointer (some ⟨b, 0, none⟩)) := by
        have h1 : (bs.flatMap cPt)[j * 1 + 0]? = (cPt b)[0]? := flat_get (f := cPt) (n := 1) (fun _ => rfl) hbj (by omega)
        simp only [Nat.mul_one, Nat.add_zero] at h1
        have h2 : (cPt b)[0]? = some (.pointer (some ⟨b, 0, none⟩)) := rfl
        rw [← h2, ← h1, ← htk, List.getElem?_take, if_pos (by omega)]
        have := ext_heap (hE.out.trans hx.out) hg
        simp [World.cell?, this]
      have j2 : (j : Int) < (bs.length : Int) := by omega
      have j4 : (0 : Int) ≤ (j : Int) := by omega
      have hEx := hide ((ho.out.2 j b x hbj hxj).now)
      replace hxj := hide hxj; replace hbj := hide hbj; replace hg := hide hg; replace htk := hide htk
      go_wp2_with fail
      refine (checkCircles1 (hEx.out.ext (hE.out.trans hx.out)) (hu.out.ext (hE.out.trans hx.out)) hU (hx.out.cells hp.out)).mono ?_
      rintro e1 w1 ⟨b1, rfl, hb1, he1⟩
      have hx1 := hide (hx.out.trans he1.out)
      cases b1
      · have hnc : ¬ IdCirc l x.id := fun hn => by have := hb1.out.2 hn; cases this
        go_wp2_with fail
        go_roundw
        case rel =>
          refine ⟨j + 1, by omega, by go_num, fun i y hi hy => ?_, hx1.out⟩
          by_cases hij : i = j
          · subst hij
            obtain rfl : x = y := by simpa [hxj.out] using hy
            exact hnc
          · exact hno.out i y (by omega) hy
        case measure => simp [intOf]; omega
      · have hc : IdCirc l x.id := hb1.out.1 rfl
        have hF : circF l es = (10, x.place) := by
          rw [circF_skip hno.out, List.drop_eq_getElem_cons (by have := hel.out; omega)]
          obtain ⟨_, he⟩ := List.getElem?_eq_some_iff.1 hxj.out
          rw [he]; unfold circF; rw [if_pos hc]
        go_wp2_with fail
        go_ret2
        exact ⟨hx1, .inr ⟨b, x, hF, hEx, rfl⟩⟩
    · have heq : j = es.length := by have := hel.out; omega
      have hF : circF l es = (0, 0) := by
        rw [circF_skip hno.out, heq, List.drop_length]; rfl
      replace heq := hide heq
      obtain rfl : j = bs.length := by omega
      go_wp2_with fail
      go_ret2
      exact ⟨hx, .inl ⟨hF, rfl⟩⟩

set_option maxRecDepth 100000 in
set_option maxHeartbeats 1600000 in
theorem checkCirclesP {B : Nat} {w : World} {P : Nat} {ts : List Tok} {i : Nat} {bs : List Nat} {es : List EntD} {rf : List (IDd × Nat)} (h : Std B w P ts i bs es rf) {u : Value} {l : List Resd} (hu : RessV w u l) (hU : (allAfter l).length ≤ 1000) :
    Calls Tryz.prog 44 #[.pointer (some ⟨P, 0, none⟩), u] w fun e w' => e = .returned (.agg #[.int .i64 (circF l es).1, .int .i64 (circF l es).2]) ∧ Hid (Ext w w') := by
  obtain ⟨⟨tE, vT, vE, vO, vR, hq⟩, ⟨M, hM, ho⟩, hB, h12, hf⟩ := h
  obtain ⟨pa, cap, rfl⟩ := ownsRow_form hq.order
  obtain ⟨ua, ucap, rfl, -, -, -⟩ := hu.shape
  have hbl : Hid (bs.length ≤ 1000000) := by have := ho.1; show _ ≤ _; omega
  have X2 := ((Ext.refl w).alloc (.cells #[.slice ua l.length ucap] 36)).alloc (.cells #[.int .i64 0, .int .i64 0] 88)
  have O2 := two_hi w (.cells #[.slice ua l.length ucap] 36) (.cells #[.int .i64 0, .int .i64 0] 88)
  have B2 := ext_heap ((Ext.refl _).alloc (.cells #[.int .i64 0, .int .i64 0] 88)) (heap_alloc_new w (.cells #[.slice ua l.length ucap] 36))
  have b0 := cell_of B2 0
  simp only [List.getElem?_toArray, List.getElem?_cons_zero] at b0
  have p3 := (five_cells (hq.ext X2).box).2.2.2.1
  have hfr := hide (findE ho X2 hU hu hbl.out hq.order w.heap.size b0)
  replace hq := hide hq; replace ho := hide ho; replace hu := hide hu; replace X2 := hide X2; replace O2 := hide O2; replace B2 := hide B2
  go_enter Tryz.func44, Tryz.ntmps44
  go_wp2_with fail
  refine hfr.out.mono ?_
  rintro e1 w1 ⟨he1, ⟨hF, rfl⟩ | ⟨b, x, hF, hEx, rfl⟩⟩
  · have O1 := ext_heap he1.out O2.out
    have X1 : Hid (Ext w w1) := X2.out.trans he1.out
    have o0 := two_c0 O1; have o1 := two_c1 O1; have fO := row_frozen O1
    replace O1 := hide O1; replace hF := hide hF
    go_wp2_with fail
    refine bodyPost_ret (v := .agg #[.int .i64 0, .int .i64 0]) (by simp [results, Tryz.results44, go_sem, o0, o1]) rfl ?_
    rw [hF.out]
    exact ⟨rfl, (X1.out.setCell (p := ⟨w.heap.size + 1, 0, none⟩) (Nat.le_succ _) _).setCell (p := ⟨w.heap.size + 1, 1, none⟩) (Nat.le_succ _) _⟩
  · have O1 := ext_heap he1.out O2.out
    have X1 : Hid (Ext w w1) := X2.out.trans he1.out
    have o0 := two_c0 O1; have o1 := two_c1 O1; have fO := row_frozen O1
    obtain ⟨tA, tI, vA, vI, hE⟩ := hEx.out.ext X1.out
    have e2 := (six_cells hE.box).2.2.1
    replace O1 := hide O1; replace hF := hide hF; replace hE := hide hE
    go_wp2_with fail
    refine bodyPost_ret (v := .agg #[.int .i64 10, .int .i64 x.place]) (by simp [results, Tryz.results44, go_sem, o0, o1]) rfl ?_
    rw [hF.out]
    exact ⟨rfl, (X1.out.setCell (p := ⟨w.heap.size + 1, 0, none⟩) (Nat.le_succ _) _).setCell (p := ⟨w.heap.size + 1, 1, none⟩) (Nat.le_succ _) _⟩
end Go.Proofs.YtfmcgdglalljgaaGreatDoor

namespace Go.Proofs.YtfmcgdglalljgaaGreatDoor
open Go.RowKit

def TokOk (t : Tok) : Prop := t.text.size ≤ 20 ∧ -1000000000 ≤ t.value ∧ t.value ≤ 1000000000
theorem baOf_size (l : List UInt8) : (baOf l).size = l.length := by simp [baOf, ByteArray.size]
theorem tok_ok {l : List UInt8} {a : Nat} {c : UInt8} {t : Tok} {b : Nat} (h : tokL l a c = .inl (t, b)) : TokOk t := by
  unfold tokL at h
  split at h
  · split at h
    · rename_i h1
      simp only [Sum.inl.injEq, Prod.mk.injEq] at h
      obtain ⟨rfl, -⟩ := h
      refine ⟨?_, (by decide : (-1000000000 : Int) ≤ 0), (by decide : (0 : Int) ≤ 1000000000)⟩
      show (baOf _).size ≤ 20
      rw [baOf_size, List.length_take]; omega
    · cases h
  · split at h
    · generalize (if c = 45 then a + 1 else a) = k at h
      split at h
      · rename_i hok
        simp only [Sum.inl.injEq, Prod.mk.injEq] at h
        obtain ⟨rfl, -⟩ := h
        simp only [digitsOk, Bool.and_eq_true, decide_eq_true_eq] at hok
        have := hok.2
        refine ⟨(by decide : (⟨#[]⟩ : ByteArray).size ≤ 20), ?_, ?_⟩ <;> dsimp only <;> split <;> omega
      · cases h
    · split at h
      · split at h
        · cases h
        · split at h
          · rename_i h1
            simp only [Sum.inl.injEq, Prod.mk.injEq] at h
            obtain ⟨rfl, -⟩ := h
            refine ⟨?_, (by decide : (-1000000000 : Int) ≤ 0), (by decide : (0 : Int) ≤ 1000000000)⟩
            show (baOf _).size ≤ 20
            rw [baOf_size]; exact h1
          · cases h
      · split at h
        · cases h
        · simp only [Sum.inl.injEq, Prod.mk.injEq] at h
          obtain ⟨rfl, -⟩ := h
          exact ⟨by show (⟨#[]⟩ : ByteArray).size ≤ 20; decide, by show (-1000000000 : Int) ≤ 0; decide, by show (0 : Int) ≤ 1000000000; decide⟩
theorem TsEnd.cons {ts : List Tok} (h : TsEnd ts) {t : Tok} (ht : t.kind ≠ 11) : TsEnd (t :: ts) := by
  refine ⟨by simp, fun i x hx => ?_⟩
  cases i with
  | zero =>
    simp at hx
    subst hx
    have := h.some_
    simp only [List.length_cons]
    exact ⟨fun h => absurd h ht, fun h => by omega⟩
  | succ i =>
    have := h.end_ i x (by simpa using hx)
    rw [this]
    simp
theorem cutF_is (l : List UInt8) : ∀ (f a : Nat), a ≤ l.length → l.length + 1 ≤ f + a → (cutF l f a).2.1 = 0 → TsEnd (cutF l f a).1 ∧ (∀ t ∈ (cutF l f a).1, TokOk t) ∧ (cutF l f a).1.length ≤ l.length + 1 - a
  | 0, a, h1, h2, _ => by omega
  | f + 1, a, h1, h2, h0 => by
    have hsk := skip_le h1
    simp only [cutF] at h0 ⊢
    cases hc : l[skipL l a]? with
    | none =>
      dsimp only
      refine ⟨⟨by simp, fun i x hx => ?_⟩, ?_, by simp; omega⟩
      · cases i with
        | zero => simp at hx; subst hx; simp [endTok]
        | succ i => simp at hx
      · intro t ht
        simp at ht; subst ht
        exact ⟨by show (⟨#[]⟩ : ByteArray).size ≤ 20; decide, by show (-1000000000 : Int) ≤ 0; decide, by show (0 : Int) ≤ 1000000000; decide⟩
    | some c =>
      rw [hc] at h0
      dsimp only at h0 ⊢
      cases ht : tokL l (skipL l a) c with
      | inr e =>
        rw [ht] at h0
        exact absurd h0 (tok_bad ht)
      | inl r =>
        obtain ⟨t, b⟩ := r
        rw [ht] at h0
        dsimp only at h0 ⊢
        obtain ⟨_, g1, g2, g3, g4⟩ := tok_at hc ht
        by_cases hz : (cutF l f b).2.1 = 0
        · rw [if_pos hz]
          dsimp only
          obtain ⟨i1, i2, i3⟩ := cutF_is l f b (by omega) (by omega) hz
          refine ⟨i1.cons (by omega), fun x hx => ?_, by simp; omega⟩
          rcases List.mem_cons.1 hx with rfl | hx
          · exact tok_ok ht
          · exact i2 x hx
        · rw [if_neg hz] at h0
          exact absurd h0 hz
def EntOk (e : EntD) : Prop := shI e.id ∧ (∀ r ∈ e.attrs, okN r.val) ∧ (∀ a ∈ e.after, shI a) ∧ e.attrs.length ≤ 6 ∧ e.after.length ≤ 6
theorem EntOk.okS {e : EntD} (h : EntOk e) : okS (resOf e) := by
  obtain ⟨h1, h2, h3, h4, h5⟩ := h
  refine ⟨h1, ?_, h3, by simp [resOf]; omega, by simp [resOf]; omega⟩
  intro a ha
  simp only [resOf, List.mem_map] at ha
  obtain ⟨r, hr, rfl⟩ := ha
  exact h2 r hr
theorem insI_mem {ks : List IDd} {x y : IDd} : y ∈ insI ks x ↔ y = x ∨ y ∈ ks := by
  unfold insI
  conv => rhs; rw [← List.takeWhile_append_dropWhile (p := fun r : IDd => decide (cmpI r x < 0)) (l := ks)]
  simp only [List.mem_append, List.mem_cons]
  constructor
  · rintro (h | h | h)
    · exact .inr (.inl h)
    · exact .inl h
    · exact .inr (.inr h)
  · rintro (h | h | h)
    · exact .inr (.inl h)
    · exact .inl h
    · exact .inr (.inr h)
theorem insI_len {ks : List IDd} {x : IDd} : (insI ks x).length = ks.length + 1 := by
  unfold insI
  have := congrArg List.length (List.takeWhile_append_dropWhile (p := fun r : IDd => decide (cmpI r x < 0)) (l := ks))
  simp only [List.length_append, List.length_cons] at this ⊢
  omega
theorem insA_mem {ks : List RowA} {x y : RowA} : y ∈ insA ks x ↔ y = x ∨ y ∈ ks := by
  unfold insA
  conv => rhs; rw [← List.takeWhile_append_dropWhile (p := fun r : RowA => decide (cmpS r.key x.key < 0)) (l := ks)]
  simp only [List.mem_append, List.mem_cons]
  constructor
  · rintro (h | h | h)
    · exact .inr (.inl h)
    · exact .inl h
    · exact .inr (.inr h)
  · rintro (h | h | h)
    · exact .inr (.inl h)
    · exact .inl h
    · exact .inr (.inr h)
theorem insA_len {ks : List RowA} {x : RowA} : (insA ks x).length = ks.length + 1 := by
  unfold insA
  have := congrArg List.length (List.takeWhile_append_dropWhile (p := fun r : RowA => decide (cmpS r.key x.key < 0)) (l := ks))
  simp only [List.length_append, List.length_cons] at this ⊢
  omega
theorem take_tok {ts : List Tok} (hok : ∀ t ∈ ts, TokOk t) {i k j : Nat} {t : Tok} (h : takeS ts i k = .ok (t, j)) : TokOk t := hok t (List.mem_of_getElem? (take_is h).2.1)
theorem refS_ok {ts : List Tok} (hok : ∀ t ∈ ts, TokOk t) {i : Nat} {e : EntD} {rf : List (IDd × Nat)} {i' : Nat} {e' : EntD} {rf' : List (IDd × Nat)} (he : EntOk e) (h : refS ts i e rf = .ok (i', e', rf')) : EntOk e' := by
  unfold refS at h
  split at h
  · cases h
  · rename_i k _ h1
    split at h
    · cases h
    · split at h
      · cases h
      · rename_i n _ h3
        split at h
        · cases h
        · split at h
          · cases h
          · cases h
            have g1 := take_tok hok h1
            have g3 := take_tok hok h3
            obtain ⟨a1, a2, a3, a4, a5⟩ := he
            refine ⟨a1, a2, fun a ha => ?_, a4, by rw [insI_len]; omega⟩
            rcases insI_mem.1 ha with rfl | ha
            · exact ⟨by have := g1.1; show k.text.size ≤ 255; omega, by have := g3.1; show n.text.size ≤ 255; omega⟩
            · exact a3 a ha
theorem refsS_ok {ts : List Tok} (hok : ∀ t ∈ ts, TokOk t) : ∀ (f : Nat) {i : Nat} {e : EntD} {rf : List (IDd × Nat)} {i' : Nat} {e' : EntD} {rf' : List (IDd × Nat)}, EntOk e → refsS ts f i e rf = .ok (i', e', rf') → EntOk e'
  | 0, i, e, rf, i', e', rf', _, h => by cases h
  | f + 1, i, e, rf, i', e', rf', he, h => by
    unfold refsS at h
    split at h
    · cases h
    · rename_i i1 e1 rf1 h1
      have h2 := refS_ok hok he h1
      split at h
      · exact refsS_ok hok f h2 h
      · cases h; exact h2
theorem listS_ok {ts : List Tok} (hok : ∀ t ∈ ts, TokOk t) {i : Nat} {e : EntD} {rf : List (IDd × Nat)} {i' : Nat} {e' : EntD} {rf' : List (IDd × Nat)} (he : EntOk e) (h : listS ts i e rf = .ok (i', e', rf')) : EntOk e' := by
  unfold listS at h
  split at h
  · cases h
  · split at h
    · cases h
    · rename_i i2 e2 rf2 h2
      have g2 : EntOk e2 := by
        split at h2
        · cases h2; exact he
        · exact refsS_ok hok _ he h2
      split at h
      · cases h
      · cases h; exact g2
theorem valS_ok {ts : List Tok} (hok : ∀ t ∈ ts, TokOk t) {i : Nat} {e : EntD} {name : ByteArray} {rf : List (IDd × Nat)} {i' : Nat} {e' : EntD} {rf' : List (IDd × Nat)} (he : EntOk e) (hn : name.size ≤ 20) (h6 : e.attrs.length ≠ 6) (h : valS ts i e name rf = .ok (i', e', rf')) : EntOk e' := by
  unfold valS valueS at h
  split at h
  · cases h
  · rename_i i1 e1 h1
    cases h
    split at h1
    · cases h1
    · rename_i t _ h2
      have g := take_tok hok h2
      cases h1
      obtain ⟨a1, a2, a3, a4, a5⟩ := he
      refine ⟨a1, fun r hr => ?_, a3, by rw [insA_len]; omega, a5⟩
      rcases insA_mem.1 hr with rfl | hr
      · exact ⟨⟨by show name.size ≤ 255; omega, by have := g.1; show t.text.size ≤ 255; omega⟩, by have := g.2.1; show (-2147483648 : Int) ≤ t.value; omega, by have := g.2.2; show t.value < 2147483648; omega⟩
      · exact a2 r hr
theorem lineS_ok {ts : List Tok} (hok : ∀ t ∈ ts, TokOk t) {i : Nat} {e : EntD} {rf : List (IDd × Nat)} {i' : Nat} {e' : EntD} {rf' : List (IDd × Nat)} (he : EntOk e) (h : lineS ts i e rf = .ok (i', e', rf')) : EntOk e' := by
  unfold lineS at h
  split at h
  · cases h
  · rename_i n i1 h1
    have g1 := take_tok hok h1
    split at h
    · cases h
    · rename_i hz
      have hz' := nameS_ok (Classical.byContradiction hz)
      split at h
      · cases h
      · rename_i _ i2 h2
        split at h
        · exact listS_ok hok (e := { e with hasAfter := true }) he h
        · rename_i ha
          exact valS_ok hok (rf := rf) (name := n.text) (i := i2) (e := e) (i' := i') (e' := e') (rf' := rf') he g1.1 (hz'.2 ha) h
theorem linesS_ok {ts : List Tok} (hok : ∀ t ∈ ts, TokOk t) : ∀ (f : Nat) {i : Nat} {e : EntD} {rf : List (IDd × Nat)} {i' : Nat} {e' : EntD} {rf' : List (IDd × Nat)}, EntOk e → linesS ts f i e rf = .ok (i', e', rf') → EntOk e'
  | 0, i, e, rf, i', e', rf', _, h => by cases h
  | f + 1, i, e, rf, i', e', rf', he, h => by
    unfold linesS at h
    split at h
    · cases h; exact he
    · split at h
      · cases h
      · rename_i i1 e1 rf1 h1
        exact linesS_ok hok f (lineS_ok hok he h1) h
theorem headS_ok {ts : List Tok} (hok : ∀ t ∈ ts, TokOk t) {i : Nat} {es : List EntD} {i' : Nat} {e' : EntD} (h : headS ts i es = .ok (i', e')) : EntOk e' := by
  unfold headS at h
  split at h
  · cases h
  · split at h
    · cases h
    · split at h
      · cases h
      · split at h
        · cases h
        · rename_i k _ h2
          split at h
          · cases h
          · rename_i n _ h3
            have g2 := take_tok hok h2
            have g3 := take_tok hok h3
            split at h
            · cases h
            · cases h
              exact ⟨⟨by have := g2.1; show k.text.size ≤ 255; omega, by have := g3.1; show n.text.size ≤ 255; omega⟩, fun r hr => (by cases hr), fun a ha => (by cases ha), by simp, by simp⟩
theorem resS_ok {ts : List Tok} (hok : ∀ t ∈ ts, TokOk t) {i : Nat} {es : List EntD} {rf : List (IDd × Nat)} {i' : Nat} {es' : List EntD} {rf' : List (IDd × Nat)} (he : ∀ e ∈ es, EntOk e) (h : resS ts i es rf = .ok (i', es', rf')) : ∀ e ∈ es', EntOk e := by
  unfold resS at h
  split at h
  · cases h
  · rename_i i1 e1 h1
    split at h
    · cases h
    · split at h
      · cases h
      · rename_i i3 e3 rf3 h3
        split at h
        · cases h
        · cases h
          intro e hm
          rcases List.mem_append.1 hm with hm | hm
          · exact he e hm
          · obtain rfl : e = e3 := by simpa using hm
            exact linesS_ok hok _ (headS_ok hok h1) h3
theorem textS_ok {ts : List Tok} (hok : ∀ t ∈ ts, TokOk t) : ∀ (f : Nat) {i : Nat} {es : List EntD} {rf : List (IDd × Nat)} {es' : List EntD} {rf' : List (IDd × Nat)}, (∀ e ∈ es, EntOk e) → textS ts f i es rf = .ok (es', rf') → ∀ e ∈ es', EntOk e
  | 0, i, es, rf, es', rf', _, h => by cases h
  | f + 1, i, es, rf, es', rf', he, h => by
    unfold textS at h
    split at h
    · cases h; exact he
    · split at h
      · cases h
      · rename_i i1 es1 rf1 h1
        exact textS_ok hok f (resS_ok hok he h1) h
end Go.Proofs.YtfmcgdglalljgaaGreatDoor
