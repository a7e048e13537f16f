/-
  The parser is made; what is looked for among what it has read.
-/
import Derived.Test.YtfnbbohbicffpaaGreatDoorRsrP
import Derived.Test.YtfnbbohbicffpaaGreatDoorJ22
namespace Go.Proofs.YtfnbbohbicffpaaGreatDoor
open Go.RowKit

set_option maxRecDepth 100000 in
set_option maxHeartbeats 1600000 in
theorem newParserP {B : Nat} {w : World} {vT : Value} {ts : List Tok} (h : w.ownsRow B 71 4 vT ts.length (cellsT ts)) (hB : B ≤ w.heap.size) :
    Calls Tryz.prog 16 #[vT] w fun e w' => ∃ P, e = .returned (.pointer (some ⟨P, 0, none⟩)) ∧ Hid (Std B w' P ts 0 [] [] []) ∧ Hid (Ext w w') := by
  obtain ⟨pa, cap, rfl⟩ := ownsRow_form h
  replace h := hide h
  go_enter Tryz.func16, Tryz.ntmps16
  go_wp2_with fail
  refine (tabNewE w).mono ?_
  rintro e1 w1 ⟨rfl, hT1, hw1⟩
  have X1 : Ext w w1 := by rw [hw1.out]; exact (Ext.refl w).alloc _
  have hN := heap_alloc_new w1 (.cells #[.slice pa ts.length cap, .int .i64 0, .pointer (some ⟨w.heap.size, 0, none⟩), .slice none 0 0, .slice none 0 0] 81)
  have X2 := (Ext.refl w1).alloc (.cells #[.slice pa ts.length cap, .int .i64 0, .pointer (some ⟨w.heap.size, 0, none⟩), .slice none 0 0, .slice none 0 0] 81)
  replace X1 := hide X1; replace X2 := hide X2; replace hN := hide hN
  go_wp2_with fail
  go_ret
  refine ⟨w1.heap.size, rfl, ⟨⟨w.heap.size, .slice pa ts.length cap, .slice none 0 0, .slice none 0 0, .slice none 0 0, ?_⟩, ⟨0, Nat.zero_le _, rfl, fun i b e hb => by cases hb⟩, Nat.le_trans hB (Nat.le_trans (Ext.size X1.out) (Ext.size X2.out)), Nat.zero_le _, Nat.zero_le _⟩, X1.out.trans X2.out⟩
  exact ⟨Nat.le_trans hB (Ext.size X1.out), hN.out, ownsRow_wr (D := fun _ _ => False) h.out (Wr.ext (X1.out.trans X2.out)) (fun _ _ _ => id), (hT1.out.ext X2.out).low hB, World.ownsRow_nil _ _ _ _, World.ownsRow_nil _ _ _ _⟩

open Classical in
/-- The first ref that is no resource of the text. -/
noncomputable def refsF (es : List EntD) : List (IDd × Nat) → Flt
  | [] => (0, 0)
  | r :: l => if r.1 ∈ es.map EntD.id then refsF es l else (9, r.2)
set_option maxRecDepth 100000 in
set_option maxHeartbeats 1600000 in
theorem checkRefs1 {B : Nat} {w : World} {P : Nat} {ts : List Tok} {i : Nat} {bs : List Nat} {es : List EntD} {rf : List (IDd × Nat)} (h : Std B w P ts i bs es rf) (r : IDd × Nat) (p : Nat) (hp : w.cell? ⟨p, 0, none⟩ = some (.pointer (some ⟨P, 0, none⟩))) :
    Calls Tryz.prog 36 #[.agg #[.string r.1.kind, .string r.1.name, .int .i64 r.2], .pointer (some ⟨p, 0, none⟩)] w fun e w' => ∃ b : Bool, e = .returned (.bool b) ∧ Hid (b = true ↔ r.1 ∉ es.map EntD.id) ∧ Hid (Ext w w') := by
  obtain ⟨⟨tE, vT, vE, vO, vR, hq⟩, ⟨M, hM, ho⟩, hB, h12, hf⟩ := h
  have X0 := (Ext.refl w).alloc (.cells #[.string r.1.kind, .string r.1.name, .int .i64 r.2] 84)
  have p0 := X0.cells hp
  have p2 := (five_cells (hq.ext X0).box).2.2.1
  have hT := hide ((hq.ents.ext X0).ext (Ext.refl _).drew)
  have hk := hide (rsOf_has (es := es) (bs := bs) ho.1)
  replace hq := hide hq; replace X0 := hide X0
  go_enter Tryz.func36, Tryz.ntmps36
  go_wp2_with fail
  have I0 := heap_alloc_new w (.cells #[.string r.1.kind, .string r.1.name, .int .i64 r.2] 84)
  have i0 := cell_of I0 0; have i1 := cell_of I0 1
  simp only [List.getElem?_toArray, List.getElem?_cons_zero, List.getElem?_cons_succ] at i0 i1
  replace I0 := hide I0
  generalize w.alloc (.cells #[.string r.1.kind, .string r.1.name, .int .i64 r.2] 84) = w1 at *
  go_region_held3 (fun w' => w'.cell? ⟨p, 0, none⟩ = some (.pointer (some ⟨P, 0, none⟩)) ∧ w'.cell? ⟨P, 2, none⟩ = some (.pointer (some ⟨tE, 0, none⟩)) ∧ w'.cell? ⟨w.heap.size, 0, none⟩ = some (.string r.1.kind) ∧ w'.cell? ⟨w.heap.size, 1, none⟩ = some (.string r.1.name)) (go_keep) ((go_at_call 37; refine (tabHasE B vE (rsOf es bs) r.1 tE _ hT.out).mono ?_; rintro e2 w2 ⟨b, rfl, hb, he2⟩; go_must (have z0 := he2.out.cells (p := ⟨p, 0, none⟩) p0; have z1 := he2.out.cells (p := ⟨P, 2, none⟩) p2; have z2 := he2.out.cells (p := ⟨w.heap.size, 0, none⟩) i0; have z3 := he2.out.cells (p := ⟨w.heap.size, 1, none⟩) i1)))
  go_wp2_with fail
  go_ret
  refine ⟨!b, rfl, ?_, X0.out.trans ((Ext.refl w1).drew.trans he2.out)⟩
  show _ ↔ _
  rw [← hk.out r.1, ← hb.out]
  cases b <;> simp

theorem refsF_skip {es : List EntD} : ∀ {l : List (IDd × Nat)} {j : Nat}, (∀ (i : Nat) y, i < j → l[i]? = some y → y.1 ∈ es.map EntD.id) → refsF es l = refsF es (l.drop j)
  | [], j, _ => by simp
  | r :: l, 0, _ => rfl
  | r :: l, j + 1, h => by
    have h0 := h 0 r (by omega) rfl
    have := refsF_skip (es := es) (l := l) (j := j) fun i y hi hy => h (i + 1) y (by omega) (by simpa using hy)
    rw [List.drop_succ_cons, ← this]
    conv => lhs; unfold refsF
    rw [if_pos h0]
/-- What the looking for a ref answers. -/
def FindRIs (w : World) (f : Flt) (e : Ending) (w' : World) : Prop :=
  Hid (Ext w w') ∧ ∃ k n pl, (e = .returned (.tuple #[.agg #[.string k, .string n, .int .i64 pl], .bool (f.1 != 0)])) ∧ Hid (f.1 ≠ 0 → pl = (f.2 : Int))
set_option maxRecDepth 100000 in
set_option maxHeartbeats 1600000 in
theorem findR {B : Nat} {w0 w : World} {P : Nat} {ts : List Tok} {i : Nat} {bs : List Nat} {es : List EntD} {rf : List (IDd × Nat)} (h : Std B w0 P ts i bs es rf) (hE : Ext w0 w) (hrf : rf.length ≤ 1000000) (v : Value) (hv : w0.ownsRow B 84 3 v rf.length (rf.flatMap cRf)) (p : Nat) (hp : w.cell? ⟨p, 0, none⟩ = some (.pointer (some ⟨P, 0, none⟩))) :
    Calls Tryz.prog 35 #[v, .func (.func 36) #[] #[.pointer (some ⟨p, 0, none⟩)]] w (FindRIs w (refsF es rf)) := by
  obtain ⟨pa, cap, rfl⟩ := ownsRow_form hv
  replace h := hide h; replace hE := hide hE; replace hp := hide hp; replace hv := hide hv
  go_enter Tryz.func35, Tryz.ntmps35
  go_wp2_with fail
  generalize hwx : w.alloc (.cells #[.string ⟨#[]⟩, .string ⟨#[]⟩, .int .i64 0] 84) = wx
  have Xx : Hid (Ext w wx) := by subst hwx; exact (Ext.refl w).alloc _
  have Ox : Hid (wx.heap[w.heap.size]? = some (.cells #[.string ⟨#[]⟩, .string ⟨#[]⟩, .int .i64 0] 84)) := by subst hwx; exact heap_alloc_new w _
  replace hwx := hide hwx
  go_loopw [11] (fun k wr => ∃ j : Nat, j ≤ rf.length ∧ k = .int .i64 j ∧ Hid (∀ (i : Nat) y, i < j → rf[i]? = some y → y.1 ∈ es.map EntD.id) ∧ Hid (Ext wx wr)) (fun k _ => rf.length - (intOf k).toNat)
  case atStart => exact ⟨0, Nat.zero_le _, rfl, fun _ _ h => absurd h (by omega), Ext.refl _⟩
  case round =>
    obtain ⟨j, hj, rfl, hno, hx⟩ := hrel
    have X0 := hide (Xx.out.trans hx.out)
    have hO := ext_heap hx.out Ox.out
    by_cases hlt : j < rf.length
    · obtain ⟨x, hxj⟩ := some_of_lt hlt
      rcases hv.out.2 with ⟨_, h0⟩ | ⟨g, cap', cur, hpv, _, hg, _, _, _, htk⟩
      · omega
      cases hpv
      have key : ∀ r, r < 3 → wr.cell? ⟨g, j * 3 + r, none⟩ = (cRf x)[r]? := by
        intro r hr
        have h1 : (rf.flatMap cRf)[j * 3 + r]? = (cRf x)[r]? := flat_get (f := cRf) (n := 3) (fun _ => rfl) hxj hr
        rw [← h1, ← htk, List.getElem?_take, if_pos (by omega)]
        have := ext_heap (hE.out.trans X0.out) hg
        simp [World.cell?, this]
      have k0 : wr.cell? ⟨g, j * 3, none⟩ = some (.string x.1.kind) := key 0 (by omega)
      have k1 : wr.cell? ⟨g, j * 3 + 1, none⟩ = some (.string x.1.name) := key 1 (by omega)
      have k2 : wr.cell? ⟨g, j * 3 + 2, none⟩ = some (.int .i64 x.2) := key 2 (by omega)
      clear key
      have j2 : (j : Int) < (rf.length : Int) := by omega
      have j4 : (0 : Int) ≤ (j : Int) := by omega
      replace hxj := hide hxj; replace hg := hide hg; replace htk := hide htk; replace hO := hide hO
      have XA := hide ((Ext.refl wr).alloc (.cells #[.string x.1.kind, .string x.1.name, .int .i64 x.2] 84))
      go_wp2_with fail
      refine (checkRefs1 (h.out.ext ((hE.out.trans X0.out).trans XA.out)) x p ((X0.out.trans XA.out).cells hp.out)).mono ?_
      rintro e1 w1 ⟨b, rfl, hb, he1⟩
      have hx1 := hide ((hx.out.trans XA.out).trans he1.out)
      have N1 := ext_heap he1.out (heap_alloc_new wr (.cells #[.string x.1.kind, .string x.1.name, .int .i64 x.2] 84))
      cases b
      · have hin : x.1 ∈ es.map EntD.id := Classical.byContradiction fun hn => by have := hb.out.2 hn; cases this
        replace N1 := hide N1
        go_wp2_with fail
        go_roundw
        case rel =>
          refine ⟨j + 1, by omega, by go_num, fun i y hi hy => ?_, hx1.out⟩
          by_cases hij : i = j
          · subst hij
            obtain rfl : x = y := by simpa [hxj.out] using hy
            exact hin
          · exact hno.out i y (by omega) hy
        case measure => simp [intOf]; omega
      · have hnin : x.1 ∉ es.map EntD.id := hb.out.1 rfl
        have hF : refsF es rf = (9, x.2) := by
          rw [refsF_skip hno.out, List.drop_eq_getElem_cons hlt]
          obtain ⟨_, he⟩ := List.getElem?_eq_some_iff.1 hxj.out
          rw [he]; unfold refsF; rw [if_neg hnin]
        have hO1 := ext_heap hx1.out Ox.out
        have n0 := cell_of N1 0; have n1 := cell_of N1 1; have n2 := cell_of N1 2
        have o0 := cell_of hO1 0; have o1 := cell_of hO1 1; have o2 := cell_of hO1 2
        simp only [List.getElem?_toArray, List.getElem?_cons_zero, List.getElem?_cons_succ] at n0 n1 n2 o0 o1 o2
        have fO := row_frozen hO1
        replace N1 := hide N1; replace hO1 := hide hO1
        go_wp2_with fail
        refine bodyPost_ret (v := .tuple #[.agg #[.string x.1.kind, .string x.1.name, .int .i64 x.2], .bool true]) (by simp [results, Tryz.results35, go_sem, o0, o1, o2]) rfl ?_
        rw [hF]
        refine ⟨((((Xx.out.trans hx1.out).setCell (p := ⟨w.heap.size, 0, none⟩) (Nat.le_refl _) _).setCell (p := ⟨w.heap.size, 1, none⟩) (Nat.le_refl _) _).setCell (p := ⟨w.heap.size, 2, none⟩) (Nat.le_refl _) _), x.1.kind, x.1.name, x.2, rfl, fun _ => rfl⟩
    · have heq : j = rf.length := by omega
      have hF : refsF es rf = (0, 0) := by
        rw [refsF_skip hno.out, heq, List.drop_length]; rfl
      have XA := (Ext.refl wr).alloc (.cells #[.string ⟨#[]⟩, .string ⟨#[]⟩, .int .i64 0] 84)
      have hO1 := ext_heap XA hO
      have o0 := cell_of hO1 0; have o1 := cell_of hO1 1; have o2 := cell_of hO1 2
      simp only [List.getElem?_toArray, List.getElem?_cons_zero, List.getElem?_cons_succ] at o0 o1 o2
      have fO := row_frozen hO1
      subst heq
      replace hO := hide hO; replace hO1 := hide hO1; replace XA := hide XA
      go_wp2_with fail
      refine bodyPost_ret (v := .tuple #[.agg #[.string ⟨#[]⟩, .string ⟨#[]⟩, .int .i64 0], .bool false]) (by simp [results, Tryz.results35, go_sem, o0, o1, o2]) rfl ?_
      rw [hF]
      exact ⟨((((X0.out.trans XA.out).setCell (p := ⟨w.heap.size, 0, none⟩) (Nat.le_refl _) _).setCell (p := ⟨w.heap.size, 1, none⟩) (Nat.le_refl _) _).setCell (p := ⟨w.heap.size, 2, none⟩) (Nat.le_refl _) _), ⟨#[]⟩, ⟨#[]⟩, 0, rfl, fun h => absurd rfl h⟩

set_option maxRecDepth 100000 in
set_option maxHeartbeats 1600000 in
theorem checkRefsP {B : Nat} {w : World} {P : Nat} {ts : List Tok} {i : Nat} {bs : List Nat} {es : List EntD} {rf : List (IDd × Nat)} (h : Std B w P ts i bs es rf) (hrf : rf.length ≤ 1000000) :
    Calls Tryz.prog 18 #[.pointer (some ⟨P, 0, none⟩)] w fun e w' => e = .returned (.agg #[.int .i64 (refsF es rf).1, .int .i64 (refsF es rf).2]) ∧ Hid (Ext w w') := by
  obtain ⟨tE, vT, vE, vO, vR, hq⟩ := h.par
  obtain ⟨pa, cap, rfl⟩ := ownsRow_form hq.refs
  have hcase : refsF es rf = (0, 0) ∨ ∃ q, refsF es rf = (9, q) := by
    clear hq h hrf
    induction rf with
    | nil => exact .inl rfl
    | cons r l ih =>
      unfold refsF
      split
      · exact ih
      · exact .inr ⟨_, rfl⟩
  replace hq := hide hq; replace h := hide h
  have X2 := ((Ext.refl w).alloc (.cells #[.pointer (some ⟨P, 0, none⟩)] 50)).alloc (.cells #[.int .i64 0, .int .i64 0] 47)
  have O2 := two_hi w (.cells #[.pointer (some ⟨P, 0, none⟩)] 50) (.cells #[.int .i64 0, .int .i64 0] 47)
  have B2 := ext_heap ((Ext.refl _).alloc (.cells #[.int .i64 0, .int .i64 0] 47)) (heap_alloc_new w (.cells #[.pointer (some ⟨P, 0, none⟩)] 50))
  have b0 := cell_of B2 0
  simp only [List.getElem?_toArray, List.getElem?_cons_zero] at b0
  have p4 := (five_cells (hq.out.ext X2).box).2.2.2.2
  have hfr := hide (findR h.out X2 hrf (.slice pa rf.length cap) hq.out.refs w.heap.size b0)
  replace X2 := hide X2; replace O2 := hide O2; replace B2 := hide B2
  rcases hcase with hF | ⟨q, hF⟩
  · rw [hF] at hfr ⊢
    replace hF := hide hF
    go_enter Tryz.func18, Tryz.ntmps18
    go_wp2_with fail
    refine hfr.out.mono ?_
    rintro e1 w1 ⟨he1, k, n, pl, rfl, hpl⟩
    have O1 := ext_heap (he1.out.trans ((Ext.refl w1).alloc (.cells #[.string k, .string n, .int .i64 pl] 84))) O2.out
    have X1 : Hid (Ext w _) := X2.out.trans (he1.out.trans ((Ext.refl w1).alloc (.cells #[.string k, .string n, .int .i64 pl] 84)))
    have o0 := two_c0 O1; have o1 := two_c1 O1; have fO := row_frozen O1
    replace O1 := hide O1
    have hb : ((0 : Int) != 0) = false := rfl
    go_wp2_with fail
    refine bodyPost_ret (v := .agg #[.int .i64 0, .int .i64 0]) (by simp [results, Tryz.results18, go_sem, o0, o1]) rfl ?_
    exact ⟨rfl, (X1.out.setCell (p := ⟨w.heap.size + 1, 0, none⟩) (Nat.le_succ _) _).setCell (p := ⟨w.heap.size + 1, 1, none⟩) (Nat.le_succ _) _⟩
  · rw [hF] at hfr ⊢
    replace hF := hide hF
    go_enter Tryz.func18, Tryz.ntmps18
    go_wp2_with fail
    refine hfr.out.mono ?_
    rintro e1 w1 ⟨he1, k, n, pl, rfl, hpl⟩
    have O1 := ext_heap (he1.out.trans ((Ext.refl w1).alloc (.cells #[.string k, .string n, .int .i64 pl] 84))) O2.out
    have X1 : Hid (Ext w _) := X2.out.trans (he1.out.trans ((Ext.refl w1).alloc (.cells #[.string k, .string n, .int .i64 pl] 84)))
    have o0 := two_c0 O1; have o1 := two_c1 O1; have fO := row_frozen O1
    replace O1 := hide O1
    obtain rfl := hpl.out (by simp)
    have N1 := ext_heap (Ext.refl _) (heap_alloc_new w1 (.cells #[.string k, .string n, .int .i64 q] 84))
    have n2 := cell_of N1 2
    simp only [List.getElem?_toArray, List.getElem?_cons_zero, List.getElem?_cons_succ] at n2
    replace N1 := hide N1
    have hb : ((9 : Int) != 0) = true := rfl
    go_wp2_with fail
    refine bodyPost_ret (v := .agg #[.int .i64 9, .int .i64 q]) (by simp [results, Tryz.results18, go_sem, o0, o1]) rfl ?_
    exact ⟨rfl, (X1.out.setCell (p := ⟨w.heap.size + 1, 0, none⟩) (Nat.le_succ _) _).setCell (p := ⟨w.heap.size + 1, 1, none⟩) (Nat.le_succ _) _⟩
end Go.Proofs.YtfnbbohbicffpaaGreatDoor
