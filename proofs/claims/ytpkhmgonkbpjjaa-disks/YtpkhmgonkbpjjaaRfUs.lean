/-
  The reference's disk: how much is used; whether an act breaks off; the error of a name.
-/
import Derived.Test.YtpkhmgonkbpjjaaJ10
import Derived.Test.YtpkhmgonkbpjjaaJ4
namespace Go.Proofs.Ytpkhmgonkbpjjaa
open Go.RowKit

attribute [local go_sem] Go.World.cell?_alloc_some
/-- The blocks of the reference's disk. -/
def RFoot (y : Nat) (vF vC : Value) (k : Nat) : Prop := k = y ∨ vF.ownBlock = some k ∨ vC.ownBlock = some k
theorem tellsR {w : World} {a b : Nat} {c c' : Array Value} {t t' : TypeId} {fz fz' : Nat × Nat} (ha : w.heap[a]? = some (.cells c t fz)) (hb : w.heap[b]? = some (.cells c' t' fz')) (h : t ≠ t') : a ≠ b := by
  rintro rfl
  rw [ha] at hb
  simp only [Option.some.injEq, Obj.cells.injEq] at hb
  exact h hb.2.1
theorem rowR_at {w : World} {base : Nat} {e : TypeId} {size : Nat} {v : Value} {n : Nat} {xs : List Value} (h : w.ownsRow base e size v n xs) {g : Nat} (hg : v.ownBlock = some g) : ∃ c fz, w.heap[g]? = some (.cells c e fz) := by
  rcases h.2 with ⟨rfl, _⟩ | ⟨g', cap, cur, rfl, _, h5, _⟩
  · simp [Value.ownBlock] at hg
  · obtain rfl : g' = g := by simpa [Value.ownBlock] using hg
    exact ⟨cur, _, h5⟩
theorem RefIn.kept {E : Nat → Prop} {w w' : World} {y : Nat} {vF vC : Value} {kc sc : Int} {D : DskS} (h : RefIn w y vF vC kc sc D) (k : Kept E w w') (hd : ∀ j, RFoot y vF vC j → ¬ E j) : RefIn w' y vF vC kc sc D :=
  ⟨k.heap h.box (hd _ (.inl rfl)), rows_keptP h.files k (fun g hg => hd g (.inr (.inl hg))), rows_keptP h.chs k (fun g hg => hd g (.inr (.inr hg))), h.ok, h.due, h.brk, h.st⟩
theorem RefIn.lt {w : World} {y : Nat} {vF vC : Value} {kc sc : Int} {D : DskS} (h : RefIn w y vF vC kc sc D) {k : Nat} (hk : RFoot y vF vC k) : k < w.heap.size := by
  have hs : ∀ {c t fz}, w.heap[k]? = some (.cells c t fz) → k < w.heap.size := fun h => (Array.getElem?_eq_some_iff.1 h).1
  rcases hk with rfl | hk | hk
  · exact hs h.box
  · exact (h.files.lt k hk).2
  · exact (h.chs.lt k hk).2
theorem RefIn.yF {w : World} {y : Nat} {vF vC : Value} {kc sc : Int} {D : DskS} (h : RefIn w y vF vC kc sc D) {g : Nat} (hg : vF.ownBlock = some g) : g ≠ y := by
  obtain ⟨c, fz, h1⟩ := rowR_at h.files hg
  exact tellsR h1 h.box (by decide)
theorem RefIn.yC {w : World} {y : Nat} {vF vC : Value} {kc sc : Int} {D : DskS} (h : RefIn w y vF vC kc sc D) {g : Nat} (hg : vC.ownBlock = some g) : g ≠ y := by
  obtain ⟨c, fz, h1⟩ := rowR_at h.chs hg
  exact tellsR h1 h.box (by decide)
theorem RefIn.fC {w : World} {y : Nat} {vF vC : Value} {kc sc : Int} {D : DskS} (h : RefIn w y vF vC kc sc D) {g : Nat} (hg : vF.ownBlock = some g) : vC.ownBlock ≠ some g := fun e => by
  obtain ⟨c, fz, h1⟩ := rowR_at h.files hg
  obtain ⟨c', fz', h2⟩ := rowR_at h.chs e
  exact tellsR h1 h2 (by decide) rfl
/-- Its box alone has turned. -/
theorem RefIn.boxed {w w' : World} {y : Nat} {vF vC : Value} {kc sc kc' sc' : Int} {D : DskS} {last due : Nat} {kp st : Int} (h : RefIn w y vF vC kc sc D) (k : Kept (· = y) w w')
    (hb : w'.heap[y]? = some (.cells #[.int .i64 (D.room : Int), vF, vC, .int .i64 (last : Int), .int .i64 (due : Int), .int .i64 kc', .int .i64 sc'] 58 (0, 0))) (hl : last ≤ D.chs.length) (hd : due ≤ 9223372036854775807) (hbr : due ≠ 0 → kc' = kp ∧ sc' = st) (hst : sc' ≤ 9223372036854775807) : RefIn w' y vF vC kc' sc' { D with last := last, due := due, keep := kp, stay := st } :=
  ⟨hb, rows_keptP h.files k (fun _ hg => h.yF hg), rows_keptP h.chs k (fun _ hg => h.yC hg), ⟨h.ok.room0, h.ok.room1, hl, h.ok.chs, h.ok.files⟩, hd, hbr, hst⟩
theorem set_row {w : World} {k : Nat} {cs : Array Value} {t : TypeId} {fz : Nat × Nat} (hk : w.heap[k]? = some (.cells cs t fz)) (j : Nat) (v : Value) : (w.setCell ⟨k, j, none⟩ v).heap[k]? = some (.cells (cs.setIfInBounds j v) t fz) := by
  simp [World.setCell, Array.getElem?_modify, hk]
theorem used_snoc (fs : List FileS) (but : ByteArray) (l : List NmS) (x : NmS) : usedN fs (dropN but (l ++ [x])) = usedN fs (dropN but l) + usedN fs (dropN but [x]) := by
  unfold dropN usedN
  rw [dropK_app, List.map_append, List.sum_append]
theorem used_x1 {fs : List FileS} {but : ByteArray} {x : NmS} (h : x.1 = but) : usedN fs (dropN but [x]) = 0 := by
  have : dropN but [x] = [] := by
    apply List.eq_nil_iff_forall_not_mem.2
    intro z hz
    have h1 := dropK_mem.1 hz
    obtain rfl : z = x := by simpa using h1.1
    exact h1.2 h
  rw [this]; rfl
theorem used_x2 {fs : List FileS} {but : ByteArray} {x : NmS} {f : FileS} (h : ¬ x.1 = but) (hf : fs[x.2]? = some f) : usedN fs (dropN but [x]) = f.1.length := by
  have : dropN but [x] = [x] := dropK_self fun ⟨z, hz, e⟩ => h (by
    obtain rfl : z = x := by simpa using hz
    exact e)
  rw [this]
  simp [usedN, sizeF, hf]

set_option maxRecDepth 100000 in
set_option maxHeartbeats 1600000 in
theorem refUsed (w : World) (y : Nat) (vF vC : Value) (kc sc : Int) (D : DskS) (but : ByteArray) (h : RefIn w y vF vC kc sc D) (hfew : D.chs.length ≤ 2000000000000) :
    Calls Try.prog 43 #[.pointer (some ⟨y, 0, none⟩), .string but] w fun e w' => e = .returned (.int .i64 (usedN D.files (dropN but D.names))) ∧ Hid (Ext w w') := by
  have c1 := (seven_at h.box).2.1
  have c2 := (seven_at h.box).2.2.1
  have hpl := hide (playedP w vC D.chs D.files.length h.chs h.ok.chs hfew)
  have hL1 := play_len D.chs
  have hLok := hide (play_ok h.ok.chs)
  have hful := hide h.ok.files
  obtain ⟨pF, cF, rfl⟩ := ownsRow_form h.files
  obtain ⟨-, hf1, hf2, hfa⟩ := rowG_at cFl_len h.files
  replace h := hide h; replace hfa := hide hfa
  go_enter Try.func43, Try.ntmps43
  go_wp2_with fail
  refine hpl.out.mono ?_
  rintro e1 w1 ⟨pa, cap, rfl, hr, X1⟩
  obtain ⟨-, hm1, hm2, hat⟩ := rowG_at cNm_len hr.out
  obtain ⟨L, hL⟩ : ∃ L, L = playN D.chs := ⟨_, rfl⟩
  rw [← hL] at hat hL1 hm1
  have hLk : Hid (∀ x ∈ L, NmOk D.files.length x) := by rw [hL]; exact hLok.out
  rw [← hL]
  replace hat := hide hat; replace hL := hide hL; replace hr := hide hr.out
  go_wp2_with fail
  go_loopw [5, 7] (fun nv kv wr => ∃ k n : Nat, k ≤ L.length ∧ kv = .int .i64 k ∧ nv = .int .i64 n ∧ Hid (Ext w1 wr) ∧ Hid (n = usedN D.files (dropN but (L.take k)))) (fun _ k _ => L.length - (intOf k).toNat)
  case atStart => exact ⟨0, 0, Nat.zero_le _, rfl, rfl, Ext.refl _, by simp [usedN, dropN, dropK, Hid]⟩
  case round =>
    obtain ⟨k, n, hk, rfl, rfl, hXr, hn⟩ := hrel
    by_cases hlt : k < L.length
    · obtain ⟨x, hx⟩ : ∃ x, L[k]? = some x := ⟨_, List.getElem?_eq_getElem hlt⟩
      obtain ⟨g, rfl, hg⟩ := hat.out k x hx
      have x0 := hg 0 (by omega)
      have x1 := hg 1 (by omega)
      rw [Nat.add_zero] at x0
      simp only [cNm, List.getElem?_cons_zero, List.getElem?_cons_succ] at x0 x1
      replace x0 := hXr.out.cells x0
      replace x1 := hXr.out.cells x1
      have k1 : (k : Int) < (L.length : Int) := by omega
      have k2 : (0 : Int) ≤ (k : Int) := by omega
      have htk : Hid (L.take (k + 1) = L.take k ++ [x]) := by show _ = _; rw [List.take_add_one, hx, Option.toList_some]
      have hxk := (hLk.out x (List.mem_of_getElem? hx)).2
      obtain ⟨f, hf⟩ : ∃ f, D.files[x.2]? = some f := ⟨_, List.getElem?_eq_getElem hxk⟩
      replace hx := hide hx; replace hg := hide hg
      by_cases hnm : x.1 = but
      · have z1 : x.1.toList = but.toList := by rw [hnm]
        replace hnm := hide hnm; replace hxk := hide hxk; replace hf := hide hf
        go_wp2_with fail
        go_roundw
        case rel => exact ⟨k + 1, n, by omega, by go_num, rfl, hXr, by show _ = _; rw [htk.out, used_snoc, used_x1 hnm.out, Nat.add_zero]; exact hn.out⟩
        case measure => simp [intOf]; omega
      · have z1 : ¬ x.1.toList = but.toList := fun e => hnm (by simpa [ByteArray.toList_eq, ByteArray.ext_iff] using e)
        have z2 : (x.1.toList == but.toList) = false := by simpa using z1
        obtain ⟨gf, rfl, hgf⟩ := hfa.out x.2 f hf
        have f0 := hgf 0 (by omega)
        rw [Nat.add_zero] at f0
        simp only [cFl, List.getElem?_cons_zero] at f0
        replace f0 := hXr.out.cells (X1.out.cells f0)
        have d1 := hXr.out.cells (X1.out.cells c1)
        have hfl := (hful.out f (List.mem_of_getElem? hf)).2
        have q1 : ((x.2 : Nat) : Int) < (D.files.length : Int) := by omega
        have q2 : (0 : Int) ≤ ((x.2 : Nat) : Int) := by omega
        have hs : (⟨f.1.toArray⟩ : ByteArray).size = f.1.length := by simp [ByteArray.size]
        have hn2 : usedN D.files (dropN but (L.take k)) ≤ k * 20000 := by
          have h1 := used_le (fun f hf => (hful.out f hf).2) (dropN but (L.take k))
          have h2 := (dropK_sub (key := Prod.fst) but (L.take k)).length_le
          have h3 : (L.take k).length ≤ k := by rw [List.length_take]; omega
          have h4 := Nat.mul_le_mul_right 20000 (Nat.le_trans h2 h3)
          exact Nat.le_trans h1 h4
        rw [← hn.out] at hn2
        have e1 : IntKind.i64.wrap ((n : Int) + (f.1.length : Int)) = ((n + f.1.length : Nat) : Int) := by rw [IntKind.wrap_i64]; omega
        replace hnm := hide hnm; replace hxk := hide hxk; replace hf := hide hf; replace hgf := hide hgf; replace hn2 := hide hn2
        go_wp2_with fail
        go_quiet (fail)
        go_wp2_with fail
        go_roundw
        case rel => exact ⟨k + 1, n + f.1.length, by omega, by go_num, rfl, hXr.out.drewN _, by show _ = _; rw [htk.out, used_snoc, used_x2 hnm.out hf.out, hn.out]⟩
        case measure => simp [intOf]; omega
    · obtain rfl : k = L.length := by omega
      go_wp2_with fail
      go_ret
      have h1 := hn.out
      rw [List.take_length] at h1
      exact ⟨by rw [h1, hL.out]; rfl, X1.out.trans hXr.out⟩

set_option maxRecDepth 100000 in
set_option maxHeartbeats 800000 in
theorem refBegun (w : World) (y : Nat) (vF vC : Value) (kc sc : Int) (D : DskS) (h : RefIn w y vF vC kc sc D) :
    Calls Try.prog 41 #[.pointer (some ⟨y, 0, none⟩)] w fun e w' => e = .returned (.bool (decide (D.due = 1))) ∧ Hid (RefIn w' y vF vC kc sc D.begin) ∧ Hid (Kept (· = y) w w') := by
  obtain ⟨c0, c1, c2, c3, c4, c5, c6⟩ := seven_at h.box
  have fz := row_frozen h.box
  have hdue := h.due
  by_cases hz : D.due = 0
  · have e0 : D.begin = D := by
      unfold DskS.begin
      rw [hz]
      cases D; simp at hz; subst hz; rfl
    have b0 : decide ((0 : Int) < (D.due : Int)) = false := by simp [hz]
    have b1 : ¬ (0 : Int) < (D.due : Int) := by omega
    replace h := hide h; replace hz := hide hz; replace hdue := hide hdue
    go_enter Try.func41, Try.ntmps41
    go_wp2_with fail
    go_ret
    exact ⟨by simp [hz.out], h, Kept.refl _ _⟩
  · have b0 : decide ((0 : Int) < (D.due : Int)) = true := by simp; omega
    have b1 : (0 : Int) < (D.due : Int) := by omega
    obtain ⟨m, hm⟩ : ∃ m, m = D.due - 1 := ⟨_, rfl⟩
    have e1 : IntKind.i64.wrap ((D.due : Int) - 1) = (m : Int) := by rw [IntKind.wrap_i64]; omega
    have hbx := set_row h.box 4 (.int .i64 (m : Int))
    simp only [List.setIfInBounds_toArray, List.set_cons_succ, List.set_cons_zero] at hbx
    obtain ⟨d0, d1, d2, d3, d4, d5, d6⟩ := seven_at hbx
    have hq : (((m : Int)) == 0) = decide (D.due = 1) := by
      by_cases h1 : D.due = 1
      · simp [h1, hm]
      · simp [h1]; omega
    have K1 := kept_setCell w ⟨y, 4, none⟩ (.int .i64 (m : Int))
    have hI : RefIn (w.setCell ⟨y, 4, none⟩ (.int .i64 (m : Int))) y vF vC kc sc D.begin := by
      have := h.boxed (due := m) (kc' := kc) (sc' := sc) (kp := D.keep) (st := D.stay) K1 hbx h.ok.last (by omega) (fun _ => h.brk hz) h.st
      rw [hm] at this
      rw [hm]
      exact this
    replace h := hide h; replace hz := hide hz; replace hm := hide hm; replace hI := hide hI; replace K1 := hide K1; replace hdue := hide hdue; replace hbx := hide hbx
    go_enter Try.func41, Try.ntmps41
    go_wp2_with fail
    go_ret
    exact ⟨by rw [← hq]; rfl, hI.out, K1.out⟩
/-- The error of a name that must have a file. -/
noncomputable def isN (D : DskS) (name : ByteArray) : Int := match D.find name with
  | .inl _ => 0
  | .inr e => e
theorem file_in {D : DskS} {name : ByteArray} {i : Nat} (h : D.find name = .inl i) : fileN D name = (i : Int) ∧ isN D name = 0 := by
  refine ⟨?_, by unfold isN; rw [h]⟩
  unfold DskS.find at h
  split at h
  · unfold fileN
    cases e : lookN name D.names with
    | none => rw [e] at h; cases h
    | some j => rw [e] at h; obtain rfl : j = i := by simpa using h
                rfl
  · cases h

set_option maxRecDepth 100000 in
set_option maxHeartbeats 800000 in
theorem refIs (w : World) (y : Nat) (vF vC : Value) (kc sc : Int) (D : DskS) (name : ByteArray) (h : RefIn w y vF vC kc sc D) (hfew : D.chs.length ≤ 2000000000000) (hq : name.size ≤ 9223372036854775807) :
    Calls Try.prog 47 #[.pointer (some ⟨y, 0, none⟩), .string name] w fun e w' => e = .returned (.int .i64 (isN D name)) ∧ Hid (Ext w w') := by
  have hw := hide (refWord name w hq)
  have hf := hide (refFile w y vF vC kc sc D name h hfew)
  replace h := hide h
  cases hb : wordB name.data.toList with
  | false =>
    have hr : isN D name = 11 := by unfold isN DskS.find; rw [hb]; simp
    replace hr := hide hr; replace hb := hide hb
    go_enter Try.func47, Try.ntmps47
    go_wp2_with fail
    refine hw.out.mono ?_
    rintro e1 w1 ⟨rfl, rfl⟩
    rw [hb.out]
    go_wp2_with fail
    go_ret
    exact ⟨by rw [hr.out]; rfl, Ext.refl _⟩
  | true =>
    have hr : isN D name = if fileN D name < 0 then 12 else 0 := by
      unfold isN DskS.find fileN; rw [hb]
      cases lookN name D.names with
      | none => simp
      | some j => simp only [if_true]; rw [if_neg (by omega)]
    replace hr := hide hr; replace hb := hide hb
    by_cases hlt : fileN D name < 0
    · have b1 : decide (fileN D name < 0) = true := by simp [hlt]
      go_enter Try.func47, Try.ntmps47
      go_wp2_with fail
      refine hw.out.mono ?_
      rintro e1 w1 ⟨rfl, rfl⟩
      rw [hb.out]
      go_wp2_with fail
      refine hf.out.mono ?_
      rintro e2 w2 ⟨rfl, X⟩
      go_wp2_with fail
      go_ret
      exact ⟨by rw [hr.out, if_pos hlt]; rfl, X⟩
    · have b1 : decide (fileN D name < 0) = false := by simp; omega
      go_enter Try.func47, Try.ntmps47
      go_wp2_with fail
      refine hw.out.mono ?_
      rintro e1 w1 ⟨rfl, rfl⟩
      rw [hb.out]
      go_wp2_with fail
      refine hf.out.mono ?_
      rintro e2 w2 ⟨rfl, X⟩
      go_wp2_with fail
      go_ret
      exact ⟨by rw [hr.out, if_neg (by omega)]; rfl, X⟩
end Go.Proofs.Ytpkhmgonkbpjjaa
