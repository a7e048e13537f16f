/-
  The reference's disk: its bytes and its names are made to last; it is read; an act is to break off.
-/
import Derived.Test.YtpkhmgonkbpjjaaRfAc
import Derived.BigQuiet
namespace Go.Proofs.Ytpkhmgonkbpjjaa
open Go.RowKit

attribute [local go_sem] Go.World.cell?_alloc_some
set_option maxRecDepth 100000 in
set_option maxHeartbeats 1600000 in
theorem refSyncN (w : World) (y : Nat) (vF vC : Value) (kc sc : Int) (D : DskS) (h : RefIn w y vF vC kc sc D) (hfew : D.chs.length ≤ 2000000000000) :
    Calls Try.prog 21 #[.pointer (some ⟨y, 0, none⟩)] w (RefIs w y vF vC kc sc D.syncN) := by
  have hbg := hide (refBegun w y vF vC kc sc D h)
  obtain ⟨b, hb⟩ : ∃ b, decide (D.due = 1) = b := ⟨_, rfl⟩
  have hact := hide (sync_is (f := DskS.syncN1) h.brk hb)
  have hfew2 : D.begin.chs.length ≤ 2000000000000 := hfew
  rw [hb] at hbg
  replace hact : Hid (D.syncN = _) := hact
  generalize D.begin = E at *
  replace h := hide h; replace hb := hide hb
  cases b with
  | true =>
    go_enter Try.func21, Try.ntmps21
    go_wp2_with fail
    refine hbg.out.mono ?_
    rintro e1 w1 ⟨rfl, h1, K1⟩
    go_wp2_with fail
    refine (refEnded w1 y vF vC kc sc E 0 true h1.out (by omega)).mono ?_
    rintro e3 w3 ⟨rfl, h3⟩
    go_wp2_with fail
    go_ret
    rw [hact.out]
    exact ⟨rfl, RefTo.pre (K1.out.mono (fun _ _ h => .inl h)) h3.out⟩
  | false =>
    go_enter Try.func21, Try.ntmps21
    go_wp2_with fail
    refine hbg.out.mono ?_
    rintro e1 w1 ⟨rfl, h1, K1⟩
    obtain ⟨c0, c1, c2, c3, c4, c5, c6⟩ := seven_at h1.out.box
    have fz := row_frozen h1.out.box
    obtain ⟨pc, cc, hvC⟩ := ownsRow_form h1.out.chs
    subst hvC
    have B2 := set_row h1.out.box 3 (.int .i64 (E.chs.length : Int))
    simp only [List.setIfInBounds_toArray, List.set_cons_succ, List.set_cons_zero] at B2
    have K2 := kept_setCell w1 ⟨y, 3, none⟩ (.int .i64 (E.chs.length : Int))
    have h2 : RefIn (w1.setCell ⟨y, 3, none⟩ (.int .i64 (E.chs.length : Int))) y vF (.slice pc E.chs.length cc) kc sc (DskS.syncN1 E).1 := h1.out.boxed (due := E.due) (kp := E.keep) (st := E.stay) K2 B2 (Nat.le_refl _) h1.out.due h1.out.brk h1.out.st
    replace h2 := hide h2; replace K2 := hide K2; replace B2 := hide B2
    go_wp2_with fail
    refine (refEnded _ y vF _ kc sc _ 0 false h2.out (by show E.chs.length ≤ _; omega)).mono ?_
    rintro e3 w3 ⟨rfl, h3⟩
    go_wp2_with fail
    go_ret
    rw [hact.out]
    exact ⟨rfl, RefTo.pre ((K1.out.mono (fun _ _ h => .inl h)).trans K2.out (fun _ _ h => .inl h)) h3.out⟩

set_option maxRecDepth 100000 in
set_option maxHeartbeats 1600000 in
theorem refSync (w : World) (y : Nat) (vF vC : Value) (kc sc : Int) (D : DskS) (name : ByteArray) (h : RefIn w y vF vC kc sc D) (hfew : D.chs.length ≤ 2000000000000) (hq : name.size ≤ 9223372036854775807) :
    Calls Try.prog 15 #[.pointer (some ⟨y, 0, none⟩), .string name] w (RefIs w y vF vC kc sc (D.sync name)) := by
  have hbg := hide (refBegun w y vF vC kc sc D h)
  obtain ⟨b, hb⟩ : ∃ b, decide (D.due = 1) = b := ⟨_, rfl⟩
  have hact := hide (sync_is (f := DskS.sync1 name) h.brk hb)
  have hfew2 : D.begin.chs.length ≤ 2000000000000 := hfew
  rw [hb] at hbg
  replace hact : Hid (D.sync name = _) := hact
  generalize D.begin = E at *
  replace h := hide h; replace hb := hide hb
  go_enter Try.func15, Try.ntmps15
  go_wp2_with fail
  refine hbg.out.mono ?_
  rintro e1 w1 ⟨rfl, h1, K1⟩
  have K1' := hide (K1.out.mono (D' := RFoot y vF vC) (fun _ _ h => .inl h))
  go_wp2_with fail
  refine (refIs w1 y vF vC kc sc E name h1.out (by omega) hq).mono ?_
  rintro e2 w2 ⟨rfl, X2⟩
  have h2 := hide (h1.out.ext X2.out)
  have K2 := hide (K1'.out.trans (X2.out.kept (fun _ => False)) (fun _ _ h => h.elim))
  cases hf : E.find name with
  | inr er =>
    have hr : E.sync1 name = (E, er) := by unfold DskS.sync1; rw [hf]
    have hin : isN E name = er := by unfold isN; rw [hf]
    have her : (er == 0) = false := by
      rcases find_waysR E name with ⟨i, h⟩ | ⟨e, h, h'⟩
      · rw [hf] at h; cases h
      · rw [hf] at h; obtain rfl : er = e := by simpa using h
        rcases h' with rfl | rfl <;> rfl
    have her2 : ¬ er = 0 := by simpa using her
    rw [hin]
    replace hf := hide hf; replace hr := hide hr; replace hin := hide hin
    go_wp2_with fail
    refine (refEnded w2 y vF vC kc sc E er b h2.out (by omega)).mono ?_
    rintro e3 w3 ⟨rfl, h3⟩
    go_wp2_with fail
    go_ret
    rw [hact.out, hr.out]
    exact ⟨rfl, by rw [ite_self]; exact RefTo.pre K2.out h3.out⟩
  | inl i =>
    have hr : E.sync1 name = ({ E with files := E.files.modify i fun f => (f.1, f.1.length) }, 0) := by unfold DskS.sync1; rw [hf]
    obtain ⟨hfi, hin⟩ := file_in hf
    rw [hin]
    replace hr := hide hr; replace hin := hide hin
    cases b with
    | true =>
      replace hf := hide hf
      go_wp2_with fail
      refine (refEnded w2 y vF vC kc sc E 0 true h2.out (by omega)).mono ?_
      rintro e3 w3 ⟨rfl, h3⟩
      go_wp2_with fail
      go_ret
      rw [hact.out]
      exact ⟨rfl, RefTo.pre K2.out h3.out⟩
    | false =>
      have hil := (DskS.find_in h2.out.ok hf).2.2
      obtain ⟨f, hfx⟩ : ∃ f, E.files[i]? = some f := ⟨_, List.getElem?_eq_getElem hil⟩
      have hfl := refFile w2 y vF vC kc sc E name h2.out (by omega)
      rw [hfi] at hfl
      replace hfl := hide hfl; replace hf := hide hf; replace hfi := hide hfi
      go_wp2_with fail
      refine hfl.out.mono ?_
      rintro e3 w3 ⟨rfl, X3⟩
      have h3 := h2.out.ext X3.out
      have d1 := (seven_at h3.box).2.1
      obtain ⟨pF, cF, hvF⟩ := ownsRow_form h3.files
      subst hvF
      obtain ⟨-, hf1, hf2, hfa⟩ := rowG_at cFl_len h3.files
      obtain ⟨gf, hpf, hgf⟩ := hfa i f hfx
      subst hpf
      have f0 := hgf 0 (by omega)
      have f1 := hgf 1 (by omega)
      rw [Nat.add_zero] at f0
      simp only [cFl, List.getElem?_cons_zero, List.getElem?_cons_succ] at f0 f1
      have hfok := h3.ok.files f (List.mem_of_getElem? hfx)
      have fzg : ∀ q, w3.frozen? ⟨gf, q, none⟩ = false := fun q => h3.files.frozenAt q
      have q1 : (i : Int) < (E.files.length : Int) := by omega
      have q2 : (0 : Int) ≤ (i : Int) := by omega
      have hs : (⟨f.1.toArray⟩ : ByteArray).size = f.1.length := by simp [ByteArray.size]
      have hrow := (h3.files.stored (i * 2 + 1) (.int .i64 (f.1.length : Int))).1
      rw [cells_set cFl_len hfx (x' := (f.1, f.1.length)) (r := 1) (by omega) rfl, ← mod_set hfx (fun f => (f.1, f.1.length))] at hrow
      have K4 : Kept (fun q => (Value.slice (some ⟨gf, 0, none⟩) E.files.length cF).ownBlock = some q) w3 (w3.setCell ⟨gf, i * 2 + 1, none⟩ (.int .i64 (f.1.length : Int))) := (kept_setCell w3 ⟨gf, i * 2 + 1, none⟩ _).mono (fun q _ (h : q = gf) => by rw [h]; rfl)
      have h4 := h3.filed (F := E.files.modify i fun f => (f.1, f.1.length)) K4 (by rw [List.length_modify]; exact hrow) (List.length_modify ..) (fun q hq => (mem_modify hq).elim (h3.ok.files q) fun ⟨z, hz, e⟩ => by rw [e]; exact ⟨Nat.le_refl _, (h3.ok.files z (List.mem_of_getElem? hz)).2⟩)
      replace h3 := hide h3; replace h4 := hide h4; replace K4 := hide K4; replace hrow := hide hrow; replace hfx := hide hfx; replace hfa := hide hfa; replace hgf := hide hgf; replace hfok := hide hfok
      go_wp2_with fail
      go_region
      go_wp2_with fail
      refine (refEnded _ y _ vC kc sc _ 0 false (h4.out.ext (Ext.refl _).drew) (by show E.chs.length ≤ _; omega)).mono ?_
      rintro e5 w5 ⟨rfl, h5⟩
      go_wp2_with fail
      go_ret
      rw [hact.out, hr.out]
      exact ⟨rfl, RefTo.pre (((K2.out.trans (X3.out.kept (fun _ => False)) (fun _ _ h => h.elim)).trans K4.out (fun _ _ h => .inr (.inl h))).trans ((Ext.refl _).drew.kept (fun _ => False)) (fun _ _ h => h.elim)) h5.out⟩
end Go.Proofs.Ytpkhmgonkbpjjaa
