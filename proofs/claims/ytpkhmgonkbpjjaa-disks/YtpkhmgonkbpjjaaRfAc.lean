/-
  The reference's disk: its acts.
-/
import Derived.Test.YtpkhmgonkbpjjaaRfCr
import Derived.Deep.RegionLaw
namespace Go.Proofs.Ytpkhmgonkbpjjaa
open Go.RowKit

attribute [local go_sem] Go.World.cell?_alloc_some
theorem RefTo.ext {w w' w'' : World} {y : Nat} {vF vC : Value} {kc sc : Int} {R : DskS} (h : RefTo w y vF vC kc sc R w') (e : Ext w' w'') : RefTo w y vF vC kc sc R w'' := by
  obtain ⟨vF', vC', h1, h2, h3⟩ := h
  exact ⟨vF', vC', h1.ext e, h2.trans (e.kept (fun _ => False)) (fun _ _ h => h.elim), h3⟩
theorem RefTo.pre {w w1 w' : World} {y : Nat} {vF vC : Value} {kc sc : Int} {R : DskS} (k : Kept (RFoot y vF vC) w w1) (h : RefTo w1 y vF vC kc sc R w') : RefTo w y vF vC kc sc R w' := by
  obtain ⟨vF', vC', h1, h2, h3⟩ := h
  exact ⟨vF', vC', h1, k.trans h2 (fun _ _ h => h), fun q hq => (h3 q hq).imp id (fun h => Nat.le_trans k.size h)⟩
theorem RefTo.here {w w1 : World} {y : Nat} {vF vC : Value} {kc sc : Int} {R : DskS} (h : RefIn w1 y vF vC kc sc R) (k : Kept (RFoot y vF vC) w w1) : RefTo w y vF vC kc sc R w1 := ⟨vF, vC, h, k, fun _ hq => .inl hq⟩
/-- What an act answers in the end, and what it leaves. -/
def endE (b : Bool) (e : Int) : Int := if b = true then 14 else e
noncomputable def endD (b : Bool) (D : DskS) (kc sc : Int) : DskS := if b = true then D.crash kc sc else D
theorem act_is {D : DskS} {f : DskS → DskS × Int} {kc sc : Int} (hb : D.due ≠ 0 → kc = D.keep ∧ sc = D.stay) {b : Bool} (he : decide (D.due = 1) = b) : D.act f = (endD b (f D.begin).1 kc sc, endE b (f D.begin).2) := by
  unfold DskS.act endD endE
  subst he
  by_cases h : D.due = 1
  · obtain ⟨rfl, rfl⟩ := hb (by omega)
    simp [h]
  · simp [h]
theorem sync_is {D : DskS} {f : DskS → DskS × Int} {kc sc : Int} (hb : D.due ≠ 0 → kc = D.keep ∧ sc = D.stay) {b : Bool} (he : decide (D.due = 1) = b) : D.syncAct f = (endD b (if b = true then D.begin else (f D.begin).1) kc sc, endE b (f D.begin).2) := by
  unfold DskS.syncAct endD endE
  subst he
  by_cases h : D.due = 1
  · obtain ⟨rfl, rfl⟩ := hb (by omega)
    simp [h]
  · simp [h]
/-- A change of names was put behind the others. -/
theorem RefIn.changed {w w1 : World} {y : Nat} {vF vC vC' : Value} {kc sc : Int} {D : DskS} {c : ChgS} (h : RefIn w y vF vC kc sc D) (hc : c.okC D.files.length) (K : Kept (fun q => vC.ownBlock = some q) w w1) (hown : w1.ownsRow 0 107 3 vC' (D.chs.length + 1) (cellsG cRC D.chs ++ cRC c)) (hat : ∀ g, vC'.ownBlock = some g → vC.ownBlock = some g ∨ w.heap.size ≤ g) :
    RefTo w y vF vC kc sc { D with chs := D.chs ++ [c] } (w1.setCell ⟨y, 2, none⟩ vC') := by
  have hb1 := K.heap h.box (fun e => h.yC e rfl)
  have hb2 := set_row hb1 2 vC'
  simp only [List.setIfInBounds_toArray, List.set_cons_succ, List.set_cons_zero] at hb2
  have K2 := kept_setCell w1 ⟨y, 2, none⟩ vC'
  have hyC : ∀ g, vC'.ownBlock = some g → g ≠ y := fun g hg => by
    obtain ⟨cc, fz, h1⟩ := rowR_at hown hg
    exact tellsR h1 hb1 (by decide)
  have hF1 := rows_keptP h.files K (fun _ hg e => h.fC hg e)
  refine ⟨vF, vC', ⟨hb2, rows_keptP hF1 K2 (fun _ hg => h.yF hg), ?_, h.ok.chg hc, h.due, h.brk, h.st⟩, ?_, fun q hq => ?_⟩
  · have h1 := rows_keptP hown K2 (fun g hg => hyC g hg)
    have e : cellsG cRC (D.chs ++ [c]) = cellsG cRC D.chs ++ cRC c := by simp [cellsG]
    show World.ownsRow _ _ _ _ _ (D.chs ++ [c]).length (cellsG cRC (D.chs ++ [c]))
    rw [e, List.length_append]
    exact h1
  · exact (K.mono (D' := RFoot y vF vC) (fun _ _ h => .inr (.inr h))).trans K2 (fun _ _ h => .inl h)
  · rcases hq with hq | hq | hq
    · exact .inl (.inl hq)
    · exact .inl (.inr (.inl hq))
    · exact (hat q hq).imp (fun h => .inr (.inr h)) id

set_option maxRecDepth 100000 in
set_option maxHeartbeats 800000 in
theorem refEnded (w : World) (y : Nat) (vF vC : Value) (kc sc : Int) (D : DskS) (e : Int) (b : Bool) (h : RefIn w y vF vC kc sc D) (hfew : D.chs.length ≤ 2000000000000) :
    Calls Try.prog 44 #[.pointer (some ⟨y, 0, none⟩), .int .i64 e, .bool b] w fun e' w' => e' = .returned (.int .i64 (endE b e)) ∧ Hid (RefTo w y vF vC kc sc (endD b D kc sc) w') := by
  obtain ⟨c0, c1, c2, c3, c4, c5, c6⟩ := seven_at h.box
  have hcr := hide (refCrash w.drew y vF vC kc sc D kc sc (h.ext (Ext.refl w).drew) hfew h.st)
  replace h := hide h
  cases b
  · have e1 : endE false e = e := rfl
    have e2 : endD false D kc sc = D := rfl
    rw [e1, e2]
    go_enter Try.func44, Try.ntmps44
    go_wp2_with fail
    go_ret
    exact ⟨rfl, RefTo.here h.out (Kept.refl _ _)⟩
  · have e1 : endE true e = 14 := rfl
    have e2 : endD true D kc sc = D.crash kc sc := rfl
    rw [e1, e2]
    go_enter Try.func44, Try.ntmps44
    go_upto_region 2 with fail
    go_cut [] (fun wx => Hid (RefTo w y vF vC kc sc (D.crash kc sc) wx))
    case first =>
      go_region_with (go_at_call 31; refine hcr.out.mono ?_; rintro e1 w1 ⟨rfl, h1⟩)
      all_goals
        go_wp2_with fail
        go_meet
        exact RefTo.pre ((Ext.refl w).drew.kept _) h1.out
    case rest =>
      go_wp2_with fail
      go_ret
      exact ⟨rfl, hcut⟩
theorem RefTo.then {w w1 w2 : World} {y : Nat} {vF vC vF' vC' : Value} {kc sc : Int} {R : DskS} (k : Kept (RFoot y vF vC) w w1) (ft : ∀ k, RFoot y vF' vC' k → RFoot y vF vC k ∨ w.heap.size ≤ k) (h : RefTo w1 y vF' vC' kc sc R w2) : RefTo w y vF vC kc sc R w2 := by
  obtain ⟨vF2, vC2, h1, h2, h3⟩ := h
  refine ⟨vF2, vC2, h1, k.trans h2 (fun q hq hr => (ft q hr).elim id (fun h => absurd hq (by omega))), fun q hq => ?_⟩
  rcases h3 q hq with h | h
  · exact ft q h
  · exact .inr (Nat.le_trans k.size h)
theorem infoRC : (Try.prog.info? 107).map (fun i => (i.zero, i.size, i.bytes)) = some (some (.agg #[.string ⟨#[]⟩, .string ⟨#[]⟩, .int .i64 0]), 3, 40) := by kernel_rfl
theorem infoFl : (Try.prog.info? 105).map (fun i => (i.zero, i.size, i.bytes)) = some (some (.agg #[.string ⟨#[]⟩, .int .i64 0]), 2, 24) := by kernel_rfl
theorem find_waysR (D : DskS) (name : ByteArray) : (∃ i, D.find name = .inl i) ∨ ∃ e : Int, D.find name = .inr e ∧ (e = 11 ∨ e = 12) := by
  unfold DskS.find
  split
  · cases lookN name D.names with
    | some i => exact .inl ⟨i, rfl⟩
    | none => exact .inr ⟨12, rfl, .inr rfl⟩
  · exact .inr ⟨11, rfl, .inl rfl⟩
/-- What an act leaves, and answers. -/
def RefIs (w : World) (y : Nat) (vF vC : Value) (kc sc : Int) (R : DskS × Int) (e : Ending) (w' : World) : Prop :=
  e = .returned (.int .i64 R.2) ∧ Hid (RefTo w y vF vC kc sc R.1 w')

set_option maxRecDepth 100000 in
set_option maxHeartbeats 1600000 in
theorem refRemove (w : World) (y : Nat) (vF vC : Value) (kc sc : Int) (D : DskS) (name : ByteArray) (h : RefIn w y vF vC kc sc D) (hfew : D.chs.length + 1 ≤ 2000000000000) (hq : name.size ≤ 9223372036854775807) :
    Calls Try.prog 19 #[.pointer (some ⟨y, 0, none⟩), .string name] w (RefIs w y vF vC kc sc (D.remove name)) := by
  obtain ⟨i0, hi0, hz0, hz1, hz2⟩ := info_of infoRC
  have hbg := hide (refBegun w y vF vC kc sc D h)
  obtain ⟨b, hb⟩ : ∃ b, decide (D.due = 1) = b := ⟨_, rfl⟩
  have hact := hide (act_is (f := DskS.remove1 name) h.brk hb)
  have hfew2 : D.begin.chs.length + 1 ≤ 2000000000000 := hfew
  rw [hb] at hbg
  replace hact : Hid (D.remove name = _) := hact
  generalize D.begin = E at *
  replace h := hide h; replace hb := hide hb; replace hi0 := hide hi0
  go_enter Try.func19, Try.ntmps19
  go_wp2_with fail
  refine hbg.out.mono ?_
  rintro e1 w1 ⟨rfl, h1, K1⟩
  have K1' := hide (K1.out.mono (D' := RFoot y vF vC) (fun _ _ h => .inl h))
  go_wp2_with fail
  refine (refIs w1 y vF vC kc sc E name h1.out (by omega) hq).mono ?_
  rintro e2 w2 ⟨rfl, X2⟩
  have h2 := hide (h1.out.ext X2.out)
  have K2 := hide (K1'.out.trans (X2.out.kept (fun _ => False)) (fun _ _ h => h.elim))
  cases hf : E.find name with
  | inr er =>
    have hr : E.remove1 name = (E, er) := by unfold DskS.remove1; rw [hf]
    have hin : isN E name = er := by unfold isN; rw [hf]
    have her : (er == 0) = false := by
      rcases find_waysR E name with ⟨i, h⟩ | ⟨e, h, h'⟩
      · rw [hf] at h; cases h
      · rw [hf] at h; obtain rfl : er = e := by simpa using h
        rcases h' with rfl | rfl <;> rfl
    have her2 : ¬ er = 0 := by simpa using her
    rw [hin]
    replace hf := hide hf; replace hr := hide hr; replace hin := hide hin
    go_wp2_with fail
    refine (refEnded w2 y vF vC kc sc E er b h2.out (by omega)).mono ?_
    rintro e3 w3 ⟨rfl, h3⟩
    go_wp2_with fail
    go_ret
    rw [hact.out, hr.out]
    exact ⟨rfl, RefTo.pre K2.out h3.out⟩
  | inl i =>
    have hr : E.remove1 name = ({ E with chs := E.chs ++ [.rm name] }, 0) := by unfold DskS.remove1; rw [hf]
    have hin : isN E name = 0 := by unfold isN; rw [hf]
    rw [hin]
    have hcok : ChgS.okC E.files.length (.rm name) := (DskS.find_in h2.out.ok hf).1
    obtain ⟨c0, c1, c2, c3, c4, c5, c6⟩ := seven_at h2.out.box
    obtain ⟨pc, cc, hvC⟩ := ownsRow_form h2.out.chs
    subst hvC
    have E3 := (Ext.refl w2).alloc (.cells #[.string name, .string ⟨#[]⟩, .int .i64 0] 107)
    have hrow := hide (h2.out.ext E3).chs
    have hnew : ∀ j u, (cRC (.rm name))[j]? = some u → (w2.alloc (.cells #[.string name, .string ⟨#[]⟩, .int .i64 0] 107)).cell? ((⟨w2.heap.size, 0, none⟩ : Addr).add j) = some u := fun j u hu => by
      rw [add_eq, Nat.zero_add]
      simp only [World.cell?, heap_alloc_new w2 (.cells #[.string name, .string ⟨#[]⟩, .int .i64 0] 107)]
      simpa [cRC, refC] using hu
    replace hf := hide hf; replace hr := hide hr; replace hin := hide hin; replace hnew := hide hnew; replace E3 := hide E3
    go_wp2_with (at_builtin; go_must (refine wpList_append_lies _ rfl _ _ 56 rfl 0 107 i0 (.agg #[.string ⟨#[]⟩, .string ⟨#[]⟩, .int .i64 0]) 3 40 Try.underlying56 hi0.out hz0 hz1 hz2 rfl (by omega) _ E.chs.length (cellsG cRC E.chs) rfl hrow.out ⟨w2.heap.size, 0, none⟩ 1 1 (cRC (.rm name)) rfl rfl hnew.out (cRC_one _) (by omega) (by unfold maxLen; omega) (by omega) (Nat.zero_le _) _ rfl ?_; intro g3 cap3 w3 hown3 hgrow3 hat3 hlt3; have K3 : Kept (fun q => (Value.slice pc E.chs.length cc).ownBlock = some q) w2 w3 := (E3.out.kept _).trans ⟨hgrow3.os, hgrow3.tape, hgrow3.output, hgrow3.size, fun q hq hn => hgrow3.block q hq fun e => hn e.symm⟩ (fun _ _ h => h); have P3 := K3.heap h2.out.box (fun e => h2.out.yC e rfl); have v3 := row_frozen P3; obtain ⟨u0, u1, u2, u3, u4, u5, u6⟩ := seven_at P3; replace hown3 := hide hown3; replace hgrow3 := hide hgrow3; replace hat3 := hide hat3; replace K3 := hide K3; replace P3 := hide P3))
    have hT : RefTo w2 y vF (.slice pc E.chs.length cc) kc sc { E with chs := E.chs ++ [.rm name] } (w3.setCell ⟨y, 2, none⟩ (.slice (some ⟨g3, 0, none⟩) (E.chs.length + 1) cap3)) := h2.out.changed hcok K3.out hown3.out (fun g hg => by
      obtain rfl : g3 = g := by simpa [Value.ownBlock] using hg
      rcases hat3.out with h | h
      · exact .inl h
      · right; rw [h]; exact Ext.size E3.out)
    obtain ⟨vF', vC', hI3, KT, ft⟩ := hT
    replace hI3 := hide hI3; replace KT := hide KT; replace ft := hide ft
    refine (refEnded _ y vF' vC' kc sc _ 0 b hI3.out (by simp; omega)).mono ?_
    rintro e4 w4 ⟨rfl, h4⟩
    go_wp2_with fail
    go_ret
    rw [hact.out, hr.out]
    exact ⟨rfl, RefTo.pre K2.out (RefTo.then KT.out ft.out h4.out)⟩
end Go.Proofs.Ytpkhmgonkbpjjaa
