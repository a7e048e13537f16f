/-
  The reference's disk: bytes are put behind a file's bytes; a file gets another name.
-/
import Derived.Test.YtpkhmgonkbpjjaaRfAd
import Derived.Deep.RegionHeld3
namespace Go.Proofs.Ytpkhmgonkbpjjaa
open Go.RowKit

attribute [local go_sem] Go.World.cell?_alloc_some
theorem drop_empty {D : DskS} (h : D.Ok) : dropN noName D.names = D.names := drop_none fun x hx => word_some (play_ok h.chs x hx).1
theorem app_str (bs : List UInt8) (s : ByteArray) : (ByteArray.mk bs.toArray) ++ s = ⟨(bs ++ s.data.toList).toArray⟩ := by
  apply ByteArray.ext
  apply Array.toList_inj.1
  simp

set_option maxRecDepth 100000 in
set_option maxHeartbeats 1600000 in
theorem refAppend (w : World) (y : Nat) (vF vC : Value) (kc sc : Int) (D : DskS) (name s : ByteArray) (h : RefIn w y vF vC kc sc D) (hfew : D.chs.length ≤ 2000000000000) (hq : name.size ≤ 9223372036854775807) (hqs : s.size ≤ 4611686018427387904) :
    Calls Try.prog 13 #[.pointer (some ⟨y, 0, none⟩), .string name, .string s] w (RefIs w y vF vC kc sc (D.append name s)) := by
  have hbg := hide (refBegun w y vF vC kc sc D h)
  obtain ⟨b, hb⟩ : ∃ b, decide (D.due = 1) = b := ⟨_, rfl⟩
  have hact := hide (act_is (f := DskS.append1 name s) h.brk hb)
  have hfew2 : D.begin.chs.length ≤ 2000000000000 := hfew
  rw [hb] at hbg
  replace hact : Hid (D.append name s = _) := hact
  generalize D.begin = E at *
  replace h := hide h; replace hb := hide hb
  go_enter Try.func13, Try.ntmps13
  go_wp2_with fail
  refine hbg.out.mono ?_
  rintro e1 w1 ⟨rfl, h1, K1⟩
  have K1' := hide (K1.out.mono (D' := RFoot y vF vC) (fun _ _ h => .inl h))
  go_wp2_with fail
  refine (refIs w1 y vF vC kc sc E name h1.out (by omega) hq).mono ?_
  rintro e2 w2 ⟨rfl, X2⟩
  have h2 := hide (h1.out.ext X2.out)
  have K2 := hide (K1'.out.trans (X2.out.kept (fun _ => False)) (fun _ _ h => h.elim))
  cases hf : E.find name with
  | inr er =>
    have hr : E.append1 name s = (E, er) := by unfold DskS.append1; rw [hf]
    have hin : isN E name = er := by unfold isN; rw [hf]
    have her : (er == 0) = false := by
      rcases find_waysR E name with ⟨i, h⟩ | ⟨e, h, h'⟩
      · rw [hf] at h; cases h
      · rw [hf] at h; obtain rfl : er = e := by simpa using h
        rcases h' with rfl | rfl <;> rfl
    have her2 : ¬ er = 0 := by simpa using her
    rw [hin]
    replace hf := hide hf; replace hr := hide hr; replace hin := hide hin
    go_wp2_with fail
    go_quiet (fail)
    go_wp2_with fail
    refine (refEnded _ y vF vC kc sc E er b (h2.out.ext ((Ext.refl w2).drewN _)) (by omega)).mono ?_
    rintro e3 w3 ⟨rfl, h3⟩
    go_wp2_with fail
    go_ret
    rw [hact.out, hr.out]
    exact ⟨rfl, RefTo.pre (K2.out.trans (((Ext.refl w2).drewN _).kept (fun _ => False)) (fun _ _ h => h.elim)) h3.out⟩
  | inl i =>
    obtain ⟨hfi, hin⟩ := file_in hf
    rw [hin]
    obtain ⟨c0, c1, c2, c3, c4, c5, c6⟩ := seven_at h2.out.box
    have hU := refUsed w2.drew y vF vC kc sc E noName (h2.out.ext (Ext.refl w2).drew) (by omega)
    rw [drop_empty h2.out.ok] at hU
    have hun : usedN E.files E.names ≤ 40000000000000000 := by
      have h1 := used_le (fun f hf => (h2.out.ok.files f hf).2) E.names
      have h2 : E.names.length ≤ E.chs.length := play_len E.chs
      omega
    obtain ⟨n, hn⟩ : ∃ n, usedN E.files E.names = n := ⟨_, rfl⟩
    rw [hn] at hU hun
    have hroom : (E.room : Int) ≤ 20000 := by have := h2.out.ok.room1; omega
    have e1 : IntKind.i64.wrap ((n : Int) + (s.size : Int)) = ((n + s.size : Nat) : Int) := by rw [IntKind.wrap_i64]; omega
    have hil := (DskS.find_in h2.out.ok hf).2.2
    replace hf := hide hf; replace hin := hide hin; replace hU := hide hU; replace hfi := hide hfi
    by_cases hful : E.room < n + s.size
    · have hr : E.append1 name s = (E, 13) := by unfold DskS.append1; rw [hf.out]; simp only; rw [hn, if_pos hful]
      have b1 : (E.room : Int) < (n : Int) + (s.size : Int) := by omega
      have b2 : ((E.room : Int) < (n : Int) + (s.size : Int)) = True := eq_true b1
      have b3 : decide ((E.room : Int) < (n : Int) + (s.size : Int)) = true := by simp [b1]
      replace hr := hide hr; replace hful := hide hful; replace hn := hide hn
      go_wp2_with fail
      go_region_held3 (fun w' => w'.cell? ⟨y, 0, none⟩ = some (.int .i64 (E.room : Int))) (go_keep) ((go_at_call 43; refine hU.out.mono ?_; rintro e3 w3 ⟨rfl, X3⟩; go_must (have d0 := X3.out.cells c0)))
      go_wp2_with fail
      have X3' := hide ((Ext.refl w2).drew.trans X3.out)
      refine (refEnded _ y vF vC kc sc E 13 b (h2.out.ext X3'.out) (by omega)).mono ?_
      rintro e4 w4 ⟨rfl, h4⟩
      go_wp2_with fail
      go_ret
      rw [hact.out, hr.out]
      exact ⟨rfl, RefTo.pre (K2.out.trans (X3'.out.kept (fun _ => False)) (fun _ _ h => h.elim)) h4.out⟩
    · have hr : E.append1 name s = ({ E with files := E.files.modify i fun f => (f.1 ++ s.data.toList, f.2) }, 0) := by unfold DskS.append1; rw [hf.out]; simp only; rw [hn, if_neg hful]
      have b1 : ¬ (E.room : Int) < (n : Int) + (s.size : Int) := by omega
      have b3 : decide ((E.room : Int) < (n : Int) + (s.size : Int)) = false := by simp; omega
      obtain ⟨f, hfx⟩ : ∃ f, E.files[i]? = some f := ⟨_, List.getElem?_eq_getElem hil⟩
      have hsz : s.size ≤ 20000 := by have := h2.out.ok.room1; omega
      have hok := hide (DskS.Ok.append1 h2.out.ok name s)
      rw [hr] at hok
      replace hr := hide hr; replace hful := hide hful; replace hn := hide hn
      go_wp2_with fail
      go_region_held3 (fun w' => w'.cell? ⟨y, 0, none⟩ = some (.int .i64 (E.room : Int))) (go_keep) ((go_at_call 43; refine hU.out.mono ?_; rintro e3 w3 ⟨rfl, X3⟩; go_must (have d0 := X3.out.cells c0)))
      have X3' := hide ((Ext.refl w2).drew.trans X3.out)
      have hfl := refFile w3 y vF vC kc sc E name (h2.out.ext X3'.out) (by omega)
      rw [hfi.out] at hfl
      replace hfl := hide hfl
      go_wp2_with fail
      refine hfl.out.mono ?_
      rintro e4 w4 ⟨rfl, X4⟩
      have h3 := h2.out.ext (X3'.out.trans X4.out)
      have d1 := (seven_at h3.box).2.1
      obtain ⟨pF, cF, hvF⟩ := ownsRow_form h3.files
      subst hvF
      obtain ⟨-, hf1, hf2, hfa⟩ := rowG_at cFl_len h3.files
      obtain ⟨gf, hpf, hgf⟩ := hfa i f hfx
      subst hpf
      have f0 := hgf 0 (by omega)
      have f1 := hgf 1 (by omega)
      rw [Nat.add_zero] at f0
      simp only [cFl, List.getElem?_cons_zero, List.getElem?_cons_succ] at f0 f1
      have hfok := h3.ok.files f (List.mem_of_getElem? hfx)
      have fzg : ∀ q, w4.frozen? ⟨gf, q, none⟩ = false := fun q => h3.files.frozenAt q
      have q1 : (i : Int) < (E.files.length : Int) := by omega
      have q2 : (0 : Int) ≤ (i : Int) := by omega
      have hs : (⟨f.1.toArray⟩ : ByteArray).size = f.1.length := by simp [ByteArray.size]
      have q3 : (9223372036854775807 < f.1.length + s.size) = False := by simp; omega
      have q4 : ¬ 9223372036854775807 < f.1.length + s.size := by omega
      have hrow := (h3.files.stored (i * 2) (.string ((ByteArray.mk f.1.toArray) ++ s))).1
      rw [show i * 2 = i * 2 + 0 from rfl, cells_set cFl_len hfx (x' := (f.1 ++ s.data.toList, f.2)) (r := 0) (by omega) (by rw [app_str]; rfl), ← mod_set hfx (fun f => (f.1 ++ s.data.toList, f.2)), Nat.add_zero] at hrow
      have K4 : Kept (fun q => (Value.slice (some ⟨gf, 0, none⟩) E.files.length cF).ownBlock = some q) w4 (w4.setCell ⟨gf, i * 2, none⟩ (.string ((ByteArray.mk f.1.toArray) ++ s))) := (kept_setCell w4 ⟨gf, i * 2, none⟩ _).mono (fun q _ (h : q = gf) => by rw [h]; rfl)
      have h4 := h3.filed (F := E.files.modify i fun f => (f.1 ++ s.data.toList, f.2)) K4 (by rw [List.length_modify]; exact hrow) (List.length_modify ..) hok.out.files
      replace h3 := hide h3; replace h4 := hide h4; replace K4 := hide K4; replace hrow := hide hrow; replace hfx := hide hfx; replace hfa := hide hfa; replace hgf := hide hgf; replace hfok := hide hfok
      go_wp2_with fail
      go_region
      go_wp2_with fail
      refine (refEnded _ y _ vC kc sc _ 0 b (h4.out.ext (Ext.refl _).drew) (by show E.chs.length ≤ _; omega)).mono ?_
      rintro e5 w5 ⟨rfl, h5⟩
      go_wp2_with fail
      go_ret
      rw [hact.out, hr.out]
      exact ⟨rfl, RefTo.pre (((K2.out.trans ((X3'.out.trans X4.out).kept (fun _ => False)) (fun _ _ h => h.elim)).trans K4.out (fun _ _ h => .inr (.inl h))).trans ((Ext.refl _).drew.kept (fun _ => False)) (fun _ _ h => h.elim)) h5.out⟩
end Go.Proofs.Ytpkhmgonkbpjjaa
