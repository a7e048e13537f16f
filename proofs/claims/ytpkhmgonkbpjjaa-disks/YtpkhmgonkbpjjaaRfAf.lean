/-
  The reference's disk: a file gets another name.
-/
import Derived.Test.YtpkhmgonkbpjjaaRfAe
namespace Go.Proofs.Ytpkhmgonkbpjjaa
open Go.RowKit

attribute [local go_sem] Go.World.cell?_alloc_some
theorem newC (w : World) (src dst : ByteArray) (i : Nat) : ∀ j u, (cRC (.rn src dst i))[j]? = some u → (w.alloc (.cells #[.string src, .string dst, .int .i64 (i : Int)] 107)).cell? ((⟨w.heap.size, 0, none⟩ : Addr).add j) = some u := fun j u hu => by
  rw [add_eq, Nat.zero_add]
  simp only [World.cell?, heap_alloc_new w (.cells #[.string src, .string dst, .int .i64 (i : Int)] 107)]
  simpa [cRC, refC] using hu
theorem grown_chs {w w' : World} {vC : Value} {o : Obj} (h : (w.alloc o).grownBy w' vC.ownBlock) : Kept (fun q => vC.ownBlock = some q) w w' :=
  (((Ext.refl w).alloc o).kept _).trans ⟨h.os, h.tape, h.output, h.size, fun q hq hn => h.block q hq fun e => hn e.symm⟩ (fun _ _ h => h)

set_option maxRecDepth 100000 in
set_option maxHeartbeats 1600000 in
theorem refRename (w : World) (y : Nat) (vF vC : Value) (kc sc : Int) (D : DskS) (src dst : ByteArray) (h : RefIn w y vF vC kc sc D) (hfew : D.chs.length + 1 ≤ 2000000000000) (hq : src.size ≤ 9223372036854775807) (hqd : dst.size ≤ 9223372036854775807) :
    Calls Try.prog 17 #[.pointer (some ⟨y, 0, none⟩), .string src, .string dst] w (RefIs w y vF vC kc sc (D.rename src dst)) := by
  obtain ⟨i0, hi0, hz0, hz1, hz2⟩ := info_of infoRC
  have hbg := hide (refBegun w y vF vC kc sc D h)
  obtain ⟨b, hb⟩ : ∃ b, decide (D.due = 1) = b := ⟨_, rfl⟩
  have hact := hide (act_is (f := DskS.rename1 src dst) h.brk hb)
  have hfew2 : D.begin.chs.length + 1 ≤ 2000000000000 := hfew
  rw [hb] at hbg
  replace hact : Hid (D.rename src dst = _) := hact
  generalize D.begin = E at *
  replace h := hide h; replace hb := hide hb; replace hi0 := hide hi0
  go_enter Try.func17, Try.ntmps17
  go_wp2_with fail
  refine hbg.out.mono ?_
  rintro e1 w1 ⟨rfl, h1, K1⟩
  have K1' := hide (K1.out.mono (D' := RFoot y vF vC) (fun _ _ h => .inl h))
  go_wp2_with fail
  refine (refWord dst w1 hqd).mono ?_
  rintro e1 w1' ⟨rfl, hw1⟩
  subst hw1
  go_wp2_with fail
  refine (refIs w1' y vF vC kc sc E src h1.out (by omega) hq).mono ?_
  rintro e2 w2 ⟨rfl, X2⟩
  have h2 := hide (h1.out.ext X2.out)
  have K2 := hide (K1'.out.trans (X2.out.kept (fun _ => False)) (fun _ _ h => h.elim))
  cases hw : wordB dst.data.toList with
  | false =>
    have hr : E.rename1 src dst = (E, 11) := by unfold DskS.rename1; rw [hw]; rfl
    replace hr := hide hr; replace hw := hide hw
    go_wp2_with fail
    refine (refEnded w2 y vF vC kc sc E 11 b h2.out (by omega)).mono ?_
    rintro e3 w3 ⟨rfl, h3⟩
    go_wp2_with fail
    go_ret
    rw [hact.out, hr.out]
    exact ⟨rfl, RefTo.pre K2.out h3.out⟩
  | true =>
  cases hf : E.find src with
  | inr er =>
    have hr : E.rename1 src dst = (E, er) := by unfold DskS.rename1; rw [hw, hf]; rfl
    have hin : isN E src = er := by unfold isN; rw [hf]
    have her : (er == 0) = false := by
      rcases find_waysR E src with ⟨i, h⟩ | ⟨e, h, h'⟩
      · rw [hf] at h; cases h
      · rw [hf] at h; obtain rfl : er = e := by simpa using h
        rcases h' with rfl | rfl <;> rfl
    have her2 : ¬ er = 0 := by simpa using her
    rw [hin]
    replace hf := hide hf; replace hr := hide hr; replace hin := hide hin; replace hw := hide hw
    go_wp2_with fail
    refine (refEnded w2 y vF vC kc sc E er b h2.out (by omega)).mono ?_
    rintro e3 w3 ⟨rfl, h3⟩
    go_wp2_with fail
    go_ret
    rw [hact.out, hr.out]
    exact ⟨rfl, RefTo.pre K2.out h3.out⟩
  | inl i =>
    have hr : E.rename1 src dst = ({ E with chs := E.chs ++ [.rn src dst i] }, 0) := by unfold DskS.rename1; rw [hw, hf]; rfl
    obtain ⟨hfi, hin⟩ := file_in hf
    rw [hin]
    obtain ⟨hfi1, -, hfi2⟩ := DskS.find_in h2.out.ok hf
    have hcok : ChgS.okC E.files.length (.rn src dst i) := ⟨hfi1, hw, hfi2⟩
    obtain ⟨c0, c1, c2, c3, c4, c5, c6⟩ := seven_at h2.out.box
    obtain ⟨pc, cc, hvC⟩ := ownsRow_form h2.out.chs
    subst hvC
    have fz2 := row_frozen h2.out.box
    have hfl := refFile w2.drew y vF _ kc sc E src (h2.out.ext (Ext.refl w2).drew) (by omega)
    rw [hfi] at hfl
    replace hfl := hide hfl; replace hf := hide hf; replace hr := hide hr; replace hin := hide hin; replace hw := hide hw; replace hfi := hide hfi; replace hfi1 := hide hfi1; replace hfi2 := hide hfi2; replace hcok := hide hcok
    go_wp2_with fail
    go_region_law ((first
      | (rw [if_pos (by rfl)]; go_simp; go_at_call 48; refine hfl.out.mono ?_; rintro e3 w3 ⟨rfl, X3⟩; go_must (have X3' := hide ((Ext.refl w2).drew.trans X3.out); have h3 := h2.out.ext X3'.out; have d2 := (seven_at h3.box).2.2.1; replace h3 := hide h3; dsimp only))
      | (refine step_append_lies _ rfl (.tmp 25) (.tmp 32) 56 rfl 0 107 i0 (.agg #[.string ⟨#[]⟩, .string ⟨#[]⟩, .int .i64 0]) 3 40 Try.underlying56 hi0.out hz0 hz1 hz2 rfl (by omega) (.slice pc E.chs.length cc) E.chs.length (cellsG cRC E.chs) (by simp [Act.eval]) (h3.out.chs.alloc _) ⟨w3.heap.size, 0, none⟩ 1 1 (cRC (.rn src dst i)) (by simp [Act.eval]) rfl (newC w3 src dst i) (cRC_one _) (by omega) (by unfold maxLen; omega) (by omega) (Nat.zero_le _) (w3.heap.size + 1) (by simp) ?_; go_must (intro g5 cap5 w5 hown5 hgrow5 hat5 hlt5; have K5 := grown_chs (vC := .slice pc E.chs.length cc) (o := .cells #[.string src, .string dst, .int .i64 (i : Int)] 107) hgrow5; have P5 := K5.heap h3.out.box (fun e => h3.out.yC e rfl); have v5 := row_frozen P5; have u5 := (seven_at P5).2.2.1; replace hown5 := hide hown5; replace hgrow5 := hide hgrow5; replace hat5 := hide hat5; replace K5 := hide K5; replace P5 := hide P5))))
    all_goals
      have hT : RefTo w3 y vF (.slice pc E.chs.length cc) kc sc { E with chs := E.chs ++ [.rn src dst i] } (w5.setCell ⟨y, 2, none⟩ (.slice (some ⟨g5, 0, none⟩) (E.chs.length + 1) cap5)) := h3.out.changed hcok.out K5.out hown5.out (fun g hg => by
        obtain rfl : g5 = g := by simpa [Value.ownBlock] using hg
        rcases hat5.out with h | h
        · exact .inl h
        · right; omega)
      obtain ⟨vF', vC', hI3, KT, ft⟩ := hT
      replace hI3 := hide hI3; replace KT := hide KT; replace ft := hide ft
      go_wp2_with fail
      refine (refEnded _ y vF' vC' kc sc _ 0 b hI3.out (by simp; omega)).mono ?_
      rintro e4 w4 ⟨rfl, h4⟩
      go_wp2_with fail
      go_ret
      rw [hact.out, hr.out]
      exact ⟨rfl, RefTo.pre (K2.out.trans (X3'.out.kept (fun _ => False)) (fun _ _ h => h.elim)) (RefTo.then KT.out ft.out h4.out)⟩
end Go.Proofs.Ytpkhmgonkbpjjaa
