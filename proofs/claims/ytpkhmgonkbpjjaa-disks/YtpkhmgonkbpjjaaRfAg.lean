/-
  The reference's disk: a file is written.
-/
import Derived.Test.YtpkhmgonkbpjjaaRfAf
namespace Go.Proofs.Ytpkhmgonkbpjjaa
open Go.RowKit

attribute [local go_sem] Go.World.cell?_alloc_some
theorem cFl_str (s : ByteArray) : cFl (s.data.toList, 0) = [.string s, .int .i64 0] := rfl
/-- A file more. -/
theorem RefIn.more {w w1 : World} {y : Nat} {vF vC vF' : Value} {kc sc : Int} {D : DskS} {f : FileS} (h : RefIn w y vF vC kc sc D) (hf : f.2 ≤ f.1.length ∧ f.1.length ≤ 20000) (K : Kept (fun q => vF.ownBlock = some q) w w1) (hown : w1.ownsRow 0 105 2 vF' (D.files.length + 1) (cellsG cFl D.files ++ cFl f)) (hat : ∀ g, vF'.ownBlock = some g → vF.ownBlock = some g ∨ w.heap.size ≤ g) :
    RefIn (w1.setCell ⟨y, 1, none⟩ vF') y vF' vC kc sc { D with files := D.files ++ [f] } ∧ Kept (RFoot y vF vC) w (w1.setCell ⟨y, 1, none⟩ vF') ∧ ∀ k, RFoot y vF' vC k → RFoot y vF vC k ∨ w.heap.size ≤ k := by
  have hb1 := K.heap h.box (fun e => h.yF e rfl)
  have hb2 := set_row hb1 1 vF'
  simp only [List.setIfInBounds_toArray, List.set_cons_succ, List.set_cons_zero] at hb2
  have K2 := kept_setCell w1 ⟨y, 1, none⟩ vF'
  have hyF : ∀ g, vF'.ownBlock = some g → g ≠ y := fun g hg => by
    obtain ⟨cc, fz, h1⟩ := rowR_at hown hg
    exact tellsR h1 hb1 (by decide)
  have hC1 := rows_keptP h.chs K (fun _ hg e => h.fC e hg)
  refine ⟨⟨hb2, ?_, rows_keptP hC1 K2 (fun _ hg => h.yC hg), ⟨h.ok.room0, h.ok.room1, h.ok.last, fun c hc => (h.ok.chs c hc).mono (by simp), fun q hq => ?_⟩, h.due, h.brk, h.st⟩, ?_, fun q hq => ?_⟩
  · have h1 := rows_keptP hown K2 (fun g hg => hyF g hg)
    have e : cellsG cFl (D.files ++ [f]) = cellsG cFl D.files ++ cFl f := by simp [cellsG]
    show World.ownsRow _ _ _ _ _ (D.files ++ [f]).length (cellsG cFl (D.files ++ [f]))
    rw [e, List.length_append]
    exact h1
  · rcases List.mem_append.1 hq with hq | hq
    · exact h.ok.files q hq
    · obtain rfl : q = f := by simpa using hq
      exact hf
  · exact (K.mono (D' := RFoot y vF vC) (fun _ _ h => .inr (.inl h))).trans K2 (fun _ _ h => .inl h)
  · rcases hq with hq | hq | hq
    · exact .inl (.inl hq)
    · exact (hat q hq).imp (fun h => .inr (.inl h)) id
    · exact .inl (.inr (.inr hq))
theorem newW (w : World) (name : ByteArray) (i : Nat) : ∀ j u, (cRC (.wr name i))[j]? = some u → (w.alloc (.cells #[.string ⟨#[]⟩, .string name, .int .i64 (i : Int)] 107)).cell? ((⟨w.heap.size, 0, none⟩ : Addr).add j) = some u := fun j u hu => by
  rw [add_eq, Nat.zero_add]
  simp only [World.cell?, heap_alloc_new w (.cells #[.string ⟨#[]⟩, .string name, .int .i64 (i : Int)] 107)]
  simpa [cRC, refC] using hu
theorem grown_drew {w w' : World} {vC : Value} {o : Obj} (h : (w.alloc o).drew.grownBy w' vC.ownBlock) : Kept (fun q => vC.ownBlock = some q) w w' :=
  (((Ext.refl w).alloc o).drew.kept _).trans ⟨h.os, h.tape, h.output, h.size, fun q hq hn => h.block q hq fun e => hn e.symm⟩ (fun _ _ h => h)
theorem newFl (w : World) (s : ByteArray) : ∀ j u, (cFl (s.data.toList, 0))[j]? = some u → (w.alloc (.cells #[.string s, .int .i64 0] 105)).cell? ((⟨w.heap.size, 0, none⟩ : Addr).add j) = some u := fun j u hu => by
  rw [add_eq, Nat.zero_add]
  simp only [World.cell?, heap_alloc_new w (.cells #[.string s, .int .i64 0] 105)]
  rw [cFl_str] at hu
  simpa using hu

set_option maxRecDepth 100000 in
set_option maxHeartbeats 1600000 in
theorem refWrite (w : World) (y : Nat) (vF vC : Value) (kc sc : Int) (D : DskS) (name s : ByteArray) (h : RefIn w y vF vC kc sc D) (hfew : D.chs.length + 1 ≤ 2000000000000) (hff : D.files.length + 1 ≤ 2000000000000) (hq : name.size ≤ 9223372036854775807) (hqs : s.size ≤ 4611686018427387904) :
    Calls Try.prog 11 #[.pointer (some ⟨y, 0, none⟩), .string name, .string s] w (RefIs w y vF vC kc sc (D.write name s)) := by
  obtain ⟨i0, hi0, hz0, hz1, hz2⟩ := info_of infoRC
  obtain ⟨i1, hi1, hy0, hy1, hy2⟩ := info_of infoFl
  have hbg := hide (refBegun w y vF vC kc sc D h)
  obtain ⟨b, hb⟩ : ∃ b, decide (D.due = 1) = b := ⟨_, rfl⟩
  have hact := hide (act_is (f := DskS.write1 name s) h.brk hb)
  have hfew2 : D.begin.chs.length + 1 ≤ 2000000000000 := hfew
  have hff2 : D.begin.files.length + 1 ≤ 2000000000000 := hff
  rw [hb] at hbg
  replace hact : Hid (D.write name s = _) := hact
  generalize D.begin = E at *
  replace h := hide h; replace hb := hide hb; replace hi0 := hide hi0; replace hi1 := hide hi1
  go_enter Try.func11, Try.ntmps11
  go_wp2_with fail
  refine hbg.out.mono ?_
  rintro e1 w1 ⟨rfl, h1, K1⟩
  have K1' := hide (K1.out.mono (D' := RFoot y vF vC) (fun _ _ h => .inl h))
  go_wp2_with fail
  refine (refWord name w1 hq).mono ?_
  rintro e2 w2 ⟨rfl, hw1⟩
  subst hw1
  have h2 := h1
  have K2 := K1'
  clear h1 K1 K1'
  cases hw : wordB name.data.toList with
  | false =>
    have hr : E.write1 name s = (E, 11) := by unfold DskS.write1; rw [hw]; rfl
    replace hr := hide hr; replace hw := hide hw
    go_wp2_with fail
    refine (refEnded w2 y vF vC kc sc E 11 b h2.out (by omega)).mono ?_
    rintro e3 w3 ⟨rfl, h3⟩
    go_wp2_with fail
    go_ret
    rw [hact.out, hr.out]
    exact ⟨rfl, RefTo.pre K2.out h3.out⟩
  | true =>
    obtain ⟨c0, c1, c2, c3, c4, c5, c6⟩ := seven_at h2.out.box
    have hU := refUsed w2.drew y vF vC kc sc E name (h2.out.ext (Ext.refl w2).drew) (by omega)
    have hun : usedN E.files (dropN name E.names) ≤ 40000000000000000 := by
      have h1 := used_le (fun f hf => (h2.out.ok.files f hf).2) (dropN name E.names)
      have h3 := (dropK_sub (key := Prod.fst) name E.names).length_le
      have h2 : E.names.length ≤ E.chs.length := play_len E.chs
      have h4 := Nat.mul_le_mul_right 20000 (Nat.le_trans h3 h2)
      have h5 := Nat.le_trans h1 h4
      omega
    obtain ⟨n, hn⟩ : ∃ n, usedN E.files (dropN name E.names) = n := ⟨_, rfl⟩
    rw [hn] at hU hun
    have hroom : (E.room : Int) ≤ 20000 := by have := h2.out.ok.room1; omega
    have e1 : IntKind.i64.wrap ((n : Int) + (s.size : Int)) = ((n + s.size : Nat) : Int) := by rw [IntKind.wrap_i64]; omega
    replace hU := hide hU
    by_cases hful : E.room < n + s.size
    · have hr : E.write1 name s = (E, 13) := by unfold DskS.write1; rw [hw, hn]; simp only [if_true]; rw [if_pos hful]
      have b1 : (E.room : Int) < (n : Int) + (s.size : Int) := by omega
      have b3 : decide ((E.room : Int) < (n : Int) + (s.size : Int)) = true := by simp [b1]
      replace hr := hide hr; replace hful := hide hful; replace hn := hide hn; replace hw := hide hw
      go_wp2_with fail
      go_region_held3 (fun w' => w'.cell? ⟨y, 0, none⟩ = some (.int .i64 (E.room : Int))) (go_keep) ((go_at_call 43; refine hU.out.mono ?_; rintro e3 w3 ⟨rfl, X3⟩; go_must (have d0 := X3.out.cells c0)))
      go_wp2_with fail
      have X3' := hide ((Ext.refl w2).drew.trans X3.out)
      refine (refEnded _ y vF vC kc sc E 13 b (h2.out.ext X3'.out) (by omega)).mono ?_
      rintro e4 w4 ⟨rfl, h4⟩
      go_wp2_with fail
      go_ret
      rw [hact.out, hr.out]
      exact ⟨rfl, RefTo.pre (K2.out.trans (X3'.out.kept (fun _ => False)) (fun _ _ h => h.elim)) h4.out⟩
    · have hr : E.write1 name s = ({ E with files := E.files ++ [(s.data.toList, 0)], chs := E.chs ++ [.wr name E.files.length] }, 0) := by unfold DskS.write1; rw [hw, hn]; simp only [if_true]; rw [if_neg hful]
      have b1 : ¬ (E.room : Int) < (n : Int) + (s.size : Int) := by omega
      have b3 : decide ((E.room : Int) < (n : Int) + (s.size : Int)) = false := by simp; omega
      have hsz : s.size ≤ 20000 := by have := h2.out.ok.room1; omega
      have hfs : Hid ((s.data.toList, 0).2 ≤ (s.data.toList, 0).1.length ∧ (s.data.toList, 0).1.length ≤ 20000) := ⟨Nat.zero_le _, by simp only [Array.length_toList]; exact hsz⟩
      have hcok : Hid (ChgS.okC (E.files ++ [(s.data.toList, 0)]).length (.wr name E.files.length)) := ⟨hw, by simp⟩
      replace hr := hide hr; replace hful := hide hful; replace hn := hide hn; replace hw := hide hw
      go_wp2_with fail
      go_region_held3 (fun w' => w'.cell? ⟨y, 0, none⟩ = some (.int .i64 (E.room : Int))) (go_keep) ((go_at_call 43; refine hU.out.mono ?_; rintro e3 w3 ⟨rfl, X3⟩; go_must (have d0 := X3.out.cells c0)))
      have X3' := hide ((Ext.refl w2).drew.trans X3.out)
      have h3 := hide (h2.out.ext X3'.out)
      clear c0 c1 c2 c3 c4 c5 c6 d0 hU
      obtain ⟨c0, c1, c2, c3, c4, c5, c6⟩ := seven_at h3.out.box
      obtain ⟨pF, cF, hvF⟩ := ownsRow_form h3.out.files
      subst hvF
      obtain ⟨pc, cc, hvC⟩ := ownsRow_form h3.out.chs
      subst hvC
      go_wp2_with (at_builtin; go_must (refine wpList_append_lies _ rfl _ _ 55 rfl 0 105 i1 (.agg #[.string ⟨#[]⟩, .int .i64 0]) 2 24 Try.underlying55 hi1.out hy0 hy1 hy2 rfl (by omega) _ E.files.length (cellsG cFl E.files) rfl (h3.out.files.alloc _) ⟨w3.heap.size, 0, none⟩ 1 1 (cFl (s.data.toList, 0)) rfl rfl (newFl w3 s) (cFl_one _) (by omega) (by unfold maxLen; omega) (by omega) (Nat.zero_le _) _ rfl ?_; intro g4 cap4 w4 hown4 hgrow4 hat4 hlt4; have K4 := grown_chs (vC := .slice pF E.files.length cF) hgrow4; have P4 := K4.heap h3.out.box (fun e => h3.out.yF e rfl); have v4 := row_frozen P4; clear c0 c1 c2 c3 c4 c5 c6; obtain ⟨c0, c1, c2, c3, c4, c5, c6⟩ := seven_at P4; replace hown4 := hide hown4; replace hgrow4 := hide hgrow4; replace hat4 := hide hat4; replace K4 := hide K4; replace P4 := hide P4))
      obtain ⟨h5, K5, ft5⟩ := h3.out.more (f := (s.data.toList, 0)) hfs.out K4.out hown4.out (vF' := .slice (some ⟨g4, 0, none⟩) (E.files.length + 1) cap4) (fun g hg => by
        obtain rfl : g4 = g := by simpa [Value.ownBlock] using hg
        rcases hat4.out with h | h
        · exact .inl h
        · right; rw [h]; simp)
      generalize w4.setCell ⟨y, 1, none⟩ (.slice (some ⟨g4, 0, none⟩) (E.files.length + 1) cap4) = w5 at *
      obtain ⟨G, hG⟩ : ∃ G : DskS, G = { E with files := E.files ++ [(s.data.toList, 0)] } := ⟨_, rfl⟩
      have hGl : G.chs.length = E.chs.length := by rw [hG]
      have hGf : G.files.length = E.files.length + 1 := by rw [hG]; simp
      rw [← hG] at h5
      have hr2 : Hid ({ G with chs := G.chs ++ [.wr name E.files.length] } = (E.write1 name s).1) := by rw [hr.out, hG]; exact rfl
      have hcok2 : Hid (ChgS.okC G.files.length (.wr name E.files.length)) := by rw [hG]; exact hcok.out
      clear c0 c1 c2 c3 c4 c5 c6 v4
      obtain ⟨c0, c1, c2, c3, c4, c5, c6⟩ := seven_at h5.box
      have v5 := row_frozen h5.box
      have hrow5 := (h5.ext ((Ext.refl w5).alloc (.cells #[.string ⟨#[]⟩, .string name, .int .i64 (E.files.length : Int)] 107)).drew).chs
      rw [hGl] at hrow5
      have hbx5 := h5.box
      have hyC5 : Hid (∀ {g : Nat}, (Value.slice pc E.chs.length cc).ownBlock = some g → g ≠ y) := fun hg => h5.yC hg
      have e8 : IntKind.i64.wrap (E.files.length : Int) = (E.files.length : Int) := by rw [IntKind.wrap_i64]; omega
      replace h5 := hide h5; replace K5 := hide K5; replace ft5 := hide ft5; replace hrow5 := hide hrow5; replace hbx5 := hide hbx5; replace hG := hide hG
      go_region_law (refine step_append_lies _ rfl (.tmp 29) (.tmp 38) 56 rfl 0 107 i0 (.agg #[.string ⟨#[]⟩, .string ⟨#[]⟩, .int .i64 0]) 3 40 Try.underlying56 hi0.out hz0 hz1 hz2 rfl (by omega) (.slice pc E.chs.length cc) E.chs.length (cellsG cRC G.chs) (by simp [Act.eval]) hrow5.out ⟨w5.heap.size, 0, none⟩ 1 1 (cRC (.wr name E.files.length)) (by simp [Act.eval]) rfl (newW w5 name E.files.length) (cRC_one _) (by omega) (by unfold maxLen; omega) (by omega) (Nat.zero_le _) (w5.heap.size + 1) (by simp) ?_; intro g6 cap6 w6 hown6 hgrow6 hat6 hlt6; have K6 := grown_drew (vC := .slice pc E.chs.length cc) hgrow6; have P6 := K6.heap hbx5.out (fun e => hyC5.out e rfl); have v6 := row_frozen P6; have u6 := (seven_at P6).2.2.1; replace hown6 := hide hown6; replace hgrow6 := hide hgrow6; replace hat6 := hide hat6; replace K6 := hide K6; replace P6 := hide P6)
      all_goals
        have hT : RefTo w5 y (.slice (some ⟨g4, 0, none⟩) (E.files.length + 1) cap4) (.slice pc E.chs.length cc) kc sc { G with chs := G.chs ++ [.wr name E.files.length] } (w6.setCell ⟨y, 2, none⟩ (.slice (some ⟨g6, 0, none⟩) (E.chs.length + 1) cap6)) := h5.out.changed hcok2.out K6.out (by rw [hGl]; exact hown6.out) (fun g hg => by
          obtain rfl : g6 = g := by simpa [Value.ownBlock] using hg
          rcases hat6.out with h | h
          · exact .inl h
          · right; omega)
        obtain ⟨vF', vC', hI6, KT, ft⟩ := hT
        have hl6 : ({ G with chs := G.chs ++ [.wr name E.files.length] } : DskS).chs.length ≤ 2000000000000 := by simp only [List.length_append, List.length_singleton]; omega
        rw [hr2.out] at hI6 hl6
        replace hI6 := hide hI6; replace KT := hide KT; replace ft := hide ft; replace hl6 := hide hl6
        go_wp2_with fail
        refine (refEnded _ y vF' vC' kc sc _ 0 b hI6.out hl6.out).mono ?_
        rintro e7 w7 ⟨rfl, h7⟩
        go_wp2_with fail
        go_ret
        rw [hact.out]
        refine ⟨by rw [hr.out]; rfl, RefTo.pre (K2.out.trans (X3'.out.kept (fun _ => False)) (fun _ _ h => h.elim)) (RefTo.then K5.out ft5.out (RefTo.then KT.out ft.out h7.out))⟩
end Go.Proofs.Ytpkhmgonkbpjjaa
