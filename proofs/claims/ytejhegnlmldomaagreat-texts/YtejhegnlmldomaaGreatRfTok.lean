/-
  The reference: a text is cut into tokens.
-/
import Derived.Test.YtejhegnlmldomaaGreatJ18
namespace Go.Proofs.YtejhegnlmldomaaGreat
open Go.RowKit

set_option maxRecDepth 100000 in
set_option maxHeartbeats 3200000 in
theorem refTokens (s : ByteArray) (w : World) (hs : s.size ≤ 1000000) :
    Calls Tryz.prog 9 #[.string s] w (RCutIs w (cutL s.data.toList)) := by
  have hlen := hide (show s.data.toList.length = s.size from Array.length_toList)
  obtain ⟨i0, hi, hz0, hz1, hz2⟩ := info_of infoRTok
  replace hi := hide hi
  go_enter Tryz.func9, Tryz.ntmps9
  go_wp2_with fail
  go_loopw [5, 6] (fun v at_ wr => ∃ (f k : Nat) (acc : List Tok) (pa : Option Addr) (cap : Nat), k ≤ s.size ∧ s.size + 1 ≤ f + k ∧ acc.length ≤ k ∧ at_ = .int .i64 k ∧ v = .slice pa acc.length cap ∧ Hid (cutL s.data.toList = comb acc (cutF s.data.toList f k)) ∧ Hid (wr.ownsRow w.heap.size 50 4 (.slice pa acc.length cap) acc.length (cellsT (acc.map rTok))) ∧ Hid (Ext w wr)) (fun _ at_ _ => s.size - (intOf at_).toNat)
  case atStart =>
    exact ⟨s.size + 1, 0, [], none, 0, by omega, by omega, by simp, rfl, rfl, by show _ = _; rw [comb_nil]; unfold cutL; rw [hlen.out], World.ownsRow_nil _ _ _ _, Ext.refl _⟩
  case round =>
    obtain ⟨f, k, acc, pa, cap, hk, hf, hab, rfl, rfl, hcut, hown, hx⟩ := hrel
    by_cases hlt : k < s.size
    · obtain ⟨c, hc1, hc2⟩ := byteAt hlt
      have hss := hide (skip_step hc1)
      cases hB : isBlank c
      · have hsk0 : Hid (skipL s.data.toList k = if c = 35 then skipL s.data.toList (behindL (fun b => b != 10) s.data.toList k) else k) := by
          show _ = _
          rw [hss.out, hB]; rfl
        by_cases h35 : c = 35
        · have hskb : Hid (skipL s.data.toList k = skipL s.data.toList (behindL (fun b => b != 10) s.data.toList k)) := by
            show _ = _
            rw [hsk0.out, if_pos h35]
          replace hc1 := hide hc1; replace h35 := hide h35
          go_wp2_with fail
          refine (refBlank c _).mono ?_; rintro e w' ⟨rfl, rfl⟩
          go_wp2_with fail
          refine (refLetter c.toNat _).mono ?_; rintro e w' ⟨rfl, rfl⟩
          go_wp2_with fail
          refine (refDigit c.toNat _).mono ?_; rintro e w' ⟨rfl, rfl⟩
          have h35b : ((c.toNat : Int) == 35) = true := by rw [h35.out]; rfl
          go_wp2_with fail
          go_loop [6] (fun i => ∃ j : Nat, k ≤ j ∧ j ≤ s.size ∧ i = .int .i64 j ∧ Hid (behindL (fun b => b != 10) s.data.toList k = behindL (fun b => b != 10) s.data.toList j)) (fun i => s.size - (intOf i).toNat)
          case atStart => exact ⟨k, Nat.le_refl _, hk, rfl, rfl⟩
          case round =>
            obtain ⟨j, hkj, hj, rfl, hbe⟩ := hrel
            by_cases hjl : j < s.size
            · obtain ⟨d, hd1, hd2⟩ := byteAt hjl
              replace hd1 := hide hd1
              by_cases h10 : d = 10
              · have hfin : Hid (behindL (fun b => b != 10) s.data.toList k = j) := hbe.out.trans (behind_no (fun x hx => by rw [hd1.out] at hx; cases hx; simp [h10]))
                have h10b : ((d.toNat : Int) != 10) = false := by rw [h10]; rfl
                have hkj2 : Hid (k < j) := by
                  show k < j
                  rcases Nat.lt_or_ge k j with h | h
                  · exact h
                  · exfalso
                    obtain rfl : j = k := by omega
                    have := hc1.out.symm.trans hd1.out
                    cases this
                    have := h35.out; rw [h10] at this; cases this
                replace h10 := hide h10
                go_wp2_with fail
                go_roundw
                case rel => exact ⟨f, j, acc, pa, cap, by omega, by omega, by omega, by go_num, rfl, by show _ = _; rw [hcut.out]; congr 1; exact cutF_skip (by rw [hskb.out, hfin.out]) f, hown, hx⟩
                case measure => have := hkj2.out; simp [intOf]; omega
              · have h10b : ((d.toNat : Int) != 10) = true := by
                  have : ¬ (d.toNat : Int) = 10 := fun h => h10 (UInt8.toNat_inj.1 (by show d.toNat = 10; omega))
                  simpa using this
                have hn := hide (hbe.out.trans (behind_yes (p := fun b => b != 10) hd1.out (by simpa using h10)))
                replace h10 := hide h10
                go_wp2_with fail
                go_round
                case rel => exact ⟨j + 1, by omega, by omega, by go_num, hn⟩
                case measure => simp [intOf]; omega
            · have hfin : Hid (behindL (fun b => b != 10) s.data.toList k = j) := hbe.out.trans (behind_no (fun x hx => absurd (List.getElem?_eq_some_iff.1 hx).1 (by rw [hlen.out]; omega)))
              go_wp2_with fail
              go_roundw
              case rel => exact ⟨f, j, acc, pa, cap, by omega, by omega, by omega, by go_num, rfl, by show _ = _; rw [hcut.out]; congr 1; exact cutF_skip (by rw [hskb.out, hfin.out]) f, hown, hx⟩
              case measure => simp [intOf]; omega
        · have hsk : Hid (skipL s.data.toList k = k) := by
            show _ = _
            rw [hsk0.out, if_neg h35]
          have h35b : Hid (((c.toNat : Int) == 35) = false) := by
            show _ = _
            have : ¬ (c.toNat : Int) = 35 := fun h => h35 (UInt8.toNat_inj.1 (by show c.toNat = 35; omega))
            simpa using this
          obtain ⟨f', rfl⟩ : ∃ f', f = f' + 1 := ⟨f - 1, by omega⟩
          replace hf : s.size + 1 ≤ f' + (k + 1) := by omega
          cases hL : isLetterB (c.toNat : Int)
          · by_cases hN : (isDigitB (c.toNat : Int) || c == 45) = true
            · cases hD : isDigitB (c.toNat : Int)
              · have h45 : c = 45 := by rw [hD] at hN; simpa using hN
                have h45b : Hid (((c.toNat : Int) == 45) = true) := by show _ = _; rw [h45]; rfl
                replace h45 := hide h45
                have htk : Hid (tokL s.data.toList k c = if digitsOk (numL s.data.toList (if c = 45 then k + 1 else k)) then .inl (⟨2, k, ⟨#[]⟩, (if c = 45 then -1 else 1) * (valN (numL s.data.toList (if c = 45 then k + 1 else k)) : Int)⟩, behindL (fun b => isDigitB b.toNat) s.data.toList (if c = 45 then k + 1 else k)) else .inr 4) := by
                  show _ = _
                  unfold tokL; rw [hL, if_neg (by decide), if_pos hN]; rfl
                have hle : Hid (k < behindL (fun b => isDigitB b.toNat) s.data.toList (if c = 45 then k + 1 else k) ∨ digitsOk (numL s.data.toList (if c = 45 then k + 1 else k)) = false) := by
                  show _ ∨ _
                  cases ho : digitsOk (numL s.data.toList (if c = 45 then k + 1 else k))
                  · exact .inr rfl
                  · exact .inl (tok_at hc1 (htk.out.trans (by rw [ho]; rfl))).2.1
                have hle2 := hide (fun ho : digitsOk (numL s.data.toList (if c = 45 then k + 1 else k)) = true => (tok_at hc1 (htk.out.trans (by rw [ho]; rfl))).2.2.1)
                have hrn := hide (fun w => refNumber s k c w hs hlt hc2)
                generalize (if c = 45 then k + 1 else k) = fr at *
                generalize (if c = 45 then (-1 : Int) else 1) = sg at *
                replace hc1 := hide hc1; replace h35 := hide h35; replace hN := hide hN
                go_wp2_with fail
                refine (refBlank c _).mono ?_; rintro e w' ⟨rfl, rfl⟩
                go_wp2_with fail
                refine (refLetter c.toNat _).mono ?_; rintro e w' ⟨rfl, rfl⟩
                go_wp2_with fail
                refine (refDigit c.toNat _).mono ?_; rintro e w' ⟨rfl, rfl⟩
                have h35c := h35b.out
                have h45c := h45b.out
                go_wp2_with fail
                refine (hrn.out _).mono ?_; rintro e w' ⟨n, rfl, hnv, rfl⟩
                generalize hbv : behindL (fun b => isDigitB b.toNat) s.data.toList fr = b at *
                cases ho : digitsOk (numL s.data.toList fr)
                · have hfin2 : Hid (cutL s.data.toList = ([], (4, k))) := by
                    show _ = _
                    rw [hcut.out, comb_bad (c := c) (e := 4) (by rw [hsk.out]; exact hc1.out) (by rw [hsk.out, htk.out, ho]; rfl) (by decide), hsk.out]
                  go_wp2_with fail
                  go_ret3
                  rw [hfin2.out]
                  exact ⟨hx, none, 0, rfl, World.ownsRow_nil _ _ _ _⟩
                · have hkb : k < b := hle.out.resolve_right (by rw [ho]; decide)
                  have hbs : b ≤ s.size := by have := hle2.out ho; rw [hlen.out] at this; exact this
                  have hstep : Hid (cutL s.data.toList = comb (acc ++ [⟨2, k, ⟨#[]⟩, n⟩]) (cutF s.data.toList f' b)) := by
                    show _ = _
                    rw [hcut.out, comb_step (c := c) (b := b) (t := ⟨2, k, ⟨#[]⟩, n⟩) (by rw [hsk.out]; exact hc1.out) (by rw [hsk.out, htk.out, ho, hnv.out ho]; rfl)]
                  have htr : Hid (rTok ⟨2, k, ⟨#[]⟩, n⟩ = ⟨2, k, ⟨#[]⟩, n⟩) := rfl
                  replace hbv := hide hbv
                  have hsz := hide (Ext.size hx.out)
                  go_wp2_with (at_builtin; go_must (refine wpList_append_lies _ rfl _ _ 41 rfl w.heap.size 50 i0 (.agg #[.int .i64 0, .int .i64 0, .string ⟨#[]⟩, .int .i64 0]) 4 40 Tryz.underlying41 hi.out hz0 hz1 hz2 rfl (by omega) _ acc.length (cellsT (acc.map rTok)) rfl (hown.out.alloc _) ⟨w'.heap.size, 0, none⟩ 1 1 (cTk (⟨2, k, ⟨#[]⟩, n⟩)) rfl rfl ?_ cTk_one (by omega) (by unfold maxLen; omega) (by omega) (by have := hsz.out; simp; omega) (w'.heap.size + 1) (by simp) ?_; (intro j u hu; rw [add_eq]; (match j, hu with | 0, hu => (simp [cTk] at hu; subst hu; simp [go_sem]) | 1, hu => (simp [cTk] at hu; subst hu; simp [go_sem]) | 2, hu => (simp [cTk] at hu; subst hu; simp [go_sem]) | 3, hu => (simp [cTk] at hu; subst hu; simp [go_sem]) | _ + 4, hu => (simp [cTk] at hu))); intro g1 cap1 w3 hown3 hgrow3 hat3 hlt3))
                  have hx3 : Ext w w3 := ((Wrote.ext (B := w.heap.size) (T := (· = 50)) hx.out).grownAt hown.out rfl hgrow3).toExt
                  have hl : (acc ++ [(⟨2, k, ⟨#[]⟩, n⟩ : Tok)]).length = acc.length + 1 := by simp
                  go_roundw
                  case rel =>
                    refine ⟨f', b, acc ++ [⟨2, k, ⟨#[]⟩, n⟩], some ⟨g1, 0, none⟩, cap1, by omega, by omega, by rw [hl]; omega, by go_num, by rw [hl], hstep, ?_, hx3⟩
                    show World.ownsRow _ _ _ _ _ _ _
                    rw [hl, List.map_append, List.map_cons, List.map_nil, htr.out, cellsT_app]; exact hown3
                  case measure => simp [intOf]; omega
              · have htk : Hid (tokL s.data.toList k c = if digitsOk (numL s.data.toList (if c = 45 then k + 1 else k)) then .inl (⟨2, k, ⟨#[]⟩, (if c = 45 then -1 else 1) * (valN (numL s.data.toList (if c = 45 then k + 1 else k)) : Int)⟩, behindL (fun b => isDigitB b.toNat) s.data.toList (if c = 45 then k + 1 else k)) else .inr 4) := by
                  show _ = _
                  unfold tokL; rw [hL, if_neg (by decide), if_pos hN]; rfl
                have hle : Hid (k < behindL (fun b => isDigitB b.toNat) s.data.toList (if c = 45 then k + 1 else k) ∨ digitsOk (numL s.data.toList (if c = 45 then k + 1 else k)) = false) := by
                  show _ ∨ _
                  cases ho : digitsOk (numL s.data.toList (if c = 45 then k + 1 else k))
                  · exact .inr rfl
                  · exact .inl (tok_at hc1 (htk.out.trans (by rw [ho]; rfl))).2.1
                have hle2 := hide (fun ho : digitsOk (numL s.data.toList (if c = 45 then k + 1 else k)) = true => (tok_at hc1 (htk.out.trans (by rw [ho]; rfl))).2.2.1)
                have hrn := hide (fun w => refNumber s k c w hs hlt hc2)
                generalize (if c = 45 then k + 1 else k) = fr at *
                generalize (if c = 45 then (-1 : Int) else 1) = sg at *
                replace hc1 := hide hc1; replace h35 := hide h35; replace hN := hide hN
                go_wp2_with fail
                refine (refBlank c _).mono ?_; rintro e w' ⟨rfl, rfl⟩
                go_wp2_with fail
                refine (refLetter c.toNat _).mono ?_; rintro e w' ⟨rfl, rfl⟩
                go_wp2_with fail
                refine (refDigit c.toNat _).mono ?_; rintro e w' ⟨rfl, rfl⟩
                have h35c := h35b.out
                go_wp2_with fail
                refine (hrn.out _).mono ?_; rintro e w' ⟨n, rfl, hnv, rfl⟩
                generalize hbv : behindL (fun b => isDigitB b.toNat) s.data.toList fr = b at *
                cases ho : digitsOk (numL s.data.toList fr)
                · have hfin2 : Hid (cutL s.data.toList = ([], (4, k))) := by
                    show _ = _
                    rw [hcut.out, comb_bad (c := c) (e := 4) (by rw [hsk.out]; exact hc1.out) (by rw [hsk.out, htk.out, ho]; rfl) (by decide), hsk.out]
                  go_wp2_with fail
                  go_ret3
                  rw [hfin2.out]
                  exact ⟨hx, none, 0, rfl, World.ownsRow_nil _ _ _ _⟩
                · have hkb : k < b := hle.out.resolve_right (by rw [ho]; decide)
                  have hbs : b ≤ s.size := by have := hle2.out ho; rw [hlen.out] at this; exact this
                  have hstep : Hid (cutL s.data.toList = comb (acc ++ [⟨2, k, ⟨#[]⟩, n⟩]) (cutF s.data.toList f' b)) := by
                    show _ = _
                    rw [hcut.out, comb_step (c := c) (b := b) (t := ⟨2, k, ⟨#[]⟩, n⟩) (by rw [hsk.out]; exact hc1.out) (by rw [hsk.out, htk.out, ho, hnv.out ho]; rfl)]
                  have htr : Hid (rTok ⟨2, k, ⟨#[]⟩, n⟩ = ⟨2, k, ⟨#[]⟩, n⟩) := rfl
                  replace hbv := hide hbv
                  have hsz := hide (Ext.size hx.out)
                  go_wp2_with (at_builtin; go_must (refine wpList_append_lies _ rfl _ _ 41 rfl w.heap.size 50 i0 (.agg #[.int .i64 0, .int .i64 0, .string ⟨#[]⟩, .int .i64 0]) 4 40 Tryz.underlying41 hi.out hz0 hz1 hz2 rfl (by omega) _ acc.length (cellsT (acc.map rTok)) rfl (hown.out.alloc _) ⟨w'.heap.size, 0, none⟩ 1 1 (cTk (⟨2, k, ⟨#[]⟩, n⟩)) rfl rfl ?_ cTk_one (by omega) (by unfold maxLen; omega) (by omega) (by have := hsz.out; simp; omega) (w'.heap.size + 1) (by simp) ?_; (intro j u hu; rw [add_eq]; (match j, hu with | 0, hu => (simp [cTk] at hu; subst hu; simp [go_sem]) | 1, hu => (simp [cTk] at hu; subst hu; simp [go_sem]) | 2, hu => (simp [cTk] at hu; subst hu; simp [go_sem]) | 3, hu => (simp [cTk] at hu; subst hu; simp [go_sem]) | _ + 4, hu => (simp [cTk] at hu))); intro g1 cap1 w3 hown3 hgrow3 hat3 hlt3))
                  have hx3 : Ext w w3 := ((Wrote.ext (B := w.heap.size) (T := (· = 50)) hx.out).grownAt hown.out rfl hgrow3).toExt
                  have hl : (acc ++ [(⟨2, k, ⟨#[]⟩, n⟩ : Tok)]).length = acc.length + 1 := by simp
                  go_roundw
                  case rel =>
                    refine ⟨f', b, acc ++ [⟨2, k, ⟨#[]⟩, n⟩], some ⟨g1, 0, none⟩, cap1, by omega, by omega, by rw [hl]; omega, by go_num, by rw [hl], hstep, ?_, hx3⟩
                    show World.ownsRow _ _ _ _ _ _ _
                    rw [hl, List.map_append, List.map_cons, List.map_nil, htr.out, cellsT_app]; exact hown3
                  case measure => simp [intOf]; omega
            · have hD : isDigitB (c.toNat : Int) = false := by
                cases h : isDigitB (c.toNat : Int)
                · rfl
                · exact absurd (by rw [h]; rfl) hN
              by_cases h34 : c = 34
              · have hci : Hid (((c.toNat : Int) == 34) = true) := by show _ = _; rw [h34]; rfl
                have hcn : Hid (((c.toNat : Int) == 45) = false) := by show _ = _; rw [h34]; rfl
                have htk : Hid (tokL s.data.toList k c = match strL s.data.toList (k + 1) with
                    | none => .inr 3
                    | some (m, e) => if m.length ≤ 20 then .inl (⟨3, k, baOf m, 0⟩, e + 1) else .inr 3) := by
                  show _ = _
                  unfold tokL; rw [hL, if_neg (by decide), if_neg hN, if_pos h34]; rfl
                have hle := hide (fun (t : Tok) (b : Nat) (ht : tokL s.data.toList k c = .inl (t, b)) => tok_at hc1 ht)
                have hrq := hide (fun w => refQuoted s k w hs hlt)
                replace hc1 := hide hc1; replace h35 := hide h35; replace hN := hide hN; replace h34 := hide h34
                go_wp2_with fail
                refine (refBlank c _).mono ?_; rintro e w' ⟨rfl, rfl⟩
                go_wp2_with fail
                refine (refLetter c.toNat _).mono ?_; rintro e w' ⟨rfl, rfl⟩
                go_wp2_with fail
                refine (refDigit c.toNat _).mono ?_; rintro e w' ⟨rfl, rfl⟩
                have h35c := h35b.out
                have hcn2 := hcn.out
                have hci2 := hci.out
                go_wp2_with fail
                refine (hrq.out _).mono ?_; rintro e w5 ⟨rfl, he5⟩
                have hown5 := hide (ownsRow_wr (D := fun _ _ => False) hown.out (Wr.ext he5) fun _ _ _ => id)
                have hx5 := hide (hx.out.trans he5)
                clear hown hx he5
                obtain ⟨w', rfl⟩ : ∃ w' : World, w' = w5 := ⟨_, rfl⟩
                have hown := hown5; have hx := hx5
                clear hown5 hx5
                cases hsr : strL s.data.toList (k + 1) with
                | none =>
                  have hfin2 : Hid (cutL s.data.toList = ([], (3, k))) := by
                    show _ = _
                    rw [hcut.out, comb_bad (c := c) (e := 3) (by rw [hsk.out]; exact hc1.out) (by rw [hsk.out, htk.out, hsr]) (by decide), hsk.out]
                  replace hsr := hide hsr
                  have hne : (strA (none : Option (List UInt8 × Nat))).2 = -1 := rfl
                  rw [hne]
                  go_wp2_with fail
                  go_ret3
                  rw [hfin2.out]
                  exact ⟨hx, none, 0, rfl, World.ownsRow_nil _ _ _ _⟩
                | some r =>
                  obtain ⟨m, b⟩ := r
                  by_cases h20 : m.length ≤ 20
                  · have hsa : strA (some (m, b)) = (m, (b : Int) + 1) := by unfold strA; dsimp only; rw [if_pos h20]
                    have htk2 : tokL s.data.toList k c = .inl (⟨3, k, baOf m, 0⟩, b + 1) := by rw [htk.out, hsr]; dsimp only; rw [if_pos h20]
                    have hat := hle.out _ _ htk2
                    have hkb : k < b + 1 := hat.2.1
                    have hbs : b + 1 ≤ s.size := by have := hat.2.2.1; rw [hlen.out] at this; exact this
                    have hstep : Hid (cutL s.data.toList = comb (acc ++ [⟨3, k, baOf m, 0⟩]) (cutF s.data.toList f' (b + 1))) := by
                      show _ = _
                      rw [hcut.out, comb_step (c := c) (b := b + 1) (t := ⟨3, k, baOf m, 0⟩) (by rw [hsk.out]; exact hc1.out) (by rw [hsk.out, htk2])]
                    have htr : Hid (rTok ⟨3, k, baOf m, 0⟩ = ⟨3, k, baOf m, 0⟩) := rfl
                    rw [hsa]
                    have hbn : ¬ (b : Int) + 1 < 0 := by omega
                    generalize baOf m = bm at *
                    replace hsr := hide hsr; replace htk2 := hide htk2; replace hat := hide hat; replace hsa := hide hsa; replace h20 := hide h20
                    have hsz := hide (Ext.size hx.out)
                    go_wp2_with (at_builtin; go_must (refine wpList_append_lies _ rfl _ _ 41 rfl w.heap.size 50 i0 (.agg #[.int .i64 0, .int .i64 0, .string ⟨#[]⟩, .int .i64 0]) 4 40 Tryz.underlying41 hi.out hz0 hz1 hz2 rfl (by omega) _ acc.length (cellsT (acc.map rTok)) rfl (hown.out.alloc _) ⟨w'.heap.size, 0, none⟩ 1 1 (cTk (⟨3, k, bm, 0⟩)) rfl rfl ?_ cTk_one (by omega) (by unfold maxLen; omega) (by omega) (by have := hsz.out; simp; omega) (w'.heap.size + 1) (by simp) ?_; (intro j u hu; rw [add_eq]; (match j, hu with | 0, hu => (simp [cTk] at hu; subst hu; simp [go_sem]) | 1, hu => (simp [cTk] at hu; subst hu; simp [go_sem]) | 2, hu => (simp [cTk] at hu; subst hu; simp [go_sem]) | 3, hu => (simp [cTk] at hu; subst hu; simp [go_sem]) | _ + 4, hu => (simp [cTk] at hu))); intro g1 cap1 w3 hown3 hgrow3 hat3 hlt3))
                    have hx3 : Ext w w3 := ((Wrote.ext (B := w.heap.size) (T := (· = 50)) hx.out).grownAt hown.out rfl hgrow3).toExt
                    have hl : (acc ++ [(⟨3, k, bm, 0⟩ : Tok)]).length = acc.length + 1 := by simp
                    go_roundw
                    case rel =>
                      refine ⟨f', b + 1, acc ++ [⟨3, k, bm, 0⟩], some ⟨g1, 0, none⟩, cap1, by omega, by omega, by rw [hl]; omega, by go_num, by rw [hl], hstep, ?_, hx3⟩
                      show World.ownsRow _ _ _ _ _ _ _
                      rw [hl, List.map_append, List.map_cons, List.map_nil, htr.out, cellsT_app]; exact hown3
                    case measure => simp [intOf]; omega
                  · have hsa : strA (some (m, b)) = ([], -1) := by unfold strA; dsimp only; rw [if_neg h20]
                    have hfin2 : Hid (cutL s.data.toList = ([], (3, k))) := by
                      show _ = _
                      rw [hcut.out, comb_bad (c := c) (e := 3) (by rw [hsk.out]; exact hc1.out) (by rw [hsk.out, htk.out, hsr]; dsimp only; rw [if_neg h20]) (by decide), hsk.out]
                    rw [hsa]
                    replace hsr := hide hsr; replace hsa := hide hsa; replace h20 := hide h20
                    go_wp2_with fail
                    go_ret3
                    rw [hfin2.out]
                    exact ⟨hx, none, 0, rfl, World.ownsRow_nil _ _ _ _⟩
              · have hn45 : Hid (((c.toNat : Int) == 45) = false) := by
                  show _ = _
                  have h45 : ¬ c = 45 := fun h => hN (by rw [h]; rfl)
                  have : ¬ (c.toNat : Int) = 45 := fun h => h45 (UInt8.toNat_inj.1 (by show c.toNat = 45; omega))
                  simpa using this
                have hn34 : Hid (((c.toNat : Int) == 34) = false) := by
                  show _ = _
                  have : ¬ (c.toNat : Int) = 34 := fun h => h34 (UInt8.toNat_inj.1 (by show c.toNat = 34; omega))
                  simpa using this
                by_cases g123 : c = 123
                · have q123 : Hid (((c.toNat : Int) == 123) = true) := by show _ = _; rw [g123]; rfl
                  have hstep : Hid (cutL s.data.toList = comb (acc ++ [⟨4, k, ⟨#[]⟩, 0⟩]) (cutF s.data.toList f' (k + 1))) := by
                    show _ = _
                    rw [hcut.out, comb_step (c := c) (b := k + 1) (t := ⟨4, k, ⟨#[]⟩, 0⟩) (by rw [hsk.out]; exact hc1) (by rw [hsk.out]; unfold tokL; rw [hL, if_neg (by decide), if_neg hN, if_neg h34, g123]; rfl)]
                  have htr : Hid (rTok ⟨4, k, ⟨#[]⟩, 0⟩ = ⟨4, k, s.extract k (k + 1), 0⟩) := by
                    show _ = _
                    rw [ex_ba s (Nat.le_succ k), drop_two hc1, show k + 1 - k = 1 by omega, g123]; rfl
                  replace hc1 := hide hc1; replace h35 := hide h35; replace hN := hide hN; replace h34 := hide h34; replace g123 := hide g123
                  go_wp2_with fail
                  refine (refBlank c _).mono ?_; rintro e w' ⟨rfl, rfl⟩
                  go_wp2_with fail
                  refine (refLetter c.toNat _).mono ?_; rintro e w' ⟨rfl, rfl⟩
                  go_wp2_with fail
                  refine (refDigit c.toNat _).mono ?_; rintro e w' ⟨rfl, rfl⟩
                  have h35c := h35b.out
                  have z45 := hn45.out; have z34 := hn34.out; have z123 := q123.out
                  have hsz := hide (Ext.size hx.out)
                  go_wp2_with (at_builtin; go_must (refine wpList_append_lies _ rfl _ _ 41 rfl w.heap.size 50 i0 (.agg #[.int .i64 0, .int .i64 0, .string ⟨#[]⟩, .int .i64 0]) 4 40 Tryz.underlying41 hi.out hz0 hz1 hz2 rfl (by omega) _ acc.length (cellsT (acc.map rTok)) rfl (hown.out.alloc _) ⟨w'.heap.size, 0, none⟩ 1 1 (cTk (⟨4, k, s.extract k (k + 1), 0⟩)) rfl rfl ?_ cTk_one (by omega) (by unfold maxLen; omega) (by omega) (by have := hsz.out; simp; omega) (w'.heap.size + 1) (by simp) ?_; (intro j u hu; rw [add_eq]; (match j, hu with | 0, hu => (simp [cTk] at hu; subst hu; simp [go_sem]) | 1, hu => (simp [cTk] at hu; subst hu; simp [go_sem]) | 2, hu => (simp [cTk] at hu; subst hu; simp [go_sem]) | 3, hu => (simp [cTk] at hu; subst hu; simp [go_sem]) | _ + 4, hu => (simp [cTk] at hu))); intro g1 cap1 w3 hown3 hgrow3 hat3 hlt3))
                  have hx3 : Ext w w3 := ((Wrote.ext (B := w.heap.size) (T := (· = 50)) hx.out).grownAt hown.out rfl hgrow3).toExt
                  have hl : (acc ++ [(⟨4, k, ⟨#[]⟩, 0⟩ : Tok)]).length = acc.length + 1 := by simp
                  go_roundw
                  case rel =>
                    refine ⟨f', k + 1, acc ++ [⟨4, k, ⟨#[]⟩, 0⟩], some ⟨g1, 0, none⟩, cap1, by omega, by omega, by rw [hl]; omega, by go_num, by rw [hl], hstep, ?_, hx3⟩
                    show World.ownsRow _ _ _ _ _ _ _
                    rw [hl, List.map_append, List.map_cons, List.map_nil, htr.out, cellsT_app]; exact hown3
                  case measure => simp [intOf]; omega
                · have q123 : Hid (((c.toNat : Int) == 123) = false) := by show _ = _; have : ¬ (c.toNat : Int) = 123 := fun h => g123 (UInt8.toNat_inj.1 (by show c.toNat = 123; omega)); simpa using this
                  by_cases g125 : c = 125
                  · have q125 : Hid (((c.toNat : Int) == 125) = true) := by show _ = _; rw [g125]; rfl
                    have hstep : Hid (cutL s.data.toList = comb (acc ++ [⟨5, k, ⟨#[]⟩, 0⟩]) (cutF s.data.toList f' (k + 1))) := by
                      show _ = _
                      rw [hcut.out, comb_step (c := c) (b := k + 1) (t := ⟨5, k, ⟨#[]⟩, 0⟩) (by rw [hsk.out]; exact hc1) (by rw [hsk.out]; unfold tokL; rw [hL, if_neg (by decide), if_neg hN, if_neg h34, g125]; rfl)]
                    have htr : Hid (rTok ⟨5, k, ⟨#[]⟩, 0⟩ = ⟨4, k, s.extract k (k + 1), 0⟩) := by
                      show _ = _
                      rw [ex_ba s (Nat.le_succ k), drop_two hc1, show k + 1 - k = 1 by omega, g125]; rfl
                    replace hc1 := hide hc1; replace h35 := hide h35; replace hN := hide hN; replace h34 := hide h34; replace g125 := hide g125; replace g123 := hide g123
                    go_wp2_with fail
                    refine (refBlank c _).mono ?_; rintro e w' ⟨rfl, rfl⟩
                    go_wp2_with fail
                    refine (refLetter c.toNat _).mono ?_; rintro e w' ⟨rfl, rfl⟩
                    go_wp2_with fail
                    refine (refDigit c.toNat _).mono ?_; rintro e w' ⟨rfl, rfl⟩
                    have h35c := h35b.out
                    have z45 := hn45.out; have z34 := hn34.out; have z125 := q125.out
                    have z123 := q123.out
                    have hsz := hide (Ext.size hx.out)
                    go_wp2_with (at_builtin; go_must (refine wpList_append_lies _ rfl _ _ 41 rfl w.heap.size 50 i0 (.agg #[.int .i64 0, .int .i64 0, .string ⟨#[]⟩, .int .i64 0]) 4 40 Tryz.underlying41 hi.out hz0 hz1 hz2 rfl (by omega) _ acc.length (cellsT (acc.map rTok)) rfl (hown.out.alloc _) ⟨w'.heap.size, 0, none⟩ 1 1 (cTk (⟨4, k, s.extract k (k + 1), 0⟩)) rfl rfl ?_ cTk_one (by omega) (by unfold maxLen; omega) (by omega) (by have := hsz.out; simp; omega) (w'.heap.size + 1) (by simp) ?_; (intro j u hu; rw [add_eq]; (match j, hu with | 0, hu => (simp [cTk] at hu; subst hu; simp [go_sem]) | 1, hu => (simp [cTk] at hu; subst hu; simp [go_sem]) | 2, hu => (simp [cTk] at hu; subst hu; simp [go_sem]) | 3, hu => (simp [cTk] at hu; subst hu; simp [go_sem]) | _ + 4, hu => (simp [cTk] at hu))); intro g1 cap1 w3 hown3 hgrow3 hat3 hlt3))
                    have hx3 : Ext w w3 := ((Wrote.ext (B := w.heap.size) (T := (· = 50)) hx.out).grownAt hown.out rfl hgrow3).toExt
                    have hl : (acc ++ [(⟨5, k, ⟨#[]⟩, 0⟩ : Tok)]).length = acc.length + 1 := by simp
                    go_roundw
                    case rel =>
                      refine ⟨f', k + 1, acc ++ [⟨5, k, ⟨#[]⟩, 0⟩], some ⟨g1, 0, none⟩, cap1, by omega, by omega, by rw [hl]; omega, by go_num, by rw [hl], hstep, ?_, hx3⟩
                      show World.ownsRow _ _ _ _ _ _ _
                      rw [hl, List.map_append, List.map_cons, List.map_nil, htr.out, cellsT_app]; exact hown3
                    case measure => simp [intOf]; omega
                  · have q125 : Hid (((c.toNat : Int) == 125) = false) := by show _ = _; have : ¬ (c.toNat : Int) = 125 := fun h => g125 (UInt8.toNat_inj.1 (by show c.toNat = 125; omega)); simpa using this
                    by_cases g91 : c = 91
                    · have q91 : Hid (((c.toNat : Int) == 91) = true) := by show _ = _; rw [g91]; rfl
                      have hstep : Hid (cutL s.data.toList = comb (acc ++ [⟨6, k, ⟨#[]⟩, 0⟩]) (cutF s.data.toList f' (k + 1))) := by
                        show _ = _
                        rw [hcut.out, comb_step (c := c) (b := k + 1) (t := ⟨6, k, ⟨#[]⟩, 0⟩) (by rw [hsk.out]; exact hc1) (by rw [hsk.out]; unfold tokL; rw [hL, if_neg (by decide), if_neg hN, if_neg h34, g91]; rfl)]
                      have htr : Hid (rTok ⟨6, k, ⟨#[]⟩, 0⟩ = ⟨4, k, s.extract k (k + 1), 0⟩) := by
                        show _ = _
                        rw [ex_ba s (Nat.le_succ k), drop_two hc1, show k + 1 - k = 1 by omega, g91]; rfl
                      replace hc1 := hide hc1; replace h35 := hide h35; replace hN := hide hN; replace h34 := hide h34; replace g91 := hide g91; replace g123 := hide g123; replace g125 := hide g125
                      go_wp2_with fail
                      refine (refBlank c _).mono ?_; rintro e w' ⟨rfl, rfl⟩
                      go_wp2_with fail
                      refine (refLetter c.toNat _).mono ?_; rintro e w' ⟨rfl, rfl⟩
                      go_wp2_with fail
                      refine (refDigit c.toNat _).mono ?_; rintro e w' ⟨rfl, rfl⟩
                      have h35c := h35b.out
                      have z45 := hn45.out; have z34 := hn34.out; have z91 := q91.out
                      have z123 := q123.out
                      have z125 := q125.out
                      have hsz := hide (Ext.size hx.out)
                      go_wp2_with (at_builtin; go_must (refine wpList_append_lies _ rfl _ _ 41 rfl w.heap.size 50 i0 (.agg #[.int .i64 0, .int .i64 0, .string ⟨#[]⟩, .int .i64 0]) 4 40 Tryz.underlying41 hi.out hz0 hz1 hz2 rfl (by omega) _ acc.length (cellsT (acc.map rTok)) rfl (hown.out.alloc _) ⟨w'.heap.size, 0, none⟩ 1 1 (cTk (⟨4, k, s.extract k (k + 1), 0⟩)) rfl rfl ?_ cTk_one (by omega) (by unfold maxLen; omega) (by omega) (by have := hsz.out; simp; omega) (w'.heap.size + 1) (by simp) ?_; (intro j u hu; rw [add_eq]; (match j, hu with | 0, hu => (simp [cTk] at hu; subst hu; simp [go_sem]) | 1, hu => (simp [cTk] at hu; subst hu; simp [go_sem]) | 2, hu => (simp [cTk] at hu; subst hu; simp [go_sem]) | 3, hu => (simp [cTk] at hu; subst hu; simp [go_sem]) | _ + 4, hu => (simp [cTk] at hu))); intro g1 cap1 w3 hown3 hgrow3 hat3 hlt3))
                      have hx3 : Ext w w3 := ((Wrote.ext (B := w.heap.size) (T := (· = 50)) hx.out).grownAt hown.out rfl hgrow3).toExt
                      have hl : (acc ++ [(⟨6, k, ⟨#[]⟩, 0⟩ : Tok)]).length = acc.length + 1 := by simp
                      go_roundw
                      case rel =>
                        refine ⟨f', k + 1, acc ++ [⟨6, k, ⟨#[]⟩, 0⟩], some ⟨g1, 0, none⟩, cap1, by omega, by omega, by rw [hl]; omega, by go_num, by rw [hl], hstep, ?_, hx3⟩
                        show World.ownsRow _ _ _ _ _ _ _
                        rw [hl, List.map_append, List.map_cons, List.map_nil, htr.out, cellsT_app]; exact hown3
                      case measure => simp [intOf]; omega
                    · have q91 : Hid (((c.toNat : Int) == 91) = false) := by show _ = _; have : ¬ (c.toNat : Int) = 91 := fun h => g91 (UInt8.toNat_inj.1 (by show c.toNat = 91; omega)); simpa using this
                      by_cases g93 : c = 93
                      · have q93 : Hid (((c.toNat : Int) == 93) = true) := by show _ = _; rw [g93]; rfl
                        have hstep : Hid (cutL s.data.toList = comb (acc ++ [⟨7, k, ⟨#[]⟩, 0⟩]) (cutF s.data.toList f' (k + 1))) := by
                          show _ = _
                          rw [hcut.out, comb_step (c := c) (b := k + 1) (t := ⟨7, k, ⟨#[]⟩, 0⟩) (by rw [hsk.out]; exact hc1) (by rw [hsk.out]; unfold tokL; rw [hL, if_neg (by decide), if_neg hN, if_neg h34, g93]; rfl)]
                        have htr : Hid (rTok ⟨7, k, ⟨#[]⟩, 0⟩ = ⟨4, k, s.extract k (k + 1), 0⟩) := by
                          show _ = _
                          rw [ex_ba s (Nat.le_succ k), drop_two hc1, show k + 1 - k = 1 by omega, g93]; rfl
                        replace hc1 := hide hc1; replace h35 := hide h35; replace hN := hide hN; replace h34 := hide h34; replace g93 := hide g93; replace g123 := hide g123; replace g125 := hide g125; replace g91 := hide g91
                        go_wp2_with fail
                        refine (refBlank c _).mono ?_; rintro e w' ⟨rfl, rfl⟩
                        go_wp2_with fail
                        refine (refLetter c.toNat _).mono ?_; rintro e w' ⟨rfl, rfl⟩
                        go_wp2_with fail
                        refine (refDigit c.toNat _).mono ?_; rintro e w' ⟨rfl, rfl⟩
                        have h35c := h35b.out
                        have z45 := hn45.out; have z34 := hn34.out; have z93 := q93.out
                        have z123 := q123.out
                        have z125 := q125.out
                        have z91 := q91.out
                        have hsz := hide (Ext.size hx.out)
                        go_wp2_with (at_builtin; go_must (refine wpList_append_lies _ rfl _ _ 41 rfl w.heap.size 50 i0 (.agg #[.int .i64 0, .int .i64 0, .string ⟨#[]⟩, .int .i64 0]) 4 40 Tryz.underlying41 hi.out hz0 hz1 hz2 rfl (by omega) _ acc.length (cellsT (acc.map rTok)) rfl (hown.out.alloc _) ⟨w'.heap.size, 0, none⟩ 1 1 (cTk (⟨4, k, s.extract k (k + 1), 0⟩)) rfl rfl ?_ cTk_one (by omega) (by unfold maxLen; omega) (by omega) (by have := hsz.out; simp; omega) (w'.heap.size + 1) (by simp) ?_; (intro j u hu; rw [add_eq]; (match j, hu with | 0, hu => (simp [cTk] at hu; subst hu; simp [go_sem]) | 1, hu => (simp [cTk] at hu; subst hu; simp [go_sem]) | 2, hu => (simp [cTk] at hu; subst hu; simp [go_sem]) | 3, hu => (simp [cTk] at hu; subst hu; simp [go_sem]) | _ + 4, hu => (simp [cTk] at hu))); intro g1 cap1 w3 hown3 hgrow3 hat3 hlt3))
                        have hx3 : Ext w w3 := ((Wrote.ext (B := w.heap.size) (T := (· = 50)) hx.out).grownAt hown.out rfl hgrow3).toExt
                        have hl : (acc ++ [(⟨7, k, ⟨#[]⟩, 0⟩ : Tok)]).length = acc.length + 1 := by simp
                        go_roundw
                        case rel =>
                          refine ⟨f', k + 1, acc ++ [⟨7, k, ⟨#[]⟩, 0⟩], some ⟨g1, 0, none⟩, cap1, by omega, by omega, by rw [hl]; omega, by go_num, by rw [hl], hstep, ?_, hx3⟩
                          show World.ownsRow _ _ _ _ _ _ _
                          rw [hl, List.map_append, List.map_cons, List.map_nil, htr.out, cellsT_app]; exact hown3
                        case measure => simp [intOf]; omega
                      · have q93 : Hid (((c.toNat : Int) == 93) = false) := by show _ = _; have : ¬ (c.toNat : Int) = 93 := fun h => g93 (UInt8.toNat_inj.1 (by show c.toNat = 93; omega)); simpa using this
                        by_cases g61 : c = 61
                        · have q61 : Hid (((c.toNat : Int) == 61) = true) := by show _ = _; rw [g61]; rfl
                          have hstep : Hid (cutL s.data.toList = comb (acc ++ [⟨8, k, ⟨#[]⟩, 0⟩]) (cutF s.data.toList f' (k + 1))) := by
                            show _ = _
                            rw [hcut.out, comb_step (c := c) (b := k + 1) (t := ⟨8, k, ⟨#[]⟩, 0⟩) (by rw [hsk.out]; exact hc1) (by rw [hsk.out]; unfold tokL; rw [hL, if_neg (by decide), if_neg hN, if_neg h34, g61]; rfl)]
                          have htr : Hid (rTok ⟨8, k, ⟨#[]⟩, 0⟩ = ⟨4, k, s.extract k (k + 1), 0⟩) := by
                            show _ = _
                            rw [ex_ba s (Nat.le_succ k), drop_two hc1, show k + 1 - k = 1 by omega, g61]; rfl
                          replace hc1 := hide hc1; replace h35 := hide h35; replace hN := hide hN; replace h34 := hide h34; replace g61 := hide g61; replace g123 := hide g123; replace g125 := hide g125; replace g91 := hide g91; replace g93 := hide g93
                          go_wp2_with fail
                          refine (refBlank c _).mono ?_; rintro e w' ⟨rfl, rfl⟩
                          go_wp2_with fail
                          refine (refLetter c.toNat _).mono ?_; rintro e w' ⟨rfl, rfl⟩
                          go_wp2_with fail
                          refine (refDigit c.toNat _).mono ?_; rintro e w' ⟨rfl, rfl⟩
                          have h35c := h35b.out
                          have z45 := hn45.out; have z34 := hn34.out; have z61 := q61.out
                          have z123 := q123.out
                          have z125 := q125.out
                          have z91 := q91.out
                          have z93 := q93.out
                          have hsz := hide (Ext.size hx.out)
                          go_wp2_with (at_builtin; go_must (refine wpList_append_lies _ rfl _ _ 41 rfl w.heap.size 50 i0 (.agg #[.int .i64 0, .int .i64 0, .string ⟨#[]⟩, .int .i64 0]) 4 40 Tryz.underlying41 hi.out hz0 hz1 hz2 rfl (by omega) _ acc.length (cellsT (acc.map rTok)) rfl (hown.out.alloc _) ⟨w'.heap.size, 0, none⟩ 1 1 (cTk (⟨4, k, s.extract k (k + 1), 0⟩)) rfl rfl ?_ cTk_one (by omega) (by unfold maxLen; omega) (by omega) (by have := hsz.out; simp; omega) (w'.heap.size + 1) (by simp) ?_; (intro j u hu; rw [add_eq]; (match j, hu with | 0, hu => (simp [cTk] at hu; subst hu; simp [go_sem]) | 1, hu => (simp [cTk] at hu; subst hu; simp [go_sem]) | 2, hu => (simp [cTk] at hu; subst hu; simp [go_sem]) | 3, hu => (simp [cTk] at hu; subst hu; simp [go_sem]) | _ + 4, hu => (simp [cTk] at hu))); intro g1 cap1 w3 hown3 hgrow3 hat3 hlt3))
                          have hx3 : Ext w w3 := ((Wrote.ext (B := w.heap.size) (T := (· = 50)) hx.out).grownAt hown.out rfl hgrow3).toExt
                          have hl : (acc ++ [(⟨8, k, ⟨#[]⟩, 0⟩ : Tok)]).length = acc.length + 1 := by simp
                          go_roundw
                          case rel =>
                            refine ⟨f', k + 1, acc ++ [⟨8, k, ⟨#[]⟩, 0⟩], some ⟨g1, 0, none⟩, cap1, by omega, by omega, by rw [hl]; omega, by go_num, by rw [hl], hstep, ?_, hx3⟩
                            show World.ownsRow _ _ _ _ _ _ _
                            rw [hl, List.map_append, List.map_cons, List.map_nil, htr.out, cellsT_app]; exact hown3
                          case measure => simp [intOf]; omega
                        · have q61 : Hid (((c.toNat : Int) == 61) = false) := by show _ = _; have : ¬ (c.toNat : Int) = 61 := fun h => g61 (UInt8.toNat_inj.1 (by show c.toNat = 61; omega)); simpa using this
                          by_cases g44 : c = 44
                          · have q44 : Hid (((c.toNat : Int) == 44) = true) := by show _ = _; rw [g44]; rfl
                            have hstep : Hid (cutL s.data.toList = comb (acc ++ [⟨9, k, ⟨#[]⟩, 0⟩]) (cutF s.data.toList f' (k + 1))) := by
                              show _ = _
                              rw [hcut.out, comb_step (c := c) (b := k + 1) (t := ⟨9, k, ⟨#[]⟩, 0⟩) (by rw [hsk.out]; exact hc1) (by rw [hsk.out]; unfold tokL; rw [hL, if_neg (by decide), if_neg hN, if_neg h34, g44]; rfl)]
                            have htr : Hid (rTok ⟨9, k, ⟨#[]⟩, 0⟩ = ⟨4, k, s.extract k (k + 1), 0⟩) := by
                              show _ = _
                              rw [ex_ba s (Nat.le_succ k), drop_two hc1, show k + 1 - k = 1 by omega, g44]; rfl
                            replace hc1 := hide hc1; replace h35 := hide h35; replace hN := hide hN; replace h34 := hide h34; replace g44 := hide g44; replace g123 := hide g123; replace g125 := hide g125; replace g91 := hide g91; replace g93 := hide g93; replace g61 := hide g61
                            go_wp2_with fail
                            refine (refBlank c _).mono ?_; rintro e w' ⟨rfl, rfl⟩
                            go_wp2_with fail
                            refine (refLetter c.toNat _).mono ?_; rintro e w' ⟨rfl, rfl⟩
                            go_wp2_with fail
                            refine (refDigit c.toNat _).mono ?_; rintro e w' ⟨rfl, rfl⟩
                            have h35c := h35b.out
                            have z45 := hn45.out; have z34 := hn34.out; have z44 := q44.out
                            have z123 := q123.out
                            have z125 := q125.out
                            have z91 := q91.out
                            have z93 := q93.out
                            have z61 := q61.out
                            have hsz := hide (Ext.size hx.out)
                            go_wp2_with (at_builtin; go_must (refine wpList_append_lies _ rfl _ _ 41 rfl w.heap.size 50 i0 (.agg #[.int .i64 0, .int .i64 0, .string ⟨#[]⟩, .int .i64 0]) 4 40 Tryz.underlying41 hi.out hz0 hz1 hz2 rfl (by omega) _ acc.length (cellsT (acc.map rTok)) rfl (hown.out.alloc _) ⟨w'.heap.size, 0, none⟩ 1 1 (cTk (⟨4, k, s.extract k (k + 1), 0⟩)) rfl rfl ?_ cTk_one (by omega) (by unfold maxLen; omega) (by omega) (by have := hsz.out; simp; omega) (w'.heap.size + 1) (by simp) ?_; (intro j u hu; rw [add_eq]; (match j, hu with | 0, hu => (simp [cTk] at hu; subst hu; simp [go_sem]) | 1, hu => (simp [cTk] at hu; subst hu; simp [go_sem]) | 2, hu => (simp [cTk] at hu; subst hu; simp [go_sem]) | 3, hu => (simp [cTk] at hu; subst hu; simp [go_sem]) | _ + 4, hu => (simp [cTk] at hu))); intro g1 cap1 w3 hown3 hgrow3 hat3 hlt3))
                            have hx3 : Ext w w3 := ((Wrote.ext (B := w.heap.size) (T := (· = 50)) hx.out).grownAt hown.out rfl hgrow3).toExt
                            have hl : (acc ++ [(⟨9, k, ⟨#[]⟩, 0⟩ : Tok)]).length = acc.length + 1 := by simp
                            go_roundw
                            case rel =>
                              refine ⟨f', k + 1, acc ++ [⟨9, k, ⟨#[]⟩, 0⟩], some ⟨g1, 0, none⟩, cap1, by omega, by omega, by rw [hl]; omega, by go_num, by rw [hl], hstep, ?_, hx3⟩
                              show World.ownsRow _ _ _ _ _ _ _
                              rw [hl, List.map_append, List.map_cons, List.map_nil, htr.out, cellsT_app]; exact hown3
                            case measure => simp [intOf]; omega
                          · have q44 : Hid (((c.toNat : Int) == 44) = false) := by show _ = _; have : ¬ (c.toNat : Int) = 44 := fun h => g44 (UInt8.toNat_inj.1 (by show c.toNat = 44; omega)); simpa using this
                            by_cases g46 : c = 46
                            · have q46 : Hid (((c.toNat : Int) == 46) = true) := by show _ = _; rw [g46]; rfl
                              have hstep : Hid (cutL s.data.toList = comb (acc ++ [⟨10, k, ⟨#[]⟩, 0⟩]) (cutF s.data.toList f' (k + 1))) := by
                                show _ = _
                                rw [hcut.out, comb_step (c := c) (b := k + 1) (t := ⟨10, k, ⟨#[]⟩, 0⟩) (by rw [hsk.out]; exact hc1) (by rw [hsk.out]; unfold tokL; rw [hL, if_neg (by decide), if_neg hN, if_neg h34, g46]; rfl)]
                              have htr : Hid (rTok ⟨10, k, ⟨#[]⟩, 0⟩ = ⟨4, k, s.extract k (k + 1), 0⟩) := by
                                show _ = _
                                rw [ex_ba s (Nat.le_succ k), drop_two hc1, show k + 1 - k = 1 by omega, g46]; rfl
                              replace hc1 := hide hc1; replace h35 := hide h35; replace hN := hide hN; replace h34 := hide h34; replace g46 := hide g46; replace g123 := hide g123; replace g125 := hide g125; replace g91 := hide g91; replace g93 := hide g93; replace g61 := hide g61; replace g44 := hide g44
                              go_wp2_with fail
                              refine (refBlank c _).mono ?_; rintro e w' ⟨rfl, rfl⟩
                              go_wp2_with fail
                              refine (refLetter c.toNat _).mono ?_; rintro e w' ⟨rfl, rfl⟩
                              go_wp2_with fail
                              refine (refDigit c.toNat _).mono ?_; rintro e w' ⟨rfl, rfl⟩
                              have h35c := h35b.out
                              have z45 := hn45.out; have z34 := hn34.out; have z46 := q46.out
                              have z123 := q123.out
                              have z125 := q125.out
                              have z91 := q91.out
                              have z93 := q93.out
                              have z61 := q61.out
                              have z44 := q44.out
                              have hsz := hide (Ext.size hx.out)
                              go_wp2_with (at_builtin; go_must (refine wpList_append_lies _ rfl _ _ 41 rfl w.heap.size 50 i0 (.agg #[.int .i64 0, .int .i64 0, .string ⟨#[]⟩, .int .i64 0]) 4 40 Tryz.underlying41 hi.out hz0 hz1 hz2 rfl (by omega) _ acc.length (cellsT (acc.map rTok)) rfl (hown.out.alloc _) ⟨w'.heap.size, 0, none⟩ 1 1 (cTk (⟨4, k, s.extract k (k + 1), 0⟩)) rfl rfl ?_ cTk_one (by omega) (by unfold maxLen; omega) (by omega) (by have := hsz.out; simp; omega) (w'.heap.size + 1) (by simp) ?_; (intro j u hu; rw [add_eq]; (match j, hu with | 0, hu => (simp [cTk] at hu; subst hu; simp [go_sem]) | 1, hu => (simp [cTk] at hu; subst hu; simp [go_sem]) | 2, hu => (simp [cTk] at hu; subst hu; simp [go_sem]) | 3, hu => (simp [cTk] at hu; subst hu; simp [go_sem]) | _ + 4, hu => (simp [cTk] at hu))); intro g1 cap1 w3 hown3 hgrow3 hat3 hlt3))
                              have hx3 : Ext w w3 := ((Wrote.ext (B := w.heap.size) (T := (· = 50)) hx.out).grownAt hown.out rfl hgrow3).toExt
                              have hl : (acc ++ [(⟨10, k, ⟨#[]⟩, 0⟩ : Tok)]).length = acc.length + 1 := by simp
                              go_roundw
                              case rel =>
                                refine ⟨f', k + 1, acc ++ [⟨10, k, ⟨#[]⟩, 0⟩], some ⟨g1, 0, none⟩, cap1, by omega, by omega, by rw [hl]; omega, by go_num, by rw [hl], hstep, ?_, hx3⟩
                                show World.ownsRow _ _ _ _ _ _ _
                                rw [hl, List.map_append, List.map_cons, List.map_nil, htr.out, cellsT_app]; exact hown3
                              case measure => simp [intOf]; omega
                            · have q46 : Hid (((c.toNat : Int) == 46) = false) := by show _ = _; have : ¬ (c.toNat : Int) = 46 := fun h => g46 (UInt8.toNat_inj.1 (by show c.toNat = 46; omega)); simpa using this
                              have hfin2 : Hid (cutL s.data.toList = ([], (2, k))) := by
                                show _ = _
                                rw [hcut.out, comb_bad (c := c) (e := 2) (by rw [hsk.out]; exact hc1) (by rw [hsk.out]; unfold tokL; rw [hL, if_neg (by decide), if_neg hN, if_neg h34, if_pos (by unfold signKind; rw [if_neg g123, if_neg g125, if_neg g91, if_neg g93, if_neg g61, if_neg g44, if_neg g46])]) (by decide), hsk.out]
                              replace hc1 := hide hc1; replace h35 := hide h35; replace hN := hide hN; replace h34 := hide h34; replace g123 := hide g123; replace g125 := hide g125; replace g91 := hide g91; replace g93 := hide g93; replace g61 := hide g61; replace g44 := hide g44; replace g46 := hide g46
                              go_wp2_with fail
                              refine (refBlank c _).mono ?_; rintro e w' ⟨rfl, rfl⟩
                              go_wp2_with fail
                              refine (refLetter c.toNat _).mono ?_; rintro e w' ⟨rfl, rfl⟩
                              go_wp2_with fail
                              refine (refDigit c.toNat _).mono ?_; rintro e w' ⟨rfl, rfl⟩
                              have h35c := h35b.out
                              have z45 := hn45.out; have z34 := hn34.out
                              have z123 := q123.out
                              have z125 := q125.out
                              have z91 := q91.out
                              have z93 := q93.out
                              have z61 := q61.out
                              have z44 := q44.out
                              have z46 := q46.out
                              go_wp2_with fail
                              go_ret3
                              rw [hfin2.out]
                              exact ⟨hx, none, 0, rfl, World.ownsRow_nil _ _ _ _⟩
          · have hin : isInnerB (c.toNat : Int) = true := by unfold isInnerB; rw [hL]; rfl
            have hby := hide (behind_yes (p := fun b => isInnerB b.toNat) hc1 hin)
            replace hc1 := hide hc1; replace h35 := hide h35; replace hin := hide hin
            go_wp2_with fail
            refine (refBlank c _).mono ?_; rintro e w' ⟨rfl, rfl⟩
            go_wp2_with fail
            refine (refLetter c.toNat _).mono ?_; rintro e w' ⟨rfl, rfl⟩
            go_wp2_with fail
            refine (refDigit c.toNat _).mono ?_; rintro e w' ⟨rfl, rfl⟩
            have h35c := h35b.out
            go_wp2_with fail
            go_loop [11] (fun i => ∃ j : Nat, k ≤ j ∧ j ≤ s.size ∧ i = .int .i64 j ∧ Hid (behindL (fun b => isInnerB b.toNat) s.data.toList k = behindL (fun b => isInnerB b.toNat) s.data.toList j)) (fun i => s.size - (intOf i).toNat)
            case atStart => exact ⟨k, Nat.le_refl _, hk, rfl, rfl⟩
            case round =>
              obtain ⟨j, hkj, hj, rfl, hbe⟩ := hrel
              by_cases hjl : j < s.size
              · obtain ⟨d, hd1, hd2⟩ := byteAt hjl
                replace hd1 := hide hd1
                cases hdi : isInnerB (d.toNat : Int)
                · have hfin : Hid (behindL (fun b => isInnerB b.toNat) s.data.toList k = j) := hbe.out.trans (behind_no (fun x hx => by rw [hd1.out] at hx; cases hx; exact hdi))
                  go_wp2_with fail
                  refine (refInner d.toNat _).mono ?_; rintro e w' ⟨rfl, rfl⟩
                  have hex : Hid (s.extract k j = baOf ((s.data.toList.drop k).take (j - k))) := ex_ba s hkj
                  have hkj2 : k < j := by have := hby.out; have := (behind_le (p := fun b => isInnerB b.toNat) (l := s.data.toList) (a := k + 1) (by rw [hlen.out]; omega)).1; have := hfin.out; omega
                  by_cases h12 : j - k ≤ 12
                  · have h12i : ¬ (12 : Int) < (j : Int) - (k : Int) := by omega
                    have hstep : Hid (cutL s.data.toList = comb (acc ++ [⟨1, k, s.extract k j, 0⟩]) (cutF s.data.toList f' j)) := by
                      show _ = _
                      rw [hcut.out, comb_step (c := c) (b := j) (t := ⟨1, k, s.extract k j, 0⟩) (by rw [hsk.out]; exact hc1.out) (by rw [hsk.out]; unfold tokL; rw [if_pos hL, hfin.out, if_pos h12, hex.out])]
                    have htr : Hid (rTok ⟨1, k, s.extract k j, 0⟩ = ⟨1, k, s.extract k j, 0⟩) := rfl
                    replace h12 := hide h12
                    have hsz := hide (Ext.size hx.out)
                    go_wp2_with (at_builtin; go_must (refine wpList_append_lies _ rfl _ _ 41 rfl w.heap.size 50 i0 (.agg #[.int .i64 0, .int .i64 0, .string ⟨#[]⟩, .int .i64 0]) 4 40 Tryz.underlying41 hi.out hz0 hz1 hz2 rfl (by omega) _ acc.length (cellsT (acc.map rTok)) rfl (hown.out.alloc _) ⟨w'.heap.size, 0, none⟩ 1 1 (cTk (⟨1, k, s.extract k j, 0⟩)) rfl rfl ?_ cTk_one (by omega) (by unfold maxLen; omega) (by omega) (by have := hsz.out; simp; omega) (w'.heap.size + 1) (by simp) ?_; (intro j u hu; rw [add_eq]; (match j, hu with | 0, hu => (simp [cTk] at hu; subst hu; simp [go_sem]) | 1, hu => (simp [cTk] at hu; subst hu; simp [go_sem]) | 2, hu => (simp [cTk] at hu; subst hu; simp [go_sem]) | 3, hu => (simp [cTk] at hu; subst hu; simp [go_sem]) | _ + 4, hu => (simp [cTk] at hu))); intro g1 cap1 w3 hown3 hgrow3 hat3 hlt3))
                    have hx3 : Ext w w3 := ((Wrote.ext (B := w.heap.size) (T := (· = 50)) hx.out).grownAt hown.out rfl hgrow3).toExt
                    have hl : (acc ++ [(⟨1, k, s.extract k j, 0⟩ : Tok)]).length = acc.length + 1 := by simp
                    go_roundw
                    case rel =>
                      refine ⟨f', j, acc ++ [⟨1, k, s.extract k j, 0⟩], some ⟨g1, 0, none⟩, cap1, by omega, by omega, by rw [hl]; omega, by go_num, by rw [hl], hstep, ?_, hx3⟩
                      show World.ownsRow _ _ _ _ _ _ _
                      rw [hl, List.map_append, List.map_cons, List.map_nil, htr.out, cellsT_app]; exact hown3
                    case measure => simp [intOf]; omega
                  · have h12i : (12 : Int) < (j : Int) - (k : Int) := by omega
                    have hfin2 : Hid (cutL s.data.toList = ([], (5, k))) := by
                      show _ = _
                      rw [hcut.out, comb_bad (c := c) (e := 5) (by rw [hsk.out]; exact hc1.out) (by rw [hsk.out]; unfold tokL; rw [if_pos hL, hfin.out, if_neg h12]) (by decide), hsk.out]
                    replace h12 := hide h12
                    go_wp2_with fail
                    go_ret3
                    rw [hfin2.out]
                    exact ⟨hx, none, 0, rfl, World.ownsRow_nil _ _ _ _⟩
                · have hn := hide (hbe.out.trans (behind_yes (p := fun b => isInnerB b.toNat) hd1.out hdi))
                  go_wp2_with fail
                  refine (refInner d.toNat _).mono ?_; rintro e w' ⟨rfl, rfl⟩
                  go_wp2_with fail
                  go_round
                  case rel => exact ⟨j + 1, by omega, by omega, by go_num, hn⟩
                  case measure => simp [intOf]; omega
              · have hfin : Hid (behindL (fun b => isInnerB b.toNat) s.data.toList k = j) := hbe.out.trans (behind_no (fun x hx => absurd (List.getElem?_eq_some_iff.1 hx).1 (by rw [hlen.out]; omega)))
                have hex : Hid (s.extract k j = baOf ((s.data.toList.drop k).take (j - k))) := ex_ba s hkj
                have hkj2 : k < j := by have := hby.out; have := (behind_le (p := fun b => isInnerB b.toNat) (l := s.data.toList) (a := k + 1) (by rw [hlen.out]; omega)).1; have := hfin.out; omega
                by_cases h12 : j - k ≤ 12
                · have h12i : ¬ (12 : Int) < (j : Int) - (k : Int) := by omega
                  have hstep : Hid (cutL s.data.toList = comb (acc ++ [⟨1, k, s.extract k j, 0⟩]) (cutF s.data.toList f' j)) := by
                    show _ = _
                    rw [hcut.out, comb_step (c := c) (b := j) (t := ⟨1, k, s.extract k j, 0⟩) (by rw [hsk.out]; exact hc1.out) (by rw [hsk.out]; unfold tokL; rw [if_pos hL, hfin.out, if_pos h12, hex.out])]
                  have htr : Hid (rTok ⟨1, k, s.extract k j, 0⟩ = ⟨1, k, s.extract k j, 0⟩) := rfl
                  replace h12 := hide h12
                  have hsz := hide (Ext.size hx.out)
                  go_wp2_with (at_builtin; go_must (refine wpList_append_lies _ rfl _ _ 41 rfl w.heap.size 50 i0 (.agg #[.int .i64 0, .int .i64 0, .string ⟨#[]⟩, .int .i64 0]) 4 40 Tryz.underlying41 hi.out hz0 hz1 hz2 rfl (by omega) _ acc.length (cellsT (acc.map rTok)) rfl (hown.out.alloc _) ⟨w'.heap.size, 0, none⟩ 1 1 (cTk (⟨1, k, s.extract k j, 0⟩)) rfl rfl ?_ cTk_one (by omega) (by unfold maxLen; omega) (by omega) (by have := hsz.out; simp; omega) (w'.heap.size + 1) (by simp) ?_; (intro j u hu; rw [add_eq]; (match j, hu with | 0, hu => (simp [cTk] at hu; subst hu; simp [go_sem]) | 1, hu => (simp [cTk] at hu; subst hu; simp [go_sem]) | 2, hu => (simp [cTk] at hu; subst hu; simp [go_sem]) | 3, hu => (simp [cTk] at hu; subst hu; simp [go_sem]) | _ + 4, hu => (simp [cTk] at hu))); intro g1 cap1 w3 hown3 hgrow3 hat3 hlt3))
                  have hx3 : Ext w w3 := ((Wrote.ext (B := w.heap.size) (T := (· = 50)) hx.out).grownAt hown.out rfl hgrow3).toExt
                  have hl : (acc ++ [(⟨1, k, s.extract k j, 0⟩ : Tok)]).length = acc.length + 1 := by simp
                  go_roundw
                  case rel =>
                    refine ⟨f', j, acc ++ [⟨1, k, s.extract k j, 0⟩], some ⟨g1, 0, none⟩, cap1, by omega, by omega, by rw [hl]; omega, by go_num, by rw [hl], hstep, ?_, hx3⟩
                    show World.ownsRow _ _ _ _ _ _ _
                    rw [hl, List.map_append, List.map_cons, List.map_nil, htr.out, cellsT_app]; exact hown3
                  case measure => simp [intOf]; omega
                · have h12i : (12 : Int) < (j : Int) - (k : Int) := by omega
                  have hfin2 : Hid (cutL s.data.toList = ([], (5, k))) := by
                    show _ = _
                    rw [hcut.out, comb_bad (c := c) (e := 5) (by rw [hsk.out]; exact hc1.out) (by rw [hsk.out]; unfold tokL; rw [if_pos hL, hfin.out, if_neg h12]) (by decide), hsk.out]
                  replace h12 := hide h12
                  go_wp2_with fail
                  go_ret3
                  rw [hfin2.out]
                  exact ⟨hx, none, 0, rfl, World.ownsRow_nil _ _ _ _⟩
      · have hsk : Hid (cutF s.data.toList f k = cutF s.data.toList f (k + 1)) := cutF_skip (by rw [hss.out, if_pos hB]) f
        replace hc1 := hide hc1
        go_wp2_with (first
          | (go_at_call 26; refine (refBlank c _).mono ?_; rintro e w' ⟨rfl, rfl⟩)
          | (go_at_call 27; refine (refLetter c.toNat _).mono ?_; rintro e w' ⟨rfl, rfl⟩)
          | (go_at_call 28; refine (refDigit c.toNat _).mono ?_; rintro e w' ⟨rfl, rfl⟩))
        go_roundw
        case rel => exact ⟨f, k + 1, acc, pa, cap, by omega, by omega, by omega, by go_num, rfl, by show _ = _; rw [hcut.out, hsk.out], hown, hx⟩
        case measure => simp [intOf]; omega
    · obtain rfl : k = s.size := by omega
      have hfin : Hid (cutL s.data.toList = (acc ++ [endTok s.size], (0, 0))) := by
        show _ = _
        obtain ⟨f', rfl⟩ : ∃ f', f = f' + 1 := ⟨f - 1, by omega⟩
        rw [hcut.out, comb_end (by rw [skip_end (by rw [hlen.out]; exact Nat.le_refl _), hlen.out]; exact Nat.le_refl _), hlen.out]
      have hsz := hide (Ext.size hx.out)
      go_wp2_with (at_builtin; go_must (refine wpList_append_lies _ rfl _ _ 41 rfl w.heap.size 50 i0 (.agg #[.int .i64 0, .int .i64 0, .string ⟨#[]⟩, .int .i64 0]) 4 40 Tryz.underlying41 hi.out hz0 hz1 hz2 rfl (by omega) _ acc.length (cellsT (acc.map rTok)) rfl (hown.out.alloc _) ⟨wr.heap.size, 0, none⟩ 1 1 (cTk (⟨5, s.size, ⟨#[]⟩, 0⟩)) rfl rfl ?_ cTk_one (by omega) (by unfold maxLen; omega) (by omega) (by have := hsz.out; simp; omega) (wr.heap.size + 1) (by simp) ?_; (intro j u hu; rw [add_eq]; (match j, hu with | 0, hu => (simp [cTk] at hu; subst hu; simp [go_sem]) | 1, hu => (simp [cTk] at hu; subst hu; simp [go_sem]) | 2, hu => (simp [cTk] at hu; subst hu; simp [go_sem]) | 3, hu => (simp [cTk] at hu; subst hu; simp [go_sem]) | _ + 4, hu => (simp [cTk] at hu))); intro g1 cap1 w3 hown3 hgrow3 hat3 hlt3))
      have hx3 : Ext w w3 := ((Wrote.ext (B := w.heap.size) (T := (· = 50)) hx.out).grownAt hown.out rfl hgrow3).toExt
      have hl : (acc ++ [endTok s.size]).length = acc.length + 1 := by simp
      go_ret3
      rw [hfin.out]
      refine ⟨hx3, some ⟨g1, 0, none⟩, cap1, by rw [hl]; rfl, ?_⟩
      show World.ownsRow _ _ _ _ _ _ _
      rw [hl, List.map_append, List.map_cons, List.map_nil, show rTok (endTok s.size) = ⟨5, s.size, ⟨#[]⟩, 0⟩ from rfl, cellsT_app]; exact hown3
end Go.Proofs.YtejhegnlmldomaaGreat
