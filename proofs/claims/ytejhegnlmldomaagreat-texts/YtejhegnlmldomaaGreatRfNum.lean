/-
  The reference: blanks, and the number that begins at a place.
-/
import Derived.Test.YtejhegnlmldomaaGreatJ2
import Derived.Test.YtejhegnlmldomaaGreatJ8
namespace Go.Proofs.YtejhegnlmldomaaGreat
open Go.RowKit

theorem u8_eq (c : UInt8) (n : Nat) (hn : n < 256) : (c == UInt8.ofNat n) = decide ((c.toNat : Int) = n) := by
  rw [Bool.eq_iff_iff]
  simp only [beq_iff_eq, decide_eq_true_eq]
  constructor
  · rintro rfl
    have : (UInt8.ofNat n).toNat = n := by simp; omega
    omega
  · intro h
    apply UInt8.toNat_inj.1
    simp; omega
set_option maxRecDepth 100000 in
set_option maxHeartbeats 1600000 in
theorem refBlank (c : UInt8) (w : World) :
    Calls Tryz.prog 26 #[.int .u8 c.toNat] w fun e w' => e = .returned (.bool (isBlank c)) ∧ w' = w := by
  have hb : Hid (isBlank c = (decide ((c.toNat : Int) = 32) || decide ((c.toNat : Int) = 9) || decide ((c.toNat : Int) = 10))) := by
    show _ = _
    unfold isBlank
    rw [show (32 : UInt8) = UInt8.ofNat 32 from rfl, show (9 : UInt8) = UInt8.ofNat 9 from rfl, show (10 : UInt8) = UInt8.ofNat 10 from rfl, u8_eq c 32 (by omega), u8_eq c 9 (by omega), u8_eq c 10 (by omega)]
    rfl
  rw [hb.out]
  generalize (c.toNat : Int) = d at *
  go_enter Tryz.func26, Tryz.ntmps26
  go_wp2
  all_goals (go_ret; exact ⟨retB (by rw [Bool.eq_iff_iff]; simp [*]), rfl⟩)
def dP (l : List UInt8) (f k : Nat) : List UInt8 := (l.drop f).take (k - f)
theorem dP_snoc {l : List UInt8} {f k : Nat} {c : UInt8} (hf : f ≤ k) (hc : l[k]? = some c) : dP l f (k + 1) = dP l f k ++ [c] := by
  unfold dP
  rw [show k + 1 - f = (k - f) + 1 by omega, List.take_add_one, List.getElem?_drop, show f + (k - f) = k by omega, hc]
  rfl
theorem dP_len {l : List UInt8} {f k : Nat} (hk : k ≤ l.length) : (dP l f k).length = k - f := by
  unfold dP
  rw [List.length_take, List.length_drop]; omega
theorem num_is {l : List UInt8} {f k : Nat} (hb : behindL (fun b => isDigitB b.toNat) l f = k) : (l.drop f).takeWhile (fun b => isDigitB b.toNat) = dP l f k := by
  have h1 := List.prefix_iff_eq_take.1 (List.takeWhile_prefix (l := l.drop f) fun b => isDigitB b.toNat)
  rw [h1]
  unfold dP behindL at *
  congr 1
  omega
/-- What is counted of a number. -/
def Cnt (m : Nat) (d : List UInt8) : Prop := (m ≤ 1000000000 → m = valN d) ∧ (1000000000 < m → 1000000000 < valN d) ∧ m ≤ 10000000009
theorem cnt_ok {m : Nat} {d : List UInt8} (h : Cnt m d) (hd : d.length ≠ 0) : digitsOk d = decide ((m : Int) ≤ 1000000000) := by
  have h1 : d.isEmpty = false := by cases d with | nil => simp at hd | cons => rfl
  unfold digitsOk
  rw [h1, Bool.eq_iff_iff]
  simp only [Bool.not_false, Bool.true_and, decide_eq_true_eq]
  obtain ⟨g1, g2, _⟩ := h
  constructor
  · intro h2
    by_cases hm : m ≤ 1000000000
    · omega
    · have := g2 (by omega); omega
  · intro h2
    rw [← g1 (by omega)]; omega
/-- The number that begins at a place: what it is worth, the place behind it, whether it may be. -/
def numL (l : List UInt8) (a : Nat) : List UInt8 := (l.drop a).takeWhile fun b => isDigitB b.toNat
def RNumIs (l : List UInt8) (f : Nat) (sg : Int) (w : World) (e : Ending) (w' : World) : Prop :=
  ∃ n : Int, e = .returned (.tuple #[.int .i64 n, .int .i64 (behindL (fun b => isDigitB b.toNat) l f), .bool (digitsOk (numL l f))]) ∧ Hid (digitsOk (numL l f) = true → n = sg * (valN (numL l f) : Int)) ∧ w' = w
set_option maxRecDepth 100000 in
set_option maxHeartbeats 1600000 in
theorem refNumber (s : ByteArray) (a : Nat) (c : UInt8) (w : World) (hs : s.size ≤ 1000000) (ha : a < s.size) (hc : s[a] = c) :
    Calls Tryz.prog 30 #[.string s, .int .i64 a] w (RNumIs s.data.toList (if c = 45 then a + 1 else a) (if c = 45 then -1 else 1) w) := by
  have hlen := hide (show s.data.toList.length = s.size from Array.length_toList)
  by_cases h45 : c = 45
  · rw [if_pos h45, if_pos h45]
    have hcn : (c.toNat : Int) = 45 := by rw [h45]; rfl
    replace h45 := hide h45
    go_enter Tryz.func30, Tryz.ntmps30
    go_wp2_with fail
    go_loop [7, 8] (fun i n => ∃ k m : Nat, (a + 1) ≤ k ∧ k ≤ s.size ∧ i = .int .i64 k ∧ n = .int .i64 m ∧ m ≤ 10000000009 ∧ Hid (Cnt m (dP s.data.toList (a + 1) k)) ∧ Hid (behindL (fun b => isDigitB b.toNat) s.data.toList (a + 1) = behindL (fun b => isDigitB b.toNat) s.data.toList k)) (fun i _ => s.size - (intOf i).toNat)
    case atStart => exact ⟨(a + 1), 0, by omega, by omega, by go_num, rfl, by omega, by show Cnt _ _; unfold dP; rw [Nat.sub_self]; exact ⟨fun _ => rfl, fun h => absurd h (by omega), by omega⟩, rfl⟩
    case round =>
      obtain ⟨k, m, hfk, hk, rfl, rfl, hm, hcnt, hb⟩ := hrel
      by_cases hlt : k < s.size
      · obtain ⟨d, hd1, hd2⟩ := byteAt hlt
        replace hd1 := hide hd1
        go_wp2_with fail
        refine (refDigit d.toNat w).mono ?_
        rintro e w' ⟨rfl, rfl⟩
        cases hp : isDigitB (d.toNat : Int)
        · have hfin : Hid (behindL (fun b => isDigitB b.toNat) s.data.toList (a + 1) = k) := hb.out.trans (behind_no (fun x hx => by rw [hd1.out] at hx; cases hx; exact hp))
          have hnum : Hid (numL s.data.toList (a + 1) = dP s.data.toList (a + 1) k) := num_is hfin.out
          have hdl := hide (dP_len (l := s.data.toList) (f := (a + 1)) (k := k) (by rw [hlen.out]; exact hk))
          by_cases hkf : (a + 1) < k
          · have hkf1 : (((a + 1) : Nat) : Int) < (k : Int) := by omega
            replace hkf := hide hkf
            go_wp2_with fail
            refine bodyPost_ret (v := .tuple #[.int .i64 (-(m : Int)), .int .i64 k, .bool (decide ((m : Int) ≤ 1000000000))]) (by simp [results, Tryz.results30, go_sem]) rfl ?_
            refine ⟨-(m : Int), ?_, fun hok => ?_, rfl⟩
            · rw [hfin.out, hnum.out, show digitsOk (dP s.data.toList (a + 1) k) = decide ((m : Int) ≤ 1000000000) from cnt_ok hcnt.out (by have := hdl.out; have := hkf.out; omega)]
            · have h1 := hok
              rw [hnum.out, cnt_ok hcnt.out (by have := hdl.out; have := hkf.out; omega)] at h1
              rw [hnum.out, ← hcnt.out.1 (by simp at h1; omega)]; omega
          · have hkf1 : ¬ (((a + 1) : Nat) : Int) < (k : Int) := by omega
            have hem : Hid (digitsOk (dP s.data.toList (a + 1) k) = false) := by
              show _ = _
              have h1 : dP s.data.toList (a + 1) k = [] := List.eq_nil_of_length_eq_zero (by have := hdl.out; omega)
              rw [h1]; rfl
            replace hkf := hide hkf
            go_wp2_with fail
            refine bodyPost_ret (v := .tuple #[.int .i64 (-(m : Int)), .int .i64 k, .bool false]) (by simp [results, Tryz.results30, go_sem]) rfl ?_
            refine ⟨-(m : Int), ?_, fun hok => ?_, rfl⟩
            · rw [hfin.out, hnum.out, hem.out]
            · rw [hnum.out, hem.out] at hok; cases hok
        · have hn := hide (hb.out.trans (behind_yes (p := fun b => isDigitB b.toNat) hd1.out hp))
          have hsn := hide (dP_snoc hfk hd1.out)
          have hdd : 48 ≤ d.toNat ∧ d.toNat ≤ 57 := by simp [isDigitB] at hp; omega
          obtain ⟨c1, c2⟩ := hdd
          have e1 : IntKind.u8.wrap ((d.toNat : Int) - 48) = ((d.toNat - 48 : Nat) : Int) := by rw [IntKind.wrap_u8]; omega
          have e2 : (d.toNat : Int) - 48 = ((d.toNat - 48 : Nat) : Int) := by omega
          have hvs := hide (valN_snoc (dP s.data.toList (a + 1) k) d)
          obtain ⟨g, hg⟩ : ∃ g, d.toNat - 48 = g := ⟨_, rfl⟩
          rw [hg] at e1 e2
          have hg9 : g ≤ 9 := by omega
          by_cases hbig : m ≤ 1000000000
          · have hbi : (m : Int) ≤ 1000000000 := by omega
            obtain ⟨q, hq2⟩ : ∃ q, 10 * m + g = q := ⟨_, rfl⟩
            have hq3 : 10 * (m : Int) + (g : Int) = (q : Int) := by omega
            have hq4 : q ≤ 10000000009 := by omega
            have hc' : Hid (Cnt q (dP s.data.toList (a + 1) (k + 1))) := by
              show Cnt _ _
              have h1 := hcnt.out.1 hbig
              have h2 := hvs.out
              rw [hg] at h2
              unfold Cnt
              rw [hsn.out, h2]
              refine ⟨fun _ => by omega, fun _ => by omega, hq4⟩
            replace hq2 := hide hq2; replace hg := hide hg; replace hbig := hide hbig
            go_wp2_with fail
            go_round
            case rel => exact ⟨k + 1, q, by omega, by omega, by go_num, rfl, hq4, hc', hn⟩
            case measure => simp [intOf]; omega
          · have hbi : ¬ (m : Int) ≤ 1000000000 := by omega
            have hc' : Hid (Cnt m (dP s.data.toList (a + 1) (k + 1))) := by
              show Cnt _ _
              have h1 := hcnt.out.2.1 (by omega)
              have h2 := hvs.out
              unfold Cnt
              rw [hsn.out, h2]
              exact ⟨fun h => absurd h hbig, fun _ => by omega, hm⟩
            replace hg := hide hg; replace hbig := hide hbig
            go_wp2_with fail
            go_round
            case rel => exact ⟨k + 1, m, by omega, by omega, by go_num, rfl, hm, hc', hn⟩
            case measure => simp [intOf]; omega
      · have hfin : Hid (behindL (fun b => isDigitB b.toNat) s.data.toList (a + 1) = k) := hb.out.trans (behind_no (fun x hx => absurd (List.getElem?_eq_some_iff.1 hx).1 (by rw [hlen.out]; omega)))
        have hnum : Hid (numL s.data.toList (a + 1) = dP s.data.toList (a + 1) k) := num_is hfin.out
        have hdl := hide (dP_len (l := s.data.toList) (f := (a + 1)) (k := k) (by rw [hlen.out]; exact hk))
        by_cases hkf : (a + 1) < k
        · have hkf1 : (((a + 1) : Nat) : Int) < (k : Int) := by omega
          replace hkf := hide hkf
          go_wp2_with fail
          refine bodyPost_ret (v := .tuple #[.int .i64 (-(m : Int)), .int .i64 k, .bool (decide ((m : Int) ≤ 1000000000))]) (by simp [results, Tryz.results30, go_sem]) rfl ?_
          refine ⟨-(m : Int), ?_, fun hok => ?_, rfl⟩
          · rw [hfin.out, hnum.out, show digitsOk (dP s.data.toList (a + 1) k) = decide ((m : Int) ≤ 1000000000) from cnt_ok hcnt.out (by have := hdl.out; have := hkf.out; omega)]
          · have h1 := hok
            rw [hnum.out, cnt_ok hcnt.out (by have := hdl.out; have := hkf.out; omega)] at h1
            rw [hnum.out, ← hcnt.out.1 (by simp at h1; omega)]; omega
        · have hkf1 : ¬ (((a + 1) : Nat) : Int) < (k : Int) := by omega
          have hem : Hid (digitsOk (dP s.data.toList (a + 1) k) = false) := by
            show _ = _
            have h1 : dP s.data.toList (a + 1) k = [] := List.eq_nil_of_length_eq_zero (by have := hdl.out; omega)
            rw [h1]; rfl
          replace hkf := hide hkf
          go_wp2_with fail
          refine bodyPost_ret (v := .tuple #[.int .i64 (-(m : Int)), .int .i64 k, .bool false]) (by simp [results, Tryz.results30, go_sem]) rfl ?_
          refine ⟨-(m : Int), ?_, fun hok => ?_, rfl⟩
          · rw [hfin.out, hnum.out, hem.out]
          · rw [hnum.out, hem.out] at hok; cases hok
  · rw [if_neg h45, if_neg h45]
    have hcn : ¬ (c.toNat : Int) = 45 := fun h => h45 (UInt8.toNat_inj.1 (by show c.toNat = 45; omega))
    have hcb : ((c.toNat : Int) == 45) = false := by simpa using hcn
    replace h45 := hide h45
    go_enter Tryz.func30, Tryz.ntmps30
    go_wp2_with fail
    go_loop [7, 8] (fun i n => ∃ k m : Nat, a ≤ k ∧ k ≤ s.size ∧ i = .int .i64 k ∧ n = .int .i64 m ∧ m ≤ 10000000009 ∧ Hid (Cnt m (dP s.data.toList a k)) ∧ Hid (behindL (fun b => isDigitB b.toNat) s.data.toList a = behindL (fun b => isDigitB b.toNat) s.data.toList k)) (fun i _ => s.size - (intOf i).toNat)
    case atStart => exact ⟨a, 0, by omega, by omega, by go_num, rfl, by omega, by show Cnt _ _; unfold dP; rw [Nat.sub_self]; exact ⟨fun _ => rfl, fun h => absurd h (by omega), by omega⟩, rfl⟩
    case round =>
      obtain ⟨k, m, hfk, hk, rfl, rfl, hm, hcnt, hb⟩ := hrel
      by_cases hlt : k < s.size
      · obtain ⟨d, hd1, hd2⟩ := byteAt hlt
        replace hd1 := hide hd1
        go_wp2_with fail
        refine (refDigit d.toNat w).mono ?_
        rintro e w' ⟨rfl, rfl⟩
        cases hp : isDigitB (d.toNat : Int)
        · have hfin : Hid (behindL (fun b => isDigitB b.toNat) s.data.toList a = k) := hb.out.trans (behind_no (fun x hx => by rw [hd1.out] at hx; cases hx; exact hp))
          have hnum : Hid (numL s.data.toList a = dP s.data.toList a k) := num_is hfin.out
          have hdl := hide (dP_len (l := s.data.toList) (f := a) (k := k) (by rw [hlen.out]; exact hk))
          by_cases hkf : a < k
          · have hkf1 : ((a : Nat) : Int) < (k : Int) := by omega
            replace hkf := hide hkf
            go_wp2_with fail
            refine bodyPost_ret (v := .tuple #[.int .i64 ((m : Int)), .int .i64 k, .bool (decide ((m : Int) ≤ 1000000000))]) (by simp [results, Tryz.results30, go_sem]) rfl ?_
            refine ⟨(m : Int), ?_, fun hok => ?_, rfl⟩
            · rw [hfin.out, hnum.out, show digitsOk (dP s.data.toList a k) = decide ((m : Int) ≤ 1000000000) from cnt_ok hcnt.out (by have := hdl.out; have := hkf.out; omega)]
            · have h1 := hok
              rw [hnum.out, cnt_ok hcnt.out (by have := hdl.out; have := hkf.out; omega)] at h1
              rw [hnum.out, ← hcnt.out.1 (by simp at h1; omega)]; omega
          · have hkf1 : ¬ ((a : Nat) : Int) < (k : Int) := by omega
            have hem : Hid (digitsOk (dP s.data.toList a k) = false) := by
              show _ = _
              have h1 : dP s.data.toList a k = [] := List.eq_nil_of_length_eq_zero (by have := hdl.out; omega)
              rw [h1]; rfl
            replace hkf := hide hkf
            go_wp2_with fail
            refine bodyPost_ret (v := .tuple #[.int .i64 ((m : Int)), .int .i64 k, .bool false]) (by simp [results, Tryz.results30, go_sem]) rfl ?_
            refine ⟨(m : Int), ?_, fun hok => ?_, rfl⟩
            · rw [hfin.out, hnum.out, hem.out]
            · rw [hnum.out, hem.out] at hok; cases hok
        · have hn := hide (hb.out.trans (behind_yes (p := fun b => isDigitB b.toNat) hd1.out hp))
          have hsn := hide (dP_snoc hfk hd1.out)
          have hdd : 48 ≤ d.toNat ∧ d.toNat ≤ 57 := by simp [isDigitB] at hp; omega
          obtain ⟨c1, c2⟩ := hdd
          have e1 : IntKind.u8.wrap ((d.toNat : Int) - 48) = ((d.toNat - 48 : Nat) : Int) := by rw [IntKind.wrap_u8]; omega
          have e2 : (d.toNat : Int) - 48 = ((d.toNat - 48 : Nat) : Int) := by omega
          have hvs := hide (valN_snoc (dP s.data.toList a k) d)
          obtain ⟨g, hg⟩ : ∃ g, d.toNat - 48 = g := ⟨_, rfl⟩
          rw [hg] at e1 e2
          have hg9 : g ≤ 9 := by omega
          by_cases hbig : m ≤ 1000000000
          · have hbi : (m : Int) ≤ 1000000000 := by omega
            obtain ⟨q, hq2⟩ : ∃ q, 10 * m + g = q := ⟨_, rfl⟩
            have hq3 : 10 * (m : Int) + (g : Int) = (q : Int) := by omega
            have hq4 : q ≤ 10000000009 := by omega
            have hc' : Hid (Cnt q (dP s.data.toList a (k + 1))) := by
              show Cnt _ _
              have h1 := hcnt.out.1 hbig
              have h2 := hvs.out
              rw [hg] at h2
              unfold Cnt
              rw [hsn.out, h2]
              refine ⟨fun _ => by omega, fun _ => by omega, hq4⟩
            replace hq2 := hide hq2; replace hg := hide hg; replace hbig := hide hbig
            go_wp2_with fail
            go_round
            case rel => exact ⟨k + 1, q, by omega, by omega, by go_num, rfl, hq4, hc', hn⟩
            case measure => simp [intOf]; omega
          · have hbi : ¬ (m : Int) ≤ 1000000000 := by omega
            have hc' : Hid (Cnt m (dP s.data.toList a (k + 1))) := by
              show Cnt _ _
              have h1 := hcnt.out.2.1 (by omega)
              have h2 := hvs.out
              unfold Cnt
              rw [hsn.out, h2]
              exact ⟨fun h => absurd h hbig, fun _ => by omega, hm⟩
            replace hg := hide hg; replace hbig := hide hbig
            go_wp2_with fail
            go_round
            case rel => exact ⟨k + 1, m, by omega, by omega, by go_num, rfl, hm, hc', hn⟩
            case measure => simp [intOf]; omega
      · have hfin : Hid (behindL (fun b => isDigitB b.toNat) s.data.toList a = k) := hb.out.trans (behind_no (fun x hx => absurd (List.getElem?_eq_some_iff.1 hx).1 (by rw [hlen.out]; omega)))
        have hnum : Hid (numL s.data.toList a = dP s.data.toList a k) := num_is hfin.out
        have hdl := hide (dP_len (l := s.data.toList) (f := a) (k := k) (by rw [hlen.out]; exact hk))
        by_cases hkf : a < k
        · have hkf1 : ((a : Nat) : Int) < (k : Int) := by omega
          replace hkf := hide hkf
          go_wp2_with fail
          refine bodyPost_ret (v := .tuple #[.int .i64 ((m : Int)), .int .i64 k, .bool (decide ((m : Int) ≤ 1000000000))]) (by simp [results, Tryz.results30, go_sem]) rfl ?_
          refine ⟨(m : Int), ?_, fun hok => ?_, rfl⟩
          · rw [hfin.out, hnum.out, show digitsOk (dP s.data.toList a k) = decide ((m : Int) ≤ 1000000000) from cnt_ok hcnt.out (by have := hdl.out; have := hkf.out; omega)]
          · have h1 := hok
            rw [hnum.out, cnt_ok hcnt.out (by have := hdl.out; have := hkf.out; omega)] at h1
            rw [hnum.out, ← hcnt.out.1 (by simp at h1; omega)]; omega
        · have hkf1 : ¬ ((a : Nat) : Int) < (k : Int) := by omega
          have hem : Hid (digitsOk (dP s.data.toList a k) = false) := by
            show _ = _
            have h1 : dP s.data.toList a k = [] := List.eq_nil_of_length_eq_zero (by have := hdl.out; omega)
            rw [h1]; rfl
          replace hkf := hide hkf
          go_wp2_with fail
          refine bodyPost_ret (v := .tuple #[.int .i64 ((m : Int)), .int .i64 k, .bool false]) (by simp [results, Tryz.results30, go_sem]) rfl ?_
          refine ⟨(m : Int), ?_, fun hok => ?_, rfl⟩
          · rw [hfin.out, hnum.out, hem.out]
          · rw [hnum.out, hem.out] at hok; cases hok
end Go.Proofs.YtejhegnlmldomaaGreat
