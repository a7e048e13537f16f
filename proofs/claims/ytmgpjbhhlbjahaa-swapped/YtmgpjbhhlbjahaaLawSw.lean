/-
  The law Swapped: it answers true.
-/
import Derived.Test.YtmgpjbhhlbjahaaDkY
import Derived.Test.YtmgpjbhhlbjahaaSwS
namespace Go.Proofs.Ytmgpjbhhlbjahaa
open Go.RowKit Go.Shelf

attribute [local go_sem] Go.World.cell?_alloc_some
theorem mod_nat {c : Int} {n : Nat} (hc : 0 ≤ c) (hn : 0 < n) : ∃ z : Nat, z < n ∧ Int.tmod c (n : Int) = (z : Int) := by
  obtain ⟨m, rfl⟩ : ∃ m : Nat, c = (m : Int) := ⟨c.toNat, by omega⟩
  exact ⟨m % n, Nat.mod_lt _ hn, by rw [Int.tmod_eq_emod_of_nonneg hc]; rfl⟩
set_option maxRecDepth 100000 in
set_option maxHeartbeats 800000 in
theorem pickN (c : Int) (n : Nat) (w : World) (hc : -9223372036854775808 ≤ c ∧ c ≤ 9223372036854775807) (hn : 0 < n) (hn' : n ≤ 1000000) :
    Calls Try.prog 8 #[.int .i64 c, .int .i64 n] w fun e w' => ∃ z : Nat, e = .returned (.int .i64 z) ∧ z < n ∧ w' = w := by
  have n1 : ¬ (n : Int) = 0 := by omega
  have n2 : ((n : Int) == 0) = false := by simp; omega
  go_enter Try.func8, Try.ntmps8
  by_cases h : c < 0
  · have h1 : IntKind.i64.wrap (c + 1) = c + 1 := by rw [IntKind.wrap_i64]; omega
    have h2 : IntKind.i64.wrap (-(c + 1)) = -(c + 1) := by rw [IntKind.wrap_i64]; omega
    obtain ⟨z, hz, e⟩ := mod_nat (c := -(c + 1)) (by omega) hn
    go_wp2
    all_goals go_ret
    all_goals refine ⟨z, ?_, hz, rfl⟩
    all_goals (rw [← e]; rfl)
  · have h1 : decide (c < 0) = false := by simp; omega
    obtain ⟨z, hz, e⟩ := mod_nat (c := c) (by omega) hn
    go_wp2
    all_goals go_ret
    all_goals refine ⟨z, ?_, hz, rfl⟩
    all_goals (rw [← e]; rfl)

/-- The state ahead of each of the four acts, and behind the last. -/
def swE (o a : List UInt8) (n : Nat) (kp st : Int) : Nat → DskS
  | 1 => sw0 o n kp st
  | 2 => sw1 o a (n - 1) kp st
  | 3 => sw2 o a (n - 2) kp st
  | 4 => sw3 o a (n - 3) kp st
  | _ => sw4 o a (n - 4) kp st
theorem Good.mono {X Y : List (List UInt8)} {d : DskS} (h : Good X d) (hs : ∀ x ∈ X, x ∈ Y) : Good Y d := fun m h1 h2 => by
  obtain ⟨i, x, g1, g2, g3⟩ := h m h1 h2
  exact ⟨i, x, g1, g2, hs x g3⟩
/-- What is asked of the disk behind the loop. -/
def EndS (o a : List UInt8) (n : Nat) (F : DskS) : Prop := (F.last ≤ F.chs.length ∧ F.chs.length ≤ 3) ∧ ((n = 0 ∨ n = 5) → Good [a] F) ∧ Good [o, a] F
theorem end_crash {o a : List UInt8} {n : Nat} {F : DskS} (kp st : Int) (h : Good [o, a] F) (hl : F.last ≤ F.chs.length ∧ F.chs.length ≤ 3) (hn : ¬ (n = 0 ∨ n = 5)) : EndS o a n (F.crash kp st) := by
  have h3 := atMostS_le st (F.chs.length - F.last)
  refine ⟨⟨?_, ?_⟩, fun h' => absurd h' hn, h.crash hl.1 kp st⟩
  · show F.last + atMostS st (F.chs.length - F.last) ≤ (F.chs.take (F.last + atMostS st (F.chs.length - F.last))).length
    rw [List.length_take]; omega
  · show (F.chs.take (F.last + atMostS st (F.chs.length - F.last))).length ≤ 3
    rw [List.length_take]; omega
/-- A disk that was made since. -/
def DiskL (w0 w : World) (d : Nat) (D : DskS) : Prop := ∃ O : Nat → Prop, DiskAt O w d D ∧ ∀ k, O k → w0.heap.size ≤ k ∧ k < w.heap.size
def LIs (w0 : World) (d : Nat) (R : DskS × Int) (e : Ending) (w' : World) : Prop := e = .returned (.int .i64 R.2) ∧ Hid (DiskL w0 w' d R.1) ∧ Hid (Ext w0 w')
theorem grow_in {w0 w w' : World} {O : Nat → Prop} (hO : ∀ k, O k → w0.heap.size ≤ k ∧ k < w.heap.size) (h0 : w0.heap.size ≤ w.heap.size) (hs : w.heap.size ≤ w'.heap.size) : ∀ k, Grow O w w' k → w0.heap.size ≤ k ∧ k < w'.heap.size := fun k hk => by
  rcases hk with hk | hk
  · have := hO k hk; omega
  · omega
theorem OpIs.l {w0 w w' : World} {O : Nat → Prop} {d : Nat} {R : DskS × Int} {e : Ending} (h : OpIs O w d R e w') (X : Ext w0 w) (hO : ∀ k, O k → w0.heap.size ≤ k ∧ k < w.heap.size) : LIs w0 d R e w' :=
  ⟨h.1, ⟨_, h.2.1.out, grow_in hO (Ext.size X) h.2.2.out.size⟩, X.since h.2.2.out fun j hj => (hO j hj).1⟩
theorem lWrite (w0 w : World) (d : Nat) (D : DskS) (name s : ByteArray) (h : DiskL w0 w d D) (X : Ext w0 w) (hn : name.size ≤ 12) (hs : s.size ≤ 2000) (hc : D.chs.length ≤ 1000) : Calls Try.prog 5 #[.pointer (some ⟨d, 0, none⟩), .string name, .string s] w (LIs w0 d (D.write name s)) := by
  obtain ⟨O, h, hO⟩ := h
  exact (opWrite O w d D name s h (fun k hk => (hO k hk).2) (by omega) (by omega) (by omega)).mono fun e w' h' => h'.l X hO
theorem lSync (w0 w : World) (d : Nat) (D : DskS) (name : ByteArray) (h : DiskL w0 w d D) (X : Ext w0 w) (hn : name.size ≤ 12) (hc : D.chs.length ≤ 1000) : Calls Try.prog 6 #[.pointer (some ⟨d, 0, none⟩), .string name] w (LIs w0 d (D.sync name)) := by
  obtain ⟨O, h, hO⟩ := h
  exact (opSync O w d D name h (fun k hk => (hO k hk).2) (by omega) (by omega)).mono fun e w' h' => h'.l X hO
theorem lRename (w0 w : World) (d : Nat) (D : DskS) (src dst : ByteArray) (h : DiskL w0 w d D) (X : Ext w0 w) (hn : src.size ≤ 12) (hs : dst.size ≤ 12) (hc : D.chs.length ≤ 1000) : Calls Try.prog 10 #[.pointer (some ⟨d, 0, none⟩), .string src, .string dst] w (LIs w0 d (D.rename src dst)) := by
  obtain ⟨O, h, hO⟩ := h
  exact (opRename O w d D src dst h (fun k hk => (hO k hk).2) (by omega) (by omega) (by omega)).mono fun e w' h' => h'.l X hO
theorem lSyncN (w0 w : World) (d : Nat) (D : DskS) (h : DiskL w0 w d D) (X : Ext w0 w) (hc : D.chs.length ≤ 1000) : Calls Try.prog 7 #[.pointer (some ⟨d, 0, none⟩)] w (LIs w0 d D.syncN) := by
  obtain ⟨O, h, hO⟩ := h
  exact (opSyncN O w d D h (by omega)).mono fun e w' h' => h'.l X hO
theorem lBreak (w0 w : World) (d : Nat) (D : DskS) (k keep names : Int) (h : DiskL w0 w d D) (X : Ext w0 w) (hk : k ≤ 9223372036854775807) : Calls Try.prog 9 #[.pointer (some ⟨d, 0, none⟩), .int .i64 k, .int .i64 keep, .int .i64 names] w (LIs w0 d (D.break k keep names)) := by
  obtain ⟨O, h, hO⟩ := h
  exact (opBreak O w d D k keep names h hk).mono fun e w' h' => h'.l X hO
theorem lCrash (w0 w : World) (d : Nat) (D : DskS) (keep names : Int) (h : DiskL w0 w d D) (X : Ext w0 w) (hc : D.chs.length ≤ 1000) : Calls Try.prog 11 #[.pointer (some ⟨d, 0, none⟩), .int .i64 keep, .int .i64 names] w fun e w' => e = .returned (.tuple #[]) ∧ Hid (DiskL w0 w' d (D.crash keep names)) ∧ Hid (Ext w0 w') := by
  obtain ⟨O, h, hO⟩ := h
  refine (opCrash O w d D keep names h (by omega)).mono ?_
  rintro e w' ⟨rfl, h1, h2⟩
  exact ⟨rfl, ⟨_, h1.out, grow_in hO (Ext.size X) h2.out.size⟩, X.since h2.out fun j hj => (hO j hj).1⟩
theorem lRead (w0 w : World) (d : Nat) (D : DskS) (name : ByteArray) (h : DiskL w0 w d D) (hn : name.size ≤ 12) : Calls Try.prog 12 #[.pointer (some ⟨d, 0, none⟩), .string name] w fun e w' => e = .returned (readV D name) ∧ Hid (Ext w w') := by
  obtain ⟨O, h, hO⟩ := h
  exact readP O w d D name h (by omega)

set_option maxRecDepth 100000 in
set_option maxHeartbeats 6400000 in
theorem swappedLaw (old anew : ByteArray) (k keep stay : Int) (w : World) (hk : -9223372036854775808 ≤ k ∧ k ≤ 9223372036854775807) :
    Calls Try.prog 3 #[.string old, .string anew, .int .i64 k, .int .i64 keep, .int .i64 stay] w fun e w' => e = .returned (.bool true) ∧ Ext w w' := by
  replace hk := hide hk
  by_cases ho : 2000 < old.size
  · have b1 : decide (2000 < (old.size : Int)) = true := by simp; omega
    replace ho := hide ho
    go_enter Try.func3, Try.ntmps3
    go_wp2_with fail
    go_ret
    exact ⟨rfl, Ext.refl w⟩
  by_cases ha : 2000 < anew.size
  · have b1 : decide (2000 < (old.size : Int)) = false := by simp; omega
    have b2 : decide (2000 < (anew.size : Int)) = true := by simp; omega
    replace ho := hide ho; replace ha := hide ha
    go_enter Try.func3, Try.ntmps3
    go_wp2_with fail
    go_ret
    exact ⟨rfl, Ext.refl w⟩
  have b1 : decide (2000 < (old.size : Int)) = false := by simp; omega
  have b2 : decide (2000 < (anew.size : Int)) = false := by simp; omega
  have so : old.size ≤ 2000 := by omega
  have sa : anew.size ≤ 2000 := by omega
  obtain ⟨o, eo⟩ : ∃ o, o = old.data.toList := ⟨_, rfl⟩
  obtain ⟨a, ea⟩ : ∃ a, a = anew.data.toList := ⟨_, rfl⟩
  replace ho := hide ho; replace ha := hide ha; replace so := hide so; replace sa := hide sa; replace eo := hide eo; replace ea := hide ea
  go_enter Try.func3, Try.ntmps3
  go_wp2_with fail
  refine (newP 20000 w).mono ?_
  rintro e1 w1 (⟨hbad, rfl, X1⟩ | ⟨r, d, hr, -, -, rfl, hd, X1⟩)
  · omega
  obtain rfl : r = 20000 := by omega
  have L1 : DiskL w w1 d (DskS.new 20000) := ⟨_, hd.out, fun k hk => hk⟩
  replace L1 := hide L1; replace hr := hide hr
  go_wp2_with fail
  refine (lWrite w w1 d _ nFile old L1.out X1.out (by decide) so.out (by simp [DskS.new])).mono ?_
  rintro e2 w2 ⟨rfl, L2, X2⟩
  rw [swWrite old so.out, ← eo.out] at L2
  rw [swWrite old so.out]
  go_wp2_with fail
  refine (lSync w w2 d _ nFile L2.out X2.out (by decide) (by simp)).mono ?_
  rintro e3 w3 ⟨rfl, L3, X3⟩
  rw [swSync] at L3
  rw [swSync]
  go_wp2_with fail
  refine (lSyncN w w3 d _ L3.out X3.out (by simp)).mono ?_
  rintro e4 w4 ⟨rfl, L4, X4⟩
  rw [swNames] at L4
  rw [swNames]
  go_wp2_with fail
  refine (pickN k 6 w4 hk.out (by omega) (by omega)).mono ?_
  rintro e5 w5 ⟨n, rfl, hn, hw5⟩
  subst hw5
  go_wp2_with fail
  refine (lBreak w w5 d _ (n : Int) keep stay L4.out X4.out (by omega)).mono ?_
  rintro e6 w6 ⟨rfl, L6, X6⟩
  rw [swBreak] at L6
  go_upto_block 0 with fail
  go_cut [] (fun wx => ∃ F, Hid (DiskL w wx d F) ∧ Hid (Ext w wx) ∧ Hid (EndS o a n F))
  case first =>
    go_wp2_with fail
    go_loopw [17] (fun i wr => ∃ j : Nat, 1 ≤ j ∧ j ≤ 5 ∧ i = .int .i64 j ∧ (n = 0 ∨ j ≤ n) ∧ Hid (DiskL w wr d (swE o a n keep stay j)) ∧ Hid (Ext w wr)) (fun i _ => 5 - (intOf i).toNat)
    case atStart => exact ⟨1, by omega, by omega, rfl, by omega, L6, X6⟩
    case round =>
      obtain ⟨j, j1, j5, rfl, hjn, hL, hX⟩ := hrel
      have hj : j = 1 ∨ j = 2 ∨ j = 3 ∨ j = 4 ∨ j = 5 := by omega
      clear j1 j5
      rcases hj with rfl | rfl | rfl | rfl | rfl
      · by_cases hbk : n = 1
        · have q2 : ((1 : Int) == (n : Int)) = true := by simp; omega
          have hst := (show (swE o a n keep stay 1).write nOther anew = _ from (step1 o anew (by rw [eo.out, ba_length]; exact so.out) sa.out n keep stay))
          rw [if_pos (by omega), ← ea.out] at hst
          replace hbk := hide hbk
          go_wp2_with fail
          refine (lWrite w wr d _ nOther anew hL.out hX.out (by decide) sa.out (by simp [swE, sw0])).mono ?_
          rintro e7 w7 ⟨rfl, L7, X7⟩
          rw [hst] at L7
          rw [hst]
          replace hst := hide hst
          go_wp2_with fail
          go_meet
          exact ⟨_, L7, X7, end_crash keep stay (good1 o _ 0 keep stay) (by simp [sw1]) (by have := hbk.out; omega)⟩
        · have hst := (show (swE o a n keep stay 1).write nOther anew = _ from (step1 o anew (by rw [eo.out, ba_length]; exact so.out) sa.out n keep stay))
          rw [if_neg (by omega), ← ea.out] at hst
          have q1 : (1 : Int) ≠ (n : Int) := by omega
          have q2 : ((1 : Int) == (n : Int)) = false := by simp; omega
          replace hbk := hide hbk
          go_wp2_with fail
          refine (lWrite w wr d _ nOther anew hL.out hX.out (by decide) sa.out (by simp [swE, sw0])).mono ?_
          rintro e7 w7 ⟨rfl, L7, X7⟩
          rw [hst] at L7
          rw [hst]
          replace hst := hide hst
          go_wp2_with fail
          go_roundw
          case rel => exact ⟨2, by omega, by omega, by go_num, by have := hbk.out; omega, by first | exact L7 | (rw [ea.out]; exact L7), X7⟩
          case measure => simp [intOf]
      · by_cases hbk : n = 2
        · have q2 : ((2 : Int) == (n : Int)) = true := by simp; omega
          have hst := (show (swE o a n keep stay 2).sync nOther = _ from step2 o a (n - 1) keep stay)
          rw [if_pos (by omega)] at hst
          replace hbk := hide hbk
          go_wp2_with fail
          refine (lSync w wr d _ nOther hL.out hX.out (by decide) (by simp [swE, sw1])).mono ?_
          rintro e7 w7 ⟨rfl, L7, X7⟩
          rw [hst] at L7
          rw [hst]
          replace hst := hide hst
          go_wp2_with fail
          go_meet
          exact ⟨_, L7, X7, end_crash keep stay (good1 o _ 0 keep stay) (by simp [sw1]) (by have := hbk.out; omega)⟩
        · have hst := (show (swE o a n keep stay 2).sync nOther = _ from step2 o a (n - 1) keep stay)
          rw [if_neg (by omega)] at hst
          have q1 : (2 : Int) ≠ (n : Int) := by omega
          have q2 : ((2 : Int) == (n : Int)) = false := by simp; omega
          replace hbk := hide hbk
          go_wp2_with fail
          refine (lSync w wr d _ nOther hL.out hX.out (by decide) (by simp [swE, sw1])).mono ?_
          rintro e7 w7 ⟨rfl, L7, X7⟩
          rw [hst] at L7
          rw [hst]
          replace hst := hide hst
          go_wp2_with fail
          go_roundw
          case rel => exact ⟨3, by omega, by omega, by go_num, by have := hbk.out; omega, by first | exact L7 | (rw [ea.out]; exact L7), X7⟩
          case measure => simp [intOf]
      · by_cases hbk : n = 3
        · have q2 : ((3 : Int) == (n : Int)) = true := by simp; omega
          have hst := (show (swE o a n keep stay 3).rename nOther nFile = _ from step3 o a (n - 2) keep stay)
          rw [if_pos (by omega)] at hst
          replace hbk := hide hbk
          go_wp2_with fail
          refine (lRename w wr d _ nOther nFile hL.out hX.out (by decide) (by decide) (by simp [swE, sw2])).mono ?_
          rintro e7 w7 ⟨rfl, L7, X7⟩
          rw [hst] at L7
          rw [hst]
          replace hst := hide hst
          go_wp2_with fail
          go_meet
          exact ⟨_, L7, X7, end_crash keep stay (good3 o _ 0 keep stay) (by simp [sw3]) (by have := hbk.out; omega)⟩
        · have hst := (show (swE o a n keep stay 3).rename nOther nFile = _ from step3 o a (n - 2) keep stay)
          rw [if_neg (by omega)] at hst
          have q1 : (3 : Int) ≠ (n : Int) := by omega
          have q2 : ((3 : Int) == (n : Int)) = false := by simp; omega
          replace hbk := hide hbk
          go_wp2_with fail
          refine (lRename w wr d _ nOther nFile hL.out hX.out (by decide) (by decide) (by simp [swE, sw2])).mono ?_
          rintro e7 w7 ⟨rfl, L7, X7⟩
          rw [hst] at L7
          rw [hst]
          replace hst := hide hst
          go_wp2_with fail
          go_roundw
          case rel => exact ⟨4, by omega, by omega, by go_num, by have := hbk.out; omega, by first | exact L7 | (rw [ea.out]; exact L7), X7⟩
          case measure => simp [intOf]
      · by_cases hbk : n = 4
        · have q2 : ((4 : Int) == (n : Int)) = true := by simp; omega
          have hst := (show (swE o a n keep stay 4).syncN = _ from step4 o a (n - 3) keep stay)
          rw [if_pos (by omega)] at hst
          replace hbk := hide hbk
          go_wp2_with fail
          refine (lSyncN w wr d _ hL.out hX.out (by simp [swE, sw3])).mono ?_
          rintro e7 w7 ⟨rfl, L7, X7⟩
          rw [hst] at L7
          rw [hst]
          replace hst := hide hst
          go_wp2_with fail
          go_meet
          exact ⟨_, L7, X7, end_crash keep stay (good3 o _ 0 keep stay) (by simp [sw3]) (by have := hbk.out; omega)⟩
        · have hst := (show (swE o a n keep stay 4).syncN = _ from step4 o a (n - 3) keep stay)
          rw [if_neg (by omega)] at hst
          have q1 : (4 : Int) ≠ (n : Int) := by omega
          have q2 : ((4 : Int) == (n : Int)) = false := by simp; omega
          replace hbk := hide hbk
          go_wp2_with fail
          refine (lSyncN w wr d _ hL.out hX.out (by simp [swE, sw3])).mono ?_
          rintro e7 w7 ⟨rfl, L7, X7⟩
          rw [hst] at L7
          rw [hst]
          replace hst := hide hst
          go_wp2_with fail
          go_roundw
          case rel => exact ⟨5, by omega, by omega, by go_num, by have := hbk.out; omega, by first | exact L7 | (rw [ea.out]; exact L7), X7⟩
          case measure => simp [intOf]
      · go_wp2_with fail
        go_meet
        have hG := good4 o a (n - 4) keep stay
        exact ⟨_, hL, hX, ⟨by simp [swE, sw4], fun _ => hG, hG.mono (by simp)⟩⟩
  case rest =>
    obtain ⟨F, hF, hX, hE⟩ := hcut
    obtain ⟨w8, rfl⟩ : ∃ w8 : World, w8 = wc := ⟨_, rfl⟩
    go_wp2_with fail
    refine (lCrash w w8 d F 0 0 hF.out hX.out (by have := hE.out.1.2; omega)).mono ?_
    rintro e9 w9 ⟨rfl, L9, X9⟩
    go_wp2_with fail
    refine (lRead w w9 d _ nFile L9.out (by decide)).mono ?_
    rintro e10 w10 ⟨rfl, X10⟩
    have hl3 := atMostS_le 0 (F.chs.length - F.last)
    have hle9 : (F.crash 0 0).last ≤ (F.crash 0 0).chs.length := by
      show F.last + atMostS 0 (F.chs.length - F.last) ≤ (F.chs.take (F.last + atMostS 0 (F.chs.length - F.last))).length
      have := hE.out.1.1
      rw [List.length_take]; omega
    have eA : (⟨a.toArray⟩ : ByteArray) = anew := by rw [ea.out]
    have eO : (⟨o.toArray⟩ : ByteArray) = old := by rw [eo.out]
    by_cases h05 : n = 0 ∨ n = 5
    · obtain ⟨x, hx, hrd⟩ := ((hE.out.2.1 h05).crash hE.out.1.1 0 0).read hle9
      obtain rfl : x = a := by simpa using hx
      have hv : readV (F.crash 0 0) nFile = .tuple #[.string anew, .int .i64 0] := by unfold readV; rw [hrd]; simp only; rw [eA]
      rw [hv]
      replace hv := hide hv; replace hrd := hide hrd; replace hle9 := hide hle9; replace eA := hide eA; replace eO := hide eO; replace hl3 := hide hl3
      rcases h05 with rfl | rfl
      · go_wp2_with fail
        go_ret
        exact ⟨by simp, X9.out.trans X10.out⟩
      · go_wp2_with fail
        go_ret
        exact ⟨by simp, X9.out.trans X10.out⟩
    · obtain ⟨x, hx, hrd⟩ := (hE.out.2.2.crash hE.out.1.1 0 0).read hle9
      have z0 : ((n : Int) == 0) = false := by simp; omega
      have z5 : ((n : Int) == 5) = false := by simp; omega
      have hx' : x = o ∨ x = a := by simpa using hx
      replace hle9 := hide hle9; replace hl3 := hide hl3; replace h05 := hide h05
      by_cases hxo : x = o
      · subst hxo
        have hv : readV (F.crash 0 0) nFile = .tuple #[.string old, .int .i64 0] := by unfold readV; rw [hrd]; simp only; rw [eO]
        rw [hv]
        replace hv := hide hv; replace hrd := hide hrd; replace eA := hide eA; replace eO := hide eO; replace hx' := hide hx'
        go_wp2_with fail
        go_ret
        exact ⟨by simp, X9.out.trans X10.out⟩
      · obtain rfl : x = a := hx'.resolve_left hxo
        have hv : readV (F.crash 0 0) nFile = .tuple #[.string anew, .int .i64 0] := by unfold readV; rw [hrd]; simp only; rw [eA]
        have hne : (anew.toList == old.toList) = false := by
          simp only [ByteArray.toList_eq]
          rw [← ea.out, ← eo.out]
          simpa using hxo
        rw [hv]
        replace hv := hide hv; replace hrd := hide hrd; replace eA := hide eA; replace eO := hide eO; replace hxo := hide hxo; replace hx' := hide hx'
        go_wp2_with fail
        go_ret
        exact ⟨by simp, X9.out.trans X10.out⟩
end Go.Proofs.Ytmgpjbhhlbjahaa
