/-
  A resource at a place: what the reference's function answers.
-/
import Derived.Test.YtkjjfdejfihpfaaGreatJ5
import Derived.Test.YtkjjfdejfihpfaaGreatJ8
namespace Go.Proofs.YtkjjfdejfihpfaaGreat
open Go.RowKit

def rfID (l : List UInt8) (at_ : Nat) : IDd × Nat := (⟨(rfText l at_).1, (rfText l (rfText l at_).2).1⟩, (rfText l (rfText l at_).2).2)
def rfAttr (l : List UInt8) (at_ : Nat) : Attrd × Nat :=
  if rfN l (rfText l at_).2 1 = 1 then (⟨(rfText l at_).1, true, (rfText l ((rfText l at_).2 + 1)).1, 0⟩, (rfText l ((rfText l at_).2 + 1)).2)
  else (⟨(rfText l at_).1, false, ⟨#[]⟩, s32 (rfN l ((rfText l at_).2 + 1) 4)⟩, (rfText l at_).2 + 1 + 4)
def rfMany {α : Type} (rf : List UInt8 → Nat → α × Nat) (l : List UInt8) : Nat → Nat → List α × Nat
  | 0, a => ([], a)
  | k + 1, a => ((rf l a).1 :: (rfMany rf l k (rf l a).2).1, (rfMany rf l k (rf l a).2).2)
def rfList {α : Type} (rf : List UInt8 → Nat → α × Nat) (l : List UInt8) (a : Nat) : List α × Nat := rfMany rf l (rfN l a 1) (a + 1)
def rfRes (l : List UInt8) (a : Nat) : Resd × Nat :=
  (⟨(rfID l a).1, (rfList rfAttr l (rfID l a).2).1, (rfList rfID l (rfList rfAttr l (rfID l a).2).2).1⟩, (rfList rfID l (rfList rfAttr l (rfID l a).2).2).2)
theorem refTextAt' (s : ByteArray) (a : Int) (at_ : Nat) (w : World) (h : a = (at_ : Int)) (hs : s.size ≤ 9223372036854775807) (ha : at_ ≤ 1000000000000000) :
    Calls Tryz.prog 63 #[.string s, .int .i64 a] w (TxAt w s at_) := by subst h; exact refTextAt s at_ w hs ha
theorem refRead' (s : ByteArray) (a : Int) (at_ size : Nat) (w : World) (h : a = (at_ : Int)) (hs : s.size ≤ 9223372036854775807) (ha : at_ ≤ 1000000000000000) (hn : size ≤ 4) :
    Calls Tryz.prog 43 #[.string s, .int .i64 a, .int .i64 size] w fun e w' => e = .returned (.int .i64 (rfN s.data.toList at_ size)) ∧ w' = w := by subst h; exact refRead s at_ size w hs ha hn
theorem grown_keeps2 {w w2 : World} {base : Nat} {e : TypeId} {size : Nat} {v : Value} {n : Nat} {xs : List Value} (hown : w.ownsRow base e size v n xs) {k : Nat} {c : Array Value} {t : TypeId} {fz : Nat × Nat} (hk : w.heap[k]? = some (.cells c t fz)) (ht : t ≠ e) {o o' : Obj} (hg : ((w.alloc o).alloc o').grownBy w2 v.ownBlock) : w2.heap[k]? = some (.cells c t fz) := by
  have hlt := (Array.getElem?_eq_some_iff.1 hk).1
  have h1 : ((w.alloc o).alloc o').heap[k]? = some (.cells c t fz) := by
    rw [Below.heap_alloc _ _ _ (by simp; omega), Below.heap_alloc _ _ _ hlt]; exact hk
  rw [hg.block k (by simp; omega) ?_]; exact h1
  intro hv
  rcases hown.2 with ⟨rfl, _⟩ | ⟨g, cap, cur, rfl, hb, hh, _⟩
  · simp [Value.ownBlock] at hv
  · simp [Value.ownBlock] at hv
    subst hv
    rw [hk] at hh; cases hh; exact ht rfl
theorem ownsRow_grown2 {w w2 : World} {base base' : Nat} {e e' : TypeId} {size size' : Nat} {v v' : Value} {n n' : Nat} {xs xs' : List Value} (h : w.ownsRow base e size v n xs) (hown : w.ownsRow base' e' size' v' n' xs') (hne : e ≠ e') {o o' : Obj} (hg : ((w.alloc o).alloc o').grownBy w2 v'.ownBlock) : w2.ownsRow base e size v n xs := by
  obtain ⟨h1, h2⟩ := h
  refine ⟨h1, h2.imp id ?_⟩
  rintro ⟨g, cap, cur, hv, hb, hh, r⟩
  exact ⟨g, cap, cur, hv, hb, grown_keeps2 hown hh hne hg, r⟩
/-- What the reading of a resource at a place answers. -/
def RsAt (w : World) (s : ByteArray) (at_ : Nat) (e : Ending) (w' : World) : Prop :=
  ∃ (x : Resd) (pa2 pa3 : Option Addr) (cap2 cap3 : Nat) (m : Nat), e = .returned (.tuple #[.agg #[.string x.id.kind, .string x.id.name, .slice pa2 x.attrs.length cap2, .slice pa3 x.after.length cap3], .int .i64 m]) ∧ Hid (rfRes s.data.toList at_ = (x, m)) ∧ Hid (okS x) ∧ m ≤ at_ + 1000000 ∧ Hid (OwnR w.heap.size w' (.slice pa2 x.attrs.length cap2) (.slice pa3 x.after.length cap3) x) ∧ Hid (Ext w w')

set_option maxRecDepth 100000 in
set_option maxHeartbeats 3200000 in
theorem refResAt (s : ByteArray) (at_ : Nat) (w : World) (hs : s.size ≤ 9223372036854775807) (ha : at_ ≤ 900000000000000) :
    Calls Tryz.prog 44 #[.string s, .int .i64 at_] w (RsAt w s at_) := by
  obtain ⟨i0, hi, hz0, hz1, hz2⟩ := info_of infoAttr
  obtain ⟨i1, hi', hy0, hy1, hy2⟩ := info_of infoID
  replace hi := hide hi; replace hi' := hide hi'
  have hno : ¬ w.heap.size + 1 = w.heap.size := by omega
  have hno' : ¬ w.heap.size = w.heap.size + 1 := by omega
  go_enter Tryz.func44, Tryz.ntmps44
  go_wp2_with fail
  refine (refTextAt s at_ _ hs (by omega)).mono ?_
  rintro e w1 ⟨t1, m1, rfl, ht1, hz1', hm1, rfl⟩
  go_wp2_with fail
  refine (refTextAt s m1 _ hs (by omega)).mono ?_
  rintro e w2 ⟨t2, m2, rfl, ht2, hz2', hm2, rfl⟩
  have hn3 := rfN_lt s.data.toList m2 1
  rw [Nat.pow_one] at hn3
  have hrd := hide (refRead s m2 1)
  go_wp2_with fail
  refine (hrd.out _ hs (by omega) (by omega)).mono ?_
  rintro e w3 ⟨rfl, rfl⟩
  generalize hN : rfN s.data.toList m2 1 = N at *
  replace hN := hide hN
  go_wp2_with fail
  go_loopw [1, 8] (fun a i wr => ∃ (xs : List Attrd) (pa : Option Addr) (cap m : Nat), xs.length ≤ N ∧ a = .int .i64 m ∧ i = .int .i64 xs.length ∧ m ≤ at_ + 600 + 600 * xs.length ∧ Hid (∀ x ∈ xs, okN x) ∧ Hid (rfMany rfAttr s.data.toList N (m2 + 1) = (xs ++ (rfMany rfAttr s.data.toList (N - xs.length) m).1, (rfMany rfAttr s.data.toList (N - xs.length) m).2)) ∧ Hid (wr.heap[w.heap.size]? = some (.cells #[.string ⟨#[]⟩, .string ⟨#[]⟩, .slice none 0 0, .slice none 0 0] 40 (0, 0))) ∧ Hid (wr.heap[w.heap.size + 1]? = some (.cells #[.string t1, .string t2, .slice pa xs.length cap, .slice none 0 0] 40 (0, 0))) ∧ Hid (wr.ownsRow w.heap.size 42 4 (.slice pa xs.length cap) xs.length (cellsA xs)) ∧ Hid (Ext w wr)) (fun _ i _ => N - (intOf i).toNat)
  case atStart =>
    refine ⟨[], none, 0, m2 + 1, Nat.zero_le _, by simp, rfl, by simp; omega, fun x hx => (by cases hx), rfl, ?_, ?_, World.ownsRow_nil _ _ _ _, ?_⟩
    · exact two_lo w _ _
    · exact two_hi w _ _
    · exact ((Ext.refl w).alloc _).alloc _
  case round =>
    obtain ⟨xs, pa, cap, m, hk, rfl, rfl, hmb, hok, hrf, hO, hI, hown, he⟩ := hrel
    have hltI : w.heap.size + 1 < wr.heap.size := (Array.getElem?_eq_some_iff.1 hI.out).1
    have hneI : ¬ w.heap.size + 1 = wr.heap.size := by omega
    have hneI' : ¬ wr.heap.size = w.heap.size + 1 := by omega
    obtain ⟨b0, b1, b2, b3⟩ := four_cells hI.out
    have fI := row_frozen hI.out
    by_cases hlt : xs.length < N
    · go_wp2_with fail
      refine (refTextAt s m _ hs (by omega)).mono ?_
      rintro e w4 ⟨t4, m4, rfl, ht4, hz4, hm4, rfl⟩
      have hq5 := rfN_lt s.data.toList m4 1
      rw [Nat.pow_one] at hq5
      have hrd5 := hide (refRead s m4 1)
      go_wp2_with fail
      refine (hrd5.out _ hs (by omega) (by omega)).mono ?_
      rintro e w5 ⟨rfl, rfl⟩
      generalize hN5 : rfN s.data.toList m4 1 = n5 at *
      replace hN5 := hide hN5
      by_cases h1 : n5 = 1
      · have h1' : ((n5 : Int) == 1) = true := by simp; omega
        replace h1 := hide h1
        go_wp2_with fail
        refine (refTextAt' s _ (m4 + 1) _ (by simp) hs (by omega)).mono ?_
        rintro e w6 ⟨t6, m6, rfl, ht6, hz6, hm6, rfl⟩
        go_wp2_with (at_builtin; go_must (refine wpList_append_lies _ rfl (.tmp 77) (.tmp 79) 35 rfl w.heap.size 42 i0 (.agg #[.string ⟨#[]⟩, .bool false, .string ⟨#[]⟩, .int .i64 0]) 4 48 Tryz.underlying35 hi.out hz0 hz1 hz2 rfl (by omega) _ xs.length (cellsA xs) rfl ((hown.out.alloc _).alloc _) ⟨wr.heap.size + 1, 0, none⟩ 1 1 (cA ⟨t4, true, t6, 0⟩) rfl rfl ?_ (cA_one _) (by omega) (by unfold maxLen; omega) (by omega) (by simp; omega) (wr.heap.size + 2) (by simp) ?_; (intro j u hu; rw [add_eq]; (match j, hu with | 0, hu => (simp [cA] at hu; subst hu; simp [go_sem]) | 1, hu => (simp [cA] at hu; subst hu; simp [go_sem]) | 2, hu => (simp [cA] at hu; subst hu; simp [go_sem]) | 3, hu => (simp [cA] at hu; subst hu; simp [go_sem]) | _ + 4, hu => (simp [cA] at hu))); intro g1 cap1 w7 hown7 hgrow7 hat7 hlt7; have hI7 := grown_keeps2 hown.out hI.out (by decide) hgrow7; have hO7 := grown_keeps2 hown.out hO.out (by decide) hgrow7; clear b0 b1 b2 b3 fI; obtain ⟨b0, b1, b2, b3⟩ := four_cells hI7; have fI := row_frozen hI7; replace hI7 := hide hI7; replace hO7 := hide hO7))
        go_roundw
        case rel =>
          have hl : (xs ++ [(⟨t4, true, t6, 0⟩ : Attrd)]).length = xs.length + 1 := by simp
          have E7 : Ext w w7 := ((Wrote.ext (B := w.heap.size) (T := fun _ => False) (he.out.alloc _)).grownNew (hown.out.alloc _) hgrow7).toExt
          refine ⟨xs ++ [⟨t4, true, t6, 0⟩], some ⟨g1, 0, none⟩, cap1, m6, by rw [hl]; omega, rfl, by rw [hl]; go_num, by rw [hl]; omega, ?_, ?_, ?_, ?_, ?_, ?_⟩
          · intro y hy
            rcases List.mem_append.1 hy with hy | hy
            · exact hok.out y hy
            · obtain rfl : y = _ := by simpa using hy
              exact ⟨⟨hz4, hz6⟩, by dsimp only; omega, by dsimp only; omega⟩
          · show _ = _
            have ex : rfAttr s.data.toList m = (⟨t4, true, t6, 0⟩, m6) := by
              unfold rfAttr
              rw [ht4.out]
              dsimp only
              rw [hN5.out, if_pos h1.out, ht6.out]
            rw [hrf.out, hl]
            obtain ⟨q, hq⟩ : ∃ q, N - xs.length = q + 1 := ⟨N - xs.length - 1, by omega⟩
            rw [hq, show N - (xs.length + 1) = q by omega]
            simp only [rfMany]
            rw [ex]; simp
          · exact World.setCell_other_row hO7.out hno 2 _
          · show _ = _; rw [hl]; exact four_set2 hI7.out _
          · show World.ownsRow _ _ _ _ _ _ _
            rw [hl, cellsA_app]; exact ownsRow_set hown7 hI7.out (by decide) _
          · exact E7.setCell (p := ⟨w.heap.size + 1, 2, none⟩) (by simp) _
        case measure => simp [intOf]; omega
      · have h1' : ((n5 : Int) == 1) = false := by simp; omega
        replace h1 := hide h1
        have hq6 := rfN_lt s.data.toList (m4 + 1) 4
        have hrd6 := hide (refRead' s ((m4 : Int) + 1) (m4 + 1) 4)
        have hq6' : rfN s.data.toList (m4 + 1) 4 < 4294967296 := hq6
        clear hq6
        go_wp2_with fail
        refine (hrd6.out _ (by simp) hs (by omega) (by omega)).mono ?_
        rintro e w6 ⟨rfl, rfl⟩
        generalize hN6 : rfN s.data.toList (m4 + 1) 4 = n6 at *
        replace hN6 := hide hN6
        by_cases h31 : n6 < 2147483648
        · have h31' : decide ((2147483648 : Int) ≤ (n6 : Int)) = false := by simp; omega
          have hs6 : Hid (s32 n6 = (n6 : Int)) := by show _ = _; unfold s32; rw [if_pos h31]
          go_wp2_with (at_builtin; go_must (refine wpList_append_lies _ rfl (.tmp 77) (.tmp 79) 35 rfl w.heap.size 42 i0 (.agg #[.string ⟨#[]⟩, .bool false, .string ⟨#[]⟩, .int .i64 0]) 4 48 Tryz.underlying35 hi.out hz0 hz1 hz2 rfl (by omega) _ xs.length (cellsA xs) rfl ((hown.out.alloc _).alloc _) ⟨wr.heap.size + 1, 0, none⟩ 1 1 (cA ⟨t4, false, ⟨#[]⟩, (n6 : Int)⟩) rfl rfl ?_ (cA_one _) (by omega) (by unfold maxLen; omega) (by omega) (by simp; omega) (wr.heap.size + 2) (by simp) ?_; (intro j u hu; rw [add_eq]; (match j, hu with | 0, hu => (simp [cA] at hu; subst hu; simp [go_sem]) | 1, hu => (simp [cA] at hu; subst hu; simp [go_sem]) | 2, hu => (simp [cA] at hu; subst hu; simp [go_sem]) | 3, hu => (simp [cA] at hu; subst hu; simp [go_sem]) | _ + 4, hu => (simp [cA] at hu))); intro g1 cap1 w7 hown7 hgrow7 hat7 hlt7; have hI7 := grown_keeps2 hown.out hI.out (by decide) hgrow7; have hO7 := grown_keeps2 hown.out hO.out (by decide) hgrow7; clear b0 b1 b2 b3 fI; obtain ⟨b0, b1, b2, b3⟩ := four_cells hI7; have fI := row_frozen hI7; replace hI7 := hide hI7; replace hO7 := hide hO7))
          go_roundw
          case rel =>
            have hl : (xs ++ [(⟨t4, false, ⟨#[]⟩, (n6 : Int)⟩ : Attrd)]).length = xs.length + 1 := by simp
            have E7 : Ext w w7 := ((Wrote.ext (B := w.heap.size) (T := fun _ => False) (he.out.alloc _)).grownNew (hown.out.alloc _) hgrow7).toExt
            refine ⟨xs ++ [⟨t4, false, ⟨#[]⟩, (n6 : Int)⟩], some ⟨g1, 0, none⟩, cap1, m4 + 1 + 4, by rw [hl]; omega, by simp, by rw [hl]; go_num, by rw [hl]; omega, ?_, ?_, ?_, ?_, ?_, ?_⟩
            · intro y hy
              rcases List.mem_append.1 hy with hy | hy
              · exact hok.out y hy
              · obtain rfl : y = _ := by simpa using hy
                exact ⟨⟨hz4, Nat.zero_le _⟩, by dsimp only; omega, by dsimp only; omega⟩
            · show _ = _
              have ex : rfAttr s.data.toList m = (⟨t4, false, ⟨#[]⟩, (n6 : Int)⟩, m4 + 1 + 4) := by
                unfold rfAttr
                rw [ht4.out]
                dsimp only
                rw [hN5.out, if_neg h1.out, hN6.out, hs6.out]
              rw [hrf.out, hl]
              obtain ⟨q, hq⟩ : ∃ q, N - xs.length = q + 1 := ⟨N - xs.length - 1, by omega⟩
              rw [hq, show N - (xs.length + 1) = q by omega]
              simp only [rfMany]
              rw [ex]; simp
            · exact World.setCell_other_row hO7.out hno 2 _
            · show _ = _; rw [hl]; exact four_set2 hI7.out _
            · show World.ownsRow _ _ _ _ _ _ _
              rw [hl, cellsA_app]; exact ownsRow_set hown7 hI7.out (by decide) _
            · exact E7.setCell (p := ⟨w.heap.size + 1, 2, none⟩) (by simp) _
          case measure => simp [intOf]; omega
        · have h31' : decide ((2147483648 : Int) ≤ (n6 : Int)) = true := by simp; omega
          have hs6 : Hid (s32 n6 = (n6 : Int) - 4294967296) := by show _ = _; unfold s32; rw [if_neg h31]
          go_wp2_with (at_builtin; go_must (refine wpList_append_lies _ rfl (.tmp 77) (.tmp 79) 35 rfl w.heap.size 42 i0 (.agg #[.string ⟨#[]⟩, .bool false, .string ⟨#[]⟩, .int .i64 0]) 4 48 Tryz.underlying35 hi.out hz0 hz1 hz2 rfl (by omega) _ xs.length (cellsA xs) rfl ((hown.out.alloc _).alloc _) ⟨wr.heap.size + 1, 0, none⟩ 1 1 (cA ⟨t4, false, ⟨#[]⟩, (n6 : Int) - 4294967296⟩) rfl rfl ?_ (cA_one _) (by omega) (by unfold maxLen; omega) (by omega) (by simp; omega) (wr.heap.size + 2) (by simp) ?_; (intro j u hu; rw [add_eq]; (match j, hu with | 0, hu => (simp [cA] at hu; subst hu; simp [go_sem]) | 1, hu => (simp [cA] at hu; subst hu; simp [go_sem]) | 2, hu => (simp [cA] at hu; subst hu; simp [go_sem]) | 3, hu => (simp [cA] at hu; subst hu; simp [go_sem]) | _ + 4, hu => (simp [cA] at hu))); intro g1 cap1 w7 hown7 hgrow7 hat7 hlt7; have hI7 := grown_keeps2 hown.out hI.out (by decide) hgrow7; have hO7 := grown_keeps2 hown.out hO.out (by decide) hgrow7; clear b0 b1 b2 b3 fI; obtain ⟨b0, b1, b2, b3⟩ := four_cells hI7; have fI := row_frozen hI7; replace hI7 := hide hI7; replace hO7 := hide hO7))
          go_roundw
          case rel =>
            have hl : (xs ++ [(⟨t4, false, ⟨#[]⟩, (n6 : Int) - 4294967296⟩ : Attrd)]).length = xs.length + 1 := by simp
            have E7 : Ext w w7 := ((Wrote.ext (B := w.heap.size) (T := fun _ => False) (he.out.alloc _)).grownNew (hown.out.alloc _) hgrow7).toExt
            refine ⟨xs ++ [⟨t4, false, ⟨#[]⟩, (n6 : Int) - 4294967296⟩], some ⟨g1, 0, none⟩, cap1, m4 + 1 + 4, by rw [hl]; omega, by simp, by rw [hl]; go_num, by rw [hl]; omega, ?_, ?_, ?_, ?_, ?_, ?_⟩
            · intro y hy
              rcases List.mem_append.1 hy with hy | hy
              · exact hok.out y hy
              · obtain rfl : y = _ := by simpa using hy
                exact ⟨⟨hz4, Nat.zero_le _⟩, by dsimp only; omega, by dsimp only; omega⟩
            · show _ = _
              have ex : rfAttr s.data.toList m = (⟨t4, false, ⟨#[]⟩, (n6 : Int) - 4294967296⟩, m4 + 1 + 4) := by
                unfold rfAttr
                rw [ht4.out]
                dsimp only
                rw [hN5.out, if_neg h1.out, hN6.out, hs6.out]
              rw [hrf.out, hl]
              obtain ⟨q, hq⟩ : ∃ q, N - xs.length = q + 1 := ⟨N - xs.length - 1, by omega⟩
              rw [hq, show N - (xs.length + 1) = q by omega]
              simp only [rfMany]
              rw [ex]; simp
            · exact World.setCell_other_row hO7.out hno 2 _
            · show _ = _; rw [hl]; exact four_set2 hI7.out _
            · show World.ownsRow _ _ _ _ _ _ _
              rw [hl, cellsA_app]; exact ownsRow_set hown7 hI7.out (by decide) _
            · exact E7.setCell (p := ⟨w.heap.size + 1, 2, none⟩) (by simp) _
          case measure => simp [intOf]; omega
    · have hfin : Hid (rfList rfAttr s.data.toList m2 = (xs, m)) := by
        show _ = _
        unfold rfList
        rw [hN.out, hrf.out, show N - xs.length = 0 by omega]
        simp [rfMany]
      have hmb2 : m ≤ at_ + 600 + 600 * 255 := by omega
      have hxl : xs.length ≤ 255 := by omega
      have hq5 := rfN_lt s.data.toList m 1
      rw [Nat.pow_one] at hq5
      have hrd5 := hide (refRead s m 1)
      go_wp2_with fail
      refine (hrd5.out _ hs (by omega) (by omega)).mono ?_
      rintro e w5 ⟨rfl, rfl⟩
      generalize hM : rfN s.data.toList m 1 = M at *
      replace hM := hide hM
      have hmk := hide hk
      clear b0 b1 b2 b3 fI hltI hneI hneI' hlt hk
      obtain ⟨wo, rfl⟩ : ∃ wo : World, wo = w5 := ⟨_, rfl⟩
      go_wp2_with fail
      go_loopw [1, 10] (fun a i wr => ∃ (ys : List IDd) (pa3 : Option Addr) (cap3 m3 : Nat), ys.length ≤ M ∧ a = .int .i64 m3 ∧ i = .int .i64 ys.length ∧ m3 ≤ at_ + 160000 + 600 * ys.length ∧ Hid (∀ x ∈ ys, shI x) ∧ Hid (rfMany rfID s.data.toList M (m + 1) = (ys ++ (rfMany rfID s.data.toList (M - ys.length) m3).1, (rfMany rfID s.data.toList (M - ys.length) m3).2)) ∧ Hid (wr.heap[w.heap.size]? = some (.cells #[.string ⟨#[]⟩, .string ⟨#[]⟩, .slice none 0 0, .slice none 0 0] 40 (0, 0))) ∧ Hid (wr.heap[w.heap.size + 1]? = some (.cells #[.string t1, .string t2, .slice pa xs.length cap, .slice pa3 ys.length cap3] 40 (0, 0))) ∧ Hid (wr.ownsRow w.heap.size 42 4 (.slice pa xs.length cap) xs.length (cellsA xs)) ∧ Hid (wr.ownsRow w.heap.size 37 2 (.slice pa3 ys.length cap3) ys.length (cellsI ys)) ∧ Hid (Ext w wr)) (fun _ i _ => M - (intOf i).toNat)
      case atStart => exact ⟨[], none, 0, m + 1, Nat.zero_le _, by simp, rfl, by simp; omega, fun x hx => (by cases hx), rfl, hO, hI, hown, World.ownsRow_nil _ _ _ _, he⟩
      case round =>
        obtain ⟨ys, pa3, cap3, m3, hk, rfl, rfl, hmb3, hok3, hrf3, hO3, hI3, hown2, hown3, he3⟩ := hrel
        have hltI : w.heap.size + 1 < wr.heap.size := (Array.getElem?_eq_some_iff.1 hI3.out).1
        have hneI : ¬ w.heap.size + 1 = wr.heap.size := by omega
        have hneI' : ¬ wr.heap.size = w.heap.size + 1 := by omega
        obtain ⟨b0, b1, b2, b3⟩ := four_cells hI3.out
        have fI := row_frozen hI3.out
        by_cases hlt : ys.length < M
        · go_wp2_with fail
          refine (refTextAt s m3 _ hs (by omega)).mono ?_
          rintro e w4 ⟨t4, m4, rfl, ht4, hz4, hm4, rfl⟩
          go_wp2_with fail
          refine (refTextAt s m4 _ hs (by omega)).mono ?_
          rintro e w6 ⟨t6, m6, rfl, ht6, hz6, hm6, rfl⟩
          go_wp2_with (at_builtin; go_must (refine wpList_append_lies _ rfl (.tmp 108) (.tmp 110) 38 rfl w.heap.size 37 i1 (.agg #[.string ⟨#[]⟩, .string ⟨#[]⟩]) 2 32 Tryz.underlying38 hi'.out hy0 hy1 hy2 rfl (by omega) _ ys.length (cellsI ys) rfl ((hown3.out.alloc _).alloc _) ⟨wr.heap.size + 1, 0, none⟩ 1 1 (cI ⟨t4, t6⟩) rfl rfl ?_ (cI_one _) (by omega) (by unfold maxLen; omega) (by omega) (by simp; omega) (wr.heap.size + 2) (by simp) ?_; (intro j u hu; rw [add_eq]; (match j, hu with | 0, hu => (simp [cI] at hu; subst hu; simp [go_sem]) | 1, hu => (simp [cI] at hu; subst hu; simp [go_sem]) | _ + 2, hu => (simp [cI] at hu))); intro g1 cap1 w7 hown7 hgrow7 hat7 hlt7; have hI7 := grown_keeps2 hown3.out hI3.out (by decide) hgrow7; have hO7 := grown_keeps2 hown3.out hO3.out (by decide) hgrow7; clear b0 b1 b2 b3 fI; obtain ⟨b0, b1, b2, b3⟩ := four_cells hI7; have fI := row_frozen hI7; replace hI7 := hide hI7; replace hO7 := hide hO7))
          go_roundw
          case rel =>
            have hl : (ys ++ [(⟨t4, t6⟩ : IDd)]).length = ys.length + 1 := by simp
            have E7 : Ext w w7 := ((Wrote.ext (B := w.heap.size) (T := fun _ => False) (he3.out.alloc _)).grownNew (hown3.out.alloc _) hgrow7).toExt
            have own7 := ownsRow_set (j := 3) (ownsRow_grown2 hown2.out hown3.out (by decide) hgrow7) hI7.out (by decide) (.slice (some ⟨g1, 0, none⟩) (ys.length + 1) cap1)
            refine ⟨ys ++ [⟨t4, t6⟩], some ⟨g1, 0, none⟩, cap1, m6, by rw [hl]; omega, rfl, by rw [hl]; go_num, by rw [hl]; omega, ?_, ?_, ?_, ?_, own7, ?_, ?_⟩
            · intro y hy
              rcases List.mem_append.1 hy with hy | hy
              · exact hok3.out y hy
              · obtain rfl : y = _ := by simpa using hy
                exact ⟨hz4, hz6⟩
            · show _ = _
              have ex : rfID s.data.toList m3 = (⟨t4, t6⟩, m6) := by
                unfold rfID
                rw [ht4.out]
                dsimp only
                rw [ht6.out]
              rw [hrf3.out, hl]
              obtain ⟨q, hq⟩ : ∃ q, M - ys.length = q + 1 := ⟨M - ys.length - 1, by omega⟩
              rw [hq, show M - (ys.length + 1) = q by omega]
              simp only [rfMany]
              rw [ex]; simp
            · exact World.setCell_other_row hO7.out hno 3 _
            · show _ = _; rw [hl]; exact four_set3 hI7.out _
            · show World.ownsRow _ _ _ _ _ _ _
              rw [hl, cellsI_app]; exact ownsRow_set hown7 hI7.out (by decide) _
            · exact E7.setCell (p := ⟨w.heap.size + 1, 3, none⟩) (by simp) _
          case measure => simp [intOf]; omega
        · have hfin3 : Hid (rfList rfID s.data.toList m = (ys, m3)) := by
            show _ = _
            unfold rfList
            rw [hM.out, hrf3.out, show M - ys.length = 0 by omega]
            simp [rfMany]
          have hyl : ys.length ≤ 255 := by omega
          obtain ⟨a0, a1, a2, a3⟩ := four_cells hO3.out
          have fO := row_frozen hO3.out
          have K4 : Hid (Wrote w.heap.size (· = 40) wr ((((wr.setCell ⟨w.heap.size, 0, none⟩ (.string t1)).setCell ⟨w.heap.size, 1, none⟩ (.string t2)).setCell ⟨w.heap.size, 2, none⟩ (.slice pa xs.length cap)).setCell ⟨w.heap.size, 3, none⟩ (.slice pa3 ys.length cap3))) := by
            have h0 := hO3.out
            have h1 := four_set0 h0 (.string t1)
            have h2 := four_set1 h1 (.string t2)
            have h3 := four_set2 h2 (.slice pa xs.length cap)
            exact ((((Wrote.refl w.heap.size (· = 40) _).setCell (p := ⟨w.heap.size, 0, none⟩) (Nat.le_refl _) h0 rfl _).setCell (p := ⟨w.heap.size, 1, none⟩) (Nat.le_refl _) h1 rfl _).setCell (p := ⟨w.heap.size, 2, none⟩) (Nat.le_refl _) h2 rfl _).setCell (p := ⟨w.heap.size, 3, none⟩) (Nat.le_refl _) h3 rfl _
          go_wp2
          refine bodyPost_ret (v := .tuple #[.agg #[.string t1, .string t2, .slice pa xs.length cap, .slice pa3 ys.length cap3], .int .i64 m3]) (by simp [results, Tryz.results44, go_sem, a0, a1, a2, a3]) rfl ⟨⟨⟨t1, t2⟩, xs, ys⟩, pa, pa3, cap, cap3, m3, rfl, ?_, ⟨⟨hz1', hz2'⟩, hok.out, hok3.out, hxl, hyl⟩, by omega, ⟨⟨_, _, rfl⟩, ⟨_, _, rfl⟩, ownsRow_wrote hown2.out K4.out (by decide) rfl, ownsRow_wrote hown3.out K4.out (by decide) rfl⟩, ?_⟩
          · show _ = _
            unfold rfRes
            have ei : rfID s.data.toList at_ = (⟨t1, t2⟩, m2) := by
              unfold rfID
              rw [ht1.out]
              dsimp only
              rw [ht2.out]
            rw [ei]
            dsimp only
            rw [hfin.out]
            dsimp only
            rw [hfin3.out]
          · exact he3.out.wrote K4.out (Nat.le_refl _)
end Go.Proofs.YtkjjfdejfihpfaaGreat
