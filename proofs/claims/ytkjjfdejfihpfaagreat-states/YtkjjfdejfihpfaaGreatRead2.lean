/-
  Lists out of bytes: what the program's functions that read them answer.
-/
import Derived.Test.YtkjjfdejfihpfaaGreatRead
import Derived.Test.YtkjjfdejfihpfaaGreatCells
namespace Go.Proofs.YtkjjfdejfihpfaaGreat
open Go.RowKit

def rdMany {α : Type} (rd : List UInt8 → α × List UInt8) : Nat → List UInt8 → List α × List UInt8
  | 0, l => ([], l)
  | k + 1, l => ((rd l).1 :: (rdMany rd k (rd l).2).1, (rdMany rd k (rd l).2).2)
def rdList {α : Type} (rd : List UInt8 → α × List UInt8) (l : List UInt8) : List α × List UInt8 := rdMany rd (numN (l.take 1)) (l.drop 1)
def okN (x : Attrd) : Prop := shA x ∧ -2147483648 ≤ x.number ∧ x.number < 2147483648
theorem Wrote.grownNew {B : Nat} {T : TypeId → Prop} {w w1 w2 : World} {e : TypeId} {size : Nat} {v : Value} {n : Nat} {xs : List Value} (h : Wrote B T w w1) (hown : w1.ownsRow w.heap.size e size v n xs) {o : Obj} (hg : (w1.alloc o).grownBy w2 v.ownBlock) : Wrote B T w w2 := by
  have h' := h.alloc o
  refine ⟨hg.os.trans h'.os, hg.tape.trans h'.tape, hg.output.trans h'.output, Nat.le_trans h'.size hg.size, fun k hk hd => ?_⟩
  rw [← h'.heap k hk hd]
  refine hg.block k (Nat.lt_of_lt_of_le hk h'.size) ?_
  intro hv
  rcases hown.2 with ⟨rfl, _⟩ | ⟨g, cap, cur, rfl, hb, _⟩
  · simp [Value.ownBlock] at hv
  · simp [Value.ownBlock] at hv; omega
theorem RdAt.grown {w1 w2 : World} {R : Nat} {s : ByteArray} {base : Nat} {e : TypeId} {size : Nat} {v : Value} {n : Nat} {xs : List Value} (h : RdAt w1 R s) (hown : w1.ownsRow base e size v n xs) (he : e ≠ 118) {o : Obj} (hg : (w1.alloc o).grownBy w2 v.ownBlock) : RdAt w2 R s := by
  have h1 : RdAt (w1.alloc o) R s := h.ext ((Ext.refl w1).alloc o)
  unfold RdAt at h1 ⊢
  rw [hg.block R (Array.getElem?_eq_some_iff.1 h1).1 ?_]; exact h1
  intro hv
  rcases hown.2 with ⟨rfl, _⟩ | ⟨g, cap, cur, rfl, hb, hh, _⟩
  · simp [Value.ownBlock] at hv
  · simp [Value.ownBlock] at hv
    subst hv
    unfold RdAt at h
    rw [h] at hh; cases hh; exact he rfl

theorem cA_one (x : Attrd) : ∀ u ∈ cA x, u.oneCell' = true := by
  intro u hu
  simp [cA] at hu
  rcases hu with rfl | rfl | rfl | rfl <;> rfl
theorem cI_one (x : IDd) : ∀ u ∈ cI x, u.oneCell' = true := by
  intro u hu
  simp [cI] at hu
  rcases hu with rfl | rfl <;> rfl
theorem cellsA_app (l : List Attrd) (x : Attrd) : cellsA (l ++ [x]) = cellsA l ++ cA x := by simp [cellsA]
theorem cellsI_app (l : List IDd) (x : IDd) : cellsI (l ++ [x]) = cellsI l ++ cI x := by simp [cellsI]

/-- What the reading of such a list answers. -/
def AtsIs (w : World) (R : Nat) (s : ByteArray) (e : Ending) (w' : World) : Prop :=
  ∃ (xs : List Attrd) (pa : Option Addr) (cap : Nat) (s' : ByteArray), e = .returned (.slice pa xs.length cap) ∧ Hid (rdList rdAttr s.data.toList = (xs, s'.data.toList)) ∧ xs.length ≤ 255 ∧ Hid (∀ x ∈ xs, okN x) ∧ Hid (w'.ownsRow w.heap.size 42 4 (.slice pa xs.length cap) xs.length (cellsA xs)) ∧ Hid (Left w w' R s' s'.data.toList)

set_option maxRecDepth 100000 in
set_option maxHeartbeats 1600000 in
theorem readAttrs (R : Nat) (s : ByteArray) (w : World) (hR : RdAt w R s) (hs : s.size ≤ 9223372036854775807) :
    Calls Tryz.prog 65 #[.pointer (some ⟨R, 0, none⟩), .func (.func 66) #[] #[]] w (AtsIs w R s) := by
  obtain ⟨i0, hi, hz0, hz1, hz2⟩ := info_of infoAttr
  replace hi := hide hi
  replace hR := hide hR
  go_enter Tryz.func65, Tryz.ntmps65
  go_wp2_with fail
  refine (number R s 1 _ hR.out hs (by omega)).mono ?_
  rintro e w1 ⟨n, s1, rfl, hn, hn2, hL1⟩
  have hn3 : n < 256 := by
    have := num_lt 1 (s.data.toList.take 1) (by rw [List.length_take]; omega)
    rw [← hn.out] at this; exact this
  go_wp2_with fail
  go_loopw [5, 8] (fun v i wr => ∃ (xs : List Attrd) (pa : Option Addr) (cap : Nat) (sk : ByteArray), xs.length ≤ n ∧ i = .int .i64 xs.length ∧ v = .slice pa xs.length cap ∧ Hid (∀ x ∈ xs, okN x) ∧ Hid (rdMany rdAttr n s1.data.toList = (xs ++ (rdMany rdAttr (n - xs.length) sk.data.toList).1, (rdMany rdAttr (n - xs.length) sk.data.toList).2)) ∧ Hid (wr.ownsRow w.heap.size 42 4 (.slice pa xs.length cap) xs.length (cellsA xs)) ∧ Hid (Left w wr R sk sk.data.toList)) (fun _ i _ => n - (intOf i).toNat)
  case atStart => exact ⟨[], none, 0, s1, Nat.zero_le _, rfl, rfl, fun x hx => (by cases hx), rfl, World.ownsRow_nil _ _ _ _, ⟨hL1.out.at_, rfl, hL1.out.wrote, hL1.out.few⟩⟩
  case round =>
    obtain ⟨xs, pa, cap, sk, hk, rfl, rfl, hok, hrd, hown, hL⟩ := hrel
    by_cases hlt : xs.length < n
    · go_wp2_with (first
        | (go_at_call 66; refine (readAttr R sk _ hL.out.at_ hL.out.few).mono ?_; rintro e w2 ⟨x, s2, rfl, hx, hsh, hb1, hb2, hL2⟩; go_must (have hown2 := hide (ownsRow_wrote hown.out hL2.out.wrote (by decide) rfl); have hsz2 := Nat.le_trans hL.out.wrote.size hL2.out.wrote.size))
        | (at_builtin; go_must (refine wpList_append_lies _ rfl (.tmp 10) (.tmp 14) 35 rfl w.heap.size 42 i0 (.agg #[.string ⟨#[]⟩, .bool false, .string ⟨#[]⟩, .int .i64 0]) 4 48 Tryz.underlying35 hi.out hz0 hz1 hz2 rfl (by omega) _ xs.length (cellsA xs) rfl (hown2.out.alloc _) ⟨w2.heap.size, 0, none⟩ 1 1 (cA x) rfl rfl ?_ (cA_one x) (by omega) (by unfold maxLen; omega) (by omega) (by simp; omega) (w2.heap.size + 1) (by simp) ?_; (intro j u hu; rw [add_eq]; (match j, hu with | 0, hu => (simp [cA] at hu; subst hu; simp [go_sem]) | 1, hu => (simp [cA] at hu; subst hu; simp [go_sem]) | 2, hu => (simp [cA] at hu; subst hu; simp [go_sem]) | 3, hu => (simp [cA] at hu; subst hu; simp [go_sem]) | _ + 4, hu => (simp [cA] at hu))); intro g1 cap1 w3 hown3 hgrow3 hat3 hlt3)))
      replace hgrow3 : (w2.alloc (.cells (cA x).toArray 42)).grownBy w3 (Value.slice pa xs.length cap).ownBlock := hgrow3
      go_roundw
      case rel =>
        have hl : (xs ++ [x]).length = xs.length + 1 := by simp
        refine ⟨xs ++ [x], some ⟨g1, 0, none⟩, cap1, s2, by rw [hl]; omega, by rw [hl]; go_num, by rw [hl], ?_, ?_, ?_, ?_⟩
        · intro y hy
          rcases List.mem_append.1 hy with hy | hy
          · exact hok.out y hy
          · obtain rfl : y = x := by simpa using hy
            exact ⟨hsh, hb1, hb2⟩
        · show _ = _
          rw [hrd.out, hl]
          obtain ⟨q, hq⟩ : ∃ q, n - xs.length = q + 1 := ⟨n - xs.length - 1, by omega⟩
          rw [hq, show n - (xs.length + 1) = q by omega]
          simp only [rdMany]
          rw [hx.out]; simp
        · show World.ownsRow _ _ _ _ _ _ _
          rw [hl, cellsA_app]; exact hown3
        · exact ⟨hL2.out.at_.grown hown2.out (by decide) hgrow3, rfl, (hL.out.wrote.trans hL2.out.wrote).grownNew hown2.out hgrow3, hL2.out.few⟩
      case measure => simp [intOf]; omega
    · obtain hnx : xs.length = n := by omega
      have hfin : Hid (rdList rdAttr s.data.toList = (xs, sk.data.toList)) := by
        show _ = _
        unfold rdList
        rw [← hn.out, ← hL1.out.list, hrd.out, hnx, Nat.sub_self]
        simp [rdMany]
      replace hnx := hide hnx
      go_wp2
      go_ret
      exact ⟨xs, pa, cap, sk, rfl, hfin, by have := hnx.out; omega, hok, hown, hL⟩

/-- What the reading of such a list answers. -/
def IdsIs (w : World) (R : Nat) (s : ByteArray) (e : Ending) (w' : World) : Prop :=
  ∃ (xs : List IDd) (pa : Option Addr) (cap : Nat) (s' : ByteArray), e = .returned (.slice pa xs.length cap) ∧ Hid (rdList rdID s.data.toList = (xs, s'.data.toList)) ∧ xs.length ≤ 255 ∧ Hid (∀ x ∈ xs, shI x) ∧ Hid (w'.ownsRow w.heap.size 37 2 (.slice pa xs.length cap) xs.length (cellsI xs)) ∧ Hid (Left w w' R s' s'.data.toList)

set_option maxRecDepth 100000 in
set_option maxHeartbeats 1600000 in
theorem readIDs (R : Nat) (s : ByteArray) (w : World) (hR : RdAt w R s) (hs : s.size ≤ 9223372036854775807) :
    Calls Tryz.prog 67 #[.pointer (some ⟨R, 0, none⟩), .func (.func 64) #[] #[]] w (IdsIs w R s) := by
  obtain ⟨i0, hi, hz0, hz1, hz2⟩ := info_of infoID
  replace hi := hide hi
  replace hR := hide hR
  go_enter Tryz.func67, Tryz.ntmps67
  go_wp2_with fail
  refine (number R s 1 _ hR.out hs (by omega)).mono ?_
  rintro e w1 ⟨n, s1, rfl, hn, hn2, hL1⟩
  have hn3 : n < 256 := by
    have := num_lt 1 (s.data.toList.take 1) (by rw [List.length_take]; omega)
    rw [← hn.out] at this; exact this
  go_wp2_with fail
  go_loopw [5, 8] (fun v i wr => ∃ (xs : List IDd) (pa : Option Addr) (cap : Nat) (sk : ByteArray), xs.length ≤ n ∧ i = .int .i64 xs.length ∧ v = .slice pa xs.length cap ∧ Hid (∀ x ∈ xs, shI x) ∧ Hid (rdMany rdID n s1.data.toList = (xs ++ (rdMany rdID (n - xs.length) sk.data.toList).1, (rdMany rdID (n - xs.length) sk.data.toList).2)) ∧ Hid (wr.ownsRow w.heap.size 37 2 (.slice pa xs.length cap) xs.length (cellsI xs)) ∧ Hid (Left w wr R sk sk.data.toList)) (fun _ i _ => n - (intOf i).toNat)
  case atStart => exact ⟨[], none, 0, s1, Nat.zero_le _, rfl, rfl, fun x hx => (by cases hx), rfl, World.ownsRow_nil _ _ _ _, ⟨hL1.out.at_, rfl, hL1.out.wrote, hL1.out.few⟩⟩
  case round =>
    obtain ⟨xs, pa, cap, sk, hk, rfl, rfl, hok, hrd, hown, hL⟩ := hrel
    by_cases hlt : xs.length < n
    · go_wp2_with (first
        | (go_at_call 64; refine (readID R sk _ hL.out.at_ hL.out.few).mono ?_; rintro e w2 ⟨x, s2, rfl, hx, hsh, hL2⟩; go_must (have hown2 := hide (ownsRow_wrote hown.out hL2.out.wrote (by decide) rfl); have hsz2 := Nat.le_trans hL.out.wrote.size hL2.out.wrote.size))
        | (at_builtin; go_must (refine wpList_append_lies _ rfl (.tmp 10) (.tmp 14) 38 rfl w.heap.size 37 i0 (.agg #[.string ⟨#[]⟩, .string ⟨#[]⟩]) 2 32 Tryz.underlying38 hi.out hz0 hz1 hz2 rfl (by omega) _ xs.length (cellsI xs) rfl (hown2.out.alloc _) ⟨w2.heap.size, 0, none⟩ 1 1 (cI x) rfl rfl ?_ (cI_one x) (by omega) (by unfold maxLen; omega) (by omega) (by simp; omega) (w2.heap.size + 1) (by simp) ?_; (intro j u hu; rw [add_eq]; (match j, hu with | 0, hu => (simp [cI] at hu; subst hu; simp [go_sem]) | 1, hu => (simp [cI] at hu; subst hu; simp [go_sem]) | _ + 2, hu => (simp [cI] at hu))); intro g1 cap1 w3 hown3 hgrow3 hat3 hlt3)))
      replace hgrow3 : (w2.alloc (.cells (cI x).toArray 37)).grownBy w3 (Value.slice pa xs.length cap).ownBlock := hgrow3
      go_roundw
      case rel =>
        have hl : (xs ++ [x]).length = xs.length + 1 := by simp
        refine ⟨xs ++ [x], some ⟨g1, 0, none⟩, cap1, s2, by rw [hl]; omega, by rw [hl]; go_num, by rw [hl], ?_, ?_, ?_, ?_⟩
        · intro y hy
          rcases List.mem_append.1 hy with hy | hy
          · exact hok.out y hy
          · obtain rfl : y = x := by simpa using hy
            exact hsh
        · show _ = _
          rw [hrd.out, hl]
          obtain ⟨q, hq⟩ : ∃ q, n - xs.length = q + 1 := ⟨n - xs.length - 1, by omega⟩
          rw [hq, show n - (xs.length + 1) = q by omega]
          simp only [rdMany]
          rw [hx.out]; simp
        · show World.ownsRow _ _ _ _ _ _ _
          rw [hl, cellsI_app]; exact hown3
        · exact ⟨hL2.out.at_.grown hown2.out (by decide) hgrow3, rfl, (hL.out.wrote.trans hL2.out.wrote).grownNew hown2.out hgrow3, hL2.out.few⟩
      case measure => simp [intOf]; omega
    · obtain hnx : xs.length = n := by omega
      have hfin : Hid (rdList rdID s.data.toList = (xs, sk.data.toList)) := by
        show _ = _
        unfold rdList
        rw [← hn.out, ← hL1.out.list, hrd.out, hnx, Nat.sub_self]
        simp [rdMany]
      replace hnx := hide hnx
      go_wp2
      go_ret
      exact ⟨xs, pa, cap, sk, rfl, hfin, by have := hnx.out; omega, hok, hown, hL⟩

end Go.Proofs.YtkjjfdejfihpfaaGreat
