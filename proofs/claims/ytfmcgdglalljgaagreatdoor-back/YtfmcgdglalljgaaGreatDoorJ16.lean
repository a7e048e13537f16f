/-
  append onto a row of our own: what the old row is behind it.
-/
/-
  Lists of resources of our own, and their lists; what the program's function that reads one answers.
-/
/-
  What is written is read again: resources.
-/
/-
  What is written is read again: both readers.
-/
/-
  Journals: the record that a journal begins with, as the program reads it.
-/
/-
  Journals: what the program's Scan answers.
-/
/-
  Journals: what the reference's Scan answers.
-/
import Derived.Test.YtfmcgdglalljgaaGreatDoorJ10
import Derived.Deep.AppendLies
import Derived.Test.YtfmcgdglalljgaaGreatDoorJ15
import Derived.Test.YtfmcgdglalljgaaGreatDoorJ14
import Derived.Test.YtfmcgdglalljgaaGreatDoorJ9
import Derived.Test.YtfmcgdglalljgaaGreatDoorJ3
namespace Go.Proofs.YtfmcgdglalljgaaGreatDoor
open Go.RowKit

end Go.Proofs.YtfmcgdglalljgaaGreatDoor

namespace Go.Proofs.YtfmcgdglalljgaaGreatDoor
open Go.RowKit

/-- What the reading of such a list answers. -/
def RssIs (w : World) (R : Nat) (s : ByteArray) (e : Ending) (w' : World) : Prop :=
  ∃ (ps : List ResP) (pa : Option Addr) (cap : Nat) (s' : ByteArray), e = .returned (.slice pa ps.length cap) ∧ Hid (rdList rdRes s.data.toList = (ps.map ResP.x, s'.data.toList)) ∧ ps.length ≤ 255 ∧ Hid (RessAt w.heap.size w' (.slice pa ps.length cap) ps) ∧ Hid (Left w w' R s' s'.data.toList)

set_option maxRecDepth 100000 in
set_option maxHeartbeats 1600000 in
theorem readRess (R : Nat) (s : ByteArray) (w : World) (hR : RdAt w R s) (hs : s.size ≤ 9223372036854775807) :
    Calls Tryz.prog 31 #[.pointer (some ⟨R, 0, none⟩), .func (.func 32) #[] #[]] w (RssIs w R s) := by
  obtain ⟨i0, hi, hz0, hz1, hz2⟩ := info_of infoRes
  replace hi := hide hi
  replace hR := hide hR
  go_enter Tryz.func31, Tryz.ntmps31
  go_wp2_with fail
  refine (number R s 1 _ hR.out hs (by omega)).mono ?_
  rintro e w1 ⟨n, s1, rfl, hn, hn2, hL1⟩
  have hn3 : n < 256 := by
    have := num_lt 1 (s.data.toList.take 1) (by rw [List.length_take]; omega)
    rw [← hn.out] at this; exact this
  go_wp2_with fail
  go_loopw [5, 8] (fun v i wr => ∃ (ps : List ResP) (pa : Option Addr) (cap : Nat) (sk : ByteArray), ps.length ≤ n ∧ i = .int .i64 ps.length ∧ v = .slice pa ps.length cap ∧ Hid (rdMany rdRes n s1.data.toList = (ps.map ResP.x ++ (rdMany rdRes (n - ps.length) sk.data.toList).1, (rdMany rdRes (n - ps.length) sk.data.toList).2)) ∧ Hid (RessAt w.heap.size wr (.slice pa ps.length cap) ps) ∧ Hid (Left w wr R sk sk.data.toList)) (fun _ i _ => n - (intOf i).toNat)
  case atStart => exact ⟨[], none, 0, s1, Nat.zero_le _, rfl, rfl, rfl, RessAt.nil _ _, ⟨hL1.out.at_, rfl, hL1.out.wrote, hL1.out.few⟩⟩
  case round =>
    obtain ⟨ps, pa, cap, sk, hk, rfl, rfl, hrd, hps, hL⟩ := hrel
    by_cases hlt : ps.length < n
    · go_wp2_with (first
        | (go_at_call 32; refine (readResource R sk _ hL.out.at_ hL.out.few).mono ?_; rintro e w2 ⟨x, pa2, pa3, cap2, cap3, s2, rfl, hx, hok, hown, hL2⟩; go_must (have hps2 := hide (hps.out.wrote hL2.out.wrote (by decide) (by decide) (by decide)); have hsz2 := Nat.le_trans hL.out.wrote.size hL2.out.wrote.size))
        | (at_builtin; go_must (refine wpList_append_lies _ rfl (.tmp 10) (.tmp 14) 36 rfl w.heap.size 29 i0 (.agg #[.string ⟨#[]⟩, .string ⟨#[]⟩, .slice none 0 0, .slice none 0 0]) 4 80 Tryz.underlying36 hi.out hz0 hz1 hz2 rfl (by omega) _ ps.length (cellsP ps) rfl (hps2.out.row.alloc _) ⟨w2.heap.size, 0, none⟩ 1 1 (cRs ⟨x, .slice pa2 x.attrs.length cap2, .slice pa3 x.after.length cap3⟩) rfl rfl ?_ cRs_one (by omega) (by unfold maxLen; omega) (by omega) (by simp; omega) (w2.heap.size + 1) (by simp) ?_; (intro j u hu; rw [add_eq]; (match j, hu with | 0, hu => (simp [cRs] at hu; subst hu; simp [go_sem]) | 1, hu => (simp [cRs] at hu; subst hu; simp [go_sem]) | 2, hu => (simp [cRs] at hu; subst hu; simp [go_sem]) | 3, hu => (simp [cRs] at hu; subst hu; simp [go_sem]) | _ + 4, hu => (simp [cRs] at hu))); intro g1 cap1 w3 hown3 hgrow3 hat3 hlt3)))
      replace hgrow3 : (w2.alloc (.cells (cRs ⟨x, .slice pa2 x.attrs.length cap2, .slice pa3 x.after.length cap3⟩).toArray 29)).grownBy w3 (Value.slice pa ps.length cap).ownBlock := hgrow3
      go_roundw
      case rel =>
        have hl : (ps ++ [(⟨x, .slice pa2 x.attrs.length cap2, .slice pa3 x.after.length cap3⟩ : ResP)]).length = ps.length + 1 := by simp
        refine ⟨ps ++ [⟨x, .slice pa2 x.attrs.length cap2, .slice pa3 x.after.length cap3⟩], some ⟨g1, 0, none⟩, cap1, s2, by rw [hl]; omega, by rw [hl]; go_num, by rw [hl], ?_, ?_, ?_⟩
        · show _ = _
          rw [hrd.out, hl]
          obtain ⟨q, hq⟩ : ∃ q, n - ps.length = q + 1 := ⟨n - ps.length - 1, by omega⟩
          rw [hq, show n - (ps.length + 1) = q by omega]
          simp only [rdMany]
          rw [hx.out]; simp
        · rw [hl]
          exact hps2.out.snoc (hown.out.low hL.out.wrote.size) hok.out (hps.out.fresh hown.out) hgrow3 hown3
        · exact ⟨hL2.out.at_.grown hps2.out.row (by decide) hgrow3, rfl, (hL.out.wrote.trans hL2.out.wrote).grownNew hps2.out.row hgrow3, hL2.out.few⟩
      case measure => simp [intOf]; omega
    · obtain hnx : ps.length = n := by omega
      have hfin : Hid (rdList rdRes s.data.toList = (ps.map ResP.x, sk.data.toList)) := by
        show _ = _
        unfold rdList
        rw [← hn.out, ← hL1.out.list, hrd.out, hnx, Nat.sub_self]
        simp [rdMany]
      replace hnx := hide hnx
      go_wp2
      go_ret
      exact ⟨ps, pa, cap, sk, rfl, hfin, by have := hnx.out; omega, hps, hL⟩
end Go.Proofs.YtfmcgdglalljgaaGreatDoor

namespace Go.Proofs.YtfmcgdglalljgaaGreatDoor
open Go.RowKit

theorem big_val (n : Int) (k : Nat) : ((UInt8.ofNat (n / 2 ^ (8 * k) % 256).toNat).toNat : Int) = n / 2 ^ (8 * k) % 256 := byte_val (by omega) (by omega)
theorem num1 (n : Int) : (numN (bigL 1 n) : Int) = n % 256 := by
  have h0 := big_val n 0
  have e : numN (bigL 1 n) = 0 * 256 + (UInt8.ofNat (n / 2 ^ (8 * 0) % 256).toNat).toNat := rfl
  rw [pow8.1] at h0 e
  omega
theorem num2 (n : Int) : (numN (bigL 2 n) : Int) = n % 65536 := by
  have h0 := big_val n 0
  have h1 := big_val n 1
  have e : numN (bigL 2 n) = (0 * 256 + (UInt8.ofNat (n / 2 ^ (8 * 1) % 256).toNat).toNat) * 256 + (UInt8.ofNat (n / 2 ^ (8 * 0) % 256).toNat).toNat := rfl
  rw [pow8.1] at h0 e
  rw [pow8.2.1] at h1 e
  omega
theorem num3 (n : Int) : (numN (bigL 3 n) : Int) = n % 16777216 := by
  have h0 := big_val n 0
  have h1 := big_val n 1
  have h2 := big_val n 2
  have e : numN (bigL 3 n) = ((0 * 256 + (UInt8.ofNat (n / 2 ^ (8 * 2) % 256).toNat).toNat) * 256 + (UInt8.ofNat (n / 2 ^ (8 * 1) % 256).toNat).toNat) * 256 + (UInt8.ofNat (n / 2 ^ (8 * 0) % 256).toNat).toNat := rfl
  rw [pow8.1] at h0 e
  rw [pow8.2.1] at h1 e
  rw [pow8.2.2.1] at h2 e
  omega
theorem num4 (n : Int) : (numN (bigL 4 n) : Int) = n % 4294967296 := by
  have h0 := big_val n 0
  have h1 := big_val n 1
  have h2 := big_val n 2
  have h3 := big_val n 3
  have e : numN (bigL 4 n) = (((0 * 256 + (UInt8.ofNat (n / 2 ^ (8 * 3) % 256).toNat).toNat) * 256 + (UInt8.ofNat (n / 2 ^ (8 * 2) % 256).toNat).toNat) * 256 + (UInt8.ofNat (n / 2 ^ (8 * 1) % 256).toNat).toNat) * 256 + (UInt8.ofNat (n / 2 ^ (8 * 0) % 256).toNat).toNat := rfl
  rw [pow8.1] at h0 e
  rw [pow8.2.1] at h1 e
  rw [pow8.2.2.1] at h2 e
  rw [pow8.2.2.2] at h3 e
  omega
theorem take_big (k : Nat) (n : Int) (t : List UInt8) : (bigL k n ++ t).take k = bigL k n := by
  have h := bigL_len k n
  rw [List.take_append_of_le_length (by omega), List.take_of_length_le (by omega)]
theorem drop_big (k : Nat) (n : Int) (t : List UInt8) : (bigL k n ++ t).drop k = t := by
  have h := bigL_len k n
  rw [List.drop_append_of_le_length (by omega), List.drop_of_length_le (by omega)]; rfl
theorem drop_len {α : Type} (a t : List α) : (a ++ t).drop a.length = t := List.drop_left
theorem take_len {α : Type} (a t : List α) : (a ++ t).take a.length = a := List.take_left
theorem ba_eta (s : ByteArray) : (⟨s.data.toList.toArray⟩ : ByteArray) = s := by apply ByteArray.ext; simp
theorem s32_inv {n : Int} (h0 : -2147483648 ≤ n) (h1 : n < 2147483648) : s32 (numN (bigL 4 n)) = n := by
  have h := num4 n
  unfold s32
  split <;> omega

/-! The program's reader. -/
theorem rdText_inv (s : ByteArray) (hs : s.size ≤ 255) (t : List UInt8) : rdText (textL s ++ t) = (s, t) := by
  have h1 := num1 (s.size : Int)
  have hn : numN (bigL 1 (s.size : Int)) = s.data.toList.length := by rw [ba_len]; omega
  unfold rdText
  rw [textL, List.append_assoc, take_big, drop_big, hn, take_len, drop_len, ba_eta]
theorem rdID_inv {x : IDd} (h : shI x) (t : List UInt8) : rdID (idL x ++ t) = (x, t) := by
  unfold rdID
  rw [idL, List.append_assoc, rdText_inv _ h.1]
  dsimp only
  rw [rdText_inv _ h.2]
theorem attr_nums {x : Attrd} (h : attrB x = true) : (x.isText = true ∧ x.number = 0) ∨ (x.isText = false ∧ x.text = ⟨#[]⟩ ∧ -2147483648 ≤ x.number ∧ x.number < 2147483648) := by
  cases hx : x.isText
  · right
    simp [attrB, hx] at h
    refine ⟨rfl, ?_, by omega, by omega⟩
    apply ByteArray.ext; apply Array.toList_inj.1; simpa using h.2.1
  · left
    simp [attrB, hx] at h
    exact ⟨rfl, h.2.2⟩
theorem rdAttr_inv {x : Attrd} (h : attrB x = true) (t : List UInt8) : rdAttr (attrL x ++ t) = (x, t) := by
  have hs := attr_sh h
  obtain ⟨nm, b, tx, num⟩ := x
  rcases attr_nums h with ⟨h1, h2⟩ | ⟨h1, h2, h3, h4⟩
  · dsimp only at h1 h2
    subst h1 h2
    have ea : attrL ⟨nm, true, tx, 0⟩ = textL nm ++ (bigL 1 1 ++ textL tx) := rfl
    unfold rdAttr
    rw [ea, List.append_assoc, List.append_assoc, rdText_inv _ hs.1]
    dsimp only
    have e : numN (bigL 1 1) = 1 := by decide
    rw [take_big, e, if_pos rfl, drop_big, rdText_inv _ hs.2]
  · dsimp only at h1 h2 h3 h4
    subst h1 h2
    have ea : attrL ⟨nm, false, ⟨#[]⟩, num⟩ = textL nm ++ (bigL 1 0 ++ bigL 4 num) := rfl
    unfold rdAttr
    rw [ea, List.append_assoc, List.append_assoc, rdText_inv _ hs.1]
    dsimp only
    have e : ¬ numN (bigL 1 0) = 1 := by decide
    rw [take_big, if_neg e, drop_big, take_big, drop_big, s32_inv h3 h4]
theorem rdMany_inv {α : Type} {rd : List UInt8 → α × List UInt8} {enc : α → List UInt8} : ∀ {l : List α}, (∀ x ∈ l, ∀ t, rd (enc x ++ t) = (x, t)) → ∀ t, rdMany rd l.length (l.flatMap enc ++ t) = (l, t)
  | [], _, t => rfl
  | x :: l, h, t => by
    rw [List.length_cons, rdMany, List.flatMap_cons, List.append_assoc, h x (by simp)]
    dsimp only
    rw [rdMany_inv (l := l) (fun y hy => h y (by simp [hy]))]
theorem len_num {α : Type} {l : List α} (hl : l.length ≤ 255) : numN (bigL 1 (l.length : Int)) = l.length := by
  have h1 := num1 (l.length : Int); omega
theorem rdList_inv {α : Type} {rd : List UInt8 → α × List UInt8} {enc : α → List UInt8} {l : List α} (hl : l.length ≤ 255) (h : ∀ x ∈ l, ∀ t, rd (enc x ++ t) = (x, t)) (t : List UInt8) : rdList rd (listL enc l ++ t) = (l, t) := by
  unfold rdList
  rw [listL, List.append_assoc, take_big, drop_big, len_num hl, rdMany_inv h]
theorem may_parts {x : Resd} (h : mayB x = true) : shI x.id ∧ (∀ a ∈ x.attrs, attrB a = true) ∧ (∀ a ∈ x.after, shI a) ∧ x.attrs.length ≤ 255 ∧ x.after.length ≤ 255 := by
  obtain ⟨h1, _, h3, h4, h5⟩ := may_sh h
  simp only [mayB, Bool.and_eq_true, List.all_eq_true] at h
  exact ⟨h1, fun a ha => h.1.1.1.2 a ha, h3, h4, h5⟩
theorem rdRes_inv {x : Resd} (h : mayB x = true) (t : List UInt8) : rdRes (encR x ++ t) = (x, t) := by
  obtain ⟨h1, h2, h3, h4, h5⟩ := may_parts h
  unfold rdRes
  rw [encR, List.append_assoc, List.append_assoc, rdID_inv h1]
  dsimp only
  rw [rdList_inv h4 (fun a ha t => rdAttr_inv (h2 a ha) t)]
  dsimp only
  rw [rdList_inv h5 (fun a ha t => rdID_inv (h3 a ha) t)]
end Go.Proofs.YtfmcgdglalljgaaGreatDoor

namespace Go.Proofs.YtfmcgdglalljgaaGreatDoor
open Go.RowKit

theorem emptyB_eq {x : Resd} (h : emptyB x = true) : x = noRes := by
  obtain ⟨⟨k, n⟩, a, f⟩ := x
  simp only [emptyB, Bool.and_eq_true, List.isEmpty_iff] at h
  obtain ⟨⟨⟨h1, h2⟩, h3⟩, h4⟩ := h
  subst h3 h4
  have e1 : k = ⟨#[]⟩ := by apply ByteArray.ext; apply Array.toList_inj.1; exact h1
  have e2 : n = ⟨#[]⟩ := by apply ByteArray.ext; apply Array.toList_inj.1; exact h2
  rw [e1, e2]; rfl
theorem rec_none {r : Recd} (h : recB r = true) (hk : r.kind ≠ 2) : r.op = 0 ∧ r.res = noRes := by
  have hn : noneB r = true := by
    simp only [recB, Bool.and_eq_true] at h
    have h2 := h.2
    split at h2
    · simp only [Bool.and_eq_true] at h2; exact h2.2
    · split at h2
      · exact h2
      · cases h2
  simp only [noneB, Bool.and_eq_true, beq_iff_eq] at hn
  exact ⟨hn.1, emptyB_eq hn.2⟩
theorem rdRec_inv {r : Recd} (h : recB r = true) : rdRec (recL r) = r := by
  obtain ⟨b1, b2, b3, b4, b5, b6⟩ := rec_in h
  have n1 := num1 r.kind
  have n2 := num3 r.epoch
  have n3 := num3 r.number
  have n4 := num1 r.op
  unfold rdRec recL
  rw [List.append_assoc, List.append_assoc, take_big, drop_big, take_big, drop_big, take_big, drop_big]
  by_cases hk : r.kind = 2
  · obtain ⟨hm, o1, o2⟩ := rec_step h hk
    rw [if_pos hk, if_pos (by omega), take_big, drop_big]
    have := rdRes_inv hm []
    rw [List.append_nil] at this
    have k1 : (numN (bigL 1 r.kind) : Int) = r.kind := by omega
    have k2 : (numN (bigL 3 r.epoch) : Int) = r.epoch := by omega
    have k3 : (numN (bigL 3 r.number) : Int) = r.number := by omega
    have k4 : (numN (bigL 1 r.op) : Int) = r.op := by omega
    rw [this, k1, k2, k3, k4]
  · obtain ⟨e1, e2⟩ := rec_none h hk
    have k1 : (numN (bigL 1 r.kind) : Int) = r.kind := by omega
    have k2 : (numN (bigL 3 r.epoch) : Int) = r.epoch := by omega
    have k3 : (numN (bigL 3 r.number) : Int) = r.number := by omega
    rw [if_neg hk, if_neg (by omega), k1, k2, k3, ← e1, ← e2]

/-! The reference's reader: at a place behind which something was written. -/
end Go.Proofs.YtfmcgdglalljgaaGreatDoor

namespace Go.Proofs.YtfmcgdglalljgaaGreatDoor
open Go.RowKit

/-- The record that bytes begin with, and how many bytes it has with what stands ahead. -/
def oneL (l : List UInt8) : Option (Recd × Nat) :=
  if numN (l.take 2) ≤ (((l.drop 2).drop 4).take (numN (l.take 2))).length ∧ sumL (((l.drop 2).drop 4).take (numN (l.take 2))) = numN ((l.drop 2).take 4) ∧
      (decOf (rdRec (((l.drop 2).drop 4).take (numN (l.take 2)))) (((l.drop 2).drop 4).take (numN (l.take 2)))).2 = 0 then
    some ((decOf (rdRec (((l.drop 2).drop 4).take (numN (l.take 2)))) (((l.drop 2).drop 4).take (numN (l.take 2)))).1, 6 + numN (l.take 2))
  else none
theorem decOf_err (r : Recd) (l : List UInt8) : (decOf r l).2 = 0 ∨ (decOf r l).2 = 16 := by
  unfold decOf; split
  · exact .inl rfl
  · exact .inr rfl
/-- What 'first' answers. -/
def FstIs (w : World) (s : ByteArray) (e : Ending) (w' : World) : Prop :=
  Hid (Ext w w') ∧ ((Hid (oneL s.data.toList = none) ∧ ∃ (q : Recd) (pa2 pa3 : Option Addr) (cap2 cap3 : Nat) (n : Int), e = .returned (.tuple #[.agg #[.int .i64 q.kind, .int .i64 q.epoch, .int .i64 q.number, .int .i64 q.op, .string q.res.id.kind, .string q.res.id.name, .slice pa2 q.res.attrs.length cap2, .slice pa3 q.res.after.length cap3], .int .i64 n, .bool false])) ∨
    ∃ (q : Recd) (n : Nat) (pa2 pa3 : Option Addr) (cap2 cap3 : Nat), Hid (oneL s.data.toList = some (q, n)) ∧ e = .returned (.tuple #[.agg #[.int .i64 q.kind, .int .i64 q.epoch, .int .i64 q.number, .int .i64 q.op, .string q.res.id.kind, .string q.res.id.name, .slice pa2 q.res.attrs.length cap2, .slice pa3 q.res.after.length cap3], .int .i64 n, .bool true]) ∧
      Hid (okS q.res) ∧ Hid (OwnR w.heap.size w' (.slice pa2 q.res.attrs.length cap2) (.slice pa3 q.res.after.length cap3) q.res))

theorem hcast (n : Nat) (v : Value) : Ending.returned (.tuple #[v, .int .i64 (6 + (n : Int)), .bool true]) = .returned (.tuple #[v, .int .i64 ((6 + n : Nat) : Int), .bool true]) := by
  rw [Int.natCast_add]; rfl

set_option maxRecDepth 100000 in
set_option maxHeartbeats 1600000 in
theorem first (s : ByteArray) (w : World) (hs : s.size ≤ 1048576) :
    Calls Tryz.prog 37 #[.string s] w (FstIs w s) := by
  go_enter Tryz.func37, Tryz.ntmps37
  go_wp2_with fail
  refine (newReader s _).mono ?_
  rintro e w1 ⟨rfl, rfl⟩
  go_wp2_with fail
  refine (number (w.heap.size + 1) s 2 _ (two_hi w _ _) (by omega) (by omega)).mono ?_
  rintro e w1 ⟨n, s1, rfl, hn, hn2, hL1⟩
  have hn3 : n < 65536 := by
    have := num_lt 2 (s.data.toList.take 2) (by rw [List.length_take]; omega)
    rw [← hn.out] at this; exact this
  go_wp2_with fail
  refine (number (w.heap.size + 1) s1 4 _ hL1.out.at_ hL1.out.few (by omega)).mono ?_
  rintro e w2 ⟨m, s2, rfl, hm, hm2, hL2⟩
  go_wp2_with fail
  refine (take (w.heap.size + 1) s2 n _ hL2.out.at_ hL2.out.few (by omega)).mono ?_
  rintro e w3 ⟨b, s3, rfl, hb, hL3⟩
  have hO := r_keeps (t := 33) hL3.out.wrote (r_keeps (t := 33) hL2.out.wrote (r_keeps (t := 33) hL1.out.wrote (two_lo w _ _) (by decide)) (by decide)) (by decide)
  have X3 := hide ((((Wrote.refl w.heap.size (· = 110) w).alloc _).alloc _).trans ((hL1.out.wrote.trans (hL2.out.wrote.trans hL3.out.wrote)).mono (Nat.le_succ _) (fun _ h => h))).toExt
  have hbz : b.size ≤ 1048576 := by
    rw [← ba_len, hb.out, List.length_take, ba_len]; have := hL2.out.few; omega
  have hbody : Hid (b.data.toList = ((s.data.toList.drop 2).drop 4).take (numN (s.data.toList.take 2))) := by show _ = _; rw [hb.out, hL2.out.list, hL1.out.list, hn.out]
  have hmm : Hid (m = numN ((s.data.toList.drop 2).take 4)) := by show _ = _; rw [hm.out, hL1.out.list]
  have hone : Hid (oneL s.data.toList = if n ≤ b.size ∧ sumL b.data.toList = (m : Int) ∧ (decOf (rdRec b.data.toList) b.data.toList).2 = 0 then some ((decOf (rdRec b.data.toList) b.data.toList).1, 6 + n) else none) := by
    show _ = _
    unfold oneL
    rw [← hbody.out, ← hmm.out, ← hn.out, ba_len]
  obtain ⟨a0, a1, a2, a3, a4, a5, a6, a7⟩ := ecells hO
  have fO := row_frozen hO
  have hlO : w.heap.size < w3.heap.size := (Array.getElem?_eq_some_iff.1 hO).1
  replace hO := hide hO
  clear hL1 hL2 hL3 hbody hmm hn hm hb
  by_cases hlen : b.size < n
  · have hlen' : decide ((b.size : Int) < (n : Int)) = true := by simp; omega
    have hno : Hid (oneL s.data.toList = none) := by show _ = _; rw [hone.out, if_neg (by omega)]
    go_wp2_with fail
    refine bodyPost_ret (v := .tuple #[.agg #[.int .i64 0, .int .i64 0, .int .i64 0, .int .i64 0, .string ⟨#[]⟩, .string ⟨#[]⟩, .slice none 0 0, .slice none 0 0], .int .i64 0, .bool false]) (by simp [results, Tryz.results37, go_sem, a0, a1, a2, a3, a4, a5, a6, a7]) rfl ⟨?_, .inl ⟨hno, noRec, none, none, 0, 0, 0, rfl⟩⟩
    exact ((Wrote.ext (B := w.heap.size) (T := fun _ => False) X3.out).set8 (Nat.le_refl _) _ _ _ _ _ _ _ _).toExt
  have hlen' : decide ((b.size : Int) < (n : Int)) = false := by simp; omega
  have hsum := hide (sum b)
  generalize sumL b.data.toList = z at *
  go_wp2_with fail
  refine (hsum.out _ hbz).mono ?_
  rintro e w4 ⟨rfl, he4⟩
  have X4 := hide (X3.out.trans he4)
  have hO4 := ext_heap he4 hO.out
  clear a0 a1 a2 a3 a4 a5 a6 a7 fO hsum
  obtain ⟨a0, a1, a2, a3, a4, a5, a6, a7⟩ := ecells hO4
  have fO := row_frozen hO4
  replace hO4 := hide hO4; replace he4 := hide he4
  by_cases hz : z = (m : Int)
  · have hz' : (z != (m : Int)) = false := by simpa using hz
    have hdec := hide (decode b)
    obtain ⟨⟨dq, de⟩, hdq⟩ : ∃ p, decOf (rdRec b.data.toList) b.data.toList = p := ⟨_, rfl⟩
    have hde := decOf_err (rdRec b.data.toList) b.data.toList
    rw [hdq] at hone hde
    replace hdq := hide hdq; replace hz := hide hz
    go_wp2_with fail
    refine (hdec.out _ (by omega)).mono ?_
    rintro e w5 ⟨q, pa2, pa3, cap2, cap3, en, rfl, hd, hok, hown, he5⟩
    obtain ⟨rfl, rfl⟩ : dq = q ∧ de = en := by have := hdq.out.symm.trans hd.out; simpa using this
    have X5 := hide (X4.out.trans he5.out)
    have hO5 := ext_heap he5.out hO4.out
    clear a0 a1 a2 a3 a4 a5 a6 a7 fO hdec
    obtain ⟨a0, a1, a2, a3, a4, a5, a6, a7⟩ := ecells hO5
    have fO := row_frozen hO5
    have hl5 : w.heap.size < w5.heap.size := (Array.getElem?_eq_some_iff.1 hO5).1
    replace hO5 := hide hO5
    rcases hde with rfl | rfl
    · have hyes : Hid (oneL s.data.toList = some (dq, 6 + n)) := by show _ = _; rw [hone.out, if_pos ⟨by omega, hz.out, rfl⟩]
      have own6 := hown.out.low (B' := w.heap.size) X4.out.size
      have own2 := hide (ownsRow_set8 own6.attrs hO5.out (by decide) (.int .i64 dq.kind) (.int .i64 dq.epoch) (.int .i64 dq.number) (.int .i64 dq.op) (.string dq.res.id.kind) (.string dq.res.id.name) (.slice pa2 dq.res.attrs.length cap2) (.slice pa3 dq.res.after.length cap3))
      have own3 := hide (ownsRow_set8 own6.after hO5.out (by decide) (.int .i64 dq.kind) (.int .i64 dq.epoch) (.int .i64 dq.number) (.int .i64 dq.op) (.string dq.res.id.kind) (.string dq.res.id.name) (.slice pa2 dq.res.attrs.length cap2) (.slice pa3 dq.res.after.length cap3))
      clear own6
      go_wp2_with fail
      refine bodyPost_ret (v := .tuple #[.agg #[.int .i64 dq.kind, .int .i64 dq.epoch, .int .i64 dq.number, .int .i64 dq.op, .string dq.res.id.kind, .string dq.res.id.name, .slice pa2 dq.res.attrs.length cap2, .slice pa3 dq.res.after.length cap3], .int .i64 (6 + (n : Int)), .bool true]) (by simp [results, Tryz.results37, go_sem, hl5, a0, a1, a2, a3, a4, a5, a6, a7]) rfl ⟨?_, .inr ⟨dq, 6 + n, pa2, pa3, cap2, cap3, hyes, hcast n _, hok, ⟨⟨_, _, rfl⟩, ⟨_, _, rfl⟩, own2.out.alloc _, own3.out.alloc _⟩⟩⟩
      exact ((Wrote.ext (B := w.heap.size) (T := fun _ => False) X5.out).set8 (Nat.le_refl _) _ _ _ _ _ _ _ _).toExt.alloc _
    · have hno : Hid (oneL s.data.toList = none) := by show _ = _; rw [hone.out, if_neg (by simp)]
      go_wp2_with fail
      refine bodyPost_ret (v := .tuple #[.agg #[.int .i64 dq.kind, .int .i64 dq.epoch, .int .i64 dq.number, .int .i64 dq.op, .string dq.res.id.kind, .string dq.res.id.name, .slice pa2 dq.res.attrs.length cap2, .slice pa3 dq.res.after.length cap3], .int .i64 (6 + (n : Int)), .bool false]) (by simp [results, Tryz.results37, go_sem, hl5, a0, a1, a2, a3, a4, a5, a6, a7]) rfl ⟨?_, .inl ⟨hno, dq, pa2, pa3, cap2, cap3, _, rfl⟩⟩
      exact ((Wrote.ext (B := w.heap.size) (T := fun _ => False) X5.out).set8 (Nat.le_refl _) _ _ _ _ _ _ _ _).toExt.alloc _
  · have hz' : (z != (m : Int)) = true := by simpa using hz
    have hno : Hid (oneL s.data.toList = none) := by show _ = _; rw [hone.out, if_neg (by simp [hz])]
    replace hz := hide hz
    go_wp2_with fail
    refine bodyPost_ret (v := .tuple #[.agg #[.int .i64 0, .int .i64 0, .int .i64 0, .int .i64 0, .string ⟨#[]⟩, .string ⟨#[]⟩, .slice none 0 0, .slice none 0 0], .int .i64 0, .bool false]) (by simp [results, Tryz.results37, go_sem, a0, a1, a2, a3, a4, a5, a6, a7]) rfl ⟨?_, .inl ⟨hno, noRec, none, none, 0, 0, 0, rfl⟩⟩
    exact ((Wrote.ext (B := w.heap.size) (T := fun _ => False) X4.out).set8 (Nat.le_refl _) _ _ _ _ _ _ _ _).toExt
end Go.Proofs.YtfmcgdglalljgaaGreatDoor

namespace Go.Proofs.YtfmcgdglalljgaaGreatDoor
open Go.RowKit

def scanF : Nat → List UInt8 → List Recd × Nat
  | 0, _ => ([], 0)
  | f + 1, l => match oneL l with
    | none => ([], 0)
    | some (r, n) => (r :: (scanF f (l.drop n)).1, n + (scanF f (l.drop n)).2)
/-- The records of a journal, and how many bytes they have. -/
def scanL (l : List UInt8) : List Recd × Nat := scanF (l.length + 1) l
theorem scan_none {f : Nat} {l : List UInt8} (h : oneL l = none) : scanF f l = ([], 0) := by
  cases f with
  | zero => rfl
  | succ f => simp [scanF, h]
theorem scan_some {f n : Nat} {l : List UInt8} {r : Recd} (h : oneL l = some (r, n)) : scanF (f + 1) l = (r :: (scanF f (l.drop n)).1, n + (scanF f (l.drop n)).2) := by
  simp [scanF, h]
theorem one_len {l : List UInt8} {r : Recd} {n : Nat} (h : oneL l = some (r, n)) : 7 ≤ n ∧ n ≤ l.length ∧ n ≤ 70000 := by
  unfold oneL at h
  split at h
  · rename_i hc
    obtain ⟨h1, _, h3⟩ := hc
    obtain ⟨rfl, rfl⟩ : _ ∧ 6 + numN (l.take 2) = n := by simpa using h
    have h4 := num_lt 2 (l.take 2) (by rw [List.length_take]; omega)
    rw [List.length_take, List.length_drop, List.length_drop] at h1
    by_cases h0 : numN (l.take 2) = 0
    · rw [h0, List.take_zero] at h3
      exact absurd h3 (by decide)
    · exact ⟨by omega, by omega, by omega⟩
  · cases h
/-- A record in memory. -/
structure RecP where
  r : Recd
  c2 : Value
  c3 : Value
def cRc (p : RecP) : List Value := [.int .i64 p.r.kind, .int .i64 p.r.epoch, .int .i64 p.r.number, .int .i64 p.r.op, .string p.r.res.id.kind, .string p.r.res.id.name, p.c2, p.c3]
def cellsR (l : List RecP) : List Value := l.flatMap cRc
theorem cellsR_app (l : List RecP) (x : RecP) : cellsR (l ++ [x]) = cellsR l ++ cRc x := by simp [cellsR]
theorem cRc_one {r : Recd} {pa2 pa3 : Option Addr} {n2 n3 cap2 cap3 : Nat} : ∀ u ∈ cRc ⟨r, .slice pa2 n2 cap2, .slice pa3 n3 cap3⟩, u.oneCell' = true := by
  intro u hu
  simp [cRc] at hu
  rcases hu with rfl | rfl | rfl | rfl | rfl | rfl | rfl | rfl <;> rfl
/-- No list lies in two records. -/
def ApartP (p q : RecP) : Prop := (∀ g, p.c2.ownBlock = some g → q.c2.ownBlock ≠ some g) ∧ (∀ g, p.c3.ownBlock = some g → q.c3.ownBlock ≠ some g)
/-- A list of records of our own, and theirs. -/
structure RecsAt (B : Nat) (w : World) (v : Value) (ps : List RecP) : Prop where
  row : w.ownsRow B 33 8 v ps.length (cellsR ps)
  each : ∀ p ∈ ps, OwnR B w p.c2 p.c3 p.r.res ∧ okS p.r.res
  apart : ps.Pairwise ApartP
theorem RecsAt.ext {B : Nat} {w w' : World} {v : Value} {ps : List RecP} (h : RecsAt B w v ps) (e : Ext w w') : RecsAt B w' v ps :=
  ⟨ownsRow_wrote h.row (Wrote.ext (B := 0) (T := fun _ => False) e) id rfl, fun p hp => ⟨(h.each p hp).1.ext e, (h.each p hp).2⟩, h.apart⟩
theorem RecsAt.low {B B' : Nat} {w : World} {v : Value} {ps : List RecP} (h : RecsAt B w v ps) (hb : B' ≤ B) : RecsAt B' w v ps :=
  ⟨ownsRow_low h.row hb, fun p hp => ⟨(h.each p hp).1.low hb, (h.each p hp).2⟩, h.apart⟩
/-- What Scan answers. -/
def ScanIs (w : World) (s : ByteArray) (e : Ending) (w' : World) : Prop :=
  ∃ (ps : List RecP) (pa : Option Addr) (cap k : Nat), e = .returned (.tuple #[.slice pa ps.length cap, .int .i64 k]) ∧ Hid (scanL s.data.toList = (ps.map RecP.r, k)) ∧ ps.length ≤ 150000 ∧ Hid (RecsAt w.heap.size w' (.slice pa ps.length cap) ps) ∧ Hid (Ext w w')
theorem infoRec : (Tryz.prog.info? 33).map (fun i => (i.zero, i.size, i.bytes)) = some (some (.agg #[.int .i64 0, .int .i64 0, .int .i64 0, .int .i64 0, .string ⟨#[]⟩, .string ⟨#[]⟩, .slice none 0 0, .slice none 0 0]), 8, 112) := by kernel_rfl

set_option maxRecDepth 100000 in
set_option maxHeartbeats 3200000 in
theorem scan (s : ByteArray) (w : World) (hs : s.size ≤ 1048576) :
    Calls Tryz.prog 14 #[.string s] w (ScanIs w s) := by
  obtain ⟨i0, hi, hz0, hz1, hz2⟩ := info_of infoRec
  replace hi := hide hi
  have hlen := hide (ba_len s)
  go_enter Tryz.func14, Tryz.ntmps14
  go_wp2_with fail
  go_loopw [4, 5] (fun v i wr => ∃ (ps : List RecP) (pa : Option Addr) (cap k : Nat), k ≤ s.size ∧ 7 * ps.length ≤ k ∧ v = .slice pa ps.length cap ∧ i = .int .i64 k ∧ Hid (scanL s.data.toList = (ps.map RecP.r ++ (scanF (s.size + 1 - ps.length) (s.data.toList.drop k)).1, k + (scanF (s.size + 1 - ps.length) (s.data.toList.drop k)).2)) ∧ Hid (RecsAt w.heap.size wr (.slice pa ps.length cap) ps) ∧ Hid (Ext w wr)) (fun _ i _ => s.size - (intOf i).toNat)
  case atStart =>
    refine ⟨[], none, 0, 0, Nat.zero_le _, Nat.zero_le _, rfl, rfl, ?_, ⟨World.ownsRow_nil _ _ _ _, fun p hp => (by cases hp), List.Pairwise.nil⟩, Ext.refl _⟩
    show _ = _
    unfold scanL
    rw [hlen.out]; simp
  case round =>
    obtain ⟨ps, pa, cap, k, hk, hpk, rfl, rfl, hsc, hps, hx⟩ := hrel
    have hsub : Hid ((s.extract k s.size).data.toList = s.data.toList.drop k) := ex_drop s k
    have hsubz : (s.extract k s.size).size ≤ 1048576 := by rw [← ba_len, hsub.out, List.length_drop, hlen.out]; omega
    have j1 : (0 : Int) ≤ (k : Int) := by omega
    have j2 : (k : Int) ≤ (s.size : Int) := by omega
    go_wp2_with fail
    refine (first (s.extract k s.size) _ hsubz).mono ?_
    rintro e w1 ⟨he1, hcase⟩
    rcases hcase with ⟨hno, q, pa2, pa3, cap2, cap3, nn, rfl⟩ | ⟨q, n, pa2, pa3, cap2, cap3, hyes, rfl, hok, hown⟩
    · rw [hsub.out] at hno
      have hfin : Hid (scanL s.data.toList = (ps.map RecP.r, k)) := by
        show _ = _
        rw [hsc.out, scan_none hno.out]; simp
      go_wp2_with fail
      go_ret2
      exact ⟨ps, pa, cap, k, rfl, hfin, by omega, (hps.out.ext he1.out).ext ((Ext.refl w1).alloc _), (hx.out.trans he1.out).alloc _⟩
    · rw [hsub.out] at hyes
      obtain ⟨n7, nl, n70⟩ := one_len hyes.out
      rw [List.length_drop, hlen.out] at nl
      have hstep : Hid (scanL s.data.toList = ((ps.map RecP.r ++ [q]) ++ (scanF (s.size + 1 - (ps.length + 1)) (s.data.toList.drop (k + n))).1, (k + n) + (scanF (s.size + 1 - (ps.length + 1)) (s.data.toList.drop (k + n))).2)) := by
        show _ = _
        rw [hsc.out, show s.size + 1 - ps.length = (s.size + 1 - (ps.length + 1)) + 1 by omega, scan_some hyes.out, List.drop_drop, Nat.add_assoc]
        simp
      have hps1 := hide (hps.out.ext he1.out)
      have hsz1 := hide (Nat.le_trans hx.out.size he1.out.size)
      go_wp2_with (at_builtin; go_must (refine wpList_append_lies _ rfl (.tmp 21) (.tmp 23) 51 rfl w.heap.size 33 i0 (.agg #[.int .i64 0, .int .i64 0, .int .i64 0, .int .i64 0, .string ⟨#[]⟩, .string ⟨#[]⟩, .slice none 0 0, .slice none 0 0]) 8 112 Tryz.underlying51 hi.out hz0 hz1 hz2 rfl (by omega) _ ps.length (cellsR ps) rfl ((hps1.out.row.alloc _).alloc _) ⟨w1.heap.size + 1, 0, none⟩ 1 1 (cRc ⟨q, .slice pa2 q.res.attrs.length cap2, .slice pa3 q.res.after.length cap3⟩) rfl rfl ?_ cRc_one (by omega) (by unfold maxLen; omega) (by omega) (by have := hsz1.out; simp; omega) (w1.heap.size + 2) (by simp) ?_; (intro r u hu; rw [add_eq]; (match r, hu with | 0, hu => (simp [cRc] at hu; subst hu; simp [go_sem]) | 1, hu => (simp [cRc] at hu; subst hu; simp [go_sem]) | 2, hu => (simp [cRc] at hu; subst hu; simp [go_sem]) | 3, hu => (simp [cRc] at hu; subst hu; simp [go_sem]) | 4, hu => (simp [cRc] at hu; subst hu; simp [go_sem]) | 5, hu => (simp [cRc] at hu; subst hu; simp [go_sem]) | 6, hu => (simp [cRc] at hu; subst hu; simp [go_sem]) | 7, hu => (simp [cRc] at hu; subst hu; simp [go_sem]) | _ + 8, hu => (simp [cRc] at hu))); intro g3 c3 w3 hown3 hgrow3 hat3 hlt3))
      replace hgrow3 : ((w1.alloc (.cells (cRc ⟨q, .slice pa2 q.res.attrs.length cap2, .slice pa3 q.res.after.length cap3⟩).toArray 33)).alloc (.cells (cRc ⟨q, .slice pa2 q.res.attrs.length cap2, .slice pa3 q.res.after.length cap3⟩).toArray 33)).grownBy w3 (Value.slice pa ps.length cap).ownBlock := hgrow3
      go_roundw
      case rel =>
        have hl : (ps ++ [(⟨q, .slice pa2 q.res.attrs.length cap2, .slice pa3 q.res.after.length cap3⟩ : RecP)]).length = ps.length + 1 := by simp
        have hX1 : Ext w w1 := hx.out.trans he1.out
        have E3 : Ext w w3 := ((Wrote.ext (B := w.heap.size) (T := fun _ => False) (hX1.alloc _)).grownNew (hps1.out.row.alloc _) hgrow3).toExt
        have hb : w.heap.size ≤ wr.heap.size := hx.out.size
        refine ⟨ps ++ [⟨q, .slice pa2 q.res.attrs.length cap2, .slice pa3 q.res.after.length cap3⟩], some ⟨g3, 0, none⟩, c3, k + n, by omega, by rw [hl]; omega, by rw [hl], by simp, ?_, ⟨?_, ?_, ?_⟩, E3⟩
        · show _ = _
          rw [hl, List.map_append]; exact hstep.out
        · rw [hl, cellsR_app]; exact hown3
        · intro p hp
          rcases List.mem_append.1 hp with hp | hp
          · obtain ⟨h1, h2⟩ := hps1.out.each p hp
            exact ⟨⟨h1.f2, h1.f3, ownsRow_grown2 h1.attrs hps1.out.row (by decide) hgrow3, ownsRow_grown2 h1.after hps1.out.row (by decide) hgrow3⟩, h2⟩
          · obtain rfl : p = _ := by simpa using hp
            have h1 := hown.out.low hb
            exact ⟨⟨h1.f2, h1.f3, ownsRow_grown2 h1.attrs hps1.out.row (by decide) hgrow3, ownsRow_grown2 h1.after hps1.out.row (by decide) hgrow3⟩, hok.out⟩
        · refine List.pairwise_append.2 ⟨hps.out.apart, List.pairwise_singleton _ _, fun p hp p' hp' => ?_⟩
          obtain rfl : p' = _ := by simpa using hp'
          obtain ⟨h1, _⟩ := hps.out.each p hp
          constructor
          · intro g hg hg'
            have k1 := (h1.attrs.lt g hg).2
            have k2 := (hown.out.attrs.lt g hg').1
            omega
          · intro g hg hg'
            have k1 := (h1.after.lt g hg).2
            have k2 := (hown.out.after.lt g hg').1
            omega
      case measure => simp [intOf]; omega
end Go.Proofs.YtfmcgdglalljgaaGreatDoor

namespace Go.Proofs.YtfmcgdglalljgaaGreatDoor
open Go.RowKit

theorem one_long {l : List UInt8} (h : l.length < 6 + numN (l.take 2)) (h6 : 6 ≤ l.length) : oneL l = none := by
  unfold oneL
  rw [if_neg]
  rintro ⟨h1, _, _⟩
  rw [List.length_take, List.length_drop, List.length_drop] at h1
  omega
end Go.Proofs.YtfmcgdglalljgaaGreatDoor
