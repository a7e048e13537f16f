/-
  Bytes of which one was turned, one is missing, or one is too many: no state, and no record.
-/
/-
  The parser: a list of refs, an attribute, a line.
-/
/-
  The parser: a name ahead of one more '=', and a value behind it.
-/
import Derived.Test.YtfmcgdglalljgaaGreatDoorJ21
import Derived.Test.YtfmcgdglalljgaaGreatDoorJ16
import Derived.Test.YtfmcgdglalljgaaGreatDoorJ25
namespace Go.Proofs.YtfmcgdglalljgaaGreatDoor
open Go.RowKit

theorem xor_cancelR {a b c : Nat} (h : a ^^^ c = b ^^^ c) : a = b := by
  have := congrArg (· ^^^ c) h
  simpa [Nat.xor_assoc] using this
theorem xor_cancelL {a b c : Nat} (h : c ^^^ a = c ^^^ b) : a = b := xor_cancelR (c := c) (by rw [Nat.xor_comm a, Nat.xor_comm b]; exact h)
theorem crcBit_inj {a b : Nat} (ha : a < 4294967296) (hb : b < 4294967296) (h : crcBit a = crcBit b) : a = b := by
  have top : ∀ {x y : Nat}, x < 2147483648 → y < 2147483648 → ¬ x ^^^ 3988292384 = y := fun {x y} hx hy e => by
    have h1 : (x ^^^ 3988292384).testBit 31 = true := by
      rw [Nat.testBit_xor, Nat.testBit_lt_two_pow (i := 31) (by omega)]; decide
    have h2 : y.testBit 31 = false := Nat.testBit_lt_two_pow (by omega)
    rw [e, h2] at h1; cases h1
  unfold crcBit at h
  split at h
  · split at h
    · have := xor_cancelR h
      omega
    · exact absurd h (top (by omega) (by omega))
  · split at h
    · exact absurd h.symm (top (by omega) (by omega))
    · omega
theorem crcBits_inj : ∀ (k : Nat) {a b : Nat}, a < 4294967296 → b < 4294967296 → crcBits k a = crcBits k b → a = b
  | 0, _, _, _, _, h => h
  | k + 1, _, _, ha, hb, h => crcBit_inj ha hb (crcBits_inj k (crcBit_lt ha) (crcBit_lt hb) h)
theorem crcByte_inj {a b : Nat} {c : UInt8} (ha : a < 4294967296) (hb : b < 4294967296) (h : crcByte a c = crcByte b c) : a = b :=
  xor_cancelR (crcBits_inj 8 (crcXor_lt c ha) (crcXor_lt c hb) h)
theorem crcByte_byte {n : Nat} {c d : UInt8} (hn : n < 4294967296) (h : crcByte n c = crcByte n d) : c = d :=
  UInt8.toNat_inj.1 (xor_cancelL (crcBits_inj 8 (crcXor_lt c hn) (crcXor_lt d hn) h))
theorem fold_inj : ∀ (l : List UInt8) {a b : Nat}, a < 4294967296 → b < 4294967296 → l.foldl crcByte a = l.foldl crcByte b → a = b
  | [], _, _, _, _, h => h
  | c :: l, _, _, ha, hb, h => crcByte_inj ha hb (fold_inj l (crcByte_lt c ha) (crcByte_lt c hb) h)
theorem set_parts {α : Type} {l : List α} {i : Nat} {b d : α} (hb : l[i]? = some b) : l.set i d = l.take i ++ d :: l.drop (i + 1) ∧ l = l.take i ++ b :: l.drop (i + 1) := by
  obtain ⟨hi, e⟩ := List.getElem?_eq_some_iff.1 hb
  exact ⟨by rw [List.set_eq_take_append_cons_drop, if_pos hi], by rw [← e, ← List.drop_eq_getElem_cons hi, List.take_append_drop]⟩
/-- A byte is another one: so is the sum. -/
theorem sum_turn {l : List UInt8} {i : Nat} {b d : UInt8} (hb : l[i]? = some b) (hd : d ≠ b) : sumL (l.set i d) ≠ sumL l := by
  intro h
  obtain ⟨e1, e2⟩ := set_parts (d := d) hb
  have h1 : crcL (l.set i d) = crcL l := by
    have a1 := crc_bd (l.set i d) 4294967295 (by omega)
    have a2 := crc_bd l 4294967295 (by omega)
    unfold sumL at h
    unfold crcL at h ⊢
    omega
  have h2 : crcL l = crcL (l.take i ++ b :: l.drop (i + 1)) := congrArg crcL e2
  rw [e1, h2] at h1
  unfold crcL at h1
  rw [List.foldl_append, List.foldl_append, List.foldl_cons, List.foldl_cons] at h1
  have hbd := crc_bd (l.take i) 4294967295 (by omega)
  exact hd (crcByte_byte hbd (fold_inj _ (crcByte_lt _ hbd) (crcByte_lt _ hbd) h1))
theorem big4_inj {m n : Int} (hm : 0 ≤ m ∧ m ≤ 4294967295) (hn : 0 ≤ n ∧ n ≤ 4294967295) (h : bigL 4 m = bigL 4 n) : m = n := by
  have h1 := num4 m; have h2 := num4 n
  rw [h] at h1
  omega
theorem num_inj' : ∀ (l l' : List UInt8) (a a' : Nat), l.length = l'.length → l.foldl (fun n b => n * 256 + b.toNat) a = l'.foldl (fun n b => n * 256 + b.toNat) a' → a = a' ∧ l = l'
  | [], [], _, _, _, h => ⟨h, rfl⟩
  | [], _ :: _, _, _, h, _ => by simp at h
  | _ :: _, [], _, _, h, _ => by simp at h
  | c :: l, c' :: l', a, a', hl, h => by
    simp only [List.foldl_cons] at h
    obtain ⟨h1, rfl⟩ := num_inj' l l' _ _ (by simpa using hl) h
    have h2 := c.toNat_lt; have h3 := c'.toNat_lt
    have h4 : c.toNat = c'.toNat := by omega
    exact ⟨by omega, by rw [UInt8.toNat_inj.1 h4]⟩
theorem num_inj {l l' : List UInt8} (hl : l.length = l'.length) (h : numN l = numN l') : l = l' := (num_inj' l l' 0 0 hl h).2
theorem set_ne {α : Type} {l : List α} {i : Nat} {b d : α} (hb : l[i]? = some b) (hd : d ≠ b) : l.set i d ≠ l := fun h => hd (by
  have hi := (List.getElem?_eq_some_iff.1 hb).1
  have h1 : (l.set i d)[i]? = some d := by rw [List.getElem?_set_self hi]
  rw [h, hb] at h1
  exact (Option.some.inj h1).symm)
theorem state_turn {e e' : Int} {l l' : List Resd} {i : Nat} {b d : UInt8} (hb : (stateL e l)[i]? = some b) (hd : d ≠ b) : stateL e' l' ≠ (stateL e l).set i d := by
  intro h
  unfold stateL at h hb
  have hi := (List.getElem?_eq_some_iff.1 hb).1
  have hlen := congrArg List.length h
  rw [List.length_append, List.length_set, List.length_append, bigL_len, bigL_len] at hlen
  rw [List.length_append, bigL_len] at hi
  by_cases hx : i < (stateB e l).length
  · rw [List.set_append_left _ _ hx] at h
    rw [List.getElem?_append_left hx] at hb
    obtain ⟨h1, h2⟩ := List.append_inj h (by rw [List.length_set]; omega)
    have h3 := big4_inj (sum_bd _) (sum_bd _) h2
    rw [h1] at h3
    exact sum_turn hb hd h3
  · rw [List.set_append_right _ _ (by omega)] at h
    rw [List.getElem?_append_right (by omega)] at hb
    obtain ⟨h1, h2⟩ := List.append_inj h (by omega)
    rw [h1] at h2
    exact set_ne hb hd h2.symm
theorem state_self {e e' : Int} {l l' : List Resd} {s s' : List UInt8} (h : stOk e l = true) (h' : stOk e' l' = true) (he : stateB e' l' ++ s' = stateB e l ++ s) : s' = s := by
  have key : ∀ (e : Int) (l : List Resd) (s : List UInt8), (stateB e l ++ s).drop 7 = listL encR l ++ s := fun e l s => by
    unfold stateB
    rw [List.append_assoc, List.append_assoc, ← List.append_assoc]
    exact List.drop_left' (by simp [bigL_len])
  have hrd : ∀ (e : Int) (l : List Resd), stOk e l = true → ∀ s, rdList rdRes (listL encR l ++ s) = (l, s) := fun e l h s => by
    obtain ⟨-, -, hm⟩ := st_parts h
    obtain ⟨hn, hx⟩ := mays_each hm
    exact rdList_inv (by omega) (fun x hxm t => rdRes_inv (hx x hxm) t) s
  have h1 := congrArg (List.drop 7) he
  rw [key, key] at h1
  have h2 := congrArg (rdList rdRes) h1
  rw [hrd e' l' h', hrd e l h] at h2
  exact (Prod.mk.inj h2).2
theorem state_cut {e e' : Int} {l l' : List Resd} (h : stOk e l = true) (h' : stOk e' l' = true) : stateL e' l' ≠ (stateL e l).take ((stateL e l).length - 1) := by
  intro he
  have e1 : (stateL e l).take ((stateL e l).length - 1) = stateB e l ++ (bigL 4 (sumL (stateB e l))).take 3 := by
    unfold stateL
    rw [List.length_append, bigL_len, List.take_append, List.take_of_length_le (by omega)]
    congr 2
    omega
  rw [e1] at he
  have h2 := congrArg List.length (state_self h h' he)
  rw [bigL_len, List.length_take, bigL_len] at h2
  omega
theorem state_more {e e' : Int} {l l' : List Resd} {c : UInt8} (h : stOk e l = true) (h' : stOk e' l' = true) : stateL e' l' ≠ stateL e l ++ [c] := by
  intro he
  unfold stateL at he
  rw [List.append_assoc] at he
  have h2 := congrArg List.length (state_self h h' he)
  rw [bigL_len, List.length_append, bigL_len] at h2
  simp at h2

/-! Records with their length and their sum ahead. -/
def oneB (u : List UInt8) : List UInt8 := bigL 2 u.length ++ (bigL 4 (sumL u) ++ u)
theorem oneB_len (u : List UInt8) : (oneB u).length = 6 + u.length := by
  unfold oneB; rw [List.length_append, List.length_append, bigL_len, bigL_len]; omega
theorem len2 {u : List UInt8} (h : u.length < 65536) : numN (bigL 2 (u.length : Int)) = u.length := by
  have := num2 u.length; omega
theorem sum4 (u : List UInt8) : (numN (bigL 4 (sumL u)) : Int) = sumL u := by
  have := num4 (sumL u); have := sum_bd u; omega
theorem one_is {l b : List UInt8} {n m : Nat} (h1 : numN (l.take 2) = n) (h2 : numN ((l.drop 2).take 4) = m) (h3 : ((l.drop 2).drop 4).take n = b) :
    oneL l = if n ≤ b.length ∧ sumL b = (m : Int) ∧ (decOf (rdRec b) b).2 = 0 then some ((decOf (rdRec b) b).1, 6 + n) else none := by
  unfold oneL
  rw [h1, h2, h3]
theorem one_first {r : Recd} (hr : recB r = true) (hu : (recL r).length < 65536) (rest : List UInt8) : oneL (oneB (recL r) ++ rest) = some (r, 6 + (recL r).length) := by
  have e : oneB (recL r) ++ rest = bigL 2 (recL r).length ++ (bigL 4 (sumL (recL r)) ++ (recL r ++ rest)) := by
    unfold oneB; simp only [List.append_assoc]
  have h3 : ((((oneB (recL r) ++ rest).drop 2).drop 4).take (recL r).length) = recL r := by
    rw [e, drop_big, drop_big, List.take_left']; rfl
  rw [one_is (n := (recL r).length) (m := numN (bigL 4 (sumL (recL r)))) (b := recL r) (by rw [e, take_big, len2 hu]) (by rw [e, drop_big, take_big]) h3]
  have hd : decOf (rdRec (recL r)) (recL r) = (r, 0) := by rw [rdRec_inv hr]; unfold decOf; rw [if_pos ⟨hr, rfl⟩]
  rw [hd, if_pos ⟨Nat.le_refl _, (sum4 _).symm, rfl⟩]
theorem one_turn {u rest : List UInt8} {i : Nat} {b c : UInt8} (hu : u.length < 65536) (h2 : 2 ≤ i) (hb : (oneB u)[i]? = some b) (hc : c ≠ b) : oneL ((oneB u).set i c ++ rest) = none := by
  have hlen := oneB_len u
  have hi := (List.getElem?_eq_some_iff.1 hb).1
  have hB : (bigL 4 (sumL u)).length = 4 := bigL_len _ _
  have hA : (bigL 2 (u.length : Int)).length = 2 := bigL_len _ _
  by_cases h6 : i < 6
  · have e : (oneB u).set i c ++ rest = bigL 2 u.length ++ ((bigL 4 (sumL u)).set (i - 2) c ++ (u ++ rest)) := by
      unfold oneB
      rw [List.set_append_right _ _ (by omega), hA, List.set_append_left _ _ (by omega)]
      simp only [List.append_assoc]
    have hS : ((bigL 4 (sumL u)).set (i - 2) c).length = 4 := by rw [List.length_set]; exact hB
    rw [one_is (n := u.length) (m := numN ((bigL 4 (sumL u)).set (i - 2) c)) (b := u) (by rw [e, take_big, len2 hu]) (by rw [e, drop_big, List.take_left' hS]) (by rw [e, drop_big, List.drop_left' hS, List.take_left])]
    refine if_neg fun h => ?_
    have hb' : (bigL 4 (sumL u))[i - 2]? = some b := by
      unfold oneB at hb
      rw [List.getElem?_append_right (by omega), hA, List.getElem?_append_left (by omega)] at hb
      exact hb
    have hs := h.2.1
    have hs4 := sum4 u
    exact set_ne hb' hc (num_inj (by rw [List.length_set]) (by omega))
  · have e : (oneB u).set i c ++ rest = bigL 2 u.length ++ (bigL 4 (sumL u) ++ (u.set (i - 6) c ++ rest)) := by
      unfold oneB
      rw [List.set_append_right _ _ (by omega), hA, List.set_append_right _ _ (by omega), hB, show i - 2 - 4 = i - 6 by omega]
      simp only [List.append_assoc]
    have hU : (u.set (i - 6) c).length = u.length := List.length_set ..
    rw [one_is (n := u.length) (m := numN (bigL 4 (sumL u))) (b := u.set (i - 6) c) (by rw [e, take_big, len2 hu]) (by rw [e, drop_big, take_big]) (by rw [e, drop_big, drop_big, List.take_left' hU])]
    refine if_neg fun h => ?_
    have hs := h.2.1
    rw [sum4 u] at hs
    have hb' : u[i - 6]? = some b := by
      unfold oneB at hb
      rw [List.getElem?_append_right (by omega), hA, List.getElem?_append_right (by omega), hB, show i - 2 - 4 = i - 6 by omega] at hb
      exact hb
    exact sum_turn hb' hc hs
theorem one_cut {u : List UInt8} (hu : u.length < 65536) (h1 : 1 ≤ u.length) : oneL ((oneB u).take ((oneB u).length - 1)) = none := by
  have hlen := oneB_len u
  have ht : ((oneB u).take ((oneB u).length - 1)).take 2 = bigL 2 u.length := by
    rw [List.take_take, show min 2 ((oneB u).length - 1) = 2 by omega]
    unfold oneB; rw [take_big]
  have hl : ((oneB u).take ((oneB u).length - 1)).length = 5 + u.length := by rw [List.length_take]; omega
  exact one_long (by rw [ht, len2 hu, hl]; omega) (by rw [hl]; omega)
theorem scan_two {r : Recd} {i : Nat} {b c : UInt8} {rest : List UInt8} (hr : recB r = true) (hu : (recL r).length < 65536) (h2 : 2 ≤ i) (hb : (oneB (recL r))[i]? = some b) (hc : c ≠ b) :
    scanL (oneB (recL r) ++ (oneB (recL r) ++ ((oneB (recL r)).set i c ++ rest))) = ([r, r], 2 * (oneB (recL r)).length) := by
  have hlen := oneB_len (recL r)
  have hd : ∀ t : List UInt8, (oneB (recL r) ++ t).drop (6 + (recL r).length) = t := fun t => by rw [← hlen, List.drop_left]
  unfold scanL
  obtain ⟨f, hf⟩ : ∃ f, (oneB (recL r) ++ (oneB (recL r) ++ ((oneB (recL r)).set i c ++ rest))).length + 1 = f + 1 + 1 + 1 := ⟨(oneB (recL r) ++ (oneB (recL r) ++ ((oneB (recL r)).set i c ++ rest))).length - 2, by simp only [List.length_append]; omega⟩
  rw [hf, scan_some (one_first hr hu _), hd, scan_some (one_first hr hu _), hd, scan_none (one_turn hu h2 hb hc)]
  simp only [Prod.mk.injEq, true_and]
  omega
theorem scan_cut {r : Recd} (hr : recB r = true) (hu : (recL r).length < 65536) (h1 : 1 ≤ (recL r).length) :
    scanL (oneB (recL r) ++ (oneB (recL r)).take ((oneB (recL r)).length - 1)) = ([r], (oneB (recL r)).length) := by
  have hlen := oneB_len (recL r)
  have hd : ∀ t : List UInt8, (oneB (recL r) ++ t).drop (6 + (recL r).length) = t := fun t => by rw [← hlen, List.drop_left]
  unfold scanL
  rw [scan_some (one_first hr hu _), hd, scan_none (one_cut hu h1)]
  simp only [Prod.mk.injEq, true_and]
  omega
end Go.Proofs.YtfmcgdglalljgaaGreatDoor

namespace Go.Proofs.YtfmcgdglalljgaaGreatDoor
open Go.RowKit

theorem refsS_in {ts : List Tok} (he : TsEnd ts) : ∀ (f : Nat) {i : Nat} {e : EntD} {rf : List (IDd × Nat)} {i' : Nat} {e' : EntD} {rf' : List (IDd × Nat)}, refsS ts f i e rf = .ok (i', e', rf') → i < i' ∧ i' < ts.length
  | 0, i, e, rf, i', e', rf', h => by cases h
  | f + 1, i, e, rf, i', e', rf', h => by
    unfold refsS at h
    split at h
    · cases h
    · rename_i i1 e1 rf1 h1
      have h2 := refS_in he h1
      split at h
      · have := refsS_in he f h; omega
      · cases h; exact h2

set_option maxRecDepth 100000 in
set_option maxHeartbeats 3200000 in
theorem readListP {B Be : Nat} {w : World} {P b : Nat} {ts : List Tok} {i : Nat} {rs : List RowE} {bs : List Nat} {rf : List (IDd × Nat)} {e : EntD} (h : Fits B Be w P b ts i rs bs rf e) (hn : ts.length ≤ 1000000) (he : TsEnd ts) (hi : i < ts.length) :
    Calls Tryz.prog 136 #[.pointer (some ⟨P, 0, none⟩), .pointer (some ⟨b, 0, none⟩)] w (ReadIs B Be w P b ts rs bs (listS ts i e rf)) := by
  obtain ⟨t0, h0⟩ := TsEnd.there hi
  have hF0 := hide (h.ext ((Ext.refl w).alloc (.cells #[.int .i64 0, .int .i64 0] 88)))
  replace h := hide h; replace hi := hide hi
  by_cases k0 : t0.kind = 6
  · have hj1 := he.next h0 (by omega)
    obtain ⟨t1, h1⟩ := TsEnd.there hj1
    have hst : Hid (listS ts i e rf = match (if kindAt ts (i + 1) = 7 then .ok (i + 1, e, rf) else refsS ts ts.length (i + 1) e rf : Except Flt (Nat × EntD × List (IDd × Nat))) with
      | .error x => .error x
      | .ok (i, e, rf) => match takeS ts i 7 with
        | .error x => .error x
        | .ok (_, i) => .ok (i, e, rf)) := by
      show _ = _
      unfold listS; rw [take_ok h0 k0]; rfl
    replace h0 := hide h0; replace k0 := hide k0; replace he := hide he
    go_enter Tryz.func136, Tryz.ntmps136
    go_wp2_with fail
    refine (takeF hF0.out h0.out hn k0.out).mono ?_; rintro e1 w1 ⟨rfl, hF1, hW1⟩
    have O1 := hide (Wr.keeps hW1.out (heap_alloc_new w (.cells #[.int .i64 0, .int .i64 0] 88)) chgE_fault)
    go_wp2_with fail
    refine (faultIs _ _ _).mono ?_; rintro e2 w2 ⟨rfl, hw2⟩
    have X2 : Hid (Ext w1 w2) := (by show Ext _ _; rw [hw2]; exact ((((Ext.refl w1).alloc _).alloc _).alloc _))
    clear hw2
    have hF2 := hide (hF1.out.ext X2.out); have O2 := hide (ext_heap X2.out O1.out)
    have W2 : Hid (Wr (ChgE B Be) w w2) := (Wr.ext ((Ext.refl w).alloc _)).trans (hW1.out.trans (Wr.ext X2.out))
    clear hF1 hW1 O1 X2
    go_wp2_with fail
    refine (peekF hF2.out h1).mono ?_; rintro e3 w3 ⟨rfl, he3⟩
    have hF3 := hide (hF2.out.ext he3.out); have O3 := hide (ext_heap he3.out O2.out)
    have W3 : Hid (Wr (ChgE B Be) w w3) := W2.out.trans (Wr.ext he3.out)
    clear hF2 O2 W2 he3
    by_cases k1 : t1.kind = 7
    · have hk1 : ((t1.kind : Int) != 7) = false := by simp [k1]
      have hfin : Hid (listS ts i e rf = .ok (i + 1 + 1, e, rf)) := by
        show _ = _
        rw [hst.out, if_pos ((kind_at h1).trans k1)]; dsimp only; rw [take_ok h1 k1]
      replace h1 := hide h1; replace k1 := hide k1
      go_wp2_with fail
      refine (takeF hF3.out h1.out hn k1.out).mono ?_; rintro e4 w4 ⟨rfl, hF4, hW4⟩
      have hx := ((Ext.refl w4).alloc (.cells #[.int .i64 t1.kind, .int .i64 t1.place, .string t1.text, .int .i64 t1.value] 120)).alloc (.cells #[.int .i64 0, .int .i64 0] 88)
      have OZ := ext_heap hx (Wr.keeps hW4.out O3.out chgE_fault)
      have o0 := two_c0 OZ; have o1 := two_c1 OZ; have fO := row_frozen OZ
      replace hx := hide hx; replace OZ := hide OZ
      go_wp2_with fail
      refine bodyPost_ret (v := .agg #[.int .i64 0, .int .i64 0]) (by simp [results, Tryz.results136, go_sem, o0, o1]) rfl ?_
      have WF := Wr.ofF OZ.out (.int .i64 0) (.int .i64 0)
      have WZ : Wr (ChgE B Be) w _ := ((W3.out.trans hW4.out).trans (Wr.ext hx.out)).thenNew WF fun j t hd => by have := hd.1; omega
      exact ⟨WZ, .inr ⟨i + 1 + 1, e, rf, hfin, rfl, (hF4.out.ext hx.out).onF WF⟩⟩
    · have hk1 : ((t1.kind : Int) != 7) = true := by simp; omega
      rw [if_neg (by rw [kind_at h1]; exact k1)] at hst
      replace h1 := hide h1; replace k1 := hide k1
      go_wp2_with fail
      refine (readRefsP hF3.out hn he.out hj1).mono ?_
      rintro e4 w4 ⟨hW4, ⟨en, pl, hr, hne, rfl⟩ | ⟨i4, x4, rf4, hr, rfl, hF4⟩⟩
      · have hne1 : (en != 0) = true := by simpa using hne
        have hfin : Hid (listS ts i e rf = .error (en, pl)) := by
          show _ = _
          rw [hst.out, hr.out]
        have O4 := hide (Wr.keeps hW4.out O3.out chgE_fault)
        go_wp2_with fail
        refine (faultIs _ _ _).mono ?_; rintro e5 w5 ⟨rfl, hw5⟩
        have X5 : Hid (Ext w4 w5) := (by show Ext _ _; rw [hw5]; exact (((Ext.refl w4).alloc _).alloc _))
        have F5 := (hw5 ▸ ext_heap ((Ext.refl _).alloc (.cells #[.int .i64 en, .int .i64 pl] 88)) (heap_alloc_new w4 (.cells #[.int .i64 en, .int .i64 pl] 88)) : w5.heap[w4.heap.size]? = some (.cells #[.int .i64 en, .int .i64 pl] 88))
        have O5 := ext_heap X5.out O4.out
        clear hw5
        have f0 := two_c0 F5; have f1 := two_c1 F5; have o0 := two_c0 O5; have o1 := two_c1 O5; have fO := row_frozen O5
        replace F5 := hide F5; replace O5 := hide O5
        go_wp2_with fail
        refine bodyPost_ret (v := .agg #[.int .i64 en, .int .i64 pl]) (by simp [results, Tryz.results136, go_sem, o0, o1]) rfl ?_
        have W : Wr (ChgE B Be) w w5 := (W3.out.trans hW4.out).trans (Wr.ext X5.out)
        exact ⟨(W.setNew (p := ⟨w.heap.size, 0, none⟩) (Nat.le_refl _) _).setNew (p := ⟨w.heap.size, 1, none⟩) (Nat.le_refl _) _, .inl ⟨en, pl, hfin, hne, rfl⟩⟩
      · have O4 := hide (Wr.keeps hW4.out O3.out chgE_fault)
        have hi4 := (refsS_in he.out _ hr.out).2
        obtain ⟨t4, h4⟩ := TsEnd.there hi4
        rw [hr.out] at hst
        go_wp2_with fail
        refine (faultIs _ _ _).mono ?_; rintro e5 w5 ⟨rfl, hw5⟩
        have X5 : Hid (Ext w4 w5) := (by show Ext _ _; rw [hw5]; exact (((Ext.refl w4).alloc _).alloc _))
        clear hw5
        have hF5 := hide (hF4.out.ext X5.out); have O5 := hide (ext_heap X5.out O4.out)
        have W5 : Hid (Wr (ChgE B Be) w w5) := W3.out.trans (hW4.out.trans (Wr.ext X5.out))
        clear hF4 O4 hW4 X5
        by_cases k4 : t4.kind = 7
        · have hfin : Hid (listS ts i e rf = .ok (i4 + 1, x4, rf4)) := by
            show _ = _
            rw [hst.out, take_ok h4 k4]
          replace h4 := hide h4; replace k4 := hide k4
          go_wp2_with fail
          refine (takeF hF5.out h4.out hn k4.out).mono ?_; rintro e6 w6 ⟨rfl, hF6, hW6⟩
          have hx := ((Ext.refl w6).alloc (.cells #[.int .i64 t4.kind, .int .i64 t4.place, .string t4.text, .int .i64 t4.value] 120)).alloc (.cells #[.int .i64 0, .int .i64 0] 88)
          have OZ := ext_heap hx (Wr.keeps hW6.out O5.out chgE_fault)
          have o0 := two_c0 OZ; have o1 := two_c1 OZ; have fO := row_frozen OZ
          replace hx := hide hx; replace OZ := hide OZ
          go_wp2_with fail
          refine bodyPost_ret (v := .agg #[.int .i64 0, .int .i64 0]) (by simp [results, Tryz.results136, go_sem, o0, o1]) rfl ?_
          have WF := Wr.ofF OZ.out (.int .i64 0) (.int .i64 0)
          have WZ : Wr (ChgE B Be) w _ := ((W5.out.trans hW6.out).trans (Wr.ext hx.out)).thenNew WF fun j t hd => by have := hd.1; omega
          exact ⟨WZ, .inr ⟨i4 + 1, x4, rf4, hfin, rfl, (hF6.out.ext hx.out).onF WF⟩⟩
        · have hfin : Hid (listS ts i e rf = .error (6, t4.place)) := by
            show _ = _
            rw [hst.out, take_no h4 k4]
          replace h4 := hide h4; replace k4 := hide k4
          go_wp2_with fail
          refine (takeFN hF5.out h4.out hn k4.out).mono ?_; rintro e6 w6 ⟨rfl, he6⟩
          have hx := ((Ext.refl w6).alloc (.cells #[.int .i64 0, .int .i64 0, .string ⟨#[]⟩, .int .i64 0] 120)).alloc (.cells #[.int .i64 6, .int .i64 t4.place] 88)
          have OZ := ext_heap hx (ext_heap he6.out O5.out)
          have o0 := two_c0 OZ; have o1 := two_c1 OZ; have fO := row_frozen OZ
          replace hx := hide hx; replace OZ := hide OZ
          go_wp2_with fail
          refine bodyPost_ret (v := .agg #[.int .i64 6, .int .i64 t4.place]) (by simp [results, Tryz.results136, go_sem, o0, o1]) rfl ?_
          have WZ : Wr (ChgE B Be) w _ := (W5.out.trans (Wr.ext he6.out)).trans (Wr.ext hx.out)
          exact ⟨(WZ.setNew (p := ⟨w.heap.size, 0, none⟩) (Nat.le_refl _) _).setNew (p := ⟨w.heap.size, 1, none⟩) (Nat.le_refl _) _, .inl ⟨6, t4.place, hfin, by decide, rfl⟩⟩
  · have hfin : Hid (listS ts i e rf = .error (6, t0.place)) := by
      show _ = _
      unfold listS; rw [take_no h0 k0]
    replace h0 := hide h0; replace k0 := hide k0; replace he := hide he
    go_enter Tryz.func136, Tryz.ntmps136
    go_wp2_with fail
    refine (takeFN hF0.out h0.out hn k0.out).mono ?_; rintro e1 w1 ⟨rfl, he1⟩
    have O1 := hide (ext_heap he1.out (heap_alloc_new w (.cells #[.int .i64 0, .int .i64 0] 88)))
    have W1 : Hid (Wr (ChgE B Be) w w1) := (Wr.ext ((Ext.refl w).alloc _)).trans (Wr.ext he1.out)
    go_wp2_with fail
    refine (faultIs _ _ _).mono ?_; rintro e2 w2 ⟨rfl, hw2⟩
    have X2 : Hid (Ext w1 w2) := (by show Ext _ _; rw [hw2]; exact ((((Ext.refl w1).alloc _).alloc _).alloc _))
    have F2 := (hw2 ▸ ext_heap ((Ext.refl _).alloc (.cells #[.int .i64 6, .int .i64 t0.place] 88)) (two_hi w1 (.cells #[.int .i64 0, .int .i64 0, .string ⟨#[]⟩, .int .i64 0] 120) (.cells #[.int .i64 6, .int .i64 t0.place] 88)) : w2.heap[w1.heap.size + 1]? = some (.cells #[.int .i64 6, .int .i64 t0.place] 88))
    have O2 := ext_heap X2.out O1.out
    clear hw2
    have f0 := two_c0 F2; have f1 := two_c1 F2; have o0 := two_c0 O2; have o1 := two_c1 O2; have fO := row_frozen O2
    replace F2 := hide F2; replace O2 := hide O2
    go_wp2_with fail
    refine bodyPost_ret (v := .agg #[.int .i64 6, .int .i64 t0.place]) (by simp [results, Tryz.results136, go_sem, o0, o1]) rfl ?_
    have W : Wr (ChgE B Be) w w2 := W1.out.trans (Wr.ext X2.out)
    exact ⟨(W.setNew (p := ⟨w.heap.size, 0, none⟩) (Nat.le_refl _) _).setNew (p := ⟨w.heap.size, 1, none⟩) (Nat.le_refl _) _, .inl ⟨6, t0.place, hfin, by decide, rfl⟩⟩
end Go.Proofs.YtfmcgdglalljgaaGreatDoor

namespace Go.Proofs.YtfmcgdglalljgaaGreatDoor
open Go.RowKit

theorem wAfter_eq (s : ByteArray) : (s.toList = [97, 102, 116, 101, 114]) = (s = wAfter) := by
  rw [ByteArray.toList_eq]
  apply propext
  constructor
  · intro h
    cases s with | mk d => cases d with | mk l => simp only at h; subst h; rfl
  · rintro rfl; rfl
set_option maxRecDepth 100000 in
set_option maxHeartbeats 3200000 in
theorem checkNameP {Be : Nat} {w : World} {b : Nat} {e : EntD} (h : EntAt Be w b e) (name : ByteArray) :
    Calls Tryz.prog 135 #[.pointer (some ⟨b, 0, none⟩), .string name] w fun r w' => r = .returned (.int .i64 (nameS e name)) ∧ Hid (Ext w w') := by
  obtain ⟨tA, tI, vA, vI, hE⟩ := h
  obtain ⟨a0, a1, a2, a3, a4, a5⟩ := six_cells hE.box
  have hh := hide (tabHasA Be vA e.attrs name tA w hE.attrs)
  replace hE := hide hE
  have hl := hide (tabLenA Be vA e.attrs tA w hE.out.attrs)
  by_cases ha : name = wAfter
  · have ha1 : name.toList = [97, 102, 116, 101, 114] := by rw [wAfter_eq]; exact ha
    have ha2 : (name.toList == [97, 102, 116, 101, 114]) = true := by simp [ha1]
    replace ha := hide ha
    cases hA : e.hasAfter
    · rw [hA] at a4
      replace hA := hide hA
      go_enter Tryz.func135, Tryz.ntmps135
      go_wp2_with fail
      refine hh.out.mono ?_; rintro e1 w1 ⟨b1, rfl, hb1, he1⟩
      cases b1
      · have hno : ¬ HasK RowA.key e.attrs name := fun hm => by have := hb1.out.2 hm; cases this
        replace hb1 := hide hb1
        go_wp2_with fail
        go_ret
        exact ⟨by unfold nameS; simp [ha.out, hA.out]; exact ha.out ▸ hno, he1⟩
      · have hys : HasK RowA.key e.attrs name := hb1.out.1 rfl
        replace hb1 := hide hb1
        go_wp2_with fail
        go_ret
        exact ⟨by unfold nameS; simp [ha.out, hA.out]; exact ha.out ▸ hys, he1⟩
    · rw [hA] at a4
      replace hA := hide hA
      go_enter Tryz.func135, Tryz.ntmps135
      go_wp2_with fail
      go_ret
      exact ⟨by unfold nameS; simp [ha.out, hA.out], Ext.refl w⟩
  · have ha1 : ¬ name.toList = [97, 102, 116, 101, 114] := by rw [wAfter_eq]; exact ha
    have ha2 : (name.toList == [97, 102, 116, 101, 114]) = false := by simpa using ha1
    replace ha := hide ha
    by_cases h6 : e.attrs.length = 6
    · have l1 : ((e.attrs.length : Int) == 6) = true := by simp [h6]
      replace h6 := hide h6
      go_enter Tryz.func135, Tryz.ntmps135
      go_wp2_with fail
      refine hl.out.mono ?_; rintro e0 w0 ⟨rfl, hw0⟩
      obtain rfl := hw0
      go_wp2_with fail
      go_ret
      exact ⟨by unfold nameS; simp [ha.out, h6.out], Ext.refl _⟩
    · have l1 : ((e.attrs.length : Int) == 6) = false := by simp; omega
      replace h6 := hide h6
      go_enter Tryz.func135, Tryz.ntmps135
      go_wp2_with fail
      refine hl.out.mono ?_; rintro e0 w0 ⟨rfl, hw0⟩
      obtain rfl := hw0
      go_wp2_with fail
      refine hh.out.mono ?_; rintro e1 w1 ⟨b1, rfl, hb1, he1⟩
      cases b1
      · have hno : ¬ HasK RowA.key e.attrs name := fun hm => by have := hb1.out.2 hm; cases this
        replace hb1 := hide hb1
        go_wp2_with fail
        go_ret
        exact ⟨by unfold nameS; simp [ha.out, h6.out, hno], he1⟩
      · have hys : HasK RowA.key e.attrs name := hb1.out.1 rfl
        replace hb1 := hide hb1
        go_wp2_with fail
        go_ret
        exact ⟨by unfold nameS; simp [ha.out, h6.out, hys], he1⟩

theorem chgE_attr {B Be k : Nat} : ¬ ChgE B Be k 66 := by
  rintro (⟨_, h | h⟩ | ⟨_, h | h | h | h | h⟩) <;> exact absurd h (by decide)
theorem Fits.onA {B Be : Nat} {w w' : World} {P b : Nat} {ts : List Tok} {i : Nat} {rs : List RowE} {bs : List Nat} {rf : List (IDd × Nat)} {e : EntD} (h : Fits B Be w P b ts i rs bs rf e) {F : Nat} (x : Wr (fun j t => j = F ∧ t = 66) w w') : Fits B Be w' P b ts i rs bs rf e := by
  obtain ⟨⟨tE, vT, vE, vO, vR, hp⟩, h2, h3, h4, h5, h6, h7⟩ := h
  exact ⟨⟨tE, vT, vE, vO, vR, hp.wr x fun _ _ _ _ ht hd => by obtain ⟨_, rfl⟩ := hd; rcases ht with h | h | h | h | h | h <;> exact absurd h (by decide)⟩, h2.wr x fun _ _ _ _ ht hd => by obtain ⟨_, rfl⟩ := hd; rcases ht with h | h | h | h | h <;> exact absurd h (by decide), h3, Nat.le_trans h4 x.size, h5, h6, h7⟩
theorem Fits.attred {B Be : Nat} {w w' : World} {P b : Nat} {ts : List Tok} {i : Nat} {rs : List RowE} {bs : List Nat} {rf : List (IDd × Nat)} {e : EntD} (h : Fits B Be w P b ts i rs bs rf e) {tA tI : Nat} {vA vI : Value} (hE : EntIn Be w b tA tI vA vI e) (k : Wrote Be (fun t => t = 212 ∨ t = 210) w w') {u : Value} {x : RowA} {j : Nat} (hT : TabAtA Be w' tA u (insG e.attrs j x)) (hst : StandsG cmpS RowA.key e.attrs x.key j) (h6 : e.attrs.length ≠ 6) : Fits B Be w' P b ts i rs bs rf { e with attrs := insA e.attrs x } := by
  obtain ⟨⟨tE, vT, vE, vO, vR, hp⟩, h2, h3, h4, h5, hf, hg⟩ := h
  refine ⟨⟨tE, vT, vE, vO, vR, hp.wr (Wr.wrote (D := fun _ t => t = 212 ∨ t = 210) k fun _ _ _ _ h => h) fun _ _ _ _ ht hd => by rcases hd with rfl | rfl <;> rcases ht with h | h | h | h | h | h <;> exact absurd h (by decide)⟩, ?_, h3, Nat.le_trans h4 k.size, h5, hf, ?_⟩
  · exact ⟨tA, tI, u, vI, hE.base, Wrote.keeps k hE.box (by decide), by rw [← insA_at hst]; exact hT, ⟨Wrote.keeps k hE.after.at_ (by decide), ownsRow_wr hE.after.keys (Wr.wrote (D := fun _ t => t = 212 ∨ t = 210) k fun _ _ _ _ h => h) (fun _ _ _ hd => by rcases hd with h | h <;> exact absurd h (by decide)), hE.after.up, hE.after.few, hE.after.base⟩⟩
  · show (insA e.attrs x).length ≤ 6
    rw [← insA_at hst, insG_len hst.le]; omega
/-- A value as one of the readings. -/
def valS (ts : List Tok) (i : Nat) (e : EntD) (name : ByteArray) (rf : List (IDd × Nat)) : Except Flt (Nat × EntD × List (IDd × Nat)) := match valueS ts i e name with
  | .error x => .error x
  | .ok (i, e) => .ok (i, e, rf)
set_option maxRecDepth 100000 in
set_option maxHeartbeats 3200000 in
theorem readValueP {B Be : Nat} {w : World} {P b : Nat} {ts : List Tok} {i : Nat} {rs : List RowE} {bs : List Nat} {rf : List (IDd × Nat)} {e : EntD} (h : Fits B Be w P b ts i rs bs rf e) (hn : ts.length ≤ 1000000) (hi : i < ts.length) (name : ByteArray) (hno : ¬ HasK RowA.key e.attrs name) (h6 : e.attrs.length ≠ 6) :
    Calls Tryz.prog 137 #[.pointer (some ⟨P, 0, none⟩), .pointer (some ⟨b, 0, none⟩), .string name] w (ReadIs B Be w P b ts rs bs (valS ts i e name rf)) := by
  obtain ⟨t0, h0⟩ := TsEnd.there hi
  have hF0 := hide (h.ext ((Ext.refl w).alloc (.cells #[.int .i64 0, .int .i64 0] 88)))
  have hpk := hide (peekF hF0.out h0)
  replace h := hide h; replace hi := hide hi; replace hno := hide hno; replace h6 := hide h6
  by_cases k0 : t0.kind = 3
  · have kk1 : ((t0.kind : Int) == 3) = true := by simp [k0]
    have hfin : Hid (valS ts i e name rf = .ok (i + 1, { e with attrs := insA e.attrs ⟨name, ⟨name, true, t0.text, t0.value⟩⟩ }, rf)) := by
      show _ = _
      unfold valS valueS; rw [kind_at h0, k0]
      simp only [reduceIte]
      rw [take_ok h0 k0]; simp
    replace h0 := hide h0; replace k0 := hide k0
    go_enter Tryz.func137, Tryz.ntmps137
    go_wp2_with fail
    refine hpk.out.mono ?_; rintro e1 w1 ⟨rfl, he1⟩
    have hF1 := hide (hF0.out.ext he1.out)
    have O1 := hide (ext_heap he1.out (heap_alloc_new w (.cells #[.int .i64 0, .int .i64 0] 88)))
    have W1 : Hid (Wr (ChgE B Be) w w1) := (Wr.ext ((Ext.refl w).alloc _)).trans (Wr.ext he1.out)
    go_wp2_with fail
    have XA : Ext w1 (w1.alloc (.cells #[.string name, .bool true, .string ⟨#[]⟩, .int .i64 0] 66)) := (Ext.refl w1).alloc _
    have A1 := heap_alloc_new w1 (.cells #[.string name, .bool true, .string ⟨#[]⟩, .int .i64 0] 66)
    generalize w1.alloc (.cells #[.string name, .bool true, .string ⟨#[]⟩, .int .i64 0] 66) = w2 at *
    have hF2 := hide (hF1.out.ext XA); have O2 := hide (ext_heap XA O1.out)
    have W2 : Hid (Wr (ChgE B Be) w w2) := W1.out.trans (Wr.ext XA)
    replace A1 := hide A1; replace XA := hide XA
    refine (takeF hF2.out h0.out hn k0.out).mono ?_; rintro e3 w3 ⟨rfl, hF3, hW3⟩
    have A3 := hide (Wr.keeps hW3.out A1.out chgE_attr)
    have O3 := hide (Wr.keeps hW3.out O2.out chgE_fault)
    have W3 : Hid (Wr (ChgE B Be) w w3) := W2.out.trans hW3.out
    go_wp2_with fail
    refine (faultIs _ _ _).mono ?_; rintro e4 w4 ⟨rfl, hw4⟩
    have X4 : Hid (Ext w3 w4) := (by show Ext _ _; rw [hw4]; exact (((Ext.refl w3).alloc _).alloc _).alloc _)
    have T4 := (hw4 ▸ ext_heap (((Ext.refl _).alloc (.cells #[.int .i64 0, .int .i64 0] 88)).alloc (.cells #[.int .i64 0, .int .i64 0] 88)) (heap_alloc_new w3 (.cells #[.int .i64 t0.kind, .int .i64 t0.place, .string t0.text, .int .i64 t0.value] 120)) : w4.heap[w3.heap.size]? = some (.cells #[.int .i64 t0.kind, .int .i64 t0.place, .string t0.text, .int .i64 t0.value] 120))
    clear hw4
    have A4 := ext_heap X4.out A3.out; have O4 := hide (ext_heap X4.out O3.out); have hF4 := hide (hF3.out.ext X4.out)
    obtain ⟨m0, m1, m2, m3⟩ := four_cells A4
    obtain ⟨n0, n1, n2, n3⟩ := four_cells T4
    have fA := row_frozen A4
    have hlt := (Array.getElem?_eq_some_iff.1 A3.out).1
    have d1 : ¬ w3.heap.size = w1.heap.size := by omega
    have d2 : ¬ w1.heap.size = w3.heap.size := by omega
    have A5 : Hid (((w4.setCell ⟨w1.heap.size, 2, none⟩ (.string t0.text)).setCell ⟨w1.heap.size, 3, none⟩ (.int .i64 t0.value)).drew.heap[w1.heap.size]? = some (.cells #[.string name, .bool true, .string t0.text, .int .i64 t0.value] 66)) := by
      show _ = _
      exact (row_set (row_set A4 2 _) 3 _).trans rfl
    have W5 : Hid (Wr (fun j t => j = w1.heap.size ∧ t = 66) w4 ((w4.setCell ⟨w1.heap.size, 2, none⟩ (.string t0.text)).setCell ⟨w1.heap.size, 3, none⟩ (.int .i64 t0.value)).drew) := (((Wr.refl _ w4).setOld (p := ⟨w1.heap.size, 2, none⟩) A4 ⟨rfl, rfl⟩ _).setOld (p := ⟨w1.heap.size, 3, none⟩) A4 ⟨rfl, rfl⟩ _).trans (Wr.ext (Ext.refl _).drew)
    replace A4 := hide A4; replace T4 := hide T4; replace hlt := hide hlt
    go_wp2_with fail
    go_region_with (fail)
    all_goals
      clear m0 m1 m2 m3 n0 n1 n2 n3 fA
      generalize ((w4.setCell ⟨w1.heap.size, 2, none⟩ (.string t0.text)).setCell ⟨w1.heap.size, 3, none⟩ (.int .i64 t0.value)).drew = w5 at *
      obtain ⟨m0, m1, m2, m3⟩ := four_cells A5.out
      have hF5 := hide (hF4.out.onA W5.out)
      have O5 := hide (Wr.keeps W5.out O4.out (fun hd => absurd hd.2 (by decide)))
      have W05 : Hid (Wr (ChgE B Be) w w5) := (W3.out.trans (Wr.ext X4.out)).thenNew W5.out fun j t hd => by have := hd.1; have := W1.out.size; omega
      obtain ⟨tA, tI, vA, vI, hE⟩ := hF5.out.ent
      have a3 := (six_cells hE.box).2.2.2.1
      have hpt := hide (tabPutA Be vA e.attrs name ⟨name, true, t0.text, t0.value⟩ tA w5.drew (hE.attrs.ext (Ext.refl w5).drew) hno.out hF5.out.size (by have := h.out.attrsFew; omega))
      replace hE := hide hE
      go_wp2_with fail
      go_region_held3 (fun w' => w'.cell? ⟨b, 3, none⟩ = some (.pointer (some ⟨tA, 0, none⟩)) ∧ w'.cell? ⟨w1.heap.size, 0, none⟩ = some (.string name) ∧ w'.cell? ⟨w1.heap.size, 1, none⟩ = some (.bool true) ∧ w'.cell? ⟨w1.heap.size, 2, none⟩ = some (.string t0.text) ∧ w'.cell? ⟨w1.heap.size, 3, none⟩ = some (.int .i64 t0.value)) (go_keep) ((go_at_call 159; refine hpt.out.mono ?_; rintro e6 w6 ⟨j6, pa, cap, n6, rfl, hst, hT6, hW6⟩; go_must (have z0 := (six_cells (Wrote.keeps hW6.out (ext_heap (Ext.refl w5).drew hE.out.box) (by decide))).2.2.2.1; have zA := Wrote.keeps hW6.out (ext_heap (Ext.refl w5).drew A5.out) (by decide); obtain ⟨z1, z2, z3, z4⟩ := four_cells zA; clear zA)))
      all_goals
        have W6 : Wrote Be (fun t => t = 212 ∨ t = 210) w5 w6 := (Wrote.ext (Ext.refl w5).drew).trans hW6.out
        have O6 := Wrote.keeps W6 O5.out (by decide)
        have hF6 := hide (hF5.out.attred hE.out W6 hT6.out hst.out h6.out)
        have W06 : Hid (Wr (ChgE B Be) w w6) := W05.out.trans (Wr.wrote W6 fun _ _ _ hb h => .inr ⟨hb, h.elim (fun h => .inr (.inr (.inl h))) (fun h => .inr (.inl h))⟩)
        have o0 := two_c0 O6; have o1 := two_c1 O6; have fO := row_frozen O6
        replace O6 := hide O6; replace W6 := hide W6
        go_wp2_with fail
        refine bodyPost_ret (v := .agg #[.int .i64 0, .int .i64 0]) (by simp [results, Tryz.results137, go_sem, o0, o1]) rfl ?_
        have WF := Wr.ofF O6.out (.int .i64 0) (.int .i64 0)
        exact ⟨W06.out.thenNew WF fun j t hd => by have := hd.1; omega, .inr ⟨_, _, _, hfin, rfl, hF6.out.onF WF⟩⟩
  · by_cases k2 : t0.kind = 2
    · have kk1 : ((t0.kind : Int) == 3) = false := by simp [k2]
      have hfin : Hid (valS ts i e name rf = .ok (i + 1, { e with attrs := insA e.attrs ⟨name, ⟨name, false, t0.text, t0.value⟩⟩ }, rf)) := by
        show _ = _
        unfold valS valueS; rw [kind_at h0, k2]
        simp only [reduceIte, Nat.reduceEqDiff]
        rw [take_ok h0 k2]; simp
      replace h0 := hide h0; replace k2 := hide k2
      go_enter Tryz.func137, Tryz.ntmps137
      go_wp2_with fail
      refine hpk.out.mono ?_; rintro e1 w1 ⟨rfl, he1⟩
      have hF1 := hide (hF0.out.ext he1.out)
      have O1 := hide (ext_heap he1.out (heap_alloc_new w (.cells #[.int .i64 0, .int .i64 0] 88)))
      have W1 : Hid (Wr (ChgE B Be) w w1) := (Wr.ext ((Ext.refl w).alloc _)).trans (Wr.ext he1.out)
      go_wp2_with fail
      have XA : Ext w1 (w1.alloc (.cells #[.string name, .bool false, .string ⟨#[]⟩, .int .i64 0] 66)) := (Ext.refl w1).alloc _
      have A1 := heap_alloc_new w1 (.cells #[.string name, .bool false, .string ⟨#[]⟩, .int .i64 0] 66)
      generalize w1.alloc (.cells #[.string name, .bool false, .string ⟨#[]⟩, .int .i64 0] 66) = w2 at *
      have hF2 := hide (hF1.out.ext XA); have O2 := hide (ext_heap XA O1.out)
      have W2 : Hid (Wr (ChgE B Be) w w2) := W1.out.trans (Wr.ext XA)
      replace A1 := hide A1; replace XA := hide XA
      refine (takeF hF2.out h0.out hn k2.out).mono ?_; rintro e3 w3 ⟨rfl, hF3, hW3⟩
      have A3 := hide (Wr.keeps hW3.out A1.out chgE_attr)
      have O3 := hide (Wr.keeps hW3.out O2.out chgE_fault)
      have W3 : Hid (Wr (ChgE B Be) w w3) := W2.out.trans hW3.out
      go_wp2_with fail
      refine (faultIs _ _ _).mono ?_; rintro e4 w4 ⟨rfl, hw4⟩
      have X4 : Hid (Ext w3 w4) := (by show Ext _ _; rw [hw4]; exact (((Ext.refl w3).alloc _).alloc _).alloc _)
      have T4 := (hw4 ▸ ext_heap (((Ext.refl _).alloc (.cells #[.int .i64 0, .int .i64 0] 88)).alloc (.cells #[.int .i64 0, .int .i64 0] 88)) (heap_alloc_new w3 (.cells #[.int .i64 t0.kind, .int .i64 t0.place, .string t0.text, .int .i64 t0.value] 120)) : w4.heap[w3.heap.size]? = some (.cells #[.int .i64 t0.kind, .int .i64 t0.place, .string t0.text, .int .i64 t0.value] 120))
      clear hw4
      have A4 := ext_heap X4.out A3.out; have O4 := hide (ext_heap X4.out O3.out); have hF4 := hide (hF3.out.ext X4.out)
      obtain ⟨m0, m1, m2, m3⟩ := four_cells A4
      obtain ⟨n0, n1, n2, n3⟩ := four_cells T4
      have fA := row_frozen A4
      have hlt := (Array.getElem?_eq_some_iff.1 A3.out).1
      have d1 : ¬ w3.heap.size = w1.heap.size := by omega
      have d2 : ¬ w1.heap.size = w3.heap.size := by omega
      have A5 : Hid (((w4.setCell ⟨w1.heap.size, 2, none⟩ (.string t0.text)).setCell ⟨w1.heap.size, 3, none⟩ (.int .i64 t0.value)).drew.heap[w1.heap.size]? = some (.cells #[.string name, .bool false, .string t0.text, .int .i64 t0.value] 66)) := by
        show _ = _
        exact (row_set (row_set A4 2 _) 3 _).trans rfl
      have W5 : Hid (Wr (fun j t => j = w1.heap.size ∧ t = 66) w4 ((w4.setCell ⟨w1.heap.size, 2, none⟩ (.string t0.text)).setCell ⟨w1.heap.size, 3, none⟩ (.int .i64 t0.value)).drew) := (((Wr.refl _ w4).setOld (p := ⟨w1.heap.size, 2, none⟩) A4 ⟨rfl, rfl⟩ _).setOld (p := ⟨w1.heap.size, 3, none⟩) A4 ⟨rfl, rfl⟩ _).trans (Wr.ext (Ext.refl _).drew)
      replace A4 := hide A4; replace T4 := hide T4; replace hlt := hide hlt
      go_wp2_with fail
      go_region_with (fail)
      all_goals
        clear m0 m1 m2 m3 n0 n1 n2 n3 fA
        generalize ((w4.setCell ⟨w1.heap.size, 2, none⟩ (.string t0.text)).setCell ⟨w1.heap.size, 3, none⟩ (.int .i64 t0.value)).drew = w5 at *
        obtain ⟨m0, m1, m2, m3⟩ := four_cells A5.out
        have hF5 := hide (hF4.out.onA W5.out)
        have O5 := hide (Wr.keeps W5.out O4.out (fun hd => absurd hd.2 (by decide)))
        have W05 : Hid (Wr (ChgE B Be) w w5) := (W3.out.trans (Wr.ext X4.out)).thenNew W5.out fun j t hd => by have := hd.1; have := W1.out.size; omega
        obtain ⟨tA, tI, vA, vI, hE⟩ := hF5.out.ent
        have a3 := (six_cells hE.box).2.2.2.1
        have hpt := hide (tabPutA Be vA e.attrs name ⟨name, false, t0.text, t0.value⟩ tA w5.drew (hE.attrs.ext (Ext.refl w5).drew) hno.out hF5.out.size (by have := h.out.attrsFew; omega))
        replace hE := hide hE
        go_wp2_with fail
        go_region_held3 (fun w' => w'.cell? ⟨b, 3, none⟩ = some (.pointer (some ⟨tA, 0, none⟩)) ∧ w'.cell? ⟨w1.heap.size, 0, none⟩ = some (.string name) ∧ w'.cell? ⟨w1.heap.size, 1, none⟩ = some (.bool false) ∧ w'.cell? ⟨w1.heap.size, 2, none⟩ = some (.string t0.text) ∧ w'.cell? ⟨w1.heap.size, 3, none⟩ = some (.int .i64 t0.value)) (go_keep) ((go_at_call 159; refine hpt.out.mono ?_; rintro e6 w6 ⟨j6, pa, cap, n6, rfl, hst, hT6, hW6⟩; go_must (have z0 := (six_cells (Wrote.keeps hW6.out (ext_heap (Ext.refl w5).drew hE.out.box) (by decide))).2.2.2.1; have zA := Wrote.keeps hW6.out (ext_heap (Ext.refl w5).drew A5.out) (by decide); obtain ⟨z1, z2, z3, z4⟩ := four_cells zA; clear zA)))
        all_goals
          have W6 : Wrote Be (fun t => t = 212 ∨ t = 210) w5 w6 := (Wrote.ext (Ext.refl w5).drew).trans hW6.out
          have O6 := Wrote.keeps W6 O5.out (by decide)
          have hF6 := hide (hF5.out.attred hE.out W6 hT6.out hst.out h6.out)
          have W06 : Hid (Wr (ChgE B Be) w w6) := W05.out.trans (Wr.wrote W6 fun _ _ _ hb h => .inr ⟨hb, h.elim (fun h => .inr (.inr (.inl h))) (fun h => .inr (.inl h))⟩)
          have o0 := two_c0 O6; have o1 := two_c1 O6; have fO := row_frozen O6
          replace O6 := hide O6; replace W6 := hide W6
          go_wp2_with fail
          refine bodyPost_ret (v := .agg #[.int .i64 0, .int .i64 0]) (by simp [results, Tryz.results137, go_sem, o0, o1]) rfl ?_
          have WF := Wr.ofF O6.out (.int .i64 0) (.int .i64 0)
          exact ⟨W06.out.thenNew WF fun j t hd => by have := hd.1; omega, .inr ⟨_, _, _, hfin, rfl, hF6.out.onF WF⟩⟩
    · have kk1 : ((t0.kind : Int) == 3) = false := by simp; omega
      have hfin : Hid (valS ts i e name rf = .error (6, t0.place)) := by
        show _ = _
        unfold valS valueS; rw [kind_at h0, if_neg k0, take_no h0 k2]
      replace h0 := hide h0; replace k0 := hide k0; replace k2 := hide k2
      go_enter Tryz.func137, Tryz.ntmps137
      go_wp2_with fail
      refine hpk.out.mono ?_; rintro e1 w1 ⟨rfl, he1⟩
      have hF1 := hide (hF0.out.ext he1.out)
      have O1 := hide (ext_heap he1.out (heap_alloc_new w (.cells #[.int .i64 0, .int .i64 0] 88)))
      have W1 : Hid (Wr (ChgE B Be) w w1) := (Wr.ext ((Ext.refl w).alloc _)).trans (Wr.ext he1.out)
      go_wp2_with fail
      have XA : Ext w1 (w1.alloc (.cells #[.string name, .bool false, .string ⟨#[]⟩, .int .i64 0] 66)) := (Ext.refl w1).alloc _
      generalize w1.alloc (.cells #[.string name, .bool false, .string ⟨#[]⟩, .int .i64 0] 66) = w2 at *
      have hF2 := hide (hF1.out.ext XA); have O2 := hide (ext_heap XA O1.out)
      have W2 : Hid (Wr (ChgE B Be) w w2) := W1.out.trans (Wr.ext XA)
      replace XA := hide XA
      refine (takeFN hF2.out h0.out hn k2.out).mono ?_; rintro e3 w3 ⟨rfl, he3⟩
      have O3 := hide (ext_heap he3.out O2.out)
      have W3 : Hid (Wr (ChgE B Be) w w3) := W2.out.trans (Wr.ext he3.out)
      go_wp2_with fail
      refine (faultIs _ _ _).mono ?_; rintro e4 w4 ⟨rfl, hw4⟩
      have X4 : Hid (Ext w3 w4) := (by show Ext _ _; rw [hw4]; exact ((((Ext.refl w3).alloc _).alloc _).alloc _))
      have F4 := (hw4 ▸ ext_heap ((Ext.refl _).alloc (.cells #[.int .i64 6, .int .i64 t0.place] 88)) (two_hi w3 (.cells #[.int .i64 0, .int .i64 0, .string ⟨#[]⟩, .int .i64 0] 120) (.cells #[.int .i64 6, .int .i64 t0.place] 88)) : w4.heap[w3.heap.size + 1]? = some (.cells #[.int .i64 6, .int .i64 t0.place] 88))
      have O4 := ext_heap X4.out O3.out
      clear hw4
      have f0 := two_c0 F4; have f1 := two_c1 F4; have o0 := two_c0 O4; have o1 := two_c1 O4; have fO := row_frozen O4
      replace F4 := hide F4; replace O4 := hide O4
      go_wp2_with fail
      refine bodyPost_ret (v := .agg #[.int .i64 6, .int .i64 t0.place]) (by simp [results, Tryz.results137, go_sem, o0, o1]) rfl ?_
      have W : Wr (ChgE B Be) w w4 := W3.out.trans (Wr.ext X4.out)
      exact ⟨(W.setNew (p := ⟨w.heap.size, 0, none⟩) (Nat.le_refl _) _).setNew (p := ⟨w.heap.size, 1, none⟩) (Nat.le_refl _) _, .inl ⟨6, t0.place, hfin, by decide, rfl⟩⟩
end Go.Proofs.YtfmcgdglalljgaaGreatDoor
