/-
  Tokens: digits and the signs of strings.
-/
/-
  Rows of our own of whose frozen stretch nothing lies within them: those that a conversion has made too.
-/
/-
  Numbers and texts as bytes, behind a row of our own: what the functions that write them answer.
-/
/-
  The reader of bytes: what its methods answer.
-/
import Derived.Test.YtfnbbohbicffpaaGreatDoorJ6
import Derived.Test.YtfnbbohbicffpaaGreatDoorJ2
import Derived.ArgAppend
import Derived.Lib.AppendStr
import Derived.Deep.DeepMust
import Derived.Laws.BitsAllLaws
namespace Go.Proofs.YtfnbbohbicffpaaGreatDoor
open Go.RowKit

theorem valN_snoc (d : List UInt8) (c : UInt8) : valN (d ++ [c]) = valN d * 10 + (c.toNat - 48) := by simp [valN]
theorem valN_more (a : List UInt8) : ∀ b : List UInt8, valN a ≤ valN (a ++ b) := fun b => by
  induction b generalizing a with
  | nil => simp
  | cons c b ih =>
    have h1 := ih (a ++ [c])
    rw [valN_snoc] at h1
    rw [List.append_assoc] at h1
    simp only [List.singleton_append] at h1
    omega
def valOf (d : List UInt8) : Int := if digitsOk d then (valN d : Int) else 0

set_option maxRecDepth 100000 in
set_option maxHeartbeats 1600000 in
theorem valueOf (s : ByteArray) (w : World) (hs : s.size ≤ 1000000) (hd : ∀ c ∈ s.data.toList, isDigitB c.toNat = true) :
    Calls Tryz.prog 83 #[.string s] w fun e w' => e = .returned (.tuple #[.int .i64 (valOf s.data.toList), .bool (digitsOk s.data.toList)]) ∧ Ext w w' := by
  have hcv := fun (w : World) => Lib.run_convert_string_bytes (P := Tryz.prog) w 9 39 5 s Tryz.underlying9 Tryz.underlying39 Tryz.underlying5
  have Hc := hide fun j hj => Lib.bytesWorld_cell w 5 s j hj
  have Hx := hide (Ext.bytes w 5 s)
  have Hz := hide (show s.data.toList.length = s.size from Array.length_toList)
  replace hd := hide hd
  go_enter Tryz.func83, Tryz.ntmps83
  go_wp2_with fail
  go_loop [4, 11] (fun n i => ∃ k m : Nat, k ≤ s.size ∧ i = .int .i64 k ∧ n = .int .i64 m ∧ m ≤ 1000000000 ∧ Hid (m = valN (s.data.toList.take k))) (fun _ i => s.size - (intOf i).toNat)
  case atStart => exact ⟨0, 0, Nat.zero_le _, rfl, rfl, by omega, rfl⟩
  case round =>
    obtain ⟨k, m, hk, rfl, rfl, hm, hacc⟩ := hrel
    by_cases hlt : k < s.size
    · have g := unhide Hc k hlt
      rw [List.getD_eq_getElem?_getD] at g
      have hlt' : k < s.data.toList.length := by rw [unhide Hz]; exact hlt
      have hs1 : valN (s.data.toList.take (k + 1)) = m * 10 + ((s.data.toList[k]?.getD 0).toNat - 48) := by
        rw [List.take_succ_eq_append_getElem hlt', valN_snoc, hacc.out, List.getElem?_eq_getElem hlt']; rfl
      have hdc := hd.out (s.data.toList[k]?.getD 0) (by rw [List.getElem?_eq_getElem hlt']; exact List.getElem_mem hlt')
      have Hs := hide hs1; clear hs1
      generalize s.data.toList[k]?.getD 0 = c at *
      have hc : 48 ≤ c.toNat ∧ c.toNat ≤ 57 := by simp [isDigitB] at hdc; omega
      obtain ⟨c1, c2⟩ := hc
      have e1 : IntKind.u8.wrap ((c.toNat : Int) - 48) = ((c.toNat - 48 : Nat) : Int) := by rw [IntKind.wrap_u8]; omega
      have e2 : (c.toNat : Int) - 48 = ((c.toNat - 48 : Nat) : Int) := by omega
      obtain ⟨d, hd2⟩ : ∃ d, c.toNat - 48 = d := ⟨_, rfl⟩
      rw [hd2] at e1 e2 Hs
      have hd9 : d ≤ 9 := by omega
      replace hd2 := hide hd2; replace hdc := hide hdc
      by_cases hbig : 1000000000 < m * 10 + d
      · have hno : Hid (digitsOk s.data.toList = false) := by
          show _ = _
          have h1 := valN_more (s.data.toList.take (k + 1)) (s.data.toList.drop (k + 1))
          rw [List.take_append_drop, Hs.out] at h1
          simp [digitsOk]; intro _; omega
        have hq : (1000000000 - (d : Int)) / 10 < (m : Int) := by omega
        go_wp2_with fail
        go_ret2
        exact ⟨by unfold valOf; rw [hno.out]; rfl, Hx.out⟩
      · have hq : ¬ (1000000000 - (d : Int)) / 10 < (m : Int) := by omega
        obtain ⟨q, hq2⟩ : ∃ q, m * 10 + d = q := ⟨_, rfl⟩
        have hq3 : (m : Int) * 10 + (d : Int) = (q : Int) := by omega
        have hq4 : q ≤ 1000000000 := by omega
        rw [hq2] at Hs
        replace hq2 := hide hq2
        go_wp2_with fail
        go_round
        case rel => exact ⟨k + 1, q, by omega, by go_num, rfl, hq4, Hs.out.symm⟩
        case measure => simp [intOf]; omega
    · have Hl : Hid (s.data.toList.take k = s.data.toList) := List.take_of_length_le (by rw [unhide Hz]; omega)
      have hv : Hid (m = valN s.data.toList) := by show _ = _; rw [hacc.out, Hl.out]
      by_cases h0 : s.data.toList = []
      · have hE : s.toList = [] := by rw [ByteArray.toList_eq]; exact h0
        have hno : Hid (digitsOk s.data.toList = false) := by show _ = _; simp [digitsOk, h0]
        have hm0 : m = 0 := by rw [hv.out, h0]; rfl
        subst hm0
        replace h0 := hide h0
        go_wp2_with fail
        go_ret2
        exact ⟨by unfold valOf; rw [hno.out]; rfl, Hx.out⟩
      · have hE : ¬ s.toList = [] := by rw [ByteArray.toList_eq]; exact h0
        have hE' : (s.toList == ([] : List UInt8)) = false := by simpa using hE
        have hyes : Hid (digitsOk s.data.toList = true) := by
          show _ = _
          unfold digitsOk
          rw [← hv.out, decide_eq_true hm, Bool.and_true]
          cases hl : s.data.toList with
          | nil => exact absurd hl h0
          | cons _ _ => rfl
        replace h0 := hide h0
        go_wp2_with fail
        go_ret2
        exact ⟨by unfold valOf; rw [hyes.out, ← hv.out]; rfl, Hx.out⟩

set_option maxRecDepth 100000 in
set_option maxHeartbeats 1600000 in
theorem readSign (s : ByteArray) (w : World) (h0 : 0 < s.size) (hs : s.size ≤ 1000000) :
    Calls Tryz.prog 84 #[.string s] w fun e w' => e = .returned (.tuple #[.int .u8 ((signL s.data.toList).1.toNat : Int), .int .i64 ((signL s.data.toList).2 : Int)]) ∧ w' = w := by
  obtain ⟨c, hc1, hc2⟩ := byteAt h0
  have key : ∀ c d : UInt8, ((c.toNat : Int) == (d.toNat : Int)) = decide (c = d) := fun c d => by
    by_cases h : c = d
    · subst h; simp
    · rw [byte_ne h]; simp [h]
  have b92 := key c 92
  rw [show ((92 : UInt8).toNat : Int) = 92 from rfl] at b92
  obtain ⟨t, ht⟩ : ∃ t, s.data.toList = c :: t := by
    cases hl : s.data.toList with
    | nil => rw [hl] at hc1; simp at hc1
    | cons x t => rw [hl] at hc1; simp at hc1; exact ⟨t, by rw [hc1]⟩
  have hlen : s.size = t.length + 1 := by
    have : s.data.toList.length = s.size := Array.length_toList
    rw [ht] at this; simpa using this.symm
  by_cases h92 : c = 92
  · rw [decide_eq_true h92] at b92
    cases t with
    | nil =>
      have hS : Hid (signL s.data.toList = (0, 0)) := by show _ = _; rw [ht]; simp [signL, h92]
      have hl1 : s.size = 1 := by simpa using hlen
      have hl2 : (s.size : Int) = 1 := by omega
      replace ht := hide ht; replace h92 := hide h92; replace hc1 := hide hc1; replace key := hide key
      clear hlen
      go_enter Tryz.func84, Tryz.ntmps84
      go_wp2_with fail
      go_ret2
      exact ⟨by rw [hS.out]; rfl, rfl⟩
    | cons d t =>
      have hl1 : 1 < s.size := by rw [hlen]; simp
      have hl2 : ¬ (s.size : Int) = 1 := by omega
      obtain ⟨d', hd1, hd2⟩ := byteAt hl1
      obtain rfl : d = d' := by rw [ht] at hd1; simpa using hd1
      have e92 := key d 92; have e34 := key d 34; have e110 := key d 110
      rw [show ((92 : UInt8).toNat : Int) = 92 from rfl] at e92
      rw [show ((34 : UInt8).toNat : Int) = 34 from rfl] at e34
      rw [show ((110 : UInt8).toNat : Int) = 110 from rfl] at e110
      have hS : Hid (signL s.data.toList = if d = 92 ∨ d = 34 then (d, 2) else if d = 110 then (10, 2) else (0, 0)) := by show _ = _; rw [ht]; simp [signL, h92]
      replace ht := hide ht; replace h92 := hide h92; replace hc1 := hide hc1; replace key := hide key; replace hd1 := hide hd1
      clear hlen
      by_cases q1 : d = 92
      · rw [decide_eq_true q1] at e92
        have hS2 : Hid (signL s.data.toList = (d, 2)) := by show _ = _; rw [hS.out, if_pos (.inl q1)]
        replace q1 := hide q1; replace e34 := hide e34; replace e110 := hide e110
        go_enter Tryz.func84, Tryz.ntmps84
        go_wp2_with fail
        go_ret2
        exact ⟨by rw [hS2.out]; rfl, rfl⟩
      · rw [decide_eq_false q1] at e92
        by_cases q2 : d = 34
        · rw [decide_eq_true q2] at e34
          have hS2 : Hid (signL s.data.toList = (d, 2)) := by show _ = _; rw [hS.out, if_pos (.inr q2)]
          replace q1 := hide q1; replace q2 := hide q2; replace e110 := hide e110
          go_enter Tryz.func84, Tryz.ntmps84
          go_wp2_with fail
          go_ret2
          exact ⟨by rw [hS2.out]; rfl, rfl⟩
        · rw [decide_eq_false q2] at e34
          by_cases q3 : d = 110
          · rw [decide_eq_true q3] at e110
            have hS2 : Hid (signL s.data.toList = (10, 2)) := by show _ = _; rw [hS.out, if_neg (by simp [q1, q2]), if_pos q3]
            replace q1 := hide q1; replace q2 := hide q2; replace q3 := hide q3
            go_enter Tryz.func84, Tryz.ntmps84
            go_wp2_with fail
            go_ret2
            exact ⟨by rw [hS2.out]; rfl, rfl⟩
          · rw [decide_eq_false q3] at e110
            have hS2 : Hid (signL s.data.toList = (0, 0)) := by show _ = _; rw [hS.out, if_neg (by simp [q1, q2]), if_neg q3]
            replace q1 := hide q1; replace q2 := hide q2; replace q3 := hide q3
            go_enter Tryz.func84, Tryz.ntmps84
            go_wp2_with fail
            go_ret2
            exact ⟨by rw [hS2.out]; rfl, rfl⟩
  · rw [decide_eq_false h92] at b92
    have hb : ((c.toNat : Int) != 92) = true := by simp only [bne, b92]; rfl
    have hS : Hid (signL s.data.toList = if isPlainB c.toNat then (c, 1) else (0, 0)) := by show _ = _; rw [ht]; simp [signL, h92]
    replace ht := hide ht; replace h92 := hide h92; replace hc1 := hide hc1; replace key := hide key
    clear hlen
    cases hp : isPlainB c.toNat
    · have hS2 : Hid (signL s.data.toList = (0, 0)) := by show _ = _; rw [hS.out, hp]; rfl
      go_enter Tryz.func84, Tryz.ntmps84
      go_wp2_with fail
      refine (isPlain _ _).mono ?_
      rintro e w' ⟨rfl, rfl⟩
      go_wp2_with fail
      go_ret2
      exact ⟨by rw [hS2.out]; rfl, rfl⟩
    · have hS2 : Hid (signL s.data.toList = (c, 1)) := by show _ = _; rw [hS.out, hp]; rfl
      go_enter Tryz.func84, Tryz.ntmps84
      go_wp2_with fail
      refine (isPlain _ _).mono ?_
      rintro e w' ⟨rfl, rfl⟩
      go_wp2_with fail
      go_ret2
      exact ⟨by rw [hS2.out]; rfl, rfl⟩
end Go.Proofs.YtfnbbohbicffpaaGreatDoor

namespace Go.Proofs.YtfnbbohbicffpaaGreatDoor
open Go.RowKit

/-- A row of our own; what is frozen of it lies behind its end. -/
def OwnX (w : World) (base : Nat) (e : TypeId) (size : Nat) (v : Value) (n : Nat) (xs : List Value) : Prop :=
  xs.length = n * size ∧ ((v = .slice none 0 0 ∧ n = 0) ∨ ∃ (g cap : Nat) (cur : Array Value) (fz : Nat × Nat), v = .slice (some ⟨g, 0, none⟩) n cap ∧ base ≤ g ∧ w.heap[g]? = some (.cells cur e fz) ∧ (fz.2 = 0 ∨ cur.size ≤ fz.1) ∧ n ≤ cap ∧ cap ≤ maxLen ∧ cur.size = cap * size ∧ cur.toList.take (n * size) = xs)
theorem ownX_of {w : World} {base : Nat} {e : TypeId} {size : Nat} {v : Value} {n : Nat} {xs : List Value} (h : w.ownsRow base e size v n xs) : OwnX w base e size v n xs := by
  refine ⟨h.1, ?_⟩
  rcases h.2 with h | ⟨g, cap, cur, h1, h2, h3, h4⟩
  · exact .inl h
  · exact .inr ⟨g, cap, cur, (0, 0), h1, h2, h3, .inl rfl, h4⟩
theorem OwnX.form {w : World} {base : Nat} {e : TypeId} {size : Nat} {v : Value} {n : Nat} {xs : List Value} (h : OwnX w base e size v n xs) : ∃ pa cap, v = .slice pa n cap := by
  rcases h.2 with ⟨rfl, rfl⟩ | ⟨g, cap, cur, fz, rfl, _⟩
  · exact ⟨none, 0, rfl⟩
  · exact ⟨_, cap, rfl⟩
theorem OwnX.wrote {w w' : World} {B : Nat} {T : TypeId → Prop} {base : Nat} {e : TypeId} {size : Nat} {v : Value} {n : Nat} {xs : List Value} (h : OwnX w base e size v n xs) (k : Wrote B T w w') (ht : ¬ T e) : OwnX w' base e size v n xs := by
  refine ⟨h.1, ?_⟩
  rcases h.2 with h | ⟨g, cap, cur, fz, h1, h2, h3, h4⟩
  · exact .inl h
  · exact .inr ⟨g, cap, cur, fz, h1, h2, k.keeps h3 ht, h4⟩
theorem OwnX.ext {w w' : World} {base : Nat} {e : TypeId} {size : Nat} {v : Value} {n : Nat} {xs : List Value} (h : OwnX w base e size v n xs) (k : Ext w w') : OwnX w' base e size v n xs :=
  h.wrote (Wrote.ext (B := 0) (T := fun _ => False) k) id
theorem OwnX.cells {w : World} {base : Nat} {e : TypeId} {size : Nat} {v : Value} {n : Nat} {xs : List Value} (h : OwnX w base e size v n xs) {g : Nat} (hg : v.ownBlock = some g) : ∀ j u, xs[j]? = some u → w.cell? ((⟨g, 0, none⟩ : Addr).add j) = some u := by
  intro j u hu
  rcases h.2 with ⟨rfl, _⟩ | ⟨g', cap, cur, fz, rfl, _, hgg, _, _, _, _, htake⟩
  · simp [Value.ownBlock] at hg
  · simp [Value.ownBlock] at hg
    subst hg
    rw [add_eq, Nat.zero_add]
    rw [← htake, List.getElem?_take] at hu
    split at hu
    · simp only [World.cell?, hgg]; simpa using hu
    · cases hu
theorem setCells_row (g : Nat) (t : TypeId) (fz : Nat × Nat) : ∀ (vs : List Value) (o : Nat) (cur : Array Value) (w : World), w.heap[g]? = some (.cells cur t fz) → o + vs.length ≤ cur.size → (w.setCells g o vs).heap[g]? = some (.cells (cur.toList.take o ++ vs ++ cur.toList.drop (o + vs.length)).toArray t fz)
  | [], o, cur, w, h, _ => by simpa [World.setCells] using h
  | v :: vs, o, cur, w, h, hl => by
    have h2 : (w.setCell ⟨g, o, none⟩ v).heap[g]? = some (.cells (cur.setIfInBounds o v) t fz) := by simp [World.setCell, Array.getElem?_modify, h]
    have ih := setCells_row g t fz vs (o + 1) (cur.setIfInBounds o v) _ h2 (by simp at hl ⊢; omega)
    show ((w.setCell ⟨g, o, none⟩ v).setCells g (o + 1) vs).heap[g]? = _
    rw [ih]
    simp only [Array.toList_setIfInBounds]
    have hlt : o < cur.toList.length := by simp at hl ⊢; omega
    congr 3
    have e1 : (List.take o cur.toList ++ [cur.toList[o]]).set o v = List.take o cur.toList ++ [v] := by
      have h3 : (List.take o cur.toList).length = o := by rw [List.length_take]; omega
      rw [List.set_append]
      simp [h3]
    rw [List.take_set, List.drop_set_of_lt (by omega), List.take_succ_eq_append_getElem hlt, e1]
    simp
    congr 1; omega
theorem OwnX.room {w : World} {base : Nat} {e : TypeId} {size n m g cap : Nat} {xs news : List Value} {cur : Array Value} {fz : Nat × Nat} (hx : xs.length = n * size) (hb : base ≤ g) (hg : w.heap[g]? = some (.cells cur e fz)) (hf : fz.2 = 0 ∨ cur.size ≤ fz.1) (hcm : cap ≤ maxLen) (hcs : cur.size = cap * size) (ht : cur.toList.take (n * size) = xs) (hl : news.length = m * size) (hroom : n + m ≤ cap) :
    OwnX (w.setCells g (n * size) news) base e size (.slice (some ⟨g, 0, none⟩) (n + m) cap) (n + m) (xs ++ news) := by
  have hfit : n * size + news.length ≤ cur.size := by rw [hl, hcs, ← Nat.add_mul]; exact Nat.mul_le_mul_right _ hroom
  have hlen : (xs ++ news).length = (n + m) * size := by rw [List.length_append, hx, hl, Nat.add_mul]
  refine ⟨hlen, .inr ⟨g, cap, _, fz, rfl, hb, setCells_row g e fz news _ cur w hg hfit, ?_, hroom, hcm, ?_, ?_⟩⟩
  · refine hf.imp id fun h => ?_
    simp; omega
  · simp; omega
  · simp only [List.append_assoc]
    rw [ht, ← List.append_assoc, ← hlen]; exact List.take_left
theorem OwnX.conv {w : World} {B g n cap : Nat} {l : List UInt8} (hn : l.length = n) (h : OwnX w B 5 1 (.slice (some ⟨g, 0, none⟩) n cap) n (cellsB l)) :
    (convert 39 9 (.slice (some ⟨g, 0, none⟩) n cap)).run Tryz.prog w = .ok (.string ⟨l.toArray⟩) w := by
  refine conv_bytes w g 0 n cap l hn fun j hj => ?_
  have := h.cells (g := g) rfl j (.int .u8 ((l[j]?.getD 0).toNat : Int)) (by simp [cellsB, hj])
  rw [add_eq] at this
  exact this
theorem Wrote.grownX {B : Nat} {T : TypeId → Prop} {w w1 w2 : World} {e : TypeId} {size : Nat} {v : Value} {n : Nat} {xs : List Value} (h : Wrote B T w w1) (hown : OwnX w1 B e size v n xs) (ht : T e) (hg : w1.grownBy w2 v.ownBlock) : Wrote B T w w2 := by
  refine h.trans ⟨hg.os, hg.tape, hg.output, hg.size, fun k hk hd => hg.block k hk ?_⟩
  rintro hv
  rcases hown.2 with ⟨rfl, _⟩ | ⟨g, cap, cur, fz, rfl, hb, hh, _⟩
  · simp [Value.ownBlock] at hv
  · simp [Value.ownBlock] at hv
    subst hv
    rcases hd with hd | hd
    · omega
    · exact hd _ _ _ hh ht
end Go.Proofs.YtfnbbohbicffpaaGreatDoor

namespace Go.Proofs.YtfnbbohbicffpaaGreatDoor
open Go.RowKit

/-- A row of bytes of our own. -/
structure Buf (B : Nat) (w : World) (v : Value) (l : List UInt8) : Prop where
  own : OwnX w B 5 1 v l.length (cellsB l)
  base : B ≤ w.heap.size
/-- Only rows of bytes from B on have turned. -/
abbrev Wrote8 (B : Nat) (w w' : World) : Prop := Wrote B (· = 5) w w'
theorem Buf.nil (w : World) : Buf w.heap.size w (.slice none 0 0) [] := ⟨ownX_of (World.ownsRow_nil _ _ _ _), Nat.le_refl _⟩
theorem Buf.step {B : Nat} {acc news : List UInt8} {v : Value} {wr w1 : World} {m g cap : Nat} (h : Buf B wr v acc) (hm : news.length = m)
    (hown : OwnX w1 B 5 1 (.slice (some ⟨g, 0, none⟩) (acc.length + m) cap) (acc.length + m) (cellsB acc ++ cellsB news)) {o : Obj} (hgrow : (wr.alloc o).grownBy w1 v.ownBlock) : Buf B w1 (.slice (some ⟨g, 0, none⟩) (acc.length + m) cap) (acc ++ news) := by
  have hl : (acc ++ news).length = acc.length + m := by rw [List.length_append, hm]
  refine ⟨by rw [hl, cellsB_append]; exact hown, ?_⟩
  have h1 := hgrow.size
  have h2 := h.base
  simp at h1; omega
theorem Buf.form {B : Nat} {w : World} {v : Value} {l : List UInt8} (h : Buf B w v l) : ∃ pa cap, v = .slice pa l.length cap := by
  exact h.own.form
theorem Buf.alloc {B : Nat} {w : World} {v : Value} {l : List UInt8} (h : Buf B w v l) (o : Obj) : Buf B (w.alloc o) v l := ⟨h.own.ext ((Ext.refl w).alloc o), by have := h.base; simp; omega⟩
theorem Buf.ext {B : Nat} {w w' : World} {v : Value} {l : List UInt8} (h : Buf B w v l) (e : Ext w w') : Buf B w' v l :=
  ⟨h.own.ext e, Nat.le_trans h.base e.size⟩
theorem Buf.drew {B : Nat} {w : World} {v : Value} {l : List UInt8} (h : Buf B w v l) : Buf B w.drew v l := h.ext (Ext.refl w).drew
theorem Buf.wrote {B : Nat} {w w1 w2 : World} {v : Value} {l : List UInt8} (h : Buf B w1 v l) (hb : Wrote8 B w w1) {o : Obj} (hg : (w1.alloc o).grownBy w2 v.ownBlock) : Wrote8 B w w2 := (hb.alloc o).grownX (h.own.ext ((Ext.refl w1).alloc o)) rfl hg
/-- string(b). -/
theorem Buf.conv {B : Nat} {w : World} {v : Value} {l : List UInt8} (h : Buf B w v l) (hl : 0 < l.length) : (convert 39 9 v).run Tryz.prog w = .ok (.string ⟨l.toArray⟩) w := by
  rcases h.own.2 with ⟨rfl, h0⟩ | ⟨g, cap, cur, fz, rfl, _⟩
  · omega
  · exact OwnX.conv rfl h.own
/-- What a function answers that has written bytes behind a row of our own. -/
def Wrt (B : Nat) (w : World) (l : List UInt8) (e : Ending) (w' : World) : Prop :=
  ∃ (acc : List UInt8) (pa : Option Addr) (cap : Nat), e = .returned (.slice pa acc.length cap) ∧ Hid (acc = l) ∧ Hid (Buf B w' (.slice pa acc.length cap) acc) ∧ Hid (Wrote8 B w w')
theorem Wrt.mk {B : Nat} {w w' : World} {l : List UInt8} {v : Value} (h : Buf B w' v l) (k : Wrote8 B w w') : Wrt B w l (.returned v) w' := by
  obtain ⟨pa, cap, rfl⟩ := h.form
  exact ⟨l, pa, cap, rfl, rfl, h, k⟩
end Go.Proofs.YtfnbbohbicffpaaGreatDoor

namespace Go.Proofs.YtfnbbohbicffpaaGreatDoor
open Go.RowKit

end Go.Proofs.YtfnbbohbicffpaaGreatDoor
