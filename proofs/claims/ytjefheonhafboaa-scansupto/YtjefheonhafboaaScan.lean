/-
  Journals: the record that a journal begins with, as the program reads it.
-/
import Derived.Test.YtjefheonhafboaaSum
import Derived.Test.YtjefheonhafboaaDecode
namespace Go.Proofs.Ytjefheonhafboaa
open Go.RowKit

/-- The record that bytes begin with, and how many bytes it has with what stands ahead. -/
def oneL (l : List UInt8) : Option (Recd × Nat) :=
  if numN (l.take 2) ≤ (((l.drop 2).drop 4).take (numN (l.take 2))).length ∧ sumL (((l.drop 2).drop 4).take (numN (l.take 2))) = numN ((l.drop 2).take 4) ∧
      (decOf (rdRec (((l.drop 2).drop 4).take (numN (l.take 2)))) (((l.drop 2).drop 4).take (numN (l.take 2)))).2 = 0 then
    some ((decOf (rdRec (((l.drop 2).drop 4).take (numN (l.take 2)))) (((l.drop 2).drop 4).take (numN (l.take 2)))).1, 6 + numN (l.take 2))
  else none
theorem decOf_err (r : Recd) (l : List UInt8) : (decOf r l).2 = 0 ∨ (decOf r l).2 = 16 := by
  unfold decOf; split
  · exact .inl rfl
  · exact .inr rfl
/-- What 'first' answers. -/
def FstIs (w : World) (s : ByteArray) (e : Ending) (w' : World) : Prop :=
  Hid (Ext w w') ∧ ((Hid (oneL s.data.toList = none) ∧ ∃ (q : Recd) (pa2 pa3 : Option Addr) (cap2 cap3 : Nat) (n : Int), e = .returned (.tuple #[.agg #[.int .i64 q.kind, .int .i64 q.epoch, .int .i64 q.number, .int .i64 q.op, .string q.res.id.kind, .string q.res.id.name, .slice pa2 q.res.attrs.length cap2, .slice pa3 q.res.after.length cap3], .int .i64 n, .bool false])) ∨
    ∃ (q : Recd) (n : Nat) (pa2 pa3 : Option Addr) (cap2 cap3 : Nat), Hid (oneL s.data.toList = some (q, n)) ∧ e = .returned (.tuple #[.agg #[.int .i64 q.kind, .int .i64 q.epoch, .int .i64 q.number, .int .i64 q.op, .string q.res.id.kind, .string q.res.id.name, .slice pa2 q.res.attrs.length cap2, .slice pa3 q.res.after.length cap3], .int .i64 n, .bool true]) ∧
      Hid (okS q.res) ∧ Hid (OwnR w.heap.size w' (.slice pa2 q.res.attrs.length cap2) (.slice pa3 q.res.after.length cap3) q.res))

theorem hcast (n : Nat) (v : Value) : Ending.returned (.tuple #[v, .int .i64 (6 + (n : Int)), .bool true]) = .returned (.tuple #[v, .int .i64 ((6 + n : Nat) : Int), .bool true]) := by
  rw [Int.natCast_add]; rfl

set_option maxRecDepth 100000 in
set_option maxHeartbeats 1600000 in
theorem first (s : ByteArray) (w : World) (hs : s.size ≤ 1048576) :
    Calls Try.prog 12 #[.string s] w (FstIs w s) := by
  go_enter Try.func12, Try.ntmps12
  go_wp2_with fail
  refine (newReader s _).mono ?_
  rintro e w1 ⟨rfl, rfl⟩
  go_wp2_with fail
  refine (number (w.heap.size + 1) s 2 _ (two_hi w _ _) hs (by omega)).mono ?_
  rintro e w1 ⟨n, s1, rfl, hn, hn2, hL1⟩
  have hn3 : n < 65536 := by
    have := num_lt 2 (s.data.toList.take 2) (by rw [List.length_take]; omega)
    rw [← hn.out] at this; exact this
  go_wp2_with fail
  refine (number (w.heap.size + 1) s1 4 _ hL1.out.at_ hL1.out.few (by omega)).mono ?_
  rintro e w2 ⟨m, s2, rfl, hm, hm2, hL2⟩
  go_wp2_with fail
  refine (take (w.heap.size + 1) s2 n _ hL2.out.at_ hL2.out.few (by omega)).mono ?_
  rintro e w3 ⟨b, s3, rfl, hb, hL3⟩
  have hO := r_keeps (t := 52) hL3.out.wrote (r_keeps (t := 52) hL2.out.wrote (r_keeps (t := 52) hL1.out.wrote (two_lo w _ _) (by decide)) (by decide)) (by decide)
  have X3 := hide ((((Wrote.refl w.heap.size (· = 100) w).alloc _).alloc _).trans ((hL1.out.wrote.trans (hL2.out.wrote.trans hL3.out.wrote)).mono (Nat.le_succ _) (fun _ h => h))).toExt
  have hbz : b.size ≤ 1048576 := by
    rw [← ba_len, hb.out, List.length_take, ba_len]; have := hL2.out.few; omega
  have hbody : Hid (b.data.toList = ((s.data.toList.drop 2).drop 4).take (numN (s.data.toList.take 2))) := by show _ = _; rw [hb.out, hL2.out.list, hL1.out.list, hn.out]
  have hmm : Hid (m = numN ((s.data.toList.drop 2).take 4)) := by show _ = _; rw [hm.out, hL1.out.list]
  have hone : Hid (oneL s.data.toList = if n ≤ b.size ∧ sumL b.data.toList = (m : Int) ∧ (decOf (rdRec b.data.toList) b.data.toList).2 = 0 then some ((decOf (rdRec b.data.toList) b.data.toList).1, 6 + n) else none) := by
    show _ = _
    unfold oneL
    rw [← hbody.out, ← hmm.out, ← hn.out, ba_len]
  obtain ⟨a0, a1, a2, a3, a4, a5, a6, a7⟩ := ecells hO
  have fO := row_frozen hO
  have hlO : w.heap.size < w3.heap.size := (Array.getElem?_eq_some_iff.1 hO).1
  replace hO := hide hO
  clear hL1 hL2 hL3 hbody hmm hn hm hb
  by_cases hlen : b.size < n
  · have hlen' : decide ((b.size : Int) < (n : Int)) = true := by simp; omega
    have hno : Hid (oneL s.data.toList = none) := by show _ = _; rw [hone.out, if_neg (by omega)]
    go_wp2_with fail
    refine bodyPost_ret (v := .tuple #[.agg #[.int .i64 0, .int .i64 0, .int .i64 0, .int .i64 0, .string ⟨#[]⟩, .string ⟨#[]⟩, .slice none 0 0, .slice none 0 0], .int .i64 0, .bool false]) (by simp [results, Try.results12, go_sem, a0, a1, a2, a3, a4, a5, a6, a7]) rfl ⟨?_, .inl ⟨hno, noRec, none, none, 0, 0, 0, rfl⟩⟩
    exact ((Wrote.ext (B := w.heap.size) (T := fun _ => False) X3.out).set8 (Nat.le_refl _) _ _ _ _ _ _ _ _).toExt
  have hlen' : decide ((b.size : Int) < (n : Int)) = false := by simp; omega
  have hsum := hide (sum b)
  generalize sumL b.data.toList = z at *
  go_wp2_with fail
  refine (hsum.out _ hbz).mono ?_
  rintro e w4 ⟨rfl, he4⟩
  have X4 := hide (X3.out.trans he4)
  have hO4 := ext_heap he4 hO.out
  clear a0 a1 a2 a3 a4 a5 a6 a7 fO hsum
  obtain ⟨a0, a1, a2, a3, a4, a5, a6, a7⟩ := ecells hO4
  have fO := row_frozen hO4
  replace hO4 := hide hO4; replace he4 := hide he4
  by_cases hz : z = (m : Int)
  · have hz' : (z != (m : Int)) = false := by simpa using hz
    have hdec := hide (decode b)
    obtain ⟨⟨dq, de⟩, hdq⟩ : ∃ p, decOf (rdRec b.data.toList) b.data.toList = p := ⟨_, rfl⟩
    have hde := decOf_err (rdRec b.data.toList) b.data.toList
    rw [hdq] at hone hde
    replace hdq := hide hdq; replace hz := hide hz
    go_wp2_with fail
    refine (hdec.out _ hbz).mono ?_
    rintro e w5 ⟨q, pa2, pa3, cap2, cap3, en, rfl, hd, hok, hown, he5⟩
    obtain ⟨rfl, rfl⟩ : dq = q ∧ de = en := by have := hdq.out.symm.trans hd.out; simpa using this
    have X5 := hide (X4.out.trans he5.out)
    have hO5 := ext_heap he5.out hO4.out
    clear a0 a1 a2 a3 a4 a5 a6 a7 fO hdec
    obtain ⟨a0, a1, a2, a3, a4, a5, a6, a7⟩ := ecells hO5
    have fO := row_frozen hO5
    have hl5 : w.heap.size < w5.heap.size := (Array.getElem?_eq_some_iff.1 hO5).1
    replace hO5 := hide hO5
    rcases hde with rfl | rfl
    · have hyes : Hid (oneL s.data.toList = some (dq, 6 + n)) := by show _ = _; rw [hone.out, if_pos ⟨by omega, hz.out, rfl⟩]
      have own6 := hown.out.low (B' := w.heap.size) X4.out.size
      have own2 := hide (ownsRow_set8 own6.attrs hO5.out (by decide) (.int .i64 dq.kind) (.int .i64 dq.epoch) (.int .i64 dq.number) (.int .i64 dq.op) (.string dq.res.id.kind) (.string dq.res.id.name) (.slice pa2 dq.res.attrs.length cap2) (.slice pa3 dq.res.after.length cap3))
      have own3 := hide (ownsRow_set8 own6.after hO5.out (by decide) (.int .i64 dq.kind) (.int .i64 dq.epoch) (.int .i64 dq.number) (.int .i64 dq.op) (.string dq.res.id.kind) (.string dq.res.id.name) (.slice pa2 dq.res.attrs.length cap2) (.slice pa3 dq.res.after.length cap3))
      clear own6
      go_wp2_with fail
      refine bodyPost_ret (v := .tuple #[.agg #[.int .i64 dq.kind, .int .i64 dq.epoch, .int .i64 dq.number, .int .i64 dq.op, .string dq.res.id.kind, .string dq.res.id.name, .slice pa2 dq.res.attrs.length cap2, .slice pa3 dq.res.after.length cap3], .int .i64 (6 + (n : Int)), .bool true]) (by simp [results, Try.results12, go_sem, hl5, a0, a1, a2, a3, a4, a5, a6, a7]) rfl ⟨?_, .inr ⟨dq, 6 + n, pa2, pa3, cap2, cap3, hyes, hcast n _, hok, ⟨⟨_, _, rfl⟩, ⟨_, _, rfl⟩, own2.out.alloc _, own3.out.alloc _⟩⟩⟩
      exact ((Wrote.ext (B := w.heap.size) (T := fun _ => False) X5.out).set8 (Nat.le_refl _) _ _ _ _ _ _ _ _).toExt.alloc _
    · have hno : Hid (oneL s.data.toList = none) := by show _ = _; rw [hone.out, if_neg (by simp)]
      go_wp2_with fail
      refine bodyPost_ret (v := .tuple #[.agg #[.int .i64 dq.kind, .int .i64 dq.epoch, .int .i64 dq.number, .int .i64 dq.op, .string dq.res.id.kind, .string dq.res.id.name, .slice pa2 dq.res.attrs.length cap2, .slice pa3 dq.res.after.length cap3], .int .i64 (6 + (n : Int)), .bool false]) (by simp [results, Try.results12, go_sem, hl5, a0, a1, a2, a3, a4, a5, a6, a7]) rfl ⟨?_, .inl ⟨hno, dq, pa2, pa3, cap2, cap3, _, rfl⟩⟩
      exact ((Wrote.ext (B := w.heap.size) (T := fun _ => False) X5.out).set8 (Nat.le_refl _) _ _ _ _ _ _ _ _).toExt.alloc _
  · have hz' : (z != (m : Int)) = true := by simpa using hz
    have hno : Hid (oneL s.data.toList = none) := by show _ = _; rw [hone.out, if_neg (by simp [hz])]
    replace hz := hide hz
    go_wp2_with fail
    refine bodyPost_ret (v := .tuple #[.agg #[.int .i64 0, .int .i64 0, .int .i64 0, .int .i64 0, .string ⟨#[]⟩, .string ⟨#[]⟩, .slice none 0 0, .slice none 0 0], .int .i64 0, .bool false]) (by simp [results, Try.results12, go_sem, a0, a1, a2, a3, a4, a5, a6, a7]) rfl ⟨?_, .inl ⟨hno, noRec, none, none, 0, 0, 0, rfl⟩⟩
    exact ((Wrote.ext (B := w.heap.size) (T := fun _ => False) X4.out).set8 (Nat.le_refl _) _ _ _ _ _ _ _ _).toExt
end Go.Proofs.Ytjefheonhafboaa
