/-
  Journals: what the program's Scan answers.
-/
import Derived.Test.YtjefheonhafboaaScan
import Derived.Test.YtjefheonhafboaaRefRead2
namespace Go.Proofs.Ytjefheonhafboaa
open Go.RowKit

def scanF : Nat → List UInt8 → List Recd × Nat
  | 0, _ => ([], 0)
  | f + 1, l => match oneL l with
    | none => ([], 0)
    | some (r, n) => (r :: (scanF f (l.drop n)).1, n + (scanF f (l.drop n)).2)
/-- The records of a journal, and how many bytes they have. -/
def scanL (l : List UInt8) : List Recd × Nat := scanF (l.length + 1) l
theorem scan_none {f : Nat} {l : List UInt8} (h : oneL l = none) : scanF f l = ([], 0) := by
  cases f with
  | zero => rfl
  | succ f => simp [scanF, h]
theorem scan_some {f n : Nat} {l : List UInt8} {r : Recd} (h : oneL l = some (r, n)) : scanF (f + 1) l = (r :: (scanF f (l.drop n)).1, n + (scanF f (l.drop n)).2) := by
  simp [scanF, h]
theorem one_len {l : List UInt8} {r : Recd} {n : Nat} (h : oneL l = some (r, n)) : 7 ≤ n ∧ n ≤ l.length ∧ n ≤ 70000 := by
  unfold oneL at h
  split at h
  · rename_i hc
    obtain ⟨h1, _, h3⟩ := hc
    obtain ⟨rfl, rfl⟩ : _ ∧ 6 + numN (l.take 2) = n := by simpa using h
    have h4 := num_lt 2 (l.take 2) (by rw [List.length_take]; omega)
    rw [List.length_take, List.length_drop, List.length_drop] at h1
    by_cases h0 : numN (l.take 2) = 0
    · rw [h0, List.take_zero] at h3
      exact absurd h3 (by decide)
    · exact ⟨by omega, by omega, by omega⟩
  · cases h
/-- A record in memory. -/
structure RecP where
  r : Recd
  c2 : Value
  c3 : Value
def cRc (p : RecP) : List Value := [.int .i64 p.r.kind, .int .i64 p.r.epoch, .int .i64 p.r.number, .int .i64 p.r.op, .string p.r.res.id.kind, .string p.r.res.id.name, p.c2, p.c3]
theorem cRc_len (p : RecP) : (cRc p).length = 8 := rfl
def cellsR (l : List RecP) : List Value := l.flatMap cRc
theorem cellsR_app (l : List RecP) (x : RecP) : cellsR (l ++ [x]) = cellsR l ++ cRc x := by simp [cellsR]
theorem cRc_one {r : Recd} {pa2 pa3 : Option Addr} {n2 n3 cap2 cap3 : Nat} : ∀ u ∈ cRc ⟨r, .slice pa2 n2 cap2, .slice pa3 n3 cap3⟩, u.oneCell' = true := by
  intro u hu
  simp [cRc] at hu
  rcases hu with rfl | rfl | rfl | rfl | rfl | rfl | rfl | rfl <;> rfl
/-- No list lies in two records. -/
def ApartP (p q : RecP) : Prop := (∀ g, p.c2.ownBlock = some g → q.c2.ownBlock ≠ some g) ∧ (∀ g, p.c3.ownBlock = some g → q.c3.ownBlock ≠ some g)
/-- A list of records of our own, and theirs. -/
structure RecsAt (B : Nat) (w : World) (v : Value) (ps : List RecP) : Prop where
  row : w.ownsRow B 52 8 v ps.length (cellsR ps)
  each : ∀ p ∈ ps, OwnR B w p.c2 p.c3 p.r.res ∧ okS p.r.res
  apart : ps.Pairwise ApartP
theorem RecsAt.ext {B : Nat} {w w' : World} {v : Value} {ps : List RecP} (h : RecsAt B w v ps) (e : Ext w w') : RecsAt B w' v ps :=
  ⟨ownsRow_wrote h.row (Wrote.ext (B := 0) (T := fun _ => False) e) id rfl, fun p hp => ⟨(h.each p hp).1.ext e, (h.each p hp).2⟩, h.apart⟩
theorem RecsAt.low {B B' : Nat} {w : World} {v : Value} {ps : List RecP} (h : RecsAt B w v ps) (hb : B' ≤ B) : RecsAt B' w v ps :=
  ⟨ownsRow_low h.row hb, fun p hp => ⟨(h.each p hp).1.low hb, (h.each p hp).2⟩, h.apart⟩
/-- What Scan answers. -/
def ScanIs (w : World) (s : ByteArray) (e : Ending) (w' : World) : Prop :=
  ∃ (ps : List RecP) (pa : Option Addr) (cap k : Nat), e = .returned (.tuple #[.slice pa ps.length cap, .int .i64 k]) ∧ Hid (scanL s.data.toList = (ps.map RecP.r, k)) ∧ ps.length ≤ 150000 ∧ Hid (RecsAt w.heap.size w' (.slice pa ps.length cap) ps) ∧ Hid (Ext w w')
theorem infoRec : (Try.prog.info? 52).map (fun i => (i.zero, i.size, i.bytes)) = some (some (.agg #[.int .i64 0, .int .i64 0, .int .i64 0, .int .i64 0, .string ⟨#[]⟩, .string ⟨#[]⟩, .slice none 0 0, .slice none 0 0]), 8, 112) := by kernel_rfl

set_option maxRecDepth 100000 in
set_option maxHeartbeats 3200000 in
theorem scan (s : ByteArray) (w : World) (hs : s.size ≤ 1048576) :
    Calls Try.prog 5 #[.string s] w (ScanIs w s) := by
  obtain ⟨i0, hi, hz0, hz1, hz2⟩ := info_of infoRec
  replace hi := hide hi
  have hlen := hide (ba_len s)
  go_enter Try.func5, Try.ntmps5
  go_wp2_with fail
  go_loopw [4, 5] (fun v i wr => ∃ (ps : List RecP) (pa : Option Addr) (cap k : Nat), k ≤ s.size ∧ 7 * ps.length ≤ k ∧ v = .slice pa ps.length cap ∧ i = .int .i64 k ∧ Hid (scanL s.data.toList = (ps.map RecP.r ++ (scanF (s.size + 1 - ps.length) (s.data.toList.drop k)).1, k + (scanF (s.size + 1 - ps.length) (s.data.toList.drop k)).2)) ∧ Hid (RecsAt w.heap.size wr (.slice pa ps.length cap) ps) ∧ Hid (Ext w wr)) (fun _ i _ => s.size - (intOf i).toNat)
  case atStart =>
    refine ⟨[], none, 0, 0, Nat.zero_le _, Nat.zero_le _, rfl, rfl, ?_, ⟨World.ownsRow_nil _ _ _ _, fun p hp => (by cases hp), List.Pairwise.nil⟩, Ext.refl _⟩
    show _ = _
    unfold scanL
    rw [hlen.out]; simp
  case round =>
    obtain ⟨ps, pa, cap, k, hk, hpk, rfl, rfl, hsc, hps, hx⟩ := hrel
    have hsub : Hid ((s.extract k s.size).data.toList = s.data.toList.drop k) := ex_drop s k
    have hsubz : (s.extract k s.size).size ≤ 1048576 := by rw [← ba_len, hsub.out, List.length_drop, hlen.out]; omega
    have j1 : (0 : Int) ≤ (k : Int) := by omega
    have j2 : (k : Int) ≤ (s.size : Int) := by omega
    go_wp2_with fail
    refine (first (s.extract k s.size) _ hsubz).mono ?_
    rintro e w1 ⟨he1, hcase⟩
    rcases hcase with ⟨hno, q, pa2, pa3, cap2, cap3, nn, rfl⟩ | ⟨q, n, pa2, pa3, cap2, cap3, hyes, rfl, hok, hown⟩
    · rw [hsub.out] at hno
      have hfin : Hid (scanL s.data.toList = (ps.map RecP.r, k)) := by
        show _ = _
        rw [hsc.out, scan_none hno.out]; simp
      go_wp2_with fail
      go_ret2
      exact ⟨ps, pa, cap, k, rfl, hfin, by omega, (hps.out.ext he1.out).ext ((Ext.refl w1).alloc _), (hx.out.trans he1.out).alloc _⟩
    · rw [hsub.out] at hyes
      obtain ⟨n7, nl, n70⟩ := one_len hyes.out
      rw [List.length_drop, hlen.out] at nl
      have hstep : Hid (scanL s.data.toList = ((ps.map RecP.r ++ [q]) ++ (scanF (s.size + 1 - (ps.length + 1)) (s.data.toList.drop (k + n))).1, (k + n) + (scanF (s.size + 1 - (ps.length + 1)) (s.data.toList.drop (k + n))).2)) := by
        show _ = _
        rw [hsc.out, show s.size + 1 - ps.length = (s.size + 1 - (ps.length + 1)) + 1 by omega, scan_some hyes.out, List.drop_drop, Nat.add_assoc]
        simp
      have hps1 := hide (hps.out.ext he1.out)
      have hsz1 := hide (Nat.le_trans hx.out.size he1.out.size)
      go_wp2_with (at_builtin; go_must (refine wpList_append_lies _ rfl (.tmp 21) (.tmp 23) 22 rfl w.heap.size 52 i0 (.agg #[.int .i64 0, .int .i64 0, .int .i64 0, .int .i64 0, .string ⟨#[]⟩, .string ⟨#[]⟩, .slice none 0 0, .slice none 0 0]) 8 112 Try.underlying22 hi.out hz0 hz1 hz2 rfl (by omega) _ ps.length (cellsR ps) rfl ((hps1.out.row.alloc _).alloc _) ⟨w1.heap.size + 1, 0, none⟩ 1 1 (cRc ⟨q, .slice pa2 q.res.attrs.length cap2, .slice pa3 q.res.after.length cap3⟩) rfl rfl ?_ cRc_one (by omega) (by unfold maxLen; omega) (by omega) (by have := hsz1.out; simp; omega) (w1.heap.size + 2) (by simp) ?_; (intro r u hu; rw [add_eq]; (match r, hu with | 0, hu => (simp [cRc] at hu; subst hu; simp [go_sem]) | 1, hu => (simp [cRc] at hu; subst hu; simp [go_sem]) | 2, hu => (simp [cRc] at hu; subst hu; simp [go_sem]) | 3, hu => (simp [cRc] at hu; subst hu; simp [go_sem]) | 4, hu => (simp [cRc] at hu; subst hu; simp [go_sem]) | 5, hu => (simp [cRc] at hu; subst hu; simp [go_sem]) | 6, hu => (simp [cRc] at hu; subst hu; simp [go_sem]) | 7, hu => (simp [cRc] at hu; subst hu; simp [go_sem]) | _ + 8, hu => (simp [cRc] at hu))); intro g3 c3 w3 hown3 hgrow3 hat3 hlt3))
      replace hgrow3 : ((w1.alloc (.cells (cRc ⟨q, .slice pa2 q.res.attrs.length cap2, .slice pa3 q.res.after.length cap3⟩).toArray 52)).alloc (.cells (cRc ⟨q, .slice pa2 q.res.attrs.length cap2, .slice pa3 q.res.after.length cap3⟩).toArray 52)).grownBy w3 (Value.slice pa ps.length cap).ownBlock := hgrow3
      go_roundw
      case rel =>
        have hl : (ps ++ [(⟨q, .slice pa2 q.res.attrs.length cap2, .slice pa3 q.res.after.length cap3⟩ : RecP)]).length = ps.length + 1 := by simp
        have hX1 : Ext w w1 := hx.out.trans he1.out
        have E3 : Ext w w3 := ((Wrote.ext (B := w.heap.size) (T := fun _ => False) (hX1.alloc _)).grownNew (hps1.out.row.alloc _) hgrow3).toExt
        have hb : w.heap.size ≤ wr.heap.size := hx.out.size
        refine ⟨ps ++ [⟨q, .slice pa2 q.res.attrs.length cap2, .slice pa3 q.res.after.length cap3⟩], some ⟨g3, 0, none⟩, c3, k + n, by omega, by rw [hl]; omega, by rw [hl], by simp, ?_, ⟨?_, ?_, ?_⟩, E3⟩
        · show _ = _
          rw [hl, List.map_append]; exact hstep.out
        · rw [hl, cellsR_app]; exact hown3
        · intro p hp
          rcases List.mem_append.1 hp with hp | hp
          · obtain ⟨h1, h2⟩ := hps1.out.each p hp
            exact ⟨⟨h1.f2, h1.f3, ownsRow_grown2 h1.attrs hps1.out.row (by decide) hgrow3, ownsRow_grown2 h1.after hps1.out.row (by decide) hgrow3⟩, h2⟩
          · obtain rfl : p = _ := by simpa using hp
            have h1 := hown.out.low hb
            exact ⟨⟨h1.f2, h1.f3, ownsRow_grown2 h1.attrs hps1.out.row (by decide) hgrow3, ownsRow_grown2 h1.after hps1.out.row (by decide) hgrow3⟩, hok.out⟩
        · refine List.pairwise_append.2 ⟨hps.out.apart, List.pairwise_singleton _ _, fun p hp p' hp' => ?_⟩
          obtain rfl : p' = _ := by simpa using hp'
          obtain ⟨h1, _⟩ := hps.out.each p hp
          constructor
          · intro g hg hg'
            have k1 := (h1.attrs.lt g hg).2
            have k2 := (hown.out.attrs.lt g hg').1
            omega
          · intro g hg hg'
            have k1 := (h1.after.lt g hg).2
            have k2 := (hown.out.after.lt g hg').1
            omega
      case measure => simp [intOf]; omega
end Go.Proofs.Ytjefheonhafboaa
