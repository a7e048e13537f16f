/-
  Disks: every call at a disk, in every order.
-/
import Derived.Test.YtpkhmgonkbpjjaaDeskE
namespace Go.Proofs.Ytpkhmgonkbpjjaa
open Go.RowKit

attribute [local go_sem] Go.World.cell?_alloc_some
theorem word_twelve {s : ByteArray} (h : wordB s.data.toList = true) : s.size ≤ 12 := by
  refine Nat.le_of_not_lt fun hlt => ?_
  rw [wordB_long (by rw [Array.length_toList]; exact hlt)] at h
  cases h
theorem three_c {w : World} {k : Nat} {a b c : Value} {t : TypeId} {fz : Nat × Nat} (hk : w.heap[k]? = some (.cells #[a, b, c] t fz)) : w.cell? ⟨k, 0, none⟩ = some a ∧ w.cell? ⟨k, 1, none⟩ = some b ∧ w.cell? ⟨k, 2, none⟩ = some c := by simp [World.cell?, hk]

set_option maxRecDepth 100000 in
set_option maxHeartbeats 1600000 in
theorem allP (W0 : Nat) (w : World) (d x y b : Nat) (D : DskS) (m : Nat) (h : DeskAt W0 w d x y b D m) (hm : m ≤ 7036874417568) (hc : D.chs.length + 3 ≤ 2000000000000) (hf : D.files.length + 1 ≤ 2000000000000) :
    Calls Try.prog 8 #[.pointer (some ⟨d, 0, none⟩)] w (DeedIs W0 w d x y b D m) := by
  have hd := deedP W0 w d x y b D m 8 0 0 0 ⟨#[]⟩ ⟨#[]⟩ ⟨#[]⟩ h hm (by omega) hf (Nat.zero_le _) (Nat.zero_le _) (Nat.zero_le _) (by omega) (by omega)
  unfold deedV at hd
  replace hd := hide hd; replace h := hide h
  go_enter Try.func8, Try.ntmps8
  go_wp2_with fail
  refine hd.out.mono ?_
  rintro e1 w1 ⟨rfl, h1, K1⟩
  obtain ⟨D1, ⟨Ox, Oy, Ob, vn, en, hI, hl⟩, hD1, hD2⟩ := h1.out
  have dy := (three_c hI.box).2.1
  obtain ⟨vF, vC, kc, sc, hRI, hOy⟩ := hI.dy
  have hok := hRI.ok
  have hy := hide (refNames w1 y vF vC kc sc D1 hRI (by omega))
  replace hI := hide hI; replace hRI := hide hRI; replace hok := hide hok
  go_wp2_with fail
  refine hy.out.mono ?_
  rintro e2 w2 ⟨l, pa, ca, rfl, hN, hr, Y2⟩
  have hll := names_len hN.out
  obtain ⟨hca1, hca2⟩ := own_capT hr.out
  have hsz : Hid (∀ q ∈ l, q.size ≤ 12) := fun q hq => by
    obtain ⟨z, hz, rfl⟩ := List.mem_map.1 (hN.out.1.mem_iff.1 hq)
    exact word_twelve (play_ok hok.out.chs z hz).1
  clear dy
  go_wp2_with fail
  go_loopw [3, 5] (fun ov iv wr => ∃ k : Nat, k ≤ l.length ∧ ov = .bool true ∧ iv = .int .i64 k ∧ Hid (Ext w2 wr)) (fun _ i _ => l.length - (intOf i).toNat)
  case atStart => exact ⟨0, Nat.zero_le _, rfl, rfl, Ext.refl _⟩
  case round =>
    obtain ⟨k, hk, rfl, rfl, hX⟩ := hrel
    by_cases hlt : k < l.length
    · obtain ⟨q, hq⟩ := some_of_lt hlt
      obtain ⟨g, rfl⟩ := own_someT hr.out (by omega)
      have c0 := hX.out.cells (text_cell hr.out hq)
      have k1 : (k : Int) < (l.length : Int) := by omega
      have k2 : (0 : Int) ≤ (k : Int) := by omega
      have hqz := hsz.out q (List.mem_of_getElem? hq)
      have hd7 := deed7 W0 wr d x y b Ox Oy Ob vn en D1 0 0 0 q ⟨#[]⟩ ⟨#[]⟩ (hI.out.ext (Y2.out.trans hX.out)) (by omega) (by omega)
      unfold deedV at hd7
      replace hd7 := hide hd7; replace hq := hide hq
      go_wp2_with fail
      refine hd7.out.mono ?_
      rintro e3 w3 ⟨rfl, Y3⟩
      go_wp2_with fail
      go_roundw
      case rel => exact ⟨k + 1, by omega, rfl, by go_num, hX.out.trans Y3.out⟩
      case measure => simp [intOf]; omega
    · obtain rfl : k = l.length := by omega
      go_wp2_with fail
      go_ret
      exact ⟨rfl, ⟨D1, ⟨Ox, Oy, Ob, vn, en, hI.out.ext (Y2.out.trans hX.out), hl⟩, hD1, hD2⟩, K1.out.trans ((Y2.out.trans hX.out).kept (fun _ => False)) (fun _ _ h => h.elim)⟩
/-- A deed of a script. -/
structure DeedS where
  kind : Int
  K : Int
  keep : Int
  stay : Int
  name : ByteArray
  dst : ByteArray
  txt : ByteArray
def cDd (a : DeedS) : List Value := [.int .i64 a.kind, .int .i64 a.K, .int .i64 a.keep, .int .i64 a.stay, .string a.name, .string a.dst, .string a.txt]
def okDd (a : DeedS) : Prop := a.K ≤ 9223372036854775807 ∧ a.stay ≤ 9223372036854775807 ∧ a.name.size ≤ 140737488355328 ∧ a.dst.size ≤ 140737488355328 ∧ a.txt.size ≤ 140737488355328
/-- A script, as it is handed in. -/
def DeedsV (w : World) (v : Value) (l : List DeedS) : Prop := ∃ a cap, v = .slice a l.length cap ∧ l.length ≤ cap ∧ cap ≤ 9223372036854775807 ∧ (l = [] ∨ ∃ b off, a = some ⟨b, off, none⟩ ∧ ∀ (i : Nat) q, l[i]? = some q → ∀ j, j < 7 → w.cell? ⟨b, off + i * 7 + j, none⟩ = (cDd q)[j]?)

set_option maxRecDepth 100000 in
set_option maxHeartbeats 3200000 in
theorem disksLaw (room : Int) (v : Value) (l : List DeedS) (W : World) (hv : DeedsV W v l) (hl : l.length ≤ 1759218604390) (hok : ∀ q ∈ l, okDd q) :
    Calls Try.prog 3 #[.int .i64 room, v] W fun e W' => e = .returned (.bool true) ∧ Ext W W' := by
  obtain ⟨a, cap, rfl, hc1, hc2, hcells⟩ := hv
  replace hcells := hide hcells; replace hok := hide hok
  go_enter Try.func3, Try.ntmps3
  go_wp2_with fail
  refine (newP room W).mono ?_
  rintro e1 w1 (⟨hr, rfl, X1⟩ | ⟨r, x, rfl, hr1, hr2, rfl, hD, X1⟩)
  · replace hr := hide hr
    go_wp2_with fail
    refine (refNew room w1).mono ?_
    rintro e2 w2 (⟨hr', rfl, X2⟩ | ⟨r, y, rfl, hr1, hr2, rfl, hR, X2⟩)
    · go_wp2_with fail
      go_ret
      exact ⟨rfl, X1.out.trans X2.out⟩
    · exact absurd hr.out (by omega)
  · go_wp2_with fail
    refine (refNew (r : Int) w1).mono ?_
    rintro e2 w2 (⟨hr', rfl, X2⟩ | ⟨r', y, hrr, hr1', hr2', rfl, hR, X2⟩)
    · exact absurd hr' (by omega)
    · obtain rfl : r = r' := by omega
      have E3 := (Ext.refl w2).alloc (.cells #[nil0, nil0, nil0, nil0, nil0, nil0] 41)
      have E4 := (Ext.refl (w2.alloc (.cells #[nil0, nil0, nil0, nil0, nil0, nil0] 41))).alloc (.cells #[.pointer (some ⟨x, 0, none⟩), .pointer (some ⟨y, 0, none⟩), .pointer (some ⟨w2.heap.size, 0, none⟩)] 43)
      have s1 := Ext.size X1.out
      have s2 := Ext.size X2.out
      have hI : DeskIn W.heap.size ((w2.alloc (.cells #[nil0, nil0, nil0, nil0, nil0, nil0] 41)).alloc (.cells #[.pointer (some ⟨x, 0, none⟩), .pointer (some ⟨y, 0, none⟩), .pointer (some ⟨w2.heap.size, 0, none⟩)] 43)) (w2.heap.size + 1) x y w2.heap.size (fun k => W.heap.size ≤ k ∧ k < w1.heap.size) (fun k => w1.heap.size ≤ k ∧ k < w2.heap.size) (fun k => k = w2.heap.size) nil0 [] (DskS.new r) (DskS.new r) := by
        refine ⟨?_, (hD.out.ext X2.out).ext (E3.trans E4), hR.out.kept ((E3.trans E4).kept (fun _ => False)) (fun _ _ => id), ⟨ext_heap E4 (heap_alloc_new w2 _), World.ownsRow_nil _ _ _ _, by omega⟩, fun e he => (by cases he), rfl, fun g hg => (by simp [Value.ownBlock] at hg), fun e he => (by cases he), fun k h1 h2 => (by omega), fun k h1 h2 => (by omega), fun k h1 h2 => (by omega), fun h1 => (by omega), fun h1 => (by omega), fun h1 => (by omega), fun k h1 => ?_, fun k h1 => ?_, fun k h1 => ?_, by omega⟩
        · have := heap_alloc_new (w2.alloc (.cells #[nil0, nil0, nil0, nil0, nil0, nil0] 41)) (.cells #[.pointer (some ⟨x, 0, none⟩), .pointer (some ⟨y, 0, none⟩), .pointer (some ⟨w2.heap.size, 0, none⟩)] 43)
          rw [World.size_alloc] at this
          exact this
        · simp; omega
        · simp; omega
        · simp; omega
      have X4 := hide (((X1.out.trans X2.out).trans E3).trans E4)
      have h0 : Hid (∃ D, DeskAt W.heap.size ((w2.alloc (.cells #[nil0, nil0, nil0, nil0, nil0, nil0] 41)).alloc (.cells #[.pointer (some ⟨x, 0, none⟩), .pointer (some ⟨y, 0, none⟩), .pointer (some ⟨w2.heap.size, 0, none⟩)] 43)) (w2.heap.size + 1) x y w2.heap.size D (4 * 0) ∧ D.chs.length ≤ 0 ∧ D.files.length ≤ 0) := ⟨_, ⟨_, _, _, _, _, hI, by simp⟩, by simp [DskS.new], by simp [DskS.new]⟩
      clear hI E3 E4
      go_wp2_with fail
      go_loopw [10] (fun iv wr => ∃ k : Nat, k ≤ l.length ∧ iv = .int .i64 k ∧ Hid (∃ D, DeskAt W.heap.size wr (w2.heap.size + 1) x y w2.heap.size D (4 * k) ∧ D.chs.length ≤ k ∧ D.files.length ≤ k) ∧ Hid (Ext W wr)) (fun i _ => l.length - (intOf i).toNat)
      case atStart => exact ⟨0, Nat.zero_le _, rfl, h0, X4⟩
      case round =>
        obtain ⟨k, hk, rfl, hDk, hX⟩ := hrel
        obtain ⟨D, hDa, hd1, hd2⟩ := hDk.out
        by_cases hlt : k < l.length
        · obtain ⟨q, hq⟩ := some_of_lt hlt
          obtain ⟨bq, off, rfl, hcq⟩ : ∃ b off, a = some ⟨b, off, none⟩ ∧ ∀ (i : Nat) q, l[i]? = some q → ∀ j, j < 7 → W.cell? ⟨b, off + i * 7 + j, none⟩ = (cDd q)[j]? := by
            rcases hcells.out with h | h
            · rw [h] at hlt; simp at hlt
            · exact h
          have c0 := hX.out.cells (hcq k q hq 0 (by omega))
          have c1 := hX.out.cells (hcq k q hq 1 (by omega))
          have c2 := hX.out.cells (hcq k q hq 2 (by omega))
          have c3 := hX.out.cells (hcq k q hq 3 (by omega))
          have c4 := hX.out.cells (hcq k q hq 4 (by omega))
          have c5 := hX.out.cells (hcq k q hq 5 (by omega))
          have c6 := hX.out.cells (hcq k q hq 6 (by omega))
          rw [Nat.add_zero] at c0
          have k1 : (k : Int) < (l.length : Int) := by omega
          have k2 : (0 : Int) ≤ (k : Int) := by omega
          obtain ⟨o1, o2, o3, o4, o5⟩ := hok.out q (List.mem_of_getElem? hq)
          have hdd := deedP W.heap.size wr (w2.heap.size + 1) x y w2.heap.size D (4 * k) q.kind q.K q.keep q.stay q.name q.dst q.txt hDa (by omega) (by omega) (by omega) (by omega) (by omega) (by omega) o1 o2
          unfold deedV at hdd
          replace hdd := hide hdd; replace hq := hide hq; replace hcq := hide hcq; replace hDa := hide hDa
          go_wp2_with fail
          refine hdd.out.mono ?_
          rintro e3 w3 ⟨rfl, h3, K3⟩
          obtain ⟨D3, ⟨Ox, Oy, Ob, vn, en, hI3, hl3⟩, hd3, hd4⟩ := h3.out
          have t2 := (three_c hI3.box).2.2
          have hlk := hide (looksN W.heap.size w2.heap.size w3 vn en hI3.bk (by omega) hI3.ma)
          replace hI3 := hide hI3
          clear c0 c1 c2 c3 c4 c5 c6
          go_wp2_with fail
          refine hlk.out.mono ?_
          rintro e4 w4 ⟨rfl, X4'⟩
          go_wp2_with fail
          go_roundw
          case rel => exact ⟨k + 1, by omega, by go_num, ⟨D3, ⟨Ox, Oy, Ob, vn, en, hI3.out.ext X4'.out, by omega⟩, by omega, by omega⟩, (hX.out.since K3.out (fun _ h => h)).trans X4'.out⟩
          case measure => simp [intOf]; omega
        · obtain rfl : k = l.length := by omega
          have ha := hide (allP W.heap.size wr (w2.heap.size + 1) x y w2.heap.size D (4 * l.length) hDa (by omega) (by omega) (by omega))
          replace hDa := hide hDa
          go_wp2_with fail
          refine ha.out.mono ?_
          rintro e3 w3 ⟨rfl, h3, K3⟩
          obtain ⟨D3, hA3, hd3, hd4⟩ := h3.out
          have hdd := deedP W.heap.size w3 (w2.heap.size + 1) x y w2.heap.size D3 (4 * l.length + 4) 10 0 0 0 ⟨#[]⟩ ⟨#[]⟩ ⟨#[]⟩ hA3 (by omega) (by omega) (by omega) (Nat.zero_le _) (Nat.zero_le _) (Nat.zero_le _) (by omega) (by omega)
          unfold deedV at hdd
          replace hdd := hide hdd; replace hA3 := hide hA3
          go_wp2_with fail
          refine hdd.out.mono ?_
          rintro e4 w4 ⟨rfl, h4, K4⟩
          obtain ⟨D4, hA4, hd5, hd6⟩ := h4.out
          have hb := hide (allP W.heap.size w4 (w2.heap.size + 1) x y w2.heap.size D4 (4 * l.length + 4 + 4) hA4 (by omega) (by omega) (by omega))
          replace hA4 := hide hA4
          go_wp2_with fail
          refine hb.out.mono ?_
          rintro e5 w5 ⟨rfl, h5, K5⟩
          obtain ⟨D5, ⟨Ox, Oy, Ob, vn, en, hI5, hl5⟩, -, -⟩ := h5.out
          have t2 := (three_c hI5.box).2.2
          have hlk := hide (looksN W.heap.size w2.heap.size w5 vn en hI5.bk (by omega) hI5.ma)
          replace hI5 := hide hI5
          go_wp2_with fail
          refine hlk.out.mono ?_
          rintro e6 w6 ⟨rfl, X6⟩
          go_wp2_with fail
          go_ret
          exact ⟨rfl, (((hX.out.since K3.out (fun _ h => h)).since K4.out (fun _ h => h)).since K5.out (fun _ h => h)).trans X6.out⟩
end Go.Proofs.Ytpkhmgonkbpjjaa
