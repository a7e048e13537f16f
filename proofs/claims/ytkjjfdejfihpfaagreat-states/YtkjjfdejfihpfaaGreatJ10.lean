/-
  append onto a row of our own: what the old row is behind it.
-/
/-
  Lists of resources of our own, and their lists; what the program's function that reads one answers.
-/
import Derived.Test.YtkjjfdejfihpfaaGreatCells
import Derived.Deep.AppendLies
import Derived.Test.YtkjjfdejfihpfaaGreatJ9
import Derived.Test.YtkjjfdejfihpfaaGreatRefRead2
namespace Go.Proofs.YtkjjfdejfihpfaaGreat
open Go.RowKit

/-- The new slice lies in the old row, or in a new one, and then the old row is as it was. -/
theorem append_tight {P : Program} (w : World) (t ty : TypeId) (base : Nat) (e : TypeId) (i : TypeInfo) (z : Value) (size bytes : Nat) (ht : P.underlying t = some (.slice e)) (hi : P.info? e = some i) (hz : i.zero = some z)
    (hsize : i.size = size) (hby : i.bytes = bytes) (hzs : z.cells.size = size) (hsz : 0 < size)
    (v : Value) (n : Nat) (xs : List Value) (hown : w.ownsRow base e size v n xs)
    (ad : Addr) (m c : Nat) (news : List Value) (hl : news.length = m * size) (hnews : ∀ j u, news[j]? = some u → w.cell? (ad.add j) = some u) (h1 : ∀ u ∈ news, u.oneCell' = true)
    (hm : 0 < m) (h63 : n + m ≤ maxLen) (hbytes : (n + m) * bytes ≤ 140737488355328) (hbase : base ≤ w.heap.size) :
    ∃ g cap w', (Builtin.append_ #[t, t] ty #[v, .slice (some ad) m c]).run P w = .ok (.slice (some ⟨g, 0, none⟩) (n + m) cap) w' ∧
      w'.ownsRow base e size (.slice (some ⟨g, 0, none⟩) (n + m) cap) (n + m) (xs ++ news) ∧ w.grownBy w' v.ownBlock ∧ (v.ownBlock = some g ∨ (w.heap.size ≤ g ∧ ∀ k, k < w.heap.size → w'.heap[k]? = w.heap[k]?)) := by
  obtain ⟨g, cap, w', hr, h2, h3, h4, h5⟩ := run_append_lies (P := P) w t ty base e i z size bytes ht hi hz hsize hby hzs hsz v n xs hown ad m c news hl hnews h1 hm h63 hbytes hbase w.heap.size rfl
  refine ⟨g, cap, w', hr, h2, h3, ?_⟩
  subst hsize
  subst hby
  rcases hown.2 with ⟨rfl, rfl⟩ | ⟨g0, cap0, cur, rfl, hbg, hg, hnc, hcm, hcs, htake⟩
  · rcases h4 with h4 | h4
    · simp [Value.ownBlock] at h4
    · exact .inr ⟨by omega, fun k hk => h3.block k hk (by simp [Value.ownBlock])⟩
  · by_cases hroom : n + m ≤ cap0
    · have hfit : n * i.size + news.length ≤ cur.size := by rw [hl, hcs, ← Nat.add_mul]; exact Nat.mul_le_mul_right _ hroom
      have hr2 := run_append_room (P := P) w t ty e i ht hi g0 n cap0 cur hg ad m c news hl hnews h1 hroom hfit
      rw [hr2] at hr
      left
      injection hr with e1 _
      injection e1 with e2
      simp at e2
      simp [Value.ownBlock, e2]
    · have holds : ∀ j u, xs[j]? = some u → w.cell? ((⟨g0, 0, none⟩ : Addr).add j) = some u := hown.cells (g := g0) rfl
      have hr2 := run_append_grow (P := P) w t ty e i z ht hi hz ⟨g0, 0, none⟩ n cap0 xs hown.1 holds ad m c news hl hnews (by omega) (by unfold maxLen at h63; omega) (growslice_fits (by omega) hbytes)
      rw [hr2] at hr
      right
      injection hr with e1 e3
      injection e1 with e2
      simp at e2
      refine ⟨by omega, fun k hk => ?_⟩
      rw [← e3]
      exact Below.heap_alloc w.drew _ k hk
theorem wpList_append_tight {P : Program} (w : World) {ops : Array Oper} {rest : List Oper} {o : Oper} {a : Act} {Q : Exit → Act → World → Prop} (hgd : o.guard = none) (s x : Operand) (t : TypeId)
    (ho : o.op = .call { callee := .builtin .append, args := #[s, x], argTypes := #[t, t] })
    (base : Nat) (e : TypeId) (i : TypeInfo) (z : Value) (size bytes : Nat) (ht : P.underlying t = some (.slice e)) (hi : P.info? e = some i) (hz : i.zero = some z)
    (hsize : i.size = size) (hby : i.bytes = bytes) (hzs : z.cells.size = size) (hsz : 0 < size)
    (v : Value) (n : Nat) (xs : List Value) (hs : a.eval s = v) (hown : w.ownsRow base e size v n xs)
    (ad : Addr) (m c : Nat) (news : List Value) (hx : a.eval x = .slice (some ad) m c) (hl : news.length = m * size) (hnews : ∀ j u, news[j]? = some u → w.cell? (ad.add j) = some u) (h1 : ∀ u ∈ news, u.oneCell' = true)
    (hm : 0 < m) (h63 : n + m ≤ maxLen) (hbytes : (n + m) * bytes ≤ 140737488355328) (hbase : base ≤ w.heap.size)
    (h : ∀ g cap w', w'.ownsRow base e size (.slice (some ⟨g, 0, none⟩) (n + m) cap) (n + m) (xs ++ news) → w.grownBy w' v.ownBlock → (v.ownBlock = some g ∨ (w.heap.size ≤ g ∧ ∀ k, k < w.heap.size → w'.heap[k]? = w.heap[k]?)) → wpList P ops Q rest (a.put o.dst (.slice (some ⟨g, 0, none⟩) (n + m) cap)) w') :
    wpList P ops Q (o :: rest) a w := by
  refine wpList_plain hgd fun K hK => ?_
  obtain ⟨g, cap, w', hr, h2, h3, h4⟩ := append_tight (P := P) w t o.type base e i z size bytes ht hi hz hsize hby hzs hsz v n xs hown ad m c news hl hnews h1 hm h63 hbytes hbase
  unfold Oper.wp execOp
  simp only [ho, resolve, invoke, builtin, Sem.run_bind, Sem.run_pure, Result.andThen_ok, List.map_toArray, List.map_cons, List.map_nil, hs, hx, hr]
  exact hK _ _ (h g cap w' h2 h3 h4)
end Go.Proofs.YtkjjfdejfihpfaaGreat

namespace Go.Proofs.YtkjjfdejfihpfaaGreat
open Go.RowKit

/-- What the reading of such a list answers. -/
def RssIs (w : World) (R : Nat) (s : ByteArray) (e : Ending) (w' : World) : Prop :=
  ∃ (ps : List ResP) (pa : Option Addr) (cap : Nat) (s' : ByteArray), e = .returned (.slice pa ps.length cap) ∧ Hid (rdList rdRes s.data.toList = (ps.map ResP.x, s'.data.toList)) ∧ ps.length ≤ 255 ∧ Hid (RessAt w.heap.size w' (.slice pa ps.length cap) ps) ∧ Hid (Left w w' R s' s'.data.toList)

set_option maxRecDepth 100000 in
set_option maxHeartbeats 1600000 in
theorem readRess (R : Nat) (s : ByteArray) (w : World) (hR : RdAt w R s) (hs : s.size ≤ 9223372036854775807) :
    Calls Tryz.prog 48 #[.pointer (some ⟨R, 0, none⟩), .func (.func 49) #[] #[]] w (RssIs w R s) := by
  obtain ⟨i0, hi, hz0, hz1, hz2⟩ := info_of infoRes
  replace hi := hide hi
  replace hR := hide hR
  go_enter Tryz.func48, Tryz.ntmps48
  go_wp2_with fail
  refine (number R s 1 _ hR.out hs (by omega)).mono ?_
  rintro e w1 ⟨n, s1, rfl, hn, hn2, hL1⟩
  have hn3 : n < 256 := by
    have := num_lt 1 (s.data.toList.take 1) (by rw [List.length_take]; omega)
    rw [← hn.out] at this; exact this
  go_wp2_with fail
  go_loopw [5, 8] (fun v i wr => ∃ (ps : List ResP) (pa : Option Addr) (cap : Nat) (sk : ByteArray), ps.length ≤ n ∧ i = .int .i64 ps.length ∧ v = .slice pa ps.length cap ∧ Hid (rdMany rdRes n s1.data.toList = (ps.map ResP.x ++ (rdMany rdRes (n - ps.length) sk.data.toList).1, (rdMany rdRes (n - ps.length) sk.data.toList).2)) ∧ Hid (RessAt w.heap.size wr (.slice pa ps.length cap) ps) ∧ Hid (Left w wr R sk sk.data.toList)) (fun _ i _ => n - (intOf i).toNat)
  case atStart => exact ⟨[], none, 0, s1, Nat.zero_le _, rfl, rfl, rfl, RessAt.nil _ _, ⟨hL1.out.at_, rfl, hL1.out.wrote, hL1.out.few⟩⟩
  case round =>
    obtain ⟨ps, pa, cap, sk, hk, rfl, rfl, hrd, hps, hL⟩ := hrel
    by_cases hlt : ps.length < n
    · go_wp2_with (first
        | (go_at_call 49; refine (readResource R sk _ hL.out.at_ hL.out.few).mono ?_; rintro e w2 ⟨x, pa2, pa3, cap2, cap3, s2, rfl, hx, hok, hown, hL2⟩; go_must (have hps2 := hide (hps.out.wrote hL2.out.wrote (by decide) (by decide) (by decide)); have hsz2 := Nat.le_trans hL.out.wrote.size hL2.out.wrote.size))
        | (at_builtin; go_must (refine wpList_append_lies _ rfl (.tmp 10) (.tmp 14) 22 rfl w.heap.size 40 i0 (.agg #[.string ⟨#[]⟩, .string ⟨#[]⟩, .slice none 0 0, .slice none 0 0]) 4 80 Tryz.underlying22 hi.out hz0 hz1 hz2 rfl (by omega) _ ps.length (cellsP ps) rfl (hps2.out.row.alloc _) ⟨w2.heap.size, 0, none⟩ 1 1 (cRs ⟨x, .slice pa2 x.attrs.length cap2, .slice pa3 x.after.length cap3⟩) rfl rfl ?_ cRs_one (by omega) (by unfold maxLen; omega) (by omega) (by simp; omega) (w2.heap.size + 1) (by simp) ?_; (intro j u hu; rw [add_eq]; (match j, hu with | 0, hu => (simp [cRs] at hu; subst hu; simp [go_sem]) | 1, hu => (simp [cRs] at hu; subst hu; simp [go_sem]) | 2, hu => (simp [cRs] at hu; subst hu; simp [go_sem]) | 3, hu => (simp [cRs] at hu; subst hu; simp [go_sem]) | _ + 4, hu => (simp [cRs] at hu))); intro g1 cap1 w3 hown3 hgrow3 hat3 hlt3)))
      replace hgrow3 : (w2.alloc (.cells (cRs ⟨x, .slice pa2 x.attrs.length cap2, .slice pa3 x.after.length cap3⟩).toArray 40)).grownBy w3 (Value.slice pa ps.length cap).ownBlock := hgrow3
      go_roundw
      case rel =>
        have hl : (ps ++ [(⟨x, .slice pa2 x.attrs.length cap2, .slice pa3 x.after.length cap3⟩ : ResP)]).length = ps.length + 1 := by simp
        refine ⟨ps ++ [⟨x, .slice pa2 x.attrs.length cap2, .slice pa3 x.after.length cap3⟩], some ⟨g1, 0, none⟩, cap1, s2, by rw [hl]; omega, by rw [hl]; go_num, by rw [hl], ?_, ?_, ?_⟩
        · show _ = _
          rw [hrd.out, hl]
          obtain ⟨q, hq⟩ : ∃ q, n - ps.length = q + 1 := ⟨n - ps.length - 1, by omega⟩
          rw [hq, show n - (ps.length + 1) = q by omega]
          simp only [rdMany]
          rw [hx.out]; simp
        · rw [hl]
          exact hps2.out.snoc (hown.out.low hL.out.wrote.size) hok.out (hps.out.fresh hown.out) hgrow3 hown3
        · exact ⟨hL2.out.at_.grown hps2.out.row (by decide) hgrow3, rfl, (hL.out.wrote.trans hL2.out.wrote).grownNew hps2.out.row hgrow3, hL2.out.few⟩
      case measure => simp [intOf]; omega
    · obtain hnx : ps.length = n := by omega
      have hfin : Hid (rdList rdRes s.data.toList = (ps.map ResP.x, sk.data.toList)) := by
        show _ = _
        unfold rdList
        rw [← hn.out, ← hL1.out.list, hrd.out, hnx, Nat.sub_self]
        simp [rdMany]
      replace hnx := hide hnx
      go_wp2
      go_ret
      exact ⟨ps, pa, cap, sk, rfl, hfin, by have := hnx.out; omega, hps, hL⟩
end Go.Proofs.YtkjjfdejfihpfaaGreat
