/-
  append onto a row of our own: what the old row is behind it.
-/
/-
  Lists and resources as bytes: what the program's functions that write them answer.
-/
import Derived.Test.YtkjjfdejfihpfaaGreatCells
import Derived.Deep.AppendLies
import Derived.Test.YtkjjfdejfihpfaaGreatEnc
namespace Go.Proofs.YtkjjfdejfihpfaaGreat
open Go.RowKit

/-- The new slice lies in the old row, or in a new one, and then the old row is as it was. -/
theorem append_tight {P : Program} (w : World) (t ty : TypeId) (base : Nat) (e : TypeId) (i : TypeInfo) (z : Value) (size bytes : Nat) (ht : P.underlying t = some (.slice e)) (hi : P.info? e = some i) (hz : i.zero = some z)
    (hsize : i.size = size) (hby : i.bytes = bytes) (hzs : z.cells.size = size) (hsz : 0 < size)
    (v : Value) (n : Nat) (xs : List Value) (hown : w.ownsRow base e size v n xs)
    (ad : Addr) (m c : Nat) (news : List Value) (hl : news.length = m * size) (hnews : ∀ j u, news[j]? = some u → w.cell? (ad.add j) = some u) (h1 : ∀ u ∈ news, u.oneCell' = true)
    (hm : 0 < m) (h63 : n + m ≤ maxLen) (hbytes : (n + m) * bytes ≤ 140737488355328) (hbase : base ≤ w.heap.size) :
    ∃ g cap w', (Builtin.append_ #[t, t] ty #[v, .slice (some ad) m c]).run P w = .ok (.slice (some ⟨g, 0, none⟩) (n + m) cap) w' ∧
      w'.ownsRow base e size (.slice (some ⟨g, 0, none⟩) (n + m) cap) (n + m) (xs ++ news) ∧ w.grownBy w' v.ownBlock ∧ (v.ownBlock = some g ∨ (w.heap.size ≤ g ∧ ∀ k, k < w.heap.size → w'.heap[k]? = w.heap[k]?)) := by
  obtain ⟨g, cap, w', hr, h2, h3, h4, h5⟩ := run_append_lies (P := P) w t ty base e i z size bytes ht hi hz hsize hby hzs hsz v n xs hown ad m c news hl hnews h1 hm h63 hbytes hbase w.heap.size rfl
  refine ⟨g, cap, w', hr, h2, h3, ?_⟩
  subst hsize
  subst hby
  rcases hown.2 with ⟨rfl, rfl⟩ | ⟨g0, cap0, cur, rfl, hbg, hg, hnc, hcm, hcs, htake⟩
  · rcases h4 with h4 | h4
    · simp [Value.ownBlock] at h4
    · exact .inr ⟨by omega, fun k hk => h3.block k hk (by simp [Value.ownBlock])⟩
  · by_cases hroom : n + m ≤ cap0
    · have hfit : n * i.size + news.length ≤ cur.size := by rw [hl, hcs, ← Nat.add_mul]; exact Nat.mul_le_mul_right _ hroom
      have hr2 := run_append_room (P := P) w t ty e i ht hi g0 n cap0 cur hg ad m c news hl hnews h1 hroom hfit
      rw [hr2] at hr
      left
      injection hr with e1 _
      injection e1 with e2
      simp at e2
      simp [Value.ownBlock, e2]
    · have holds : ∀ j u, xs[j]? = some u → w.cell? ((⟨g0, 0, none⟩ : Addr).add j) = some u := hown.cells (g := g0) rfl
      have hr2 := run_append_grow (P := P) w t ty e i z ht hi hz ⟨g0, 0, none⟩ n cap0 xs hown.1 holds ad m c news hl hnews (by omega) (by unfold maxLen at h63; omega) (growslice_fits (by omega) hbytes)
      rw [hr2] at hr
      right
      injection hr with e1 e3
      injection e1 with e2
      simp at e2
      refine ⟨by omega, fun k hk => ?_⟩
      rw [← e3]
      exact Below.heap_alloc w.drew _ k hk
theorem wpList_append_tight {P : Program} (w : World) {ops : Array Oper} {rest : List Oper} {o : Oper} {a : Act} {Q : Exit → Act → World → Prop} (hgd : o.guard = none) (s x : Operand) (t : TypeId)
    (ho : o.op = .call { callee := .builtin .append, args := #[s, x], argTypes := #[t, t] })
    (base : Nat) (e : TypeId) (i : TypeInfo) (z : Value) (size bytes : Nat) (ht : P.underlying t = some (.slice e)) (hi : P.info? e = some i) (hz : i.zero = some z)
    (hsize : i.size = size) (hby : i.bytes = bytes) (hzs : z.cells.size = size) (hsz : 0 < size)
    (v : Value) (n : Nat) (xs : List Value) (hs : a.eval s = v) (hown : w.ownsRow base e size v n xs)
    (ad : Addr) (m c : Nat) (news : List Value) (hx : a.eval x = .slice (some ad) m c) (hl : news.length = m * size) (hnews : ∀ j u, news[j]? = some u → w.cell? (ad.add j) = some u) (h1 : ∀ u ∈ news, u.oneCell' = true)
    (hm : 0 < m) (h63 : n + m ≤ maxLen) (hbytes : (n + m) * bytes ≤ 140737488355328) (hbase : base ≤ w.heap.size)
    (h : ∀ g cap w', w'.ownsRow base e size (.slice (some ⟨g, 0, none⟩) (n + m) cap) (n + m) (xs ++ news) → w.grownBy w' v.ownBlock → (v.ownBlock = some g ∨ (w.heap.size ≤ g ∧ ∀ k, k < w.heap.size → w'.heap[k]? = w.heap[k]?)) → wpList P ops Q rest (a.put o.dst (.slice (some ⟨g, 0, none⟩) (n + m) cap)) w') :
    wpList P ops Q (o :: rest) a w := by
  refine wpList_plain hgd fun K hK => ?_
  obtain ⟨g, cap, w', hr, h2, h3, h4⟩ := append_tight (P := P) w t o.type base e i z size bytes ht hi hz hsize hby hzs hsz v n xs hown ad m c news hl hnews h1 hm h63 hbytes hbase
  unfold Oper.wp execOp
  simp only [ho, resolve, invoke, builtin, Sem.run_bind, Sem.run_pure, Result.andThen_ok, List.map_toArray, List.map_cons, List.map_nil, hs, hx, hr]
  exact hK _ _ (h g cap w' h2 h3 h4)
end Go.Proofs.YtkjjfdejfihpfaaGreat

namespace Go.Proofs.YtkjjfdejfihpfaaGreat
open Go.RowKit

set_option maxRecDepth 100000 in
set_option maxHeartbeats 800000 in
theorem appendAttrs (B : Nat) (v va : Value) (l : List UInt8) (xs : List Attrd) (w0 w : World) (hv : Buf B w v l) (hl : l.length ≤ 600000) (hA : AttrsV w0 va xs) (hE : Ext w0 w) (hB : w0.heap.size ≤ B) (hx : ∀ x ∈ xs, shA x) (hn : xs.length ≤ 255) :
    Calls Tryz.prog 34 #[v, va, .func (.func 35) #[] #[]] w (Wrt B w (l ++ listL attrL xs)) := by
  obtain ⟨⟨a, ca, rfl, hcap, hmax, hs⟩, hfew, hok⟩ := hA
  obtain ⟨pa, cap, rfl⟩ := hv.form
  replace hv := hide hv; replace hE := hide hE; replace hok := hide hok; replace hx := hide hx
  go_enter Tryz.func34, Tryz.ntmps34
  go_wp2_with fail
  refine (appendNumber B _ l xs.length 1 _ hv.out (by omega) (by omega)).mono ?_
  rintro e w1 ⟨acc, pa1, cap1, rfl, hacc, hv1, hb1⟩
  have hlen := bound2 (N := 600001) hacc.out (by omega)
  go_wp2
  go_loopw [0, 15] (fun b i wr => ∃ (k : Nat) (acc2 : List UInt8) (pa2 : Option Addr) (cap2 : Nat), k ≤ xs.length ∧ i = .int .i64 k ∧ b = .slice pa2 acc2.length cap2 ∧ acc2.length ≤ 600001 + k * 600 ∧ Hid (acc2 = acc ++ (xs.take k).flatMap attrL) ∧ Hid (Buf B wr (.slice pa2 acc2.length cap2) acc2) ∧ Hid (Wrote8 B w wr)) (fun _ i _ => xs.length - (intOf i).toNat)
  case atStart => exact ⟨0, acc, pa1, cap1, Nat.zero_le _, rfl, rfl, by omega, by simp [Hid], hv1, hb1⟩
  case round =>
    obtain ⟨k, acc2, pa2, cap2, hk, rfl, rfl, hlen2, hacc2, hv2, hb2⟩ := hrel
    by_cases hlt : k < xs.length
    · rcases hs with rfl | ⟨b, off, rfl, hin⟩
      · simp at hlt
      obtain ⟨x, hxk⟩ := some_of_lt hlt
      obtain ⟨g0, g1, g2, g3⟩ := (hin.ext (hE.out.wrote hb2.out hB)) k x hxk
      have hsx := hide (hx.out x (List.mem_of_getElem? hxk))
      have Hs := hide (flat_succ (f := attrL) hxk)
      replace hin := hide hin
      replace hxk := hide hxk
      go_wp2_with fail
      refine (appendAttr B _ acc2 x _ (hv2.out.alloc _) (by omega) hsx.out).mono ?_
      rintro e w3 ⟨acc3, pa3, cap3, rfl, hacc3, hv3, hb3⟩
      go_wp2_with fail
      go_roundw
      case rel =>
        refine ⟨k + 1, acc3, pa3, cap3, by omega, by go_num, rfl, ?_, ?_, hv3, (hb2.out.alloc _).trans hb3.out⟩
        · have := attrL_len hsx.out
          rw [hacc3.out, List.length_append]; omega
        · rw [hacc3.out, hacc2.out, Hs.out, List.append_assoc]; rfl
      case measure => simp [intOf]; omega
    · have Hl := hide (show xs.take k = xs from List.take_of_length_le (by omega))
      replace hs := hide hs
      go_wp2
      go_ret
      refine Wrt.mk ?_ hb2.out
      have e : acc2 = l ++ listL attrL xs := by rw [hacc2.out, Hl.out, hacc.out, List.append_assoc]; rfl
      rw [← e]; exact hv2.out

set_option maxRecDepth 100000 in
set_option maxHeartbeats 800000 in
theorem appendIDs (B : Nat) (v va : Value) (l : List UInt8) (xs : List IDd) (w0 w : World) (hv : Buf B w v l) (hl : l.length ≤ 600000) (hA : IDsV w0 va xs) (hE : Ext w0 w) (hB : w0.heap.size ≤ B) (hx : ∀ x ∈ xs, shI x) (hn : xs.length ≤ 255) :
    Calls Tryz.prog 36 #[v, va, .func (.func 33) #[] #[]] w (Wrt B w (l ++ listL idL xs)) := by
  obtain ⟨⟨a, ca, rfl, hcap, hmax, hs⟩, hfew, hok⟩ := hA
  obtain ⟨pa, cap, rfl⟩ := hv.form
  replace hv := hide hv; replace hE := hide hE; replace hok := hide hok; replace hx := hide hx
  go_enter Tryz.func36, Tryz.ntmps36
  go_wp2_with fail
  refine (appendNumber B _ l xs.length 1 _ hv.out (by omega) (by omega)).mono ?_
  rintro e w1 ⟨acc, pa1, cap1, rfl, hacc, hv1, hb1⟩
  have hlen := bound2 (N := 600001) hacc.out (by omega)
  go_wp2
  go_loopw [0, 15] (fun b i wr => ∃ (k : Nat) (acc2 : List UInt8) (pa2 : Option Addr) (cap2 : Nat), k ≤ xs.length ∧ i = .int .i64 k ∧ b = .slice pa2 acc2.length cap2 ∧ acc2.length ≤ 600001 + k * 600 ∧ Hid (acc2 = acc ++ (xs.take k).flatMap idL) ∧ Hid (Buf B wr (.slice pa2 acc2.length cap2) acc2) ∧ Hid (Wrote8 B w wr)) (fun _ i _ => xs.length - (intOf i).toNat)
  case atStart => exact ⟨0, acc, pa1, cap1, Nat.zero_le _, rfl, rfl, by omega, by simp [Hid], hv1, hb1⟩
  case round =>
    obtain ⟨k, acc2, pa2, cap2, hk, rfl, rfl, hlen2, hacc2, hv2, hb2⟩ := hrel
    by_cases hlt : k < xs.length
    · rcases hs with rfl | ⟨b, off, rfl, hin⟩
      · simp at hlt
      obtain ⟨x, hxk⟩ := some_of_lt hlt
      obtain ⟨g0, g1⟩ := (hin.ext (hE.out.wrote hb2.out hB)) k x hxk
      have hsx := hide (hx.out x (List.mem_of_getElem? hxk))
      have Hs := hide (flat_succ (f := idL) hxk)
      replace hin := hide hin
      replace hxk := hide hxk
      go_wp2_with fail
      refine (appendID B _ acc2 x _ (hv2.out.alloc _) (by omega) hsx.out).mono ?_
      rintro e w3 ⟨acc3, pa3, cap3, rfl, hacc3, hv3, hb3⟩
      go_wp2_with fail
      go_roundw
      case rel =>
        refine ⟨k + 1, acc3, pa3, cap3, by omega, by go_num, rfl, ?_, ?_, hv3, (hb2.out.alloc _).trans hb3.out⟩
        · have := idL_len hsx.out
          rw [hacc3.out, List.length_append]; omega
        · rw [hacc3.out, hacc2.out, Hs.out, List.append_assoc]; rfl
      case measure => simp [intOf]; omega
    · have Hl := hide (show xs.take k = xs from List.take_of_length_le (by omega))
      replace hs := hide hs
      go_wp2
      go_ret
      refine Wrt.mk ?_ hb2.out
      have e : acc2 = l ++ listL idL xs := by rw [hacc2.out, Hl.out, hacc.out, List.append_assoc]; rfl
      rw [← e]; exact hv2.out

end Go.Proofs.YtkjjfdejfihpfaaGreat
