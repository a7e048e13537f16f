/-
  The table of files: all its keys and values, one by one.
-/
import Derived.RangeFuncNested
import Derived.RangeFuncBound
import Derived.RangeFuncCalls
import Derived.RangeFuncLeaves
import Derived.RangeFuncBox
import Derived.Shelf.Abstract
import Derived.Shelf.RegionOpen
import Derived.WalkKit
import Derived.OwnWalkIn
import Derived.TacticsInMore
import Derived.LoopNIn
import Derived.LoopIn
import Derived.Maps.AppendAt
import Derived.Test.YtpkhmgonkbpjjaaNamS
import Derived.Test.YtpkhmgonkbpjjaaRndAny
namespace Go.Proofs.Ytpkhmgonkbpjjaa
open Go.RowKit Go.Shelf

attribute [local go_sem] Oper.semAt_some

def encF (x : RowF) : Array Value := #[.string x.key, .pointer (some ⟨x.val, 0, none⟩)]

set_option maxRecDepth 100000 in
set_option maxHeartbeats 2000000 in
theorem allF1_in {α : Type} (fr : α → RowF) (F : Fence) (n : Nat) (h7 : F.fn 82) (hro : F.round = none) (hn : 1 ≤ n) (l Bs t g cap : Nat) (rs : List α) (hfew : rs.length ≤ 2000000000000) (Kp : World → World → Prop) (hKp : ∀ A B, Kp A B → A.heap.size ≤ B.heap.size ∧ B.heap[g]? = A.heap[g]?) (J Jx : List α → World → Prop)
    (hJ : ∀ s W o, J s W → J s (W.alloc o))
    (hY : ∀ pre x W, J pre W → pre.length < rs.length → YieldAt F (n - 1) Try.prog l (encF (fr x)) W fun e W' =>
      (e = .returned (.bool true) ∧ J (pre ++ [x]) W' ∧ Kp W W') ∨ (e = .returned (.bool false) ∧ Jx (pre ++ [x]) W'))
    (W : World) (hgW : g < W.heap.size) (hBs : W.cell? ⟨Bs, 0, none⟩ = some (.pointer (some ⟨t, 0, none⟩))) (ht : W.cell? ⟨t, 1, none⟩ = some (.slice (some ⟨g, 0, none⟩) rs.length cap)) (hc : ∀ j x, rs[j]? = some x → ∀ r, r < 2 → W.cell? ⟨g, j * 2 + r, none⟩ = (cRowF (fr x))[r]?) (h0 : J [] W) :
    CallsIn F n Try.prog 82 #[.func (.yield l) #[] #[], .pointer (some ⟨Bs, 0, none⟩)] W fun e W' => (∃ v, e = .returned v) ∧
      ((∃ ys, ys = rs ∧ J ys W') ∨ (∃ pre, pre <+: rs ∧ Jx pre W')) := by
  refine callsIn_of_wp Try.func82 rfl h7 ?_ hro
  simp only [Try.ntmps82, List.size_toArray, List.length_cons, List.length_nil, Nat.reduceAdd, Nat.reduceSub, Array.replicate_succ, Array.replicate_zero, List.push_toArray, List.append_toArray, List.nil_append, List.cons_append]
  gi_wp2
  gi_loopw [10] (fun i wr => ∃ k : Nat, k ≤ rs.length ∧ i = .int .i64 k ∧ J (rs.take k) wr ∧ W.heap.size ≤ wr.heap.size ∧ wr.heap[g]? = W.heap[g]?)
    (fun i _ => rs.length - (intOf i).toNat)
  case atStart => exact ⟨0, Nat.zero_le _, rfl, by simpa using h0, Nat.le_refl _, rfl⟩
  case round =>
    obtain ⟨k, hk, rfl, hJs, hsz, hnx⟩ := hrel
    replace hsz := hide hsz; replace hnx := hide hnx
    by_cases hlt : k < rs.length
    · obtain ⟨x, hx⟩ : ∃ x, rs[k]? = some x := ⟨rs[k], List.getElem?_eq_getElem hlt⟩
      have cx : ∀ r, r < 2 → wr.cell? ⟨g, k * 2 + r, none⟩ = (cRowF (fr x))[r]? := fun r hr => (World.cell?_of_block (a := ⟨g, k * 2 + r, none⟩) hnx.out).trans (hc k x hx r hr)
      have c0 : wr.cell? ⟨g, k * 2, none⟩ = some (.string (fr x).key) := cx 0 (by omega)
      have c1 : wr.cell? ⟨g, k * 2 + 1, none⟩ = some (.pointer (some ⟨(fr x).val, 0, none⟩)) := cx 1 (by omega)
      clear cx
      have hka : (k : Int) < (rs.length : Int) := by omega
      obtain ⟨fn, tmps, assign, body, hy, hR⟩ := hY _ x (wr.alloc (.cells #[.string (fr x).key, .pointer (some ⟨(fr x).val, 0, none⟩)] 140)) (hJ _ _ _ hJs) (by rw [List.length_take]; omega)
      dsimp only [encF] at hy
      have hnx2 : (wr.alloc (.cells #[.string (fr x).key, .pointer (some ⟨(fr x).val, 0, none⟩)] 140)).heap[g]? = wr.heap[g]? := Below.heap_alloc _ _ _ (Nat.lt_of_lt_of_le hgW hsz.out)
      replace hnx2 := hide hnx2
      replace hx := hide hx
      gi_wp2
      refine hR.mono ?_
      rintro e W3 (⟨rfl, hJ3, hk3⟩ | ⟨rfl, hJx3⟩)
      · gi_wp2
        go_roundw
        case rel => exact ⟨k + 1, by omega, by simp, by rw [List.take_add_one, hx.out]; exact hJ3, Nat.le_trans hsz.out (Nat.le_trans (by simp) (hKp _ _ hk3).1), (hKp _ _ hk3).2.trans (hnx2.out.trans hnx.out)⟩
        case measure => simp [intOf]; omega
      · gi_wp2
        refine bodyPost_ret (results_none rfl _ _ _) rfl ?_
        exact ⟨⟨_, rfl⟩, .inr ⟨_, ⟨rs.drop (k + 1), by rw [show rs.take k ++ [x] = rs.take (k + 1) by rw [List.take_add_one, hx.out]; rfl, List.take_append_drop]⟩, hJx3⟩⟩
    · obtain rfl : k = rs.length := by omega
      gi_wp2
      go_end0
      exact ⟨⟨_, rfl⟩, .inl ⟨_, rfl, by simpa using hJs⟩⟩

set_option maxRecDepth 100000 in
set_option maxHeartbeats 1000000 in
theorem allF1_nil_in {α : Type} (F : Fence) (n : Nat) (h7 : F.fn 82) (hro : F.round = none) (l Bs t : Nat) (J : List α → World → Prop) (W : World) (hBs : W.cell? ⟨Bs, 0, none⟩ = some (.pointer (some ⟨t, 0, none⟩))) (ht : W.cell? ⟨t, 1, none⟩ = some (.slice none 0 0)) (h0 : J [] W) :
    CallsIn F n Try.prog 82 #[.func (.yield l) #[] #[], .pointer (some ⟨Bs, 0, none⟩)] W fun e W' => (∃ v, e = .returned v) ∧ J [] W' := by
  refine callsIn_of_wp Try.func82 rfl h7 ?_ hro
  simp only [Try.ntmps82, List.size_toArray, List.length_cons, List.length_nil, Nat.reduceAdd, Nat.reduceSub, Array.replicate_succ, Array.replicate_zero, List.push_toArray, List.append_toArray, List.nil_append, List.cons_append]
  gi_wp2
  gi_loopw [10] (fun i wr => i = .int .i64 0 ∧ J [] wr) (fun _ _ => 0)
  case atStart => exact ⟨rfl, h0⟩
  case round =>
    obtain ⟨rfl, hJs⟩ := hrel
    gi_wp2
    go_end0
    exact ⟨⟨_, rfl⟩, hJs⟩

set_option maxHeartbeats 1000000 in
theorem allF_in (F : Fence) (n : Nat) (h5 : F.fn 63) (hro : F.round = none) (t : Nat) (w : World) :
    CallsIn F n Try.prog 63 #[.pointer (some ⟨t, 0, none⟩)] w fun e w' => e = .returned (.func (.func 82) #[] #[.pointer (some ⟨w.heap.size, 0, none⟩)]) ∧ w' = w.alloc (.cells #[.pointer (some ⟨t, 0, none⟩)] 93) := by
  refine callsIn_of_wp Try.func63 rfl h5 ?_ hro
  simp only [Try.ntmps63, List.size_toArray, List.length_cons, List.length_nil, Nat.reduceAdd, Nat.reduceSub, Array.replicate_succ, Array.replicate_zero, List.push_toArray, List.append_toArray, List.nil_append, List.cons_append]
  gi_wp2
  go_ret
  exact ⟨rfl, rfl⟩

theorem allF_stops {α : Type} (fr : α → RowF) (F : Fence) (n : Nat) (h7 : F.fn 82) (hro : F.round = none) (hn : 1 ≤ n) (Bs B t : Nat) (v : Value) (rs : List α) (Kp : World → World → Prop) (w0 w : World) (hKp : ∀ g, v.ownBlock = some g → ∀ A B, Kp A B → A.heap.size ≤ B.heap.size ∧ B.heap[g]? = A.heap[g]?) (hT : TabAtF B w0 t v (rs.map fr)) (hw : Ext w0 w) (hBs : Bs < w.heap.size) (hc : w.cell? ⟨Bs, 0, none⟩ = some (.pointer (some ⟨t, 0, none⟩))) :
    SeqStopsK F n Try.prog 82 #[.pointer (some ⟨Bs, 0, none⟩)] (fun x => encF (fr x)) Kp (fun ys => ys = rs) (fun pre => pre <+: rs) rs.length w := fun l J Jx W hW hJ _ hY h0 => by
  have hc' := (hW.cell (p := ⟨Bs, 0, none⟩) hBs).trans hc
  have hX : Ext w0 W := hw.trans (show Ext w W from hW)
  have hT' := hT.ext hX
  have ht' := tabF_c1 hT'.at_
  rcases hT'.rows.2 with ⟨rfl, h0'⟩ | ⟨g, cap, cur, rfl, _, hg, hcp, hm, hs, htk⟩
  · obtain rfl : rs = [] := List.eq_nil_of_length_eq_zero (by simpa using h0')
    exact (allF1_nil_in F n h7 hro l Bs t J W hc' ht' h0).mono fun e W' ⟨he, hj⟩ => ⟨he, .inl ⟨_, rfl, hj⟩⟩
  · have hgl : g < W.heap.size := (Array.getElem?_eq_some_iff.1 hg).1
    exact allF1_in fr F n h7 hro hn l Bs t g cap rs (by simpa using hT.few) Kp (hKp g rfl) J Jx (fun s W' o hs => hJ s W' _ none hs (World.grownBy_alloc W' o none) (fun r e => by cases e)) hY W hgl hc' (by simpa using ht') (fun j x hx r hr => by
      have h1 : (cellsG cRowF (rs.map fr))[j * 2 + r]? = (cRowF (fr x))[r]? := flat_get cRowF_len (by rw [List.getElem?_map, hx]; rfl) hr
      have hlt := (List.getElem?_eq_some_iff.1 hx).1
      rw [← h1, ← htk, List.getElem?_take, if_pos (by rw [List.length_map]; omega)]
      simp [World.cell?, hg]) h0

end Go.Proofs.Ytpkhmgonkbpjjaa
