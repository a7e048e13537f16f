/-
  The table of keys: all its keys, one by one; its keys as a list.
-/
import Derived.RangeFuncNested
import Derived.RangeFuncBound
import Derived.RangeFuncCalls
import Derived.RangeFuncLeaves
import Derived.RangeFuncBox
import Derived.Shelf.Abstract
import Derived.Shelf.RegionOpen
import Derived.WalkKit
import Derived.OwnWalkIn
import Derived.TacticsInMore
import Derived.LoopNIn
import Derived.LoopIn
import Derived.Maps.AppendAt
import Derived.Test.YtfmcgdglalljgaaGreatDoorJ24
namespace Go.Proofs.YtfmcgdglalljgaaGreatDoor
open Go.RowKit Go.Shelf

attribute [local go_sem] Oper.semAt_some

theorem cells_row : Tryz.prog.cellsOf 218 = 2 := by kernel_rfl
theorem bytes_row : Tryz.prog.bytesOf 218 = 40 := by kernel_rfl
theorem byte0_row : byteOfCell Tryz.prog Tryz.prog.depth 218 0 = some 0 := by kernel_rfl
theorem runPart (w : World) (k : Nat) (a b : Value) (h : w.heap[k]? = some (.cells #[a, b] 218 (0, 0))) :
    Sem.run Tryz.prog (partAt ⟨k, 0, none⟩ 2 32) w = .ok ⟨k, 2, some 32⟩ w := by
  have hs : w.shape? k = some (218, 2) := by simp [World.shape?, h]
  simp [partAt, byteOf, noView, viewAt, hs, cells_row, bytes_row, byte0_row, go_sem]
def encI (x : IDd) : Array Value := #[.agg #[.string x.kind, .string x.name], .agg #[]]

set_option maxRecDepth 100000 in
set_option maxHeartbeats 2000000 in
theorem allI1_in (F : Fence) (n : Nat) (h7 : F.fn 141) (hro : F.round = none) (hn : 1 ≤ n) (l Bs n₀ t g cap : Nat) (rs : List IDd) (hfew : rs.length ≤ 1000000) (hb : g < n₀) (J Jx : List IDd → World → Prop)
    (hJ : ∀ s W o, J s W → J s (W.alloc o))
    (hY : ∀ pre x W, J pre W → pre.length < rs.length → YieldAt F (n - 1) Tryz.prog l (encI x) W fun e W' =>
      (e = .returned (.bool true) ∧ J (pre ++ [x]) W' ∧ Below n₀ W W') ∨ (e = .returned (.bool false) ∧ Jx (pre ++ [x]) W'))
    (W : World) (hnw : n₀ ≤ W.heap.size) (hBs : W.cell? ⟨Bs, 0, none⟩ = some (.pointer (some ⟨t, 0, none⟩))) (ht : W.cell? ⟨t, 1, none⟩ = some (.slice (some ⟨g, 0, none⟩) rs.length cap)) (hc : ∀ j x, rs[j]? = some x → ∀ r, r < 2 → W.cell? ⟨g, j * 2 + r, none⟩ = (cI x)[r]?) (h0 : J [] W) :
    CallsIn F n Tryz.prog 141 #[.func (.yield l) #[] #[], .pointer (some ⟨Bs, 0, none⟩)] W fun e W' => (∃ v, e = .returned v) ∧
      ((∃ ys, ys = rs ∧ J ys W') ∨ (∃ pre, pre <+: rs ∧ Jx pre W')) := by
  refine callsIn_of_wp Tryz.func141 rfl h7 ?_ hro
  simp only [Tryz.ntmps141, List.size_toArray, List.length_cons, List.length_nil, Nat.reduceAdd, Nat.reduceSub, Array.replicate_succ, Array.replicate_zero, List.push_toArray, List.append_toArray, List.nil_append, List.cons_append]
  gi_wp2
  gi_loopw [10] (fun i wr => ∃ k : Nat, k ≤ rs.length ∧ i = .int .i64 k ∧ J (rs.take k) wr ∧ Below n₀ W wr)
    (fun i _ => rs.length - (intOf i).toNat)
  case atStart => exact ⟨0, Nat.zero_le _, rfl, by simpa using h0, Below.refl _ _⟩
  case round =>
    obtain ⟨k, hk, rfl, hJs, hnx⟩ := hrel
    by_cases hlt : k < rs.length
    · obtain ⟨x, hx⟩ : ∃ x, rs[k]? = some x := ⟨rs[k], List.getElem?_eq_getElem hlt⟩
      have cx : ∀ r, r < 2 → wr.cell? ⟨g, k * 2 + r, none⟩ = (cI x)[r]? := fun r hr => (hnx.cell (p := ⟨g, k * 2 + r, none⟩) hb).trans (hc k x hx r hr)
      have c0 : wr.cell? ⟨g, k * 2, none⟩ = some (.string x.kind) := cx 0 (by omega)
      have c1 : wr.cell? ⟨g, k * 2 + 1, none⟩ = some (.string x.name) := cx 1 (by omega)
      clear cx
      have hka : (k : Int) < (rs.length : Int) := by omega
      obtain ⟨fn, tmps, assign, body, hy, hR⟩ := hY _ x (wr.alloc (.cells #[.string x.kind, .string x.name] 218)) (hJ _ _ _ hJs) (by rw [List.length_take]; omega)
      dsimp only [encI] at hy
      have hpart := runPart (wr.alloc (.cells #[.string x.kind, .string x.name] 218)) wr.heap.size (.string x.kind) (.string x.name) (heap_alloc_new wr _)
      have hnx2 : Below n₀ W (wr.alloc (.cells #[.string x.kind, .string x.name] 218)) := hnx.alloc (Nat.le_trans hnw hnx.size) _
      replace hx := hide hx
      gi_wp2
      refine hR.mono ?_
      rintro e W3 (⟨rfl, hJ3, hk3⟩ | ⟨rfl, hJx3⟩)
      · gi_wp2
        go_roundw
        case rel => exact ⟨k + 1, by omega, by simp, by rw [List.take_add_one, hx.out]; exact hJ3, hnx2.trans hk3⟩
        case measure => simp [intOf]; omega
      · gi_wp2
        refine bodyPost_ret (results_none rfl _ _ _) rfl ?_
        exact ⟨⟨_, rfl⟩, .inr ⟨_, ⟨rs.drop (k + 1), by rw [show rs.take k ++ [x] = rs.take (k + 1) by rw [List.take_add_one, hx.out]; rfl, List.take_append_drop]⟩, hJx3⟩⟩
    · obtain rfl : k = rs.length := by omega
      gi_wp2
      go_end0
      exact ⟨⟨_, rfl⟩, .inl ⟨_, rfl, by simpa using hJs⟩⟩

set_option maxRecDepth 100000 in
set_option maxHeartbeats 1000000 in
theorem allI1_nil_in (F : Fence) (n : Nat) (h7 : F.fn 141) (hro : F.round = none) (l Bs t : Nat) (J : List IDd → World → Prop) (W : World) (hBs : W.cell? ⟨Bs, 0, none⟩ = some (.pointer (some ⟨t, 0, none⟩))) (ht : W.cell? ⟨t, 1, none⟩ = some (.slice none 0 0)) (h0 : J [] W) :
    CallsIn F n Tryz.prog 141 #[.func (.yield l) #[] #[], .pointer (some ⟨Bs, 0, none⟩)] W fun e W' => (∃ v, e = .returned v) ∧ J [] W' := by
  refine callsIn_of_wp Tryz.func141 rfl h7 ?_ hro
  simp only [Tryz.ntmps141, List.size_toArray, List.length_cons, List.length_nil, Nat.reduceAdd, Nat.reduceSub, Array.replicate_succ, Array.replicate_zero, List.push_toArray, List.append_toArray, List.nil_append, List.cons_append]
  gi_wp2
  gi_loopw [10] (fun i wr => i = .int .i64 0 ∧ J [] wr) (fun _ _ => 0)
  case atStart => exact ⟨rfl, h0⟩
  case round =>
    obtain ⟨rfl, hJs⟩ := hrel
    gi_wp2
    go_end0
    exact ⟨⟨_, rfl⟩, hJs⟩

set_option maxHeartbeats 1000000 in
theorem allI_in (F : Fence) (n : Nat) (h5 : F.fn 110) (hro : F.round = none) (t : Nat) (w : World) :
    CallsIn F n Tryz.prog 110 #[.pointer (some ⟨t, 0, none⟩)] w fun e w' => e = .returned (.func (.func 141) #[] #[.pointer (some ⟨w.heap.size, 0, none⟩)]) ∧ w' = w.alloc (.cells #[.pointer (some ⟨t, 0, none⟩)] 142) := by
  refine callsIn_of_wp Tryz.func110 rfl h5 ?_ hro
  simp only [Tryz.ntmps110, List.size_toArray, List.length_cons, List.length_nil, Nat.reduceAdd, Nat.reduceSub, Array.replicate_succ, Array.replicate_zero, List.push_toArray, List.append_toArray, List.nil_append, List.cons_append]
  gi_wp2
  go_ret
  exact ⟨rfl, rfl⟩

theorem allI_stops (F : Fence) (n : Nat) (h7 : F.fn 141) (hro : F.round = none) (hn : 1 ≤ n) (Bs B t : Nat) (v : Value) (rs : List IDd) (w0 w : World) (hT : TabAt B w0 t v rs) (hw : Ext w0 w) (hBs : Bs < w.heap.size) (hc : w.cell? ⟨Bs, 0, none⟩ = some (.pointer (some ⟨t, 0, none⟩))) :
    SeqStopsK F n Tryz.prog 141 #[.pointer (some ⟨Bs, 0, none⟩)] encI (Below w0.heap.size) (fun ys => ys = rs) (fun pre => pre <+: rs) rs.length w := fun l J Jx W hW hJ _ hY h0 => by
  have hc' := (hW.cell (p := ⟨Bs, 0, none⟩) hBs).trans hc
  have hX : Ext w0 W := hw.trans (show Ext w W from hW)
  have hT' := hT.ext hX
  have ht' := two_c1 hT'.at_
  rcases hT'.keys.2 with ⟨rfl, h0'⟩ | ⟨g, cap, cur, rfl, _, hg, hcp, hm, hs, htk⟩
  · obtain rfl : rs = [] := List.eq_nil_of_length_eq_zero h0'
    exact (allI1_nil_in F n h7 hro l Bs t J W hc' ht' h0).mono fun e W' ⟨he, hj⟩ => ⟨he, .inl ⟨_, rfl, hj⟩⟩
  · have hgl : g < w0.heap.size := by
      rcases hT.keys.2 with ⟨hv, _⟩ | ⟨g', cap', cur', hv, _, hg', _⟩
      · cases hv
      · cases hv; exact (Array.getElem?_eq_some_iff.1 hg').1
    exact allI1_in F n h7 hro hn l Bs w0.heap.size t g cap rs hT.few hgl J Jx (fun s W' o hs => hJ s W' _ none hs (World.grownBy_alloc W' o none) (fun r e => by cases e)) hY W (Ext.size hX) hc' ht' (fun j x hx r hr => by
      have h1 : (cellsI rs)[j * 2 + r]? = (cI x)[r]? := flat_get cI_len hx hr
      have hlt := (List.getElem?_eq_some_iff.1 hx).1
      rw [← h1, ← htk, List.getElem?_take, if_pos (by omega)]
      simp [World.cell?, hg]) h0


set_option maxRecDepth 100000 in
set_option maxHeartbeats 2000000 in
theorem keysI_in (F : Fence) (n : Nat) (h3 : F.fn 76) (h4 : F.fn 110) (h5 : F.fn 141) (hro : F.round = none) (hn : 3 ≤ n) (B t : Nat) (v : Value) (rs : List IDd) (w : World) (hT : TabAt B w t v rs) (hf : rs.length ≤ 1000) :
    CallsIn F n Tryz.prog 76 #[.pointer (some ⟨t, 0, none⟩)] w fun e W' => ∃ v, e = .returned v ∧ W'.ownsRow w.heap.size 25 2 v rs.length (cellsI rs) ∧ Ext w W' := by
  have h1 : 1 ≤ n := by omega
  obtain ⟨i0, hi, hz0, hz1, hz2⟩ := info_of infoID
  refine callsIn_of_wp_marks Tryz.func76 rfl h3 ?_ hro
  simp only [Tryz.ntmps76, List.size_toArray, List.length_cons, List.length_nil, Nat.reduceAdd, Nat.reduceSub, Array.replicate_succ, Array.replicate_zero, List.push_toArray, List.append_toArray, List.nil_append, List.cons_append]
  gi_wp2_with (gi_at_call 110; refine (allI_in F (n - 1) h4 hro _ _).mono ?_; rintro e w' ⟨rfl, rfl⟩)
  have bO := Boxed.new w 27 (.slice none 0 0)
  have bN := Boxed.new (w.alloc (.cells #[.slice none 0 0] 27)) 142 (.pointer (some ⟨t, 0, none⟩))
  rw [World.size_alloc] at bN
  have hB0 : Below w.heap.size w ((w.alloc (.cells #[.slice none 0 0] 27)).alloc (.cells #[.pointer (some ⟨t, 0, none⟩)] 142)) := ((Below.refl _ w).alloc (Nat.le_refl _) _).alloc (by simp) _
  refine wpIn_rangeFunc_ownH hro h1 (gf := 141) (lb := #[.pointer (some ⟨w.heap.size + 1, 0, none⟩)]) rfl h5 (enters_of Tryz.func141 (by kernel_rfl) rfl)
    (allI_stops F (n - 1) h5 hro (by omega) (w.heap.size + 1) B t v rs w _ hT hB0 (by simp) bN.cell) belowK_t (belowK_b (by simp; omega)) (Below.refl _ _) (fun _ => rfl)
    (fun pre W => (∃ v, Boxed W w.heap.size 27 v ∧ W.ownsRow w.heap.size 25 2 v pre.length (cellsI pre) ∧ True) ∧ Below w.heap.size w W)
    (fun _ _ _ => False)
    (OwnFrom.and (Own.from (holdsRow_own w.heap.size w.heap.size 27 25 2 (fun pre : List IDd => pre.length) (fun pre => cellsI pre) (fun _ _ => True)) _) (ownFrom_below (Nat.le_refl _) (by simp; omega)))
    (fun _ _ _ _ _ hs _ _ => hs)
    ⟨⟨_, bO.alloc _, World.ownsRow_nil _ _ _ _, trivial⟩, hB0⟩
    (fun x a' W => ∃ Bx, w.heap.size < Bx ∧ W.heap[Bx]? = some (.cells #[.string x.kind, .string x.name] 25 (0, 0)) ∧ a' = { tmps := #[.pointer (some ⟨t, 0, none⟩), undef, .slice none 0 0, .pointer (some ⟨w.heap.size, 0, none⟩), .pointer (some ⟨Bx, 0, none⟩), .pointer (some ⟨t, 0, none⟩), .func (.func 141) #[] #[.pointer (some ⟨w.heap.size + 1, 0, none⟩)], .agg #[.string x.kind, .string x.name], .agg #[], undef, undef, undef, undef, undef], defers := [] })
    (fun x a' _ X Y row hs hg hr => by
      obtain ⟨Bx, g1, g2, g3⟩ := hs
      refine ⟨Bx, g1, (hg.block Bx (Array.getElem?_eq_some_iff.1 g2).1 (fun e => ?_)).trans g2, g3⟩
      obtain ⟨_, o, ho, hc⟩ := hr Bx e.symm
      rw [g2] at ho; cases ho; cases hc)
    ?assign ?body ?done ?stop
  case assign =>
    rintro l pre x W K ⟨⟨v1, bS1, hr1, _⟩, hB1⟩ hK
    simp only [encI]
    gi_wp2
    exact hK _ _ ((KeepsOthers.alloc _ _).from _) ((Below.refl _ W).alloc hB1.size _) ⟨⟨v1, bS1.alloc _, hr1.alloc _, trivial⟩, hB1.alloc hB1.size _⟩ ⟨W.heap.size, bS1.lt, World.alloc_heap_new W _, rfl⟩
  case body =>
    rintro l pre x a' W hl ⟨r, hr⟩ ⟨⟨v1, hv, hrow, _⟩, hB1⟩ ⟨Bx, hBx, hx, rfl⟩ hlt
    have hc := hv.cell
    have x0 := two_c0 hx; have x1 := two_c1 hx
    have hnew : ∀ j u, (cI x)[j]? = some u → (W.alloc (.cells (cI x).toArray 25)).cell? ((⟨W.heap.size, 0, none⟩ : Addr).add j) = some u := by
      intro j u hu
      rw [add_eq]
      refine Eq.trans (cell_of (heap_alloc_new W (.cells (cI x).toArray 25)) (0 + j)) ?_
      simpa using hu
    have hlen : pre.length + 1 ≤ 1000 := by omega
    gi_wp2_with (gi_at_builtin; refine wpListIn_append_own _ rfl _ _ 27 rfl w.heap.size 25 i0 (.agg #[.string ⟨#[]⟩, .string ⟨#[]⟩]) 2 32 Tryz.underlying27 hi hz0 hz1 hz2 rfl (by decide) _ _ _ rfl (hrow.alloc _) ⟨W.heap.size, 0, none⟩ 1 1 (cI x) rfl rfl hnew (cI_one _) (by unfold maxLen; omega) (by omega) (by have := hB1.size; simp; omega) ?_; intro v' w1 hown' hgrow _; obtain ⟨g', cap', rfl⟩ := ownsRow_succ hown'; obtain ⟨hv1, hv2, hr2, hk2, hb2⟩ := hv.appended (by decide) hrow hB1.size (Nat.le_refl _) hown' hgrow; have hc1 := hv1.cell; have hf1 := hv1.frozen)
    refine ⟨hk2.from _, hb2, ⟨_, hv2, ?_, trivial⟩, hB1.trans hb2⟩
    rw [show (pre ++ [x]).length = pre.length + 1 by simp, show cellsI (pre ++ [x]) = cellsI pre ++ cI x by simp [cellsI]]
    exact hr2
  case done =>
    rintro D ys W hD rfl ⟨⟨v1, hv, hrow, _⟩, hB1⟩ hK
    have hc := hv.cell
    gi_wp2
    refine ⟨by simp, .inl ⟨_, _, rfl, run_takeDeferred hK, ?_⟩⟩
    exact ⟨_, results_tmp rfl _ _ _, v1, rfl, ownsRow_putObj hrow _ hK rfl, hB1.trans (belowK_b (w := w) (Nat.le_refl _) W D _ _ (by simp at hD; omega) hK rfl rfl)⟩
  case stop =>
    rintro D c pre W _ _ h _
    exact h.elim
/-- The values of a table, in the order of their keys. -/
theorem keysI (B t : Nat) (v : Value) (rs : List IDd) (w : World) (hT : TabAt B w t v rs) (hf : rs.length ≤ 1000) :
    Calls Tryz.prog 76 #[.pointer (some ⟨t, 0, none⟩)] w fun e W' => ∃ pa cap, e = .returned (.slice pa rs.length cap) ∧ Hid (W'.ownsRow w.heap.size 25 2 (.slice pa rs.length cap) rs.length (cellsI rs)) ∧ Hid (Ext w W') := by
  refine (callsIn_wide (n := 3)).1 ?_
  refine (keysI_in _ 3 trivial trivial trivial rfl (by omega) B t v rs w hT hf).mono ?_
  rintro e W' ⟨u, rfl, hr, hx⟩
  obtain ⟨pa, cap, rfl⟩ := ownsRow_form hr
  exact ⟨pa, cap, rfl, hr, hx⟩
end Go.Proofs.YtfmcgdglalljgaaGreatDoor
