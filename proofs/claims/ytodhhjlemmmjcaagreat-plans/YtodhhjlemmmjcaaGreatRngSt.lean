/-
  The table St: all its keys and values, one by one; its values as a list.
-/
import Derived.RangeFuncNested
import Derived.RangeFuncBound
import Derived.RangeFuncCalls
import Derived.RangeFuncLeaves
import Derived.RangeFuncBox
import Derived.Shelf.Abstract
import Derived.Shelf.RegionOpen
import Derived.WalkKit
import Derived.OwnWalkIn
import Derived.TacticsInMore
import Derived.LoopNIn
import Derived.LoopIn
import Derived.Maps.AppendAt
import Derived.Test.YtodhhjlemmmjcaaGreatJ24
namespace Go.Proofs.YtodhhjlemmmjcaaGreat
open Go.RowKit Go.Shelf

attribute [local go_sem] Oper.semAt_some

theorem cellAt {w : World} {k : Nat} {cs : Array Value} {t : TypeId} {fz : Nat × Nat} (h : w.heap[k]? = some (.cells cs t fz)) (j : Nat) : w.cell? ⟨k, j, none⟩ = cs[j]? := by simp [World.cell?, h]
def encSt (x : RowSt) : Array Value := #[.agg #[.string x.key.kind, .string x.key.name], .agg #[.int .i64 x.val.op, .string x.val.r.x.id.kind, .string x.val.r.x.id.name, .slice x.val.r.a2 x.val.r.n2 x.val.r.p2, .slice x.val.r.a3 x.val.r.n3 x.val.r.p3]]

set_option maxRecDepth 100000 in
set_option maxHeartbeats 2000000 in
theorem allSt1_in (F : Fence) (n : Nat) (h7 : F.fn 108) (hro : F.round = none) (hn : 1 ≤ n) (l Bs n₀ t g cap : Nat) (rs : List RowSt) (hfew : rs.length ≤ 1000000) (hb : g < n₀) (J Jx : List RowSt → World → Prop)
    (hJ : ∀ s W o, J s W → J s (W.alloc o))
    (hY : ∀ pre x W, J pre W → pre.length < rs.length → YieldAt F (n - 1) Tryz.prog l (encSt x) W fun e W' =>
      (e = .returned (.bool true) ∧ J (pre ++ [x]) W' ∧ Below n₀ W W') ∨ (e = .returned (.bool false) ∧ Jx (pre ++ [x]) W'))
    (W : World) (hnw : n₀ ≤ W.heap.size) (hBs : W.cell? ⟨Bs, 0, none⟩ = some (.pointer (some ⟨t, 0, none⟩))) (ht : W.cell? ⟨t, 1, none⟩ = some (.slice (some ⟨g, 0, none⟩) rs.length cap)) (hc : ∀ j x, rs[j]? = some x → ∀ r, r < 7 → W.cell? ⟨g, j * 7 + r, none⟩ = (cRowSt x)[r]?) (h0 : J [] W) :
    CallsIn F n Tryz.prog 108 #[.func (.yield l) #[] #[], .pointer (some ⟨Bs, 0, none⟩)] W fun e W' => (∃ v, e = .returned v) ∧
      ((∃ ys, ys = rs ∧ J ys W') ∨ (∃ pre, pre <+: rs ∧ Jx pre W')) := by
  refine callsIn_of_wp Tryz.func108 rfl h7 ?_ hro
  simp only [Tryz.ntmps108, List.size_toArray, List.length_cons, List.length_nil, Nat.reduceAdd, Nat.reduceSub, Array.replicate_succ, Array.replicate_zero, List.push_toArray, List.append_toArray, List.nil_append, List.cons_append]
  gi_wp2
  gi_loopw [10] (fun i wr => ∃ k : Nat, k ≤ rs.length ∧ i = .int .i64 k ∧ J (rs.take k) wr ∧ Below n₀ W wr)
    (fun i _ => rs.length - (intOf i).toNat)
  case atStart => exact ⟨0, Nat.zero_le _, rfl, by simpa using h0, Below.refl _ _⟩
  case round =>
    obtain ⟨k, hk, rfl, hJs, hnx⟩ := hrel
    by_cases hlt : k < rs.length
    · obtain ⟨x, hx⟩ : ∃ x, rs[k]? = some x := ⟨rs[k], List.getElem?_eq_getElem hlt⟩
      have cx : ∀ r, r < 7 → wr.cell? ⟨g, k * 7 + r, none⟩ = (cRowSt x)[r]? := fun r hr => (hnx.cell (p := ⟨g, k * 7 + r, none⟩) hb).trans (hc k x hx r hr)
      have c0 : wr.cell? ⟨g, k * 7, none⟩ = some (.string x.key.kind) := cx 0 (by omega)
      have c1 : wr.cell? ⟨g, k * 7 + 1, none⟩ = some (.string x.key.name) := cx 1 (by omega)
      have c2 : wr.cell? ⟨g, k * 7 + 2, none⟩ = some (.int .i64 x.val.op) := cx 2 (by omega)
      have c3 : wr.cell? ⟨g, k * 7 + 3, none⟩ = some (.string x.val.r.x.id.kind) := cx 3 (by omega)
      have c4 : wr.cell? ⟨g, k * 7 + 4, none⟩ = some (.string x.val.r.x.id.name) := cx 4 (by omega)
      have c5 : wr.cell? ⟨g, k * 7 + 5, none⟩ = some (.slice x.val.r.a2 x.val.r.n2 x.val.r.p2) := cx 5 (by omega)
      have c6 : wr.cell? ⟨g, k * 7 + 6, none⟩ = some (.slice x.val.r.a3 x.val.r.n3 x.val.r.p3) := cx 6 (by omega)
      clear cx
      have hka : (k : Int) < (rs.length : Int) := by omega
      obtain ⟨fn, tmps, assign, body, hy, hR⟩ := hY _ x (wr.alloc (.cells #[.string x.key.kind, .string x.key.name, .int .i64 x.val.op, .string x.val.r.x.id.kind, .string x.val.r.x.id.name, .slice x.val.r.a2 x.val.r.n2 x.val.r.p2, .slice x.val.r.a3 x.val.r.n3 x.val.r.p3] 140)) (hJ _ _ _ hJs) (by rw [List.length_take]; omega)
      dsimp only [encSt] at hy
      have hnx2 : Below n₀ W (wr.alloc (.cells #[.string x.key.kind, .string x.key.name, .int .i64 x.val.op, .string x.val.r.x.id.kind, .string x.val.r.x.id.name, .slice x.val.r.a2 x.val.r.n2 x.val.r.p2, .slice x.val.r.a3 x.val.r.n3 x.val.r.p3] 140)) := hnx.alloc (Nat.le_trans hnw hnx.size) _
      replace hx := hide hx
      gi_wp2
      refine hR.mono ?_
      rintro e W3 (⟨rfl, hJ3, hk3⟩ | ⟨rfl, hJx3⟩)
      · gi_wp2
        go_roundw
        case rel => exact ⟨k + 1, by omega, by simp, by rw [List.take_add_one, hx.out]; exact hJ3, hnx2.trans hk3⟩
        case measure => simp [intOf]; omega
      · gi_wp2
        refine bodyPost_ret (results_none rfl _ _ _) rfl ?_
        exact ⟨⟨_, rfl⟩, .inr ⟨_, ⟨rs.drop (k + 1), by rw [show rs.take k ++ [x] = rs.take (k + 1) by rw [List.take_add_one, hx.out]; rfl, List.take_append_drop]⟩, hJx3⟩⟩
    · obtain rfl : k = rs.length := by omega
      gi_wp2
      go_end0
      exact ⟨⟨_, rfl⟩, .inl ⟨_, rfl, by simpa using hJs⟩⟩

set_option maxRecDepth 100000 in
set_option maxHeartbeats 1000000 in
theorem allSt1_nil_in (F : Fence) (n : Nat) (h7 : F.fn 108) (hro : F.round = none) (l Bs t : Nat) (J : List RowSt → World → Prop) (W : World) (hBs : W.cell? ⟨Bs, 0, none⟩ = some (.pointer (some ⟨t, 0, none⟩))) (ht : W.cell? ⟨t, 1, none⟩ = some (.slice none 0 0)) (h0 : J [] W) :
    CallsIn F n Tryz.prog 108 #[.func (.yield l) #[] #[], .pointer (some ⟨Bs, 0, none⟩)] W fun e W' => (∃ v, e = .returned v) ∧ J [] W' := by
  refine callsIn_of_wp Tryz.func108 rfl h7 ?_ hro
  simp only [Tryz.ntmps108, List.size_toArray, List.length_cons, List.length_nil, Nat.reduceAdd, Nat.reduceSub, Array.replicate_succ, Array.replicate_zero, List.push_toArray, List.append_toArray, List.nil_append, List.cons_append]
  gi_wp2
  gi_loopw [10] (fun i wr => i = .int .i64 0 ∧ J [] wr) (fun _ _ => 0)
  case atStart => exact ⟨rfl, h0⟩
  case round =>
    obtain ⟨rfl, hJs⟩ := hrel
    gi_wp2
    go_end0
    exact ⟨⟨_, rfl⟩, hJs⟩

set_option maxHeartbeats 1000000 in
theorem allSt_in (F : Fence) (n : Nat) (h5 : F.fn 82) (hro : F.round = none) (t : Nat) (w : World) :
    CallsIn F n Tryz.prog 82 #[.pointer (some ⟨t, 0, none⟩)] w fun e w' => e = .returned (.func (.func 108) #[] #[.pointer (some ⟨w.heap.size, 0, none⟩)]) ∧ w' = w.alloc (.cells #[.pointer (some ⟨t, 0, none⟩)] 64) := by
  refine callsIn_of_wp Tryz.func82 rfl h5 ?_ hro
  simp only [Tryz.ntmps82, List.size_toArray, List.length_cons, List.length_nil, Nat.reduceAdd, Nat.reduceSub, Array.replicate_succ, Array.replicate_zero, List.push_toArray, List.append_toArray, List.nil_append, List.cons_append]
  gi_wp2
  go_ret
  exact ⟨rfl, rfl⟩

theorem allSt_stops (F : Fence) (n : Nat) (h7 : F.fn 108) (hro : F.round = none) (hn : 1 ≤ n) (Bs B t : Nat) (v : Value) (rs : List RowSt) (w0 w : World) (hT : TabAtSt B w0 t v rs) (hw : Ext w0 w) (hBs : Bs < w.heap.size) (hc : w.cell? ⟨Bs, 0, none⟩ = some (.pointer (some ⟨t, 0, none⟩))) :
    SeqStopsK F n Tryz.prog 108 #[.pointer (some ⟨Bs, 0, none⟩)] encSt (Below w0.heap.size) (fun ys => ys = rs) (fun pre => pre <+: rs) rs.length w := fun l J Jx W hW hJ _ hY h0 => by
  have hc' := (hW.cell (p := ⟨Bs, 0, none⟩) hBs).trans hc
  have hX : Ext w0 W := hw.trans (show Ext w W from hW)
  have hT' := hT.ext hX
  have ht' := tabSt_c1 hT'.at_
  rcases hT'.rows.2 with ⟨rfl, h0'⟩ | ⟨g, cap, cur, rfl, _, hg, hcp, hm, hs, htk⟩
  · obtain rfl : rs = [] := List.eq_nil_of_length_eq_zero h0'
    exact (allSt1_nil_in F n h7 hro l Bs t J W hc' ht' h0).mono fun e W' ⟨he, hj⟩ => ⟨he, .inl ⟨_, rfl, hj⟩⟩
  · have hgl : g < w0.heap.size := by
      rcases hT.rows.2 with ⟨hv, _⟩ | ⟨g', cap', cur', hv, _, hg', _⟩
      · cases hv
      · cases hv; exact (Array.getElem?_eq_some_iff.1 hg').1
    exact allSt1_in F n h7 hro hn l Bs w0.heap.size t g cap rs hT.few hgl J Jx (fun s W' o hs => hJ s W' _ none hs (World.grownBy_alloc W' o none) (fun r e => by cases e)) hY W (Ext.size hX) hc' ht' (fun j x hx r hr => by
      have h1 : (cellsG cRowSt rs)[j * 7 + r]? = (cRowSt x)[r]? := flat_get cRowSt_len hx hr
      have hlt := (List.getElem?_eq_some_iff.1 hx).1
      rw [← h1, ← htk, List.getElem?_take, if_pos (by omega)]
      simp [World.cell?, hg]) h0

def cV (s : StepC) : List Value := [.int .i64 s.op, .string s.r.x.id.kind, .string s.r.x.id.name, .slice s.r.a2 s.r.n2 s.r.p2, .slice s.r.a3 s.r.n3 s.r.p3]
theorem cV_one (s : StepC) : ∀ u ∈ cV s, u.oneCell' = true := by
  intro u hu
  simp [cV] at hu
  rcases hu with rfl | rfl | rfl | rfl | rfl <;> rfl
def cellsV (l : List StepC) : List Value := l.flatMap cV
def valsSt (rs : List RowSt) : List StepC := rs.map RowSt.val

set_option maxRecDepth 100000 in
set_option maxHeartbeats 2000000 in
theorem valuesSt_in (F : Fence) (n : Nat) (h3 : F.fn 59) (h4 : F.fn 82) (h5 : F.fn 108) (hro : F.round = none) (hn : 3 ≤ n) (B t : Nat) (v : Value) (rs : List RowSt) (w : World) (hT : TabAtSt B w t v rs) (hf : rs.length ≤ 1000) :
    CallsIn F n Tryz.prog 59 #[.pointer (some ⟨t, 0, none⟩)] w fun e W' => ∃ v, e = .returned v ∧ W'.ownsRow w.heap.size 60 5 v rs.length (cellsV (valsSt rs)) ∧ Ext w W' := by
  have h1 : 1 ≤ n := by omega
  obtain ⟨i0, hi, hz0, hz1, hz2⟩ := info_of infoStep
  refine callsIn_of_wp_marks Tryz.func59 rfl h3 ?_ hro
  simp only [Tryz.ntmps59, List.size_toArray, List.length_cons, List.length_nil, Nat.reduceAdd, Nat.reduceSub, Array.replicate_succ, Array.replicate_zero, List.push_toArray, List.append_toArray, List.nil_append, List.cons_append]
  gi_wp2_with (gi_at_call 82; refine (allSt_in F (n - 1) h4 hro _ _).mono ?_; rintro e w' ⟨rfl, rfl⟩)
  have bO := Boxed.new w 23 (.slice none 0 0)
  have bN := Boxed.new (w.alloc (.cells #[.slice none 0 0] 23)) 64 (.pointer (some ⟨t, 0, none⟩))
  rw [World.size_alloc] at bN
  have hB0 : Below w.heap.size w ((w.alloc (.cells #[.slice none 0 0] 23)).alloc (.cells #[.pointer (some ⟨t, 0, none⟩)] 64)) := ((Below.refl _ w).alloc (Nat.le_refl _) _).alloc (by simp) _
  refine wpIn_rangeFunc_ownH hro h1 (gf := 108) (lb := #[.pointer (some ⟨w.heap.size + 1, 0, none⟩)]) rfl h5 (enters_of Tryz.func108 (by kernel_rfl) rfl)
    (allSt_stops F (n - 1) h5 hro (by omega) (w.heap.size + 1) B t v rs w _ hT hB0 (by simp) bN.cell) belowK_t (belowK_b (by simp; omega)) (Below.refl _ _) (fun _ => rfl)
    (fun pre W => (∃ v, Boxed W w.heap.size 23 v ∧ W.ownsRow w.heap.size 60 5 v pre.length (cellsV (valsSt pre)) ∧ True) ∧ Below w.heap.size w W)
    (fun _ _ _ => False)
    (OwnFrom.and (Own.from (holdsRow_own w.heap.size w.heap.size 23 60 5 (fun pre : List RowSt => pre.length) (fun pre => cellsV (valsSt pre)) (fun _ _ => True)) _) (ownFrom_below (Nat.le_refl _) (by simp; omega)))
    (fun _ _ _ _ _ hs _ _ => hs)
    ⟨⟨_, bO.alloc _, World.ownsRow_nil _ _ _ _, trivial⟩, hB0⟩
    (fun x a' W => ∃ Bx, w.heap.size < Bx ∧ W.heap[Bx]? = some (.cells #[.int .i64 x.val.op, .string x.val.r.x.id.kind, .string x.val.r.x.id.name, .slice x.val.r.a2 x.val.r.n2 x.val.r.p2, .slice x.val.r.a3 x.val.r.n3 x.val.r.p3] 60 (0, 0)) ∧ a' = { tmps := #[.pointer (some ⟨t, 0, none⟩), undef, .slice none 0 0, .pointer (some ⟨w.heap.size, 0, none⟩), undef, .pointer (some ⟨Bx, 0, none⟩), .pointer (some ⟨t, 0, none⟩), .func (.func 108) #[] #[.pointer (some ⟨w.heap.size + 1, 0, none⟩)], .agg #[.string x.key.kind, .string x.key.name], .agg #[.int .i64 x.val.op, .string x.val.r.x.id.kind, .string x.val.r.x.id.name, .slice x.val.r.a2 x.val.r.n2 x.val.r.p2, .slice x.val.r.a3 x.val.r.n3 x.val.r.p3], undef, undef, undef, undef, undef], defers := [] })
    (fun x a' _ X Y row hs hg hr => by
      obtain ⟨Bx, g1, g2, g3⟩ := hs
      refine ⟨Bx, g1, (hg.block Bx (Array.getElem?_eq_some_iff.1 g2).1 (fun e => ?_)).trans g2, g3⟩
      obtain ⟨_, o, ho, hc⟩ := hr Bx e.symm
      rw [g2] at ho; cases ho; cases hc)
    ?assign ?body ?done ?stop
  case assign =>
    rintro l pre x W K ⟨⟨v1, bS1, hr1, _⟩, hB1⟩ hK
    simp only [encSt]
    gi_wp2
    exact hK _ _ ((KeepsOthers.alloc _ _).from _) ((Below.refl _ W).alloc hB1.size _) ⟨⟨v1, bS1.alloc _, hr1.alloc _, trivial⟩, hB1.alloc hB1.size _⟩ ⟨W.heap.size, bS1.lt, World.alloc_heap_new W _, rfl⟩
  case body =>
    rintro l pre x a' W hl ⟨r, hr⟩ ⟨⟨v1, hv, hrow, _⟩, hB1⟩ ⟨Bx, hBx, hx, rfl⟩ hlt
    have hc := hv.cell
    obtain ⟨x0, x1, x2, x3, x4⟩ := five_at hx
    have hnew : ∀ j u, (cV x.val)[j]? = some u → (W.alloc (.cells (cV x.val).toArray 60)).cell? ((⟨W.heap.size, 0, none⟩ : Addr).add j) = some u := by
      intro j u hu
      rw [add_eq]
      refine Eq.trans (cellAt (heap_alloc_new W (.cells (cV x.val).toArray 60)) (0 + j)) ?_
      simpa using hu
    have hlen : pre.length + 1 ≤ 1000 := by omega
    gi_wp2_with (gi_at_builtin; refine wpListIn_append_own _ rfl _ _ 23 rfl w.heap.size 60 i0 (.agg #[.int .i64 0, .string ⟨#[]⟩, .string ⟨#[]⟩, .slice none 0 0, .slice none 0 0]) 5 88 Tryz.underlying23 hi hz0 hz1 hz2 rfl (by decide) _ _ _ rfl (hrow.alloc _) ⟨W.heap.size, 0, none⟩ 1 1 (cV x.val) rfl rfl hnew (cV_one _) (by unfold maxLen; omega) (by omega) (by have := hB1.size; simp; omega) ?_; intro v' w1 hown' hgrow _; obtain ⟨g', cap', rfl⟩ := ownsRow_succ hown'; obtain ⟨hv1, hv2, hr2, hk2, hb2⟩ := hv.appended (by decide) hrow hB1.size (Nat.le_refl _) hown' hgrow; have hc1 := hv1.cell; have hf1 := hv1.frozen)
    refine ⟨hk2.from _, hb2, ⟨_, hv2, ?_, trivial⟩, hB1.trans hb2⟩
    rw [show (pre ++ [x]).length = pre.length + 1 by simp, show cellsV (valsSt (pre ++ [x])) = cellsV (valsSt pre) ++ cV x.val by simp [cellsV, valsSt]]
    exact hr2
  case done =>
    rintro D ys W hD rfl ⟨⟨v1, hv, hrow, _⟩, hB1⟩ hK
    have hc := hv.cell
    gi_wp2
    refine ⟨by simp, .inl ⟨_, _, rfl, run_takeDeferred hK, ?_⟩⟩
    exact ⟨_, results_tmp rfl _ _ _, v1, rfl, ownsRow_putObj hrow _ hK rfl, hB1.trans (belowK_b (w := w) (Nat.le_refl _) W D _ _ (by simp at hD; omega) hK rfl rfl)⟩
  case stop =>
    rintro D c pre W _ _ h _
    exact h.elim
/-- The values of a table, in the order of their keys. -/
theorem valuesSt (B t : Nat) (v : Value) (rs : List RowSt) (w : World) (hT : TabAtSt B w t v rs) (hf : rs.length ≤ 1000) :
    Calls Tryz.prog 59 #[.pointer (some ⟨t, 0, none⟩)] w fun e W' => ∃ pa cap, e = .returned (.slice pa rs.length cap) ∧ Hid (W'.ownsRow w.heap.size 60 5 (.slice pa rs.length cap) rs.length (cellsV (valsSt rs))) ∧ Hid (Ext w W') := by
  refine (callsIn_wide (n := 3)).1 ?_
  refine (valuesSt_in _ 3 trivial trivial trivial rfl (by omega) B t v rs w hT hf).mono ?_
  rintro e W' ⟨u, rfl, hr, hx⟩
  obtain ⟨pa, cap, rfl⟩ := ownsRow_form hr
  exact ⟨pa, cap, rfl, hr, hx⟩

set_option maxRecDepth 100000 in
set_option maxHeartbeats 2000000 in
theorem keysSt_in (F : Fence) (n : Nat) (h3 : F.fn 50) (h4 : F.fn 82) (h5 : F.fn 108) (hro : F.round = none) (hn : 3 ≤ n) (B t : Nat) (v : Value) (rs : List RowSt) (w : World) (hT : TabAtSt B w t v rs) (hf : rs.length ≤ 1000) :
    CallsIn F n Tryz.prog 50 #[.pointer (some ⟨t, 0, none⟩)] w fun e W' => ∃ v, e = .returned v ∧ W'.ownsRow w.heap.size 52 2 v rs.length (cellsI (rs.map RowSt.key)) ∧ Ext w W' := by
  have h1 : 1 ≤ n := by omega
  obtain ⟨i0, hi, hz0, hz1, hz2⟩ := info_of infoID
  refine callsIn_of_wp_marks Tryz.func50 rfl h3 ?_ hro
  simp only [Tryz.ntmps50, List.size_toArray, List.length_cons, List.length_nil, Nat.reduceAdd, Nat.reduceSub, Array.replicate_succ, Array.replicate_zero, List.push_toArray, List.append_toArray, List.nil_append, List.cons_append]
  gi_wp2_with (gi_at_call 82; refine (allSt_in F (n - 1) h4 hro _ _).mono ?_; rintro e w' ⟨rfl, rfl⟩)
  have bO := Boxed.new w 54 (.slice none 0 0)
  have bN := Boxed.new (w.alloc (.cells #[.slice none 0 0] 54)) 64 (.pointer (some ⟨t, 0, none⟩))
  rw [World.size_alloc] at bN
  have hB0 : Below w.heap.size w ((w.alloc (.cells #[.slice none 0 0] 54)).alloc (.cells #[.pointer (some ⟨t, 0, none⟩)] 64)) := ((Below.refl _ w).alloc (Nat.le_refl _) _).alloc (by simp) _
  refine wpIn_rangeFunc_ownH hro h1 (gf := 108) (lb := #[.pointer (some ⟨w.heap.size + 1, 0, none⟩)]) rfl h5 (enters_of Tryz.func108 (by kernel_rfl) rfl)
    (allSt_stops F (n - 1) h5 hro (by omega) (w.heap.size + 1) B t v rs w _ hT hB0 (by simp) bN.cell) belowK_t (belowK_b (by simp; omega)) (Below.refl _ _) (fun _ => rfl)
    (fun pre W => (∃ v, Boxed W w.heap.size 54 v ∧ W.ownsRow w.heap.size 52 2 v pre.length (cellsI (pre.map RowSt.key)) ∧ True) ∧ Below w.heap.size w W)
    (fun _ _ _ => False)
    (OwnFrom.and (Own.from (holdsRow_own w.heap.size w.heap.size 54 52 2 (fun pre : List RowSt => pre.length) (fun pre => cellsI (pre.map RowSt.key)) (fun _ _ => True)) _) (ownFrom_below (Nat.le_refl _) (by simp; omega)))
    (fun _ _ _ _ _ hs _ _ => hs)
    ⟨⟨_, bO.alloc _, World.ownsRow_nil _ _ _ _, trivial⟩, hB0⟩
    (fun x a' W => ∃ Bx, w.heap.size < Bx ∧ W.heap[Bx]? = some (.cells #[.string x.key.kind, .string x.key.name] 52 (0, 0)) ∧ a' = { tmps := #[.pointer (some ⟨t, 0, none⟩), undef, .slice none 0 0, .pointer (some ⟨w.heap.size, 0, none⟩), .pointer (some ⟨Bx, 0, none⟩), .pointer (some ⟨t, 0, none⟩), .func (.func 108) #[] #[.pointer (some ⟨w.heap.size + 1, 0, none⟩)], .agg #[.string x.key.kind, .string x.key.name], .agg #[.int .i64 x.val.op, .string x.val.r.x.id.kind, .string x.val.r.x.id.name, .slice x.val.r.a2 x.val.r.n2 x.val.r.p2, .slice x.val.r.a3 x.val.r.n3 x.val.r.p3], undef, undef, undef, undef, undef], defers := [] })
    (fun x a' _ X Y row hs hg hr => by
      obtain ⟨Bx, g1, g2, g3⟩ := hs
      refine ⟨Bx, g1, (hg.block Bx (Array.getElem?_eq_some_iff.1 g2).1 (fun e => ?_)).trans g2, g3⟩
      obtain ⟨_, o, ho, hc⟩ := hr Bx e.symm
      rw [g2] at ho; cases ho; cases hc)
    ?assign ?body ?done ?stop
  case assign =>
    rintro l pre x W K ⟨⟨v1, bS1, hr1, _⟩, hB1⟩ hK
    simp only [encSt]
    gi_wp2
    exact hK _ _ ((KeepsOthers.alloc _ _).from _) ((Below.refl _ W).alloc hB1.size _) ⟨⟨v1, bS1.alloc _, hr1.alloc _, trivial⟩, hB1.alloc hB1.size _⟩ ⟨W.heap.size, bS1.lt, World.alloc_heap_new W _, rfl⟩
  case body =>
    rintro l pre x a' W hl ⟨r, hr⟩ ⟨⟨v1, hv, hrow, _⟩, hB1⟩ ⟨Bx, hBx, hx, rfl⟩ hlt
    have hc := hv.cell
    have x0 := tabSt_c0 hx; have x1 := tabSt_c1 hx
    have hnew : ∀ j u, (cI x.key)[j]? = some u → (W.alloc (.cells (cI x.key).toArray 52)).cell? ((⟨W.heap.size, 0, none⟩ : Addr).add j) = some u := by
      intro j u hu
      rw [add_eq]
      refine Eq.trans (cellAt (heap_alloc_new W (.cells (cI x.key).toArray 52)) (0 + j)) ?_
      simpa using hu
    have hlen : pre.length + 1 ≤ 1000 := by omega
    gi_wp2_with (gi_at_builtin; refine wpListIn_append_own _ rfl _ _ 54 rfl w.heap.size 52 i0 (.agg #[.string ⟨#[]⟩, .string ⟨#[]⟩]) 2 32 Tryz.underlying54 hi hz0 hz1 hz2 rfl (by decide) _ _ _ rfl (hrow.alloc _) ⟨W.heap.size, 0, none⟩ 1 1 (cI x.key) rfl rfl hnew (cI_one _) (by unfold maxLen; omega) (by omega) (by have := hB1.size; simp; omega) ?_; intro v' w1 hown' hgrow _; obtain ⟨g', cap', rfl⟩ := ownsRow_succ hown'; obtain ⟨hv1, hv2, hr2, hk2, hb2⟩ := hv.appended (by decide) hrow hB1.size (Nat.le_refl _) hown' hgrow; have hc1 := hv1.cell; have hf1 := hv1.frozen)
    refine ⟨hk2.from _, hb2, ⟨_, hv2, ?_, trivial⟩, hB1.trans hb2⟩
    rw [show (pre ++ [x]).length = pre.length + 1 by simp, show cellsI ((pre ++ [x]).map RowSt.key) = cellsI (pre.map RowSt.key) ++ cI x.key by simp [cellsI]]
    exact hr2
  case done =>
    rintro D ys W hD rfl ⟨⟨v1, hv, hrow, _⟩, hB1⟩ hK
    have hc := hv.cell
    gi_wp2
    refine ⟨by simp, .inl ⟨_, _, rfl, run_takeDeferred hK, ?_⟩⟩
    exact ⟨_, results_tmp rfl _ _ _, v1, rfl, ownsRow_putObj hrow _ hK rfl, hB1.trans (belowK_b (w := w) (Nat.le_refl _) W D _ _ (by simp at hD; omega) hK rfl rfl)⟩
  case stop =>
    rintro D c pre W _ _ h _
    exact h.elim
/-- The keys of a table, in the order of their keys. -/
theorem keysSt (B t : Nat) (v : Value) (rs : List RowSt) (w : World) (hT : TabAtSt B w t v rs) (hf : rs.length ≤ 1000) :
    Calls Tryz.prog 50 #[.pointer (some ⟨t, 0, none⟩)] w fun e W' => ∃ pa cap, e = .returned (.slice pa rs.length cap) ∧ Hid (W'.ownsRow w.heap.size 52 2 (.slice pa rs.length cap) rs.length (cellsI (rs.map RowSt.key))) ∧ Hid (Ext w W') := by
  refine (callsIn_wide (n := 3)).1 ?_
  refine (keysSt_in _ 3 trivial trivial trivial rfl (by omega) B t v rs w hT hf).mono ?_
  rintro e W' ⟨u, rfl, hr, hx⟩
  obtain ⟨pa, cap, rfl⟩ := ownsRow_form hr
  exact ⟨pa, cap, rfl, hr, hx⟩
end Go.Proofs.YtodhhjlemmmjcaaGreat
