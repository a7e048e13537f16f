/-
  The table E: all its keys and values, one by one.
-/
import Derived.RangeFuncNested
import Derived.RangeFuncBound
import Derived.RangeFuncCalls
import Derived.RangeFuncLeaves
import Derived.RangeFuncBox
import Derived.Shelf.Abstract
import Derived.Shelf.RegionOpen
import Derived.WalkKit
import Derived.OwnWalkIn
import Derived.TacticsInMore
import Derived.LoopNIn
import Derived.LoopIn
import Derived.Maps.AppendAt
import Derived.Test.YtfmcgdglalljgaaGreatDoorJ28
import Derived.Test.YtfmcgdglalljgaaGreatDoorRngA
import Derived.Test.YtfmcgdglalljgaaGreatDoorRngI
namespace Go.Proofs.YtfmcgdglalljgaaGreatDoor
open Go.RowKit Go.Shelf

attribute [local go_sem] Oper.semAt_some

/-- An entry and its block, among others, by rising IDs. -/
def insP (qs : List (EntD × Nat)) (x : EntD × Nat) : List (EntD × Nat) := qs.takeWhile (fun q => decide (cmpI q.1.id x.1.id < 0)) ++ x :: qs.dropWhile (fun q => decide (cmpI q.1.id x.1.id < 0))
def qsOf (es : List EntD) (bs : List Nat) : List (EntD × Nat) := (es.zip bs).foldl insP []
def toRow (q : EntD × Nat) : RowE := ⟨q.1.id, q.2⟩
theorem insP_row (qs : List (EntD × Nat)) (x : EntD × Nat) : (insP qs x).map toRow = insE (qs.map toRow) (toRow x) := by
  unfold insP insE
  rw [List.map_append, List.map_cons, List.takeWhile_map, List.dropWhile_map]
  rfl
theorem rsOf_qs (es : List EntD) (bs : List Nat) : rsOf es bs = (qsOf es bs).map toRow := by
  have key : ∀ (l qs : List (EntD × Nat)), l.foldl (fun r p => insE r ⟨p.1.id, p.2⟩) (qs.map toRow) = (l.foldl insP qs).map toRow := by
    intro l
    induction l with
    | nil => intro qs; rfl
    | cons p l ih =>
      intro qs
      rw [List.foldl_cons, List.foldl_cons, ← ih, insP_row]
      rfl
  exact key _ []
theorem insP_mem {qs : List (EntD × Nat)} {x y : EntD × Nat} : y ∈ insP qs x ↔ y = x ∨ y ∈ qs := by
  unfold insP
  conv => rhs; rw [← List.takeWhile_append_dropWhile (p := fun q : EntD × Nat => decide (cmpI q.1.id x.1.id < 0)) (l := qs)]
  simp only [List.mem_append, List.mem_cons]
  constructor
  · rintro (h | h | h)
    · exact .inr (.inl h)
    · exact .inl h
    · exact .inr (.inr h)
  · rintro (h | h | h)
    · exact .inr (.inl h)
    · exact .inl h
    · exact .inr (.inr h)
theorem qsOf_mem {es : List EntD} {bs : List Nat} {q : EntD × Nat} (h : q ∈ qsOf es bs) : q ∈ es.zip bs := by
  have key : ∀ (l qs : List (EntD × Nat)), q ∈ l.foldl insP qs → q ∈ l ∨ q ∈ qs := by
    intro l
    induction l with
    | nil => intro qs h; exact .inr h
    | cons p l ih =>
      intro qs h
      rcases ih _ h with h | h
      · exact .inl (List.mem_cons_of_mem _ h)
      · rcases insP_mem.1 h with rfl | h
        · exact .inl List.mem_cons_self
        · exact .inr h
  exact (key _ _ h).elim id (fun h => by cases h)
abbrev Ent (qs : List (EntD × Nat)) : Type := { q : EntD × Nat // q ∈ qs }
def encEn {qs : List (EntD × Nat)} (x : Ent qs) : Array Value := #[.agg #[.string x.1.1.id.kind, .string x.1.1.id.name], .pointer (some ⟨x.1.2, 0, none⟩)]

set_option maxRecDepth 100000 in
set_option maxHeartbeats 2000000 in
theorem allE1_in (F : Fence) (n : Nat) (h7 : F.fn 108) (hro : F.round = none) (hn : 1 ≤ n) (l Bs n₀ t g cap : Nat) (qs : List (EntD × Nat)) (hfew : qs.length ≤ 1000000) (hb : g < n₀) (J Jx : List (Ent qs) → World → Prop)
    (hJ : ∀ s W o, J s W → J s (W.alloc o))
    (hY : ∀ pre x W, J pre W → pre.length < qs.length → YieldAt F (n - 1) Tryz.prog l (encEn x) W fun e W' =>
      (e = .returned (.bool true) ∧ J (pre ++ [x]) W' ∧ Below n₀ W W') ∨ (e = .returned (.bool false) ∧ Jx (pre ++ [x]) W'))
    (W : World) (hnw : n₀ ≤ W.heap.size) (hBs : W.cell? ⟨Bs, 0, none⟩ = some (.pointer (some ⟨t, 0, none⟩))) (ht : W.cell? ⟨t, 1, none⟩ = some (.slice (some ⟨g, 0, none⟩) qs.length cap)) (hc : ∀ j x, qs[j]? = some x → ∀ r, r < 3 → W.cell? ⟨g, j * 3 + r, none⟩ = (cRowE (toRow x))[r]?) (h0 : J [] W) :
    CallsIn F n Tryz.prog 108 #[.func (.yield l) #[] #[], .pointer (some ⟨Bs, 0, none⟩)] W fun e W' => (∃ v, e = .returned v) ∧
      ((∃ ys, ys = qs.attach ∧ J ys W') ∨ (∃ pre, pre <+: qs.attach ∧ Jx pre W')) := by
  refine callsIn_of_wp Tryz.func108 rfl h7 ?_ hro
  simp only [Tryz.ntmps108, List.size_toArray, List.length_cons, List.length_nil, Nat.reduceAdd, Nat.reduceSub, Array.replicate_succ, Array.replicate_zero, List.push_toArray, List.append_toArray, List.nil_append, List.cons_append]
  gi_wp2
  gi_loopw [10] (fun i wr => ∃ k : Nat, k ≤ qs.length ∧ i = .int .i64 k ∧ J (qs.attach.take k) wr ∧ Below n₀ W wr)
    (fun i _ => qs.length - (intOf i).toNat)
  case atStart => exact ⟨0, Nat.zero_le _, rfl, by simpa using h0, Below.refl _ _⟩
  case round =>
    obtain ⟨k, hk, rfl, hJs, hnx⟩ := hrel
    by_cases hlt : k < qs.length
    · obtain ⟨x, hx⟩ : ∃ x, qs.attach[k]? = some x := ⟨qs.attach[k]'(by simpa using hlt), List.getElem?_eq_getElem _⟩
      have hx1 : qs[k]? = some x.1 := by
        obtain ⟨_, he⟩ := List.getElem?_eq_some_iff.1 hx
        rw [← he, List.getElem_attach]
        exact List.getElem?_eq_getElem hlt
      have cx : ∀ r, r < 3 → wr.cell? ⟨g, k * 3 + r, none⟩ = (cRowE (toRow x.1))[r]? := fun r hr => (hnx.cell (p := ⟨g, k * 3 + r, none⟩) hb).trans (hc k x.1 hx1 r hr)
      have c0 : wr.cell? ⟨g, k * 3, none⟩ = some (.string x.1.1.id.kind) := cx 0 (by omega)
      have c1 : wr.cell? ⟨g, k * 3 + 1, none⟩ = some (.string x.1.1.id.name) := cx 1 (by omega)
      have c2 : wr.cell? ⟨g, k * 3 + 2, none⟩ = some (.pointer (some ⟨x.1.2, 0, none⟩)) := cx 2 (by omega)
      clear cx
      replace hx1 := hide hx1
      have hka : (k : Int) < (qs.length : Int) := by omega
      obtain ⟨fn, tmps, assign, body, hy, hR⟩ := hY _ x (wr.alloc (.cells #[.string x.1.1.id.kind, .string x.1.1.id.name, .pointer (some ⟨x.1.2, 0, none⟩)] 180)) (hJ _ _ _ hJs) (by rw [List.length_take, List.length_attach]; omega)
      dsimp only [encEn] at hy
      have hnx2 : Below n₀ W (wr.alloc (.cells #[.string x.1.1.id.kind, .string x.1.1.id.name, .pointer (some ⟨x.1.2, 0, none⟩)] 180)) := hnx.alloc (Nat.le_trans hnw hnx.size) _
      replace hx := hide hx
      gi_wp2
      refine hR.mono ?_
      rintro e W3 (⟨rfl, hJ3, hk3⟩ | ⟨rfl, hJx3⟩)
      · gi_wp2
        go_roundw
        case rel => exact ⟨k + 1, by omega, by simp, by rw [List.take_add_one, hx.out]; exact hJ3, hnx2.trans hk3⟩
        case measure => simp [intOf]; omega
      · gi_wp2
        refine bodyPost_ret (results_none rfl _ _ _) rfl ?_
        exact ⟨⟨_, rfl⟩, .inr ⟨_, ⟨qs.attach.drop (k + 1), by rw [show qs.attach.take k ++ [x] = qs.attach.take (k + 1) by rw [List.take_add_one, hx.out]; rfl, List.take_append_drop]⟩, hJx3⟩⟩
    · obtain rfl : k = qs.length := by omega
      gi_wp2
      go_end0
      exact ⟨⟨_, rfl⟩, .inl ⟨_, rfl, by have := List.take_length (l := qs.attach); rw [List.length_attach] at this; rw [this] at hJs; exact hJs⟩⟩

set_option maxRecDepth 100000 in
set_option maxHeartbeats 1000000 in
theorem allE1_nil_in (F : Fence) (n : Nat) (h7 : F.fn 108) (hro : F.round = none) (l Bs t : Nat) {qs : List (EntD × Nat)} (J : List (Ent qs) → World → Prop) (W : World) (hBs : W.cell? ⟨Bs, 0, none⟩ = some (.pointer (some ⟨t, 0, none⟩))) (ht : W.cell? ⟨t, 1, none⟩ = some (.slice none 0 0)) (h0 : J [] W) :
    CallsIn F n Tryz.prog 108 #[.func (.yield l) #[] #[], .pointer (some ⟨Bs, 0, none⟩)] W fun e W' => (∃ v, e = .returned v) ∧ J [] W' := by
  refine callsIn_of_wp Tryz.func108 rfl h7 ?_ hro
  simp only [Tryz.ntmps108, List.size_toArray, List.length_cons, List.length_nil, Nat.reduceAdd, Nat.reduceSub, Array.replicate_succ, Array.replicate_zero, List.push_toArray, List.append_toArray, List.nil_append, List.cons_append]
  gi_wp2
  gi_loopw [10] (fun i wr => i = .int .i64 0 ∧ J [] wr) (fun _ _ => 0)
  case atStart => exact ⟨rfl, h0⟩
  case round =>
    obtain ⟨rfl, hJs⟩ := hrel
    gi_wp2
    go_end0
    exact ⟨⟨_, rfl⟩, hJs⟩

set_option maxHeartbeats 1000000 in
theorem allE_in (F : Fence) (n : Nat) (h5 : F.fn 74) (hro : F.round = none) (t : Nat) (w : World) :
    CallsIn F n Tryz.prog 74 #[.pointer (some ⟨t, 0, none⟩)] w fun e w' => e = .returned (.func (.func 108) #[] #[.pointer (some ⟨w.heap.size, 0, none⟩)]) ∧ w' = w.alloc (.cells #[.pointer (some ⟨t, 0, none⟩)] 123) := by
  refine callsIn_of_wp Tryz.func74 rfl h5 ?_ hro
  simp only [Tryz.ntmps74, List.size_toArray, List.length_cons, List.length_nil, Nat.reduceAdd, Nat.reduceSub, Array.replicate_succ, Array.replicate_zero, List.push_toArray, List.append_toArray, List.nil_append, List.cons_append]
  gi_wp2
  go_ret
  exact ⟨rfl, rfl⟩

theorem allE_stops (F : Fence) (n : Nat) (h7 : F.fn 108) (hro : F.round = none) (hn : 1 ≤ n) (Bs B t : Nat) (v : Value) (qs : List (EntD × Nat)) (w0 w : World) (hT : TabAtE B w0 t v (qs.map toRow)) (hw : Ext w0 w) (hBs : Bs < w.heap.size) (hc : w.cell? ⟨Bs, 0, none⟩ = some (.pointer (some ⟨t, 0, none⟩))) :
    SeqStopsK F n Tryz.prog 108 #[.pointer (some ⟨Bs, 0, none⟩)] (encEn (qs := qs)) (Below w0.heap.size) (fun ys => ys = qs.attach) (fun pre => pre <+: qs.attach) qs.length w := fun l J Jx W hW hJ _ hY h0 => by
  have hc' := (hW.cell (p := ⟨Bs, 0, none⟩) hBs).trans hc
  have hX : Ext w0 W := hw.trans (show Ext w W from hW)
  have hT' := hT.ext hX
  have ht' := tabE_c1 hT'.at_
  rcases hT'.rows.2 with ⟨rfl, h0'⟩ | ⟨g, cap, cur, rfl, _, hg, hcp, hm, hs, htk⟩
  · obtain rfl : qs = [] := List.eq_nil_of_length_eq_zero (by simpa using h0')
    exact (allE1_nil_in F n h7 hro l Bs t J W hc' ht' h0).mono fun e W' ⟨he, hj⟩ => ⟨he, .inl ⟨_, rfl, hj⟩⟩
  · have hgl : g < w0.heap.size := by
      rcases hT.rows.2 with ⟨hv, _⟩ | ⟨g', cap', cur', hv, _, hg', _⟩
      · cases hv
      · cases hv; exact (Array.getElem?_eq_some_iff.1 hg').1
    exact allE1_in F n h7 hro hn l Bs w0.heap.size t g cap qs (by simpa using hT.few) hgl J Jx (fun s W' o hs => hJ s W' _ none hs (World.grownBy_alloc W' o none) (fun r e => by cases e)) hY W (Ext.size hX) hc' (by simpa using ht') (fun j x hx r hr => by
      have hx' : (qs.map toRow)[j]? = some (toRow x) := by rw [List.getElem?_map, hx]; rfl
      have h1 : (cellsG cRowE (qs.map toRow))[j * 3 + r]? = (cRowE (toRow x))[r]? := flat_get cRowE_len hx' hr
      have hlt := (List.getElem?_eq_some_iff.1 hx').1
      rw [← h1, ← htk, List.getElem?_take, if_pos (by omega)]
      simp [World.cell?, hg]) h0

end Go.Proofs.YtfmcgdglalljgaaGreatDoor
