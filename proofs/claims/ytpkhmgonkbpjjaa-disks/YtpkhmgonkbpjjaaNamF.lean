/-
  The table of files: its keys as a list; the names of a disk.
-/
import Derived.Test.YtpkhmgonkbpjjaaDkA
import Derived.Test.YtpkhmgonkbpjjaaValues
namespace Go.Proofs.Ytpkhmgonkbpjjaa
open Go.RowKit Go.Shelf

attribute [local go_sem] Oper.semAt_some

theorem cellAtF {w : World} {k : Nat} {cs : Array Value} {t : TypeId} {fz : Nat × Nat} (h : w.heap[k]? = some (.cells cs t fz)) (j : Nat) : w.cell? ⟨k, j, none⟩ = cs[j]? := by simp [World.cell?, h]
def cellsT (l : List ByteArray) : List Value := l.map Value.string

set_option maxRecDepth 100000 in
set_option maxHeartbeats 2000000 in
theorem keysF_in (F : Fence) (n : Nat) (h3 : F.fn 58) (h4 : F.fn 63) (h5 : F.fn 82) (hro : F.round = none) (hn : 3 ≤ n) (B t : Nat) (v : Value) (rs : List RowF) (w : World) (hT : TabAtF B w t v rs) :
    CallsIn F n Try.prog 58 #[.pointer (some ⟨t, 0, none⟩)] w fun e W' => ∃ v, e = .returned v ∧ W'.ownsRow w.heap.size 9 1 v rs.length (cellsT (rs.map RowF.key)) ∧ Ext w W' := by
  have h1 : 1 ≤ n := by omega
  have hf := hT.few
  have hlt : ∀ g, v.ownBlock = some g → g < w.heap.size := fun g hg => (hT.rows.lt g hg).2
  obtain ⟨i0, hi, hz0, hz1, hz2⟩ := info_of infoString
  refine callsIn_of_wp_marks Try.func58 rfl h3 ?_ hro
  simp only [Try.ntmps58, List.size_toArray, List.length_cons, List.length_nil, Nat.reduceAdd, Nat.reduceSub, Array.replicate_succ, Array.replicate_zero, List.push_toArray, List.append_toArray, List.nil_append, List.cons_append]
  gi_wp2_with (gi_at_call 63; refine (allF_in F (n - 1) h4 hro _ _).mono ?_; rintro e w' ⟨rfl, rfl⟩)
  have bO := Boxed.new w 64 (.slice none 0 0)
  have bN := Boxed.new (w.alloc (.cells #[.slice none 0 0] 64)) 93 (.pointer (some ⟨t, 0, none⟩))
  rw [World.size_alloc] at bN
  have hB0 : Below w.heap.size w ((w.alloc (.cells #[.slice none 0 0] 64)).alloc (.cells #[.pointer (some ⟨t, 0, none⟩)] 93)) := ((Below.refl _ w).alloc (Nat.le_refl _) _).alloc (by simp) _
  refine wpIn_rangeFunc_ownH hro h1 (gf := 82) (lb := #[.pointer (some ⟨w.heap.size + 1, 0, none⟩)]) rfl h5 (enters_of Try.func82 (by kernel_rfl) rfl)
    (allF_stops id F (n - 1) h5 hro (by omega) (w.heap.size + 1) B t v rs (Below w.heap.size) w _ (fun g hg A B h => ⟨h.size, h.block g (hlt g hg)⟩) (by rw [List.map_id]; exact hT) hB0 (by simp) bN.cell) belowK_t (belowK_b (by simp; omega)) (Below.refl _ _) (fun _ => rfl)
    (fun pre W => (∃ v, Boxed W w.heap.size 64 v ∧ W.ownsRow w.heap.size 9 1 v pre.length (cellsT (pre.map RowF.key)) ∧ True) ∧ Below w.heap.size w W)
    (fun _ _ _ => False)
    (OwnFrom.and (Own.from (holdsRow_own w.heap.size w.heap.size 64 9 1 (fun pre : List RowF => pre.length) (fun pre => cellsT (pre.map RowF.key)) (fun _ _ => True)) _) (ownFrom_below (Nat.le_refl _) (by simp; omega)))
    (fun _ _ _ _ _ hs _ _ => hs)
    ⟨⟨_, bO.alloc _, World.ownsRow_nil _ _ _ _, trivial⟩, hB0⟩
    (fun x a' _ => a' = { tmps := #[.pointer (some ⟨t, 0, none⟩), undef, .slice none 0 0, .pointer (some ⟨w.heap.size, 0, none⟩), .string x.key, .pointer (some ⟨t, 0, none⟩), .func (.func 82) #[] #[.pointer (some ⟨w.heap.size + 1, 0, none⟩)], .string x.key, .pointer (some ⟨x.val, 0, none⟩), undef, undef, undef, undef, undef], defers := [] })
    (fun x a' _ X Y row hs hg hr => hs)
    ?assign ?body ?done ?stop
  case assign =>
    rintro l pre x W K ⟨⟨v1, bS1, hr1, _⟩, hB1⟩ hK
    simp only [encF, id]
    gi_wp2
    exact hK _ _ ((KeepsOthers.refl _).from _) (Below.refl _ W) ⟨⟨v1, bS1, hr1, trivial⟩, hB1⟩ rfl
  case body =>
    rintro l pre x a' W hl ⟨r, hr⟩ ⟨⟨v1, hv, hrow, _⟩, hB1⟩ rfl hlt
    have hc := hv.cell
    have hnew : ∀ j u, (cellsT [x.key])[j]? = some u → (W.alloc (.cells (cellsT [x.key]).toArray 9)).cell? ((⟨W.heap.size, 0, none⟩ : Addr).add j) = some u := by
      intro j u hu
      rw [add_eq]
      refine Eq.trans (cellAtF (heap_alloc_new W (.cells (cellsT [x.key]).toArray 9)) (0 + j)) ?_
      simpa using hu
    have hone : ∀ u ∈ cellsT [x.key], u.oneCell' = true := by
      intro u hu
      simp [cellsT] at hu
      subst hu; rfl
    have hlen : pre.length + 1 ≤ 2000000000000 := by omega
    gi_wp2_with (gi_at_builtin; refine wpListIn_append_own _ rfl _ _ 64 rfl w.heap.size 9 i0 (.string ⟨#[]⟩) 1 16 Try.underlying64 hi hz0 hz1 hz2 rfl (by decide) _ _ _ rfl (hrow.alloc _) ⟨W.heap.size, 0, none⟩ 1 1 (cellsT [x.key]) rfl rfl hnew hone (by unfold maxLen; omega) (by omega) (by have := hB1.size; simp; omega) ?_; intro v' w1 hown' hgrow _; obtain ⟨g', cap', rfl⟩ := ownsRow_succ hown'; obtain ⟨hv1, hv2, hr2, hk2, hb2⟩ := hv.appended (by decide) hrow hB1.size (Nat.le_refl _) hown' hgrow; have hc1 := hv1.cell; have hf1 := hv1.frozen)
    refine ⟨hk2.from _, hb2, ⟨_, hv2, ?_, trivial⟩, hB1.trans hb2⟩
    rw [show (pre ++ [x]).length = pre.length + 1 by simp, show cellsT ((pre ++ [x]).map RowF.key) = cellsT (pre.map RowF.key) ++ cellsT [x.key] by simp [cellsT]]
    exact hr2
  case done =>
    rintro D ys W hD rfl ⟨⟨v1, hv, hrow, _⟩, hB1⟩ hK
    have hc := hv.cell
    gi_wp2
    refine ⟨by simp, .inl ⟨_, _, rfl, run_takeDeferred hK, ?_⟩⟩
    exact ⟨_, results_tmp rfl _ _ _, v1, rfl, ownsRow_putObj hrow _ hK rfl, hB1.trans (belowK_b (w := w) (Nat.le_refl _) W D _ _ (by simp at hD; omega) hK rfl rfl)⟩
  case stop =>
    rintro D c pre W _ _ h _
    exact h.elim
/-- The keys of a table, in their order. -/
theorem keysF (B t : Nat) (v : Value) (rs : List RowF) (w : World) (hT : TabAtF B w t v rs) :
    Calls Try.prog 58 #[.pointer (some ⟨t, 0, none⟩)] w fun e W' => ∃ pa cap, e = .returned (.slice pa rs.length cap) ∧ Hid (W'.ownsRow w.heap.size 9 1 (.slice pa rs.length cap) rs.length (cellsT (rs.map RowF.key))) ∧ Hid (Ext w W') := by
  refine (callsIn_wide (n := 3)).1 ?_
  refine (keysF_in _ 3 trivial trivial trivial rfl (by omega) B t v rs w hT).mono ?_
  rintro e W' ⟨u, rfl, hr, hx⟩
  obtain ⟨pa, cap, rfl⟩ := ownsRow_form hr
  exact ⟨pa, cap, rfl, hr, hx⟩
/-- Names in their order. -/
def NamesOf (D : DskS) (l : List ByteArray) : Prop := l.Perm (D.names.map Prod.fst) ∧ l.Pairwise fun a b => cmpS a b < 0
/-- A list of names comes out. -/
def OutN (w : World) (D : DskS) (e : Ending) (w' : World) : Prop :=
  ∃ (l : List ByteArray) (pa : Option Addr) (cap : Nat), e = .returned (.slice pa l.length cap) ∧ Hid (NamesOf D l) ∧ Hid (w'.ownsRow w.heap.size 9 1 (.slice pa l.length cap) l.length (cellsT l)) ∧ Hid (Ext w w')

set_option maxRecDepth 100000 in
theorem namesP (O : Nat → Prop) (w : World) (d : Nat) (D : DskS) (h : DiskAt O w d D) :
    Calls Try.prog 24 #[.pointer (some ⟨d, 0, none⟩)] w (OutN w D) := by
  obtain ⟨nm, tn, tl, vn, vl, vc, kc, sc, fs, gs, rn, rl, h, hO⟩ := h
  have c1 := (five_cells h.box).2.1
  have n0 : w.cell? ⟨nm, 0, none⟩ = some (.pointer (some ⟨tn, 0, none⟩)) := by simp [World.cell?, h.names.nbox]
  have hk := hide (keysF 0 tn vn rn w h.names.now)
  have hP : Hid (NamesOf D (rn.map RowF.key)) := by
    constructor
    · have h1 := h.names.isNow.map RowF.key
      rw [List.map_map] at h1
      exact h1
    · exact List.pairwise_map.2 h.names.now.up
  replace h := hide h
  have hl : (rn.map RowF.key).length = rn.length := List.length_map ..
  generalize rn.map RowF.key = l at hP hk hl
  rw [← hl] at hk
  replace hl := hide hl
  go_enter Try.func24, Try.ntmps24
  go_wp2_with fail
  refine hk.out.mono ?_
  rintro e w1 ⟨pa, cap, rfl, hr, X⟩
  go_wp2_with fail
  go_ret
  exact ⟨l, pa, cap, rfl, hP, hr, X⟩
end Go.Proofs.Ytpkhmgonkbpjjaa
