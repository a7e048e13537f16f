/-
  A disk: how much room is left.
-/
import Derived.Test.YtpkhmgonkbpjjaaDkR
namespace Go.Proofs.Ytpkhmgonkbpjjaa
open Go.RowKit Go.Shelf

attribute [local go_sem] Go.World.cell?_alloc_some Oper.semAt_some
/-- How many bytes the file has that lies in a block. -/
def szA (fs : List Nat) (files : List FileS) (b : Nat) : Nat := sizeF files (fs.idxOf b)
theorem szA_at {fs : List Nat} {files : List FileS} (hn : fs.Nodup) {i : Nat} (hi : i < fs.length) : szA fs files (fs.getD i 0) = sizeF files i := by
  unfold szA
  rw [show fs.getD i 0 = fs[i] by simp [hi], hn.idxOf_getElem i hi]
theorem szA_sum {fs : List Nat} {files : List FileS} (hn : fs.Nodup) {l : List NmS} (h : ∀ x ∈ l, NmOk fs.length x) {rn : List RowF} (hp : rn.Perm (l.map (rowN fs))) : (rn.map fun x => szA fs files x.val).sum = usedN files l := by
  rw [sum_perm (hp.map _), List.map_map]
  unfold usedN
  congr 1
  apply List.map_congr_left
  intro x hx
  exact szA_at hn (h x hx).2
theorem szA_file {w : World} {fs gs : List Nat} {files : List FileS} (h : FilesAt w fs gs files) {b : Nat} (hb : b ∈ fs) : ∃ g f, FileAt w b g f ∧ szA fs files b = f.1.length := by
  obtain ⟨i, hi, rfl⟩ := List.mem_iff_getElem.1 hb
  obtain ⟨b', g, f, h1, h2, h3, h4⟩ := h.get (i := i) (by rw [← h.flen]; exact hi)
  rw [List.getElem?_eq_getElem hi] at h1
  obtain rfl : fs[i] = b' := Option.some.inj h1
  refine ⟨g, f, h4, ?_⟩
  unfold szA
  rw [h.fdup.idxOf_getElem i hi]
  simp [sizeF, h3]
set_option maxRecDepth 100000 in
set_option maxHeartbeats 4000000 in
theorem free_in (w : World) (d nm tn tl : Nat) (vn vl vc : Value) (kc sc : Int) (fs gs : List Nat) (rn rl : List RowF) (D : DskS) (hfew : D.chs.length ≤ 2000000000000) (h : DiskIn w d nm tn tl vn vl vc kc sc fs gs rn rl D) :
    CallsIn Fence.wide 9 Try.prog 73 #[.pointer (some ⟨d, 0, none⟩)] w fun e w' => e = .returned (.int .i64 ((D.room : Int) - (usedN D.files D.names : Int))) ∧ Ext w w' := by
  obtain ⟨c0, c1, c2, c3, c4⟩ := five_cells h.box
  have E0 := (Ext.refl w).alloc (.cells #[.int .i64 (D.room : Int)] 3)
  obtain ⟨d0, d1, d2, d3, d4⟩ := five_cells (ext_heap E0 h.box)
  obtain ⟨n0, n1, n2⟩ := three_at (ext_heap E0 h.names.nbox)
  replace h := hide h; replace E0 := hide E0
  refine callsIn_of_wp_marks Try.func73 rfl trivial ?_ rfl
  simp only [Try.ntmps73, List.size_toArray, List.length_cons, List.length_nil, Nat.reduceAdd, Nat.reduceSub, Array.replicate_succ, Array.replicate_zero, List.push_toArray, List.append_toArray, List.nil_append, List.cons_append]
  gi_wp2
  refine ⟨trivial, ?_⟩
  refine (allF_in Fence.wide 8 trivial rfl _ _).mono ?_
  rintro e w' ⟨rfl, rfl⟩
  gi_wp2
  have bO := Boxed.new w 3 (.int .i64 (D.room : Int))
  have bN := Boxed.new (w.alloc (.cells #[.int .i64 (D.room : Int)] 3)) 93 (.pointer (some ⟨tn, 0, none⟩))
  rw [World.size_alloc] at bN
  have hB0 : Below w.heap.size w ((w.alloc (.cells #[.int .i64 (D.room : Int)] 3)).alloc (.cells #[.pointer (some ⟨tn, 0, none⟩)] 93)) := ((Below.refl _ w).alloc (Nat.le_refl _) _).alloc (by simp) _
  have hT : TabAtF 0 w tn vn (rn.attach.map Subtype.val) := by rw [List.attach_map_subtype_val]; exact h.out.names.now
  have hbd : ∀ pre : List {x // x ∈ rn}, pre.length < rn.attach.length → (pre.map fun x => szA fs D.files x.1.val).sum ≤ 40000000000000000 := fun pre hp => by
    have h1 : ∀ l : List {x // x ∈ rn}, (l.map fun x => szA fs D.files x.1.val).sum ≤ l.length * 20000 := by
      intro l
      induction l with
      | nil => simp
      | cons y l ih =>
        have := sizeF_le (fun f hf => (h.out.ok.files f hf).2) (fs.idxOf y.1.val)
        simp only [List.map_cons, List.sum_cons, List.length_cons]
        unfold szA at ih ⊢
        omega
    have h2 := h1 pre
    have h3 := h.out.names.isNow.length_eq
    have h4 := play_len D.chs
    rw [List.length_map] at h3
    rw [List.length_attach] at hp
    omega
  have hrm := h.out.ok.room1
  refine wpIn_rangeFunc_ownH (F := Fence.wide) (n := 9) rfl (by omega) (gf := 82) (lb := #[.pointer (some ⟨w.heap.size + 1, 0, none⟩)]) rfl trivial (enters_of Try.func82 (by kernel_rfl) rfl)
    (allF_stops Subtype.val Fence.wide (9 - 1) trivial rfl (by omega) (w.heap.size + 1) 0 tn vn rn.attach (Below w.heap.size) w _ (fun g hg A B hk => ⟨hk.size, Below.block hk g (h.out.names.now.lt.2 g hg)⟩) hT hB0 (by simp) bN.cell) belowK_t (belowK_b (by simp; omega)) (Below.refl _ _) (fun _ => rfl)
    (fun pre W => (∃ z : Int, Boxed W w.heap.size 3 (.int .i64 z) ∧ z = (D.room : Int) - ((pre.map fun x => szA fs D.files x.1.val).sum : Nat)) ∧ Below w.heap.size w W)
    (fun _ _ _ => False)
    (OwnFrom.and (fun s X Y row hs hg hr => by
      obtain ⟨z, hb, he⟩ := hs
      exact ⟨z, hb.kept hg (fun e' => by obtain ⟨_, o, ho, hc⟩ := hr _ e'.symm; rw [show X.heap[w.heap.size]? = _ from hb] at ho; cases ho; cases hc), he⟩) (ownFrom_below (Nat.le_refl _) (by simp; omega)))
    (fun _ _ _ _ _ hs _ _ => hs)
    ⟨⟨_, bO.alloc _, by simp⟩, hB0⟩
    (fun x a' _ => a' = { tmps := #[.pointer (some ⟨d, 0, none⟩), undef, .int .i64 0, .pointer (some ⟨w.heap.size, 0, none⟩), undef, .pointer (some ⟨x.1.val, 0, none⟩), .pointer (some ⟨d, 0, none⟩), .pointer (some ⟨d, 0, none⟩), .pointer (some ⟨d, 0, none⟩), .int .i64 (D.room : Int), .pointer (some ⟨d, 0, none⟩), .pointer (some ⟨d, 0, none⟩), .pointer (some ⟨d, 1, none⟩), .pointer (some ⟨nm, 0, none⟩), .pointer (some ⟨nm, 0, none⟩), .pointer (some ⟨nm, 0, none⟩), .pointer (some ⟨tn, 0, none⟩), .func (.func 82) #[] #[.pointer (some ⟨w.heap.size + 1, 0, none⟩)], .string x.1.key, .pointer (some ⟨x.1.val, 0, none⟩), undef, undef, undef, undef, undef], defers := [] })
    (fun x a' _ X Y row hs hg hr => hs)
    ?assign ?body ?done ?stop
  case assign =>
    rintro l pre x W K ⟨⟨z, hv, hz⟩, hB1⟩ hK
    simp only [encF]
    gi_wp2
    exact hK _ _ ((KeepsOthers.refl _).from _) (Below.refl _ W) ⟨⟨z, hv, hz⟩, hB1⟩ rfl
  case body =>
    rintro l pre x a' W hl ⟨r, hr⟩ ⟨⟨z, hv, hz⟩, hB1⟩ rfl hlt
    have hxv : x.1.val ∈ fs := by
      obtain ⟨y, hy, hyx⟩ := List.mem_map.1 (h.out.names.isNow.mem_iff.1 x.2)
      have := (play_ok h.out.ok.chs y hy).2
      rw [← hyx]
      show fs.getD y.2 0 ∈ fs
      rw [List.getD_eq_getElem?_getD, List.getElem?_eq_getElem (by rw [h.out.files.flen]; exact this)]
      exact List.getElem_mem _
    obtain ⟨g, f, hF, hsz⟩ := szA_file h.out.files hxv
    have hFl : f.1.length ≤ 20000 := by
      rw [← hsz]; exact sizeF_le (fun f hf => (h.out.ok.files f hf).2) _
    have hpre := hbd pre hlt
    obtain ⟨z', hz'⟩ : ∃ z', z' = z - (f.1.length : Int) := ⟨_, rfl⟩
    have hwz : IntKind.i64.wrap (z - (f.1.length : Int)) = z' := by rw [IntKind.wrap_i64]; omega
    have hFW : FileAt W x.1.val g f := hF.ext hB1
    replace hz := hide hz; replace hz' := hide hz'; replace hsz := hide hsz; replace hpre := hide hpre
    have hc := hv.cell
    have hfz := hv.frozen
    gi_wp2
    refine wpIn_region_any (by kernel_rfl) ?_
    refine wpAnyIn_of_any (by kernel_rfl) (fun _ _ h => h) _ _ _ _ ?_
    change wpAny _ _ _ _ _ _ _ (World.drew _)
    refine wpAny_of_Z (z := 4) (S := fun w' => w'.cell? ⟨w.heap.size, 0, none⟩ = some (.int .i64 z)) _ _ _ _ ?_
    have hS : W.drew.cell? ⟨w.heap.size, 0, none⟩ = some (.int .i64 z) := hc
    refine wpAnyZ_take (i := 0) (v := .int .i64 z) rfl (by kernel_rfl) (by kernel_rfl) (by kernel_rfl) (by kernel_rfl) (fun _ _ _ h => h) (Or.inl ⟨by rfl, ?_⟩) hS ?_
    · intro w' hSw
      go_simp
    simp only [Act.put]
    refine wpAnyZ_take (i := 1) (v := .pointer (some ⟨x.1.val, 0, none⟩)) rfl (by kernel_rfl) (by kernel_rfl) (by kernel_rfl) (by kernel_rfl) (fun _ _ _ h => h) (Or.inl ⟨by rfl, ?_⟩) hS ?_
    · intro w' hSw
      go_simp
    simp only [Act.put]
    refine wpAnyZ_one (i := 2) (by kernel_rfl) rfl fun K hK => ?_
    go_simp
    refine (sizeP x.1.val g f W.drew (hFW.ext (Ext.refl W).drew)).mono ?_
    rintro e6 W1 ⟨rfl, rfl⟩
    dsimp only
    refine hK.out _ _ (fun _ => hS) (fun hS1 => ?_)
    clear hK K hS1
    refine wpAnyZ_take (i := 3) (v := .int .i64 z') rfl (by kernel_rfl) (by kernel_rfl) (by kernel_rfl) (by kernel_rfl) (fun _ _ _ h => h) (Or.inl ⟨by rfl, ?_⟩) hS ?_
    · intro w' hSw
      go_simp
    simp only [Act.put]
    refine wpAnyZ_one (i := 4) (by kernel_rfl) rfl fun K hK => ?_
    go_simp
    refine hK.out _ _ (fun h => absurd rfl h) (fun _ => ?_)
    clear hK K
    refine wpAnyZ_done (by kernel_rfl) ?_ _
    have hv2 : Boxed W.drew w.heap.size 3 (.int .i64 z) := hv
    have hb2 : Below w.heap.size W (W.drew.setCell ⟨w.heap.size, 0, none⟩ (.int .i64 z')) := Below.mono (((Ext.refl W).drew.kept (fun k => k = w.heap.size)).trans (kept_setCell W.drew ⟨w.heap.size, 0, none⟩ (.int .i64 z')) (fun _ _ h => h) |> fun hk => (⟨hk.os, hk.tape, hk.output, by have := hk.size; have := hB1.size; omega, fun k hk' => hk.block k (Nat.lt_of_lt_of_le hk' hB1.size) (by omega)⟩ : Below w.heap.size W _)) (Nat.le_refl _)
    refine ⟨((KeepsOthers.drew W).trans (KeepsOthers.setCell _ _ _)).from _, hb2, ⟨z', hv2.set _, ?_⟩, hB1.trans hb2⟩
    rw [hz'.out, hz.out, ← hsz.out, List.map_append, List.sum_append]
    simp
    omega
  case done =>
    rintro D' ys W hD rfl ⟨⟨z, hv, hz⟩, hB1⟩ hK
    have hc := hv.cell
    gi_wp2
    refine ⟨by simp, .inl ⟨_, _, rfl, run_takeDeferred hK, ?_⟩⟩
    refine ⟨_, results_tmp rfl _ _ _, ?_, hB1.trans (belowK_b (w := w) (Nat.le_refl _) W D' _ _ (by simp at hD; omega) hK rfl rfl)⟩
    have hu : (rn.map fun x => szA fs D.files x.val).sum = usedN D.files D.names := szA_sum h.out.files.fdup (by rw [h.out.files.flen]; exact play_ok h.out.ok.chs) h.out.names.isNow
    rw [← hu]; rfl
  case stop =>
    rintro D' c pre W _ _ h _
    exact h.elim
theorem freeP (w : World) (d nm tn tl : Nat) (vn vl vc : Value) (kc sc : Int) (fs gs : List Nat) (rn rl : List RowF) (D : DskS) (hfew : D.chs.length ≤ 2000000000000) (h : DiskIn w d nm tn tl vn vl vc kc sc fs gs rn rl D) :
    Calls Try.prog 73 #[.pointer (some ⟨d, 0, none⟩)] w fun e w' => e = .returned (.int .i64 ((D.room : Int) - (usedN D.files D.names : Int))) ∧ Ext w w' :=
  (callsIn_wide (n := 9)).1 (free_in w d nm tn tl vn vl vc kc sc fs gs rn rl D hfew h)
end Go.Proofs.Ytpkhmgonkbpjjaa
