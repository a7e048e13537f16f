/-
  A disk: it crashes.
-/
import Derived.Test.YtpkhmgonkbpjjaaDkF
import Derived.Deep.CutRange
namespace Go.Proofs.Ytpkhmgonkbpjjaa
open Go.RowKit Go.Shelf

attribute [local go_sem] Go.World.cell?_alloc_some Oper.semAt_some
theorem crashF_congr {keep : Int} {is js : List Nat} {fs : List FileS} (h : ∀ i, i ∈ is ↔ i ∈ js) : crashF keep is fs = crashF keep js fs := by
  apply List.ext_getElem?
  intro j
  rw [crashF_get, crashF_get]
  congr 1
  funext f
  simp only [h j]
theorem crashF_nil (keep : Int) (fs : List FileS) : crashF keep [] fs = fs := by
  apply List.ext_getElem?
  intro j
  rw [crashF_get]
  cases fs[j]? <;> simp
theorem FilesAt.others {X Y : World} {row : Option Nat} {fs gs : List Nat} {files : List FileS} (h : FilesAt X fs gs files) (hg : X.grownBy Y row) (hr : ∀ r, row = some r → ∃ o : Obj, X.heap[r]? = some o ∧ o.isCells = false) : FilesAt Y fs gs files := by
  have k : Kept (fun k => row = some k) X Y := ⟨hg.os, hg.tape, hg.output, hg.size, fun k hk hn => hg.block k hk fun e => hn e.symm⟩
  refine h.kept k (fun b hb e => ?_) (fun b hb e => ?_)
  · obtain ⟨o, ho, hc⟩ := hr b e
    obtain ⟨c, fz, h1⟩ := h.fs_at hb
    rw [h1] at ho; cases ho; cases hc
  · obtain ⟨o, ho, hc⟩ := hr b e
    obtain ⟨c, fz, h1⟩ := h.gs_at hb
    rw [h1] at ho; cases ho; cases hc
theorem idx_mem {fs : List Nat} (hn : fs.Nodup) {l : List NmS} (h : ∀ x ∈ l, NmOk fs.length x) {rn : List RowF} (hp : rn.Perm (l.map (rowN fs))) (i : Nat) : i ∈ (rn.map fun x => fs.idxOf x.val) ↔ i ∈ l.map Prod.snd := by
  have e : ((l.map (rowN fs)).map fun x => fs.idxOf x.val) = l.map Prod.snd := by
    rw [List.map_map]
    apply List.map_congr_left
    intro x hx
    have hi := (h x hx).2
    show fs.idxOf (fs.getD x.2 0) = x.2
    rw [show fs.getD x.2 0 = fs[x.2] by simp [hi], hn.idxOf_getElem x.2 hi]
  rw [(hp.map _).mem_iff, e]
theorem set_same {l : List Nat} {i x : Nat} (h : l[i]? = some x) : l.set i x = l := by
  obtain ⟨hi, rfl⟩ := List.getElem?_eq_some_iff.1 h
  exact List.set_getElem_self hi
/-- A piece of code that ends in no other way than at its end. -/
theorem wp_quiet {P : Program} {c : Code} {K : Act → World → Prop} {Q : Exit → Act → World → Prop} {a : Act} {w : World} (h : c.wp P (Exit.then K fun _ _ _ => False) a w) : c.wp P (Exit.then K Q) a w :=
  Code.wp_mono (fun e a w h' => by cases e <;> first | exact h' | exact h'.elim) h
/-- What a crash leaves. -/
def CrIs (w : World) (d nm tn tl : Nat) (vn vl vc : Value) (fs gs : List Nat) (D : DskS) (e : Ending) (w' : World) : Prop :=
  ∃ tn' vn' vl' rn' rl', e = .returned (.tuple #[]) ∧ Hid (DiskIn w' d nm tn' tl vn' vl' (.slice none 0 0) 0 0 fs gs rn' rl' D) ∧ Hid (Kept (DFoot d nm tn tl vn vl vc fs gs) w w' ∧ ∀ k, DFoot d nm tn' tl vn' vl' (.slice none 0 0) fs gs k → DFoot d nm tn tl vn vl vc fs gs k ∨ w.heap.size ≤ k)

theorem cr_done {w w0 w1 w2 W W4 W5 : World} {d nm tn tl tn' D' m : Nat} {vn vl vc vn' vl' : Value} {kc sc : Int} {fs gs : List Nat} {rn rl rn' rl' : List RowF} {D : DskS} {keep names : Int}
    (h : DiskIn w d nm tn tl vn vl vc kc sc fs gs rn rl D) (E0 : Ext w w0) (hm : m = atMostS names (D.chs.length - D.last)) (k1 : NamesIn w1 nm tn' tl vn' vl' (.slice none 0 0) fs rn' rl' (D.chs.take (D.last + m)) (D.last + m))
    (k2 : Kept (NFoot nm tn tl vn vl vc) w0 w1 ∧ ∀ k, NFoot nm tn' tl vn' vl' (.slice none 0 0) k → NFoot nm tn tl vn vl vc k ∨ w0.heap.size ≤ k) (E2 : Ext w1 w2) (F1 : FilesAt w1 fs gs D.files)
    (h1 : FilesAt W fs gs (crashF keep (rn'.map fun x => fs.idxOf x.val) D.files)) (h2 : Kept (· ∈ fs) w2 W) (K4 : Kept (· = d) W W4) (dbz : W4.heap[d]? = some (.cells #[.int .i64 (D.room : Int), .pointer (some ⟨nm, 0, none⟩), .int .i64 0, .int .i64 0, .int .i64 0] 54 (0, 0)))
    (dbw : ∃ c fz, W.heap[d]? = some (.cells c 54 fz)) (K5 : Kept (· = D') W4 W5) (hD : w1.heap.size ≤ D') (hD2 : ∀ b, b ∈ fs ∨ b ∈ gs → b ≠ D') : CrIs w d nm tn tl vn vl vc fs gs (D.crash keep names) (.returned (.tuple #[])) W5 := by
  have s0 := Ext.size E0
  have s1 := k2.1.size
  have s2 := Ext.size E2
  have s3 := h2.size
  have s4 := K4.size
  have N2 := (k1.ext E2).kept h2 (fun j hj hm => by
    obtain ⟨c, fz, hc⟩ := F1.fs_at hm
    exact k1.not hc (by unfold NTy; decide) hj)
  obtain ⟨c, fz, hc⟩ := dbw
  have N4 := N2.kept K4 (fun j hj e => by subst e; exact N2.not hc (by unfold NTy; decide) hj)
  have ltw1 : ∀ j, NFoot nm tn' tl vn' vl' (.slice none 0 0) j → j < w1.heap.size := fun j hj => by
    obtain ⟨c, t, fz, h3, _⟩ := k1.at hj
    exact (Array.getElem?_eq_some_iff.1 h3).1
  have N5 := N4.kept K5 (fun j hj e => by have := ltw1 j hj; omega)
  have dlt : d < w.heap.size := (Array.getElem?_eq_some_iff.1 h.box).1
  have F4 := h1.kept K4 (fun b hb e => by obtain ⟨c', fz', hc'⟩ := h1.fs_at hb; exact tells hc' hc (by decide) e) (fun b hb e => by obtain ⟨c', fz', hc'⟩ := h1.gs_at hb; exact tells hc' hc (by decide) e)
  have F5 := F4.kept K5 (fun b hb => hD2 b (.inl hb)) (fun b hb => hD2 b (.inr hb))
  have hf : crashF keep (rn'.map fun x => fs.idxOf x.val) D.files = (D.crash keep names).files := by
    show _ = crashF keep ((playN (D.chs.take (D.last + atMostS names (D.chs.length - D.last)))).map Prod.snd) D.files
    rw [← hm]
    exact crashF_congr (idx_mem F1.fdup (by rw [F1.flen]; exact play_ok fun c hc => h.ok.chs c (List.mem_of_mem_take hc)) k1.isNow)
  rw [hf] at F5
  have hn : NamesIn W5 nm tn' tl vn' vl' (.slice none 0 0) fs rn' rl' (D.crash keep names).chs (D.crash keep names).last := by
    show NamesIn _ _ _ _ _ _ _ _ _ _ (D.chs.take (D.last + atMostS names (D.chs.length - D.last))) (D.last + atMostS names (D.chs.length - D.last))
    rw [← hm]; exact N5
  refine ⟨tn', vn', vl', rn', rl', rfl, ⟨K5.heap dbz (by omega), hn, F5, h.ok.crash _ _, Nat.zero_le _, fun hz => absurd rfl hz⟩, ?_, fun k hk => ?_⟩
  · have A1 : Kept (DFoot d nm tn tl vn vl vc fs gs) w w1 := (E0.kept _).trans k2.1 (fun k _ hk => .inr (.inl hk))
    have A2 : Kept (DFoot d nm tn tl vn vl vc fs gs) w W := (A1.trans (E2.kept fun _ => False) (fun _ _ hk => hk.elim)).trans h2 (fun k _ hk => .inr (.inr (.inl hk)))
    exact (A2.trans K4 (fun k _ hk => .inl hk)).trans K5 (fun k hk hk' => by have := h1.flen; omega)
  · rcases hk with hk | hk | hk | hk
    · exact .inl (.inl hk)
    · rcases k2.2 k hk with h3 | h3
      · exact .inl (.inr (.inl h3))
      · exact .inr (by omega)
    · exact .inl (.inr (.inr (.inl hk)))
    · exact .inl (.inr (.inr (.inr hk)))

set_option maxRecDepth 100000 in
set_option maxHeartbeats 4000000 in
theorem crash_in (w : World) (d nm tn tl : Nat) (vn vl vc : Value) (kc sc : Int) (fs gs : List Nat) (rn rl : List RowF) (D : DskS) (keep names : Int) (hfew : D.chs.length + 1 ≤ 2000000000000) (h : DiskIn w d nm tn tl vn vl vc kc sc fs gs rn rl D) :
    CallsIn Fence.wide 9 Try.prog 30 #[.pointer (some ⟨d, 0, none⟩), .int .i64 keep, .int .i64 names] w (CrIs w d nm tn tl vn vl vc fs gs (D.crash keep names)) := by
  have E0 := (Ext.refl w).alloc (.cells #[.int .i64 keep] 3)
  have kb := heap_alloc_new w (.cells #[.int .i64 keep] 3)
  obtain ⟨pc, cc, rfl⟩ := ownsRow_form h.names.rows
  have dbx := ext_heap E0 h.box
  have nbx := ext_heap E0 h.names.nbox
  obtain ⟨c0, c1, c2, c3, c4⟩ := five_cells dbx
  obtain ⟨n0, n1, n2⟩ := three_at nbx
  obtain ⟨m, hm⟩ : ∃ m, m = atMostS names (D.chs.length - D.last) := ⟨_, rfl⟩
  have hml : D.last + m ≤ D.chs.length := by have := atMostS_le names (D.chs.length - D.last); have := h.names.le; omega
  have hs := hide (settleN _ nm tn tl vn vl _ fs rn rl D.chs D.last m (h.names.ext E0.drew) hfew hml)
  replace h := hide h; replace E0 := hide E0; replace kb := hide kb; replace dbx := hide dbx; replace nbx := hide nbx; replace hm := hide hm; replace hml := hide hml
  refine callsIn_of_wp_marks Try.func30 rfl trivial ?_ rfl
  simp only [Try.ntmps30, List.size_toArray, List.length_cons, List.length_nil, Nat.reduceAdd, Nat.reduceSub, Array.replicate_succ, Array.replicate_zero, List.push_toArray, List.append_toArray, List.nil_append, List.cons_append]
  refine wpIn_wide.2 ?_
  go_upto_region 1 with fail
  go_cut [] from 8 to 22 (fun wx => ∃ tn' vn' vl' rn' rl', Hid (NamesIn wx nm tn' tl vn' vl' (.slice none 0 0) fs rn' rl' (D.chs.take (D.last + m)) (D.last + m)) ∧ Hid (Kept (NFoot nm tn tl vn vl (.slice pc (D.chs.length - D.last) cc)) (w.alloc (.cells #[.int .i64 keep] 3)) wx ∧ ∀ k, NFoot nm tn' tl vn' vl' (.slice none 0 0) k → NFoot nm tn tl vn vl (.slice pc (D.chs.length - D.last) cc) k ∨ (w.alloc (.cells #[.int .i64 keep] 3)).heap.size ≤ k))
  case first =>
    refine wp_quiet ?_
    go_region_with ((first
      | (go_at_call 62; refine (atMostP names (D.chs.length - D.last) _).mono ?_; rintro e1 w1 ⟨rfl, rfl⟩; go_must (rw [← hm.out]))
      | (go_at_call 61; refine hs.out.mono ?_; rintro e2 w2 ⟨tn', vn', vl', rn', rl', rfl, k1, k2⟩)))
    all_goals
      go_wp2_with fail
      go_meet
      exact ⟨tn', vn', vl', rn', rl', k1, ((Ext.refl _).drew.kept _).trans k2.out.1 (fun _ _ h => h), k2.out.2⟩
  case rest =>
    obtain ⟨tn', vn', vl', rn', rl', k1, k2⟩ := hcut
    obtain ⟨w1, rfl⟩ : ∃ w1 : World, w1 = wc := ⟨_, rfl⟩
    have hnt : ∀ k c t fz, (w.alloc (.cells #[.int .i64 keep] 3)).heap[k]? = some (.cells c t fz) → ¬ NTy t → ¬ NFoot nm tn tl vn vl (.slice pc (D.chs.length - D.last) cc) k := fun k c t fz hk ht => (h.out.names.ext E0.out).not hk ht
    have dbx1 := k2.out.1.heap dbx.out (hnt _ _ _ _ dbx.out (by unfold NTy; decide))
    have kb1 := k2.out.1.heap kb.out (hnt _ _ _ _ kb.out (by unfold NTy; decide))
    have F1 := (h.out.files.ext E0.out).kept k2.out.1 (fun b hb => by obtain ⟨c, fz, hc⟩ := (h.out.files.ext E0.out).fs_at hb; exact hnt _ _ _ _ hc (by unfold NTy; decide)) (fun b hb => by obtain ⟨c, fz, hc⟩ := (h.out.files.ext E0.out).gs_at hb; exact hnt _ _ _ _ hc (by unfold NTy; decide))
    clear c0 c1 c2 c3 c4 n0 n1 n2
    obtain ⟨c0, c1, c2, c3, c4⟩ := five_cells dbx1
    obtain ⟨n0, n1, n2⟩ := three_at k1.out.nbox
    replace dbx1 := hide dbx1; replace kb1 := hide kb1; replace F1 := hide F1; replace hnt := hide hnt
    go_wp2_with fail
    refine (callsIn_wide (n := 8)).1 ?_
    refine (allF_in Fence.wide 8 trivial rfl _ _).mono ?_
    rintro e w' ⟨rfl, rfl⟩
    go_wp2_with fail
    have bN := Boxed.new w1 93 (.pointer (some ⟨tn', 0, none⟩))
    have hT : TabAtF 0 w1 tn' vn' (rn'.attach.map Subtype.val) := by rw [List.attach_map_subtype_val]; exact k1.out.now
    have E2 := (Ext.refl w1).alloc (.cells #[.pointer (some ⟨tn', 0, none⟩)] 93)
    have hfl : ∀ f ∈ D.files, f.2 ≤ f.1.length := fun f hf => (h.out.ok.files f hf).1
    have hxv : ∀ x : {x // x ∈ rn'}, x.1.val ∈ fs := fun x => by
      obtain ⟨y, hy, hyx⟩ := List.mem_map.1 (k1.out.isNow.mem_iff.1 x.2)
      have := (play_ok (fun c hc => h.out.ok.chs c (List.mem_of_mem_take hc)) y hy).2
      rw [← hyx]
      show fs.getD y.2 0 ∈ fs
      rw [List.getD_eq_getElem?_getD, List.getElem?_eq_getElem (by rw [h.out.files.flen]; exact this)]
      exact List.getElem_mem _
    have hgn : ∀ g, vn'.ownBlock = some g → ∀ b ∈ fs, b ≠ g := fun g hg b hb => by
      obtain ⟨c, fz, hc⟩ := F1.out.fs_at hb
      obtain ⟨c', fz', hc'⟩ := rows_at k1.out.now.rows hg
      exact tells hc hc' (by decide)
    have hkb : w.heap.size < w1.heap.size := (Array.getElem?_eq_some_iff.1 kb1.out).1
    have hkn : ∀ b ∈ fs, b ≠ w.heap.size := fun b hb => by
      obtain ⟨c, fz, hc⟩ := F1.out.fs_at hb
      exact tells hc kb1.out (by decide)
    refine (wpIn_wide (n := 9)).1 ?_
    refine wpIn_rangeFunc_ownH (F := Fence.wide) (n := 9) rfl (by omega) (gf := 82) (lb := #[.pointer (some ⟨w1.heap.size, 0, none⟩)]) rfl trivial (enters_of Try.func82 (by kernel_rfl) rfl)
      (allF_stops Subtype.val Fence.wide (9 - 1) trivial rfl (by omega) w1.heap.size 0 tn' vn' rn'.attach (fun A B => A.heap.size ≤ B.heap.size ∧ ∀ g, vn'.ownBlock = some g → B.heap[g]? = A.heap[g]?) w1 _ (fun g hg A B hk => ⟨hk.1, hk.2 g hg⟩) hT E2 (by simp) bN.cell)
      (fun h1 h2 => ⟨Nat.le_trans h1.1 h2.1, fun g hg => (h2.2 g hg).trans (h1.2 g hg)⟩)
      (fun W l o o' hl ho hc _ => ⟨by simp [World.putObj], fun g hg => ?kb⟩) (Below.refl _ _) (fun _ => rfl)
      (fun (pre : List {x // x ∈ rn'}) W => FilesAt W fs gs (crashF keep (pre.map fun (x : {x // x ∈ rn'}) => fs.idxOf x.1.val) D.files) ∧ Kept (· ∈ fs) (w1.alloc (.cells #[.pointer (some ⟨tn', 0, none⟩)] 93)) W)
      (fun _ _ _ => False)
      (fun s X Y row hs hg hr => ⟨hs.1.others hg (fun r e => (hr r e).2), hs.2.trans (D' := fun k => row = some k) ⟨hg.os, hg.tape, hg.output, hg.size, fun k hk hn => hg.block k hk fun e => hn e.symm⟩ (fun k hk e => absurd (hr k e).1 (by omega))⟩)
      (fun _ _ _ _ _ hs _ _ => hs)
      ⟨by rw [List.map_nil, crashF_nil]; exact F1.out.ext E2, Kept.refl _ _⟩
      (fun x a' _ => a' = { tmps := #[.pointer (some ⟨d, 0, none⟩), .int .i64 keep, .int .i64 names, undef, .pointer (some ⟨w.heap.size, 0, none⟩), undef, undef, .pointer (some ⟨x.1.val, 0, none⟩), u8, u9, u10, u11, u12, u13, u14, u15, u16, u17, u18, u19, u20, u21, u22, .pointer (some ⟨d, 0, none⟩), .pointer (some ⟨d, 0, none⟩), .pointer (some ⟨d, 1, none⟩), .pointer (some ⟨nm, 0, none⟩), .pointer (some ⟨nm, 0, none⟩), .pointer (some ⟨nm, 0, none⟩), .pointer (some ⟨tn', 0, none⟩), .func (.func 82) #[] #[.pointer (some ⟨w1.heap.size, 0, none⟩)], .string x.1.key, .pointer (some ⟨x.1.val, 0, none⟩), undef, undef, undef, undef, undef, undef, undef], defers := [] })
      (fun x a' _ X Y row hs hg hr => hs)
      ?assign ?body ?done ?stop
    case kb =>
      have hgl := k1.out.now.lt.2 g hg
      have hll := (Array.getElem?_eq_some_iff.1 ho).1
      rw [World.size_alloc] at hl
      exact (grownBy_putObj' W l o').block g (by omega) (fun e => by have := Option.some.inj e; omega)
    case assign =>
      rintro l pre x W K ⟨h1, h2⟩ hK
      simp only [encF]
      gi_wp2
      exact hK _ _ ((KeepsOthers.refl _).from _) ⟨Nat.le_refl _, fun _ _ => rfl⟩ ⟨h1, h2⟩ rfl
    case body =>
      rintro l pre x a' W hl ⟨r, hr⟩ ⟨h1, h2⟩ rfl hlt
      have hcb := h2.cell (p := ⟨w.heap.size, 0, none⟩) (v := .int .i64 keep) (E2.cells (by simp [World.cell?, kb1.out])) (fun hm => hkn _ hm rfl)
      obtain ⟨i, hi⟩ : ∃ i, i = fs.idxOf x.1.val := ⟨_, rfl⟩
      have hil : i < fs.length := by rw [hi]; exact List.idxOf_lt_length_iff.2 (hxv x)
      have hfi : fs[i]? = some x.1.val := by
        rw [List.getElem?_eq_getElem hil]
        congr 1
        subst hi
        exact List.getElem_idxOf hil
      have hlen : (crashF keep (pre.map fun (x : {x // x ∈ rn'}) => fs.idxOf x.1.val) D.files).length = fs.length := by rw [crashF_len, h.out.files.flen]
      obtain ⟨b, g, f, e1, e2, e3, hF⟩ := h1.get (i := i) (by rw [hlen]; exact hil)
      rw [hfi] at e1
      obtain rfl : x.1.val = b := Option.some.inj e1
      have hfo := crashF_ok (keep := keep) (is := pre.map fun (x : {x // x ∈ rn'}) => fs.idxOf x.1.val) h.out.ok.files f (List.mem_of_getElem? e3)
      gi_wp2
      refine ⟨trivial, CallsIn.inRound l (callsIn_wide.2 ((fileCrash x.1.val g f keep W hF hfo.1 (by omega)).mono ?_))⟩
      rintro e4 W3 ⟨rfl, hF3, hK3⟩
      have hone := h1.one (h0 := cutF keep) hfi e2 e3 (hK3.out.mono fun _ _ e => .inl e) hF3.out (.inl rfl)
      rw [set_same e2, ← crashF_snoc hfl] at hone
      obtain ⟨cx, fx, hcx⟩ := h1.fs_at (hxv x)
      gi_wp2
      refine ⟨(KeepsOthers.mk hK3.out.size fun k o hk ho => (hK3.out.block k (Array.getElem?_eq_some_iff.1 hk).1 (fun e => by subst e; rw [hcx] at hk; cases hk; cases ho)).trans hk).from _, ⟨hK3.out.size, fun q hq => hK3.out.block q (Nat.lt_of_lt_of_le (k1.out.now.lt.2 q hq) (Nat.le_trans (Ext.size E2) h2.size)) (fun e => hgn q hq _ (hxv x) e.symm)⟩, ?_, h2.trans hK3.out (fun k _ e => e ▸ hxv x)⟩
      rw [List.map_append]
      rw [hi] at hone
      exact hone
    case done =>
      rintro D' ys W hD rfl ⟨h1, h2⟩ hK
      have dn : d ∉ fs := fun hm => by
        obtain ⟨c, fz, hc⟩ := F1.out.fs_at hm
        exact tells hc dbx1.out (by decide) rfl
      have dbw := h2.heap (ext_heap E2 dbx1.out) dn
      have fzw := row_frozen dbw
      clear c0 c1 c2 c3 c4
      obtain ⟨c0, c1, c2, c3, c4⟩ := five_cells dbw
      replace dbw := hide dbw
      have hD1 : w1.heap.size + 1 ≤ D' := by rw [World.size_alloc] at hD; exact hD
      have dlt : d < w1.heap.size := (Array.getElem?_eq_some_iff.1 dbx1.out).1
      replace hD1 := hide hD1; replace dlt := hide dlt
      go_wp2_with fail
      obtain ⟨W4, hW4⟩ : ∃ W4, W4 = ((W.setCell ⟨d, 2, none⟩ (.int .i64 0)).setCell ⟨d, 3, none⟩ (.int .i64 0)).setCell ⟨d, 4, none⟩ (.int .i64 0) := ⟨_, rfl⟩
      rw [← hW4]
      have K4 : Kept (· = d) W W4 := by
        rw [hW4]
        exact ((kept_setCell W ⟨d, 2, none⟩ _).trans (kept_setCell _ ⟨d, 3, none⟩ _) (fun _ _ h => h)).trans (kept_setCell _ ⟨d, 4, none⟩ _) (fun _ _ h => h)
      have dbz : W4.heap[d]? = some (.cells #[.int .i64 (D.room : Int), .pointer (some ⟨nm, 0, none⟩), .int .i64 0, .int .i64 0, .int .i64 0] 54 (0, 0)) := by
        rw [hW4]; simp [World.setCell, Array.getElem?_modify, dbw.out]
      have hK4 := K4.heap hK (by have := hD1.out; have := dlt.out; omega)
      have K5 : ∀ o', Kept (· = D') W4 (W4.putObj D' o') := fun o' => by
        have hg := grownBy_putObj' W4 D' o'
        exact ⟨hg.os, hg.tape, hg.output, hg.size, fun k hk hn => hg.block k hk fun e => hn (Option.some.inj e)⟩
      refine ⟨by simp, .inl ⟨_, _, rfl, run_takeDeferred hK4, ?_⟩⟩
      refine ⟨_, results_none rfl _ _ _, ?_⟩
      rw [show (rn'.attach.map fun (x : {x // x ∈ rn'}) => fs.idxOf x.1.val) = rn'.map fun x => fs.idxOf x.val by (conv => rhs; rw [← List.attach_map_subtype_val rn', List.map_map]); rfl] at h1
      refine cr_done h.out E0.out hm.out k1.out k2.out E2 F1.out h1 h2 K4 dbz ⟨_, _, dbw.out⟩ (K5 _) (by have := hD1.out; omega) (fun b hb => ?_)
      have hlt : b < w1.heap.size := by
        rcases hb with hb | hb
        · obtain ⟨c, fz, hc⟩ := F1.out.fs_at hb; exact (Array.getElem?_eq_some_iff.1 hc).1
        · obtain ⟨c, fz, hc⟩ := F1.out.gs_at hb; exact (Array.getElem?_eq_some_iff.1 hc).1
      have := hD1.out
      omega
    case stop =>
      rintro D' c pre W _ _ h _
      exact h.elim
theorem crashP (w : World) (d nm tn tl : Nat) (vn vl vc : Value) (kc sc : Int) (fs gs : List Nat) (rn rl : List RowF) (D : DskS) (keep names : Int) (hfew : D.chs.length + 1 ≤ 2000000000000) (h : DiskIn w d nm tn tl vn vl vc kc sc fs gs rn rl D) :
    Calls Try.prog 30 #[.pointer (some ⟨d, 0, none⟩), .int .i64 keep, .int .i64 names] w (CrIs w d nm tn tl vn vl vc fs gs (D.crash keep names)) :=
  (callsIn_wide (n := 9)).1 (crash_in w d nm tn tl vn vl vc kc sc fs gs rn rl D keep names hfew h)
end Go.Proofs.Ytpkhmgonkbpjjaa
