/-
  The book: what putting a list of Attrs into it does.
-/
import Derived.Test.YtodhhjlemmmjcaaGreatJ17
namespace Go.Proofs.YtodhhjlemmmjcaaGreat
open Go.RowKit

/-- What is turned: the list's row, the row of entries, and the book. -/
def TurnA (l va : Value) (O : Nat) (b : Nat) : Prop := some b = l.ownBlock ∨ some b = va.ownBlock ∨ b = O
def OwnedA (B O : Nat) (w : World) (va vi vn vr vs vc : Value) (ea ei : List (Value × Nat)) (l : Value) (e : Ending) (w' : World) : Prop :=
  ∃ (va' : Value) (en : List (Value × Nat)), e = .returned (.tuple #[]) ∧ Hid (BkAt B w' O va' vi vn vr vs vc (ea ++ en) ei) ∧ en.length = 4 ∧ Hid (∀ x ∈ en, MarkG 62 4 mkA w' x) ∧ Hid (∀ x ∈ en, ∀ g, x.1.ownBlock = some g → l.ownBlock = some g ∨ w.heap.size ≤ g) ∧ Hid (Kept (TurnA l va O) w w') ∧ Hid (∀ g, va'.ownBlock = some g → va.ownBlock = some g ∨ w.heap.size ≤ g)

theorem grown_keepsW {w w2 : World} {base : Nat} {e : TypeId} {size : Nat} {v : Value} {n : Nat} {xs : List Value} (hown : w.ownsRow base e size v n xs) {k : Nat} {c : Array Value} {t : TypeId} {fz : Nat × Nat} (hk : w.heap[k]? = some (.cells c t fz)) (ht : t ≠ e) (hg : w.grownBy w2 v.ownBlock) : w2.heap[k]? = some (.cells c t fz) := by
  rw [hg.block k (Array.getElem?_eq_some_iff.1 hk).1 (ownsRow_ne hown hk ht)]; exact hk
/-- An entry is put into the book. -/
theorem bk_appA {B O : Nat} {w w3 : World} {va vi vn vr vs vc va' : Value} {ea ei : List (Value × Nat)} {x : Value × Nat} {o : Obj} (hb : BkAt B w O va vi vn vr vs vc ea ei) (hg : (w.alloc o).grownBy w3 va.ownBlock) (hown : w3.ownsRow B 120 2 va' (ea.length + 1) (cellsE ea ++ cE x)) :
    w3.heap[O]? = some (.cells #[va, vi, vn, vr, vs, vc] 37 (0, 0)) ∧ BkAt B (w3.setCell ⟨O, 0, none⟩ va') O va' vi vn vr vs vc (ea ++ [x]) ei ∧ Kept (fun b => some b = va.ownBlock ∨ b = O) w (w3.setCell ⟨O, 0, none⟩ va') := by
  have hx : Ext w (w.alloc o) := (Ext.refl w).alloc o
  have ho3 := grown_keepsW (hb.a.alloc o) (ext_heap hx hb.o) (by decide) hg
  have hK : Kept (fun b => some b = va.ownBlock) w w3 := grown_kept hg
  have hi3 : w3.ownsRow B 122 2 vi ei.length (cellsE ei) := ownsRow_keep hb.i hK (fun g c hg' h => ownsRow_ne hb.a hg' (by decide) h)
  refine ⟨ho3, ⟨six_set0 ho3 va', ?_, ownsRow_set hi3 ho3 (by decide) va', hb.low⟩, (hK.mono (fun _ _ h => .inl h)).trans (kept_setCell w3 ⟨O, 0, none⟩ va') (fun _ _ h => .inr h)⟩
  rw [List.length_append, cellsE_app]
  exact ownsRow_set hown ho3 (by decide) va'

theorem bk_keptA {B O : Nat} {w w5 : World} {va vi vn vr vs vc l : Value} {ea ei : List (Value × Nat)} {n : Nat} {xs : List Value} (hb : BkAt B w O va vi vn vr vs vc ea ei) (hl : w.ownsRow B 62 4 l n xs) (hK : Kept (fun b => some b = l.ownBlock) w w5) : BkAt B w5 O va vi vn vr vs vc ea ei :=
  ⟨hK.heap hb.o (ownsRow_ne hl hb.o (by decide)), ownsRow_keep hb.a hK (fun _ _ hg => ownsRow_ne hl hg (by decide)), ownsRow_keep hb.i hK (fun _ _ hg => ownsRow_ne hl hg (by decide)), hb.low⟩
theorem bk_len {w : World} {B : Nat} {T : TypeId} {v : Value} {es : List (Value × Nat)} {n : Nat} (h : w.ownsRow B T 2 v es.length (cellsE es)) (hn : es.length = n) : w.ownsRow B T 2 v n (cellsE es) := by subst hn; exact h
theorem own_neM {w : World} {B : Nat} {T : TypeId} {sz : Nat} {l l' : Value} {n : Nat} {xs : List Value} (h : ∀ g, l'.ownBlock = some g → l.ownBlock = some g ∨ w.heap.size < g) (hl : w.ownsRow B T sz l n xs) (hv : l'.ownBlock = some w.heap.size) : False := by
  rcases h _ hv with h | h
  · have := (hl.lt _ h).2; omega
  · omega

set_option maxRecDepth 100000 in
set_option maxHeartbeats 3200000 in
theorem ownAttrs (B O : Nat) (w : World) (va vi vn vr vs vc : Value) (ea ei : List (Value × Nat)) (l : Value) (n : Nat) (xs : List Value) (hb : BkAt B w O va vi vn vr vs vc ea ei) (hB : B ≤ w.heap.size) (hl : w.ownsRow B 62 4 l n xs) (hn : n ≤ 1000) (he : ea.length ≤ 3000000) :
    Calls Tryz.prog 62 #[.pointer (some ⟨O, 0, none⟩), l] w (OwnedA B O w va vi vn vr vs vc ea ei l) := by
  obtain ⟨i0, hi, hz0, hz1, hz2⟩ := info_of infoAttr
  obtain ⟨i1, hi', hy0, hy1, hy2⟩ := info_of infoAO
  replace hi := hide hi; replace hi' := hide hi'
  obtain ⟨pa, ca, rfl⟩ := ownsRow_form hl
  obtain ⟨pe, ce, rfl⟩ := ownsRow_form hb.a
  obtain ⟨o0, o1, o2, o3, o4, o5⟩ := six_celB hb.o
  have hxl : xs.length = n * 4 := hl.1
  have hltO : O < w.heap.size := (Array.getElem?_eq_some_iff.1 hb.o).1
  have hOM : ¬ O = w.heap.size := by omega
  have hneO : ∀ g, (Value.slice pa n ca).ownBlock = some g → g ≠ O := fun g hg => by
    rcases hl.2 with ⟨h, _⟩ | ⟨g', cap, cur, h, _, hh, _⟩
    · rw [h] at hg; simp [Value.ownBlock] at hg
    · rw [h] at hg; simp [Value.ownBlock] at hg; subst hg; exact tag_ne hh hb.o (by decide)
  have hneE : ∀ g, (Value.slice pa n ca).ownBlock = some g → (Value.slice pe ea.length ce).ownBlock ≠ some g := fun g hg => by
    rcases hl.2 with ⟨h, _⟩ | ⟨g', cap, cur, h, _, hh, _⟩
    · rw [h] at hg; simp [Value.ownBlock] at hg
    · rw [h] at hg; simp [Value.ownBlock] at hg; subst hg
      exact fun hk => ownsRow_ne hb.a hh (by decide) hk.symm
  replace hb := hide hb; replace hl := hide hl; replace hxl := hide hxl; replace hneO := hide hneO; replace hneE := hide hneE
  go_enter Tryz.func62, Tryz.ntmps62
  go_wp2_with fail
  go_loopw [6] (fun i wr => ∃ j : Nat, j ≤ n ∧ i = .int .i64 j ∧ Hid (wr.ownsRow B 62 4 (.slice pa n ca) n (rep j (mkA ea.length) ++ xs.drop (j * 4))) ∧ Hid (wr.heap[w.heap.size]? = some (.cells (mkA ea.length).toArray 62 (0, 0))) ∧ Hid (Kept (TurnA (.slice pa n ca) (.slice pe ea.length ce) O) w wr) ∧ Hid (BkAt B wr O (.slice pe ea.length ce) vi vn vr vs vc ea ei)) (fun i _ => n - (intOf i).toNat)
  case atStart =>
    refine ⟨0, Nat.zero_le _, rfl, ?_, heap_alloc_new w _, ((Ext.refl w).alloc _).kept _, ?_⟩
    · show World.ownsRow _ _ _ _ _ _ _
      simpa [rep_zero] using hl.out.alloc _
    · have x := (Ext.refl w).alloc (.cells (mkA ea.length).toArray 62)
      exact ⟨ext_heap x hb.out.o, hb.out.a.alloc _, hb.out.i.alloc _, hb.out.low⟩
  case round =>
    obtain ⟨j, hj, rfl, hown, hM, hK, hbk⟩ := hrel
    obtain ⟨m0, m1, m2, m3⟩ := four_cells hM.out
    by_cases hlt : j < n
    · obtain ⟨g, cap, hv, hBg, hglt⟩ := hown.out.form (by omega)
      obtain ⟨rfl, rfl⟩ : pa = some ⟨g, 0, none⟩ ∧ ca = cap := by simpa using hv
      clear hv
      obtain ⟨z0, z1, z2, z3, hd⟩ := drop4 (xs := xs) (o := j * 4) (by have := hxl.out; omega)
      have hown2 := hown.out
      rw [hd] at hown2
      have hpre : (rep j (mkA ea.length)).length = j * 4 := by rw [rep_len]; rfl
      have c0 := own_celB (r := 0) hown2 hpre rfl
      have c1 := own_celB (r := 1) hown2 hpre rfl
      have c2 := own_celB (r := 2) hown2 hpre rfl
      have c3 := own_celB (r := 3) hown2 hpre rfl
      rw [Nat.add_zero] at c0
      have fg := fun q => hown2.frozenAt q
      have hgM : ¬ g = w.heap.size := by have := (hl.out.lt g rfl).2; omega
      have hMg : ¬ w.heap.size = g := fun h => hgM h.symm
      have j2 : (j : Int) < (n : Int) := by omega
      have j4 : (0 : Int) ≤ (j : Int) := by omega
      replace hown2 := hide hown2; replace hpre := hide hpre
      go_wp2
      go_roundw
      case rel =>
        have K4 := kept4 wr g (j * 4) (.string ⟨#[]⟩) (.bool false) (.string ⟨#[]⟩) (.int .i64 (-9 - (ea.length : Int)))
        have O4 := own_set4 hown2.out hpre.out (.string ⟨#[]⟩) (.bool false) (.string ⟨#[]⟩) (.int .i64 (-9 - (ea.length : Int)))
        refine ⟨j + 1, by omega, by go_num, ?_, K4.heap hM.out (fun h => hMg h), hK.out.trans K4 (fun b _ hb => .inl (by subst hb; rfl)), ?_⟩
        · show World.ownsRow _ _ _ _ _ _ _
          rw [rep_succ, List.append_assoc, show (j + 1) * 4 = j * 4 + 4 by omega]
          exact O4
        · exact ⟨K4.heap hbk.out.o (fun h => hneO.out g rfl h.symm), ownsRow_keptR hbk.out.a K4 (fun g' hg' h => hneE.out g rfl (by subst h; exact hg')), ownsRow_keep hbk.out.i K4 (fun g' c hg' h => by
            subst h
            obtain ⟨h1, h2⟩ := hown.out
            rcases h2 with ⟨h2, _⟩ | ⟨g2, cap2, cur2, h2, _, h3, _⟩
            · cases h2
            · obtain ⟨rfl, rfl⟩ : g' = g2 ∧ ca = cap2 := by simpa using h2
              rw [h3] at hg'; cases hg'), hbk.out.low⟩
      case measure => simp [intOf]; omega
    · obtain rfl : j = n := by omega
      have hown0 : Hid (wr.ownsRow B 62 4 (.slice pa j ca) j (rep j (mkA ea.length))) := by
        have := hown.out
        rw [List.drop_of_length_le (by rw [hxl.out]; exact Nat.le_refl _), List.append_nil] at this
        exact this
      clear hown o0 o1 o2 o3 o4 o5 hj hlt
      obtain ⟨o0, o1, o2, o3, o4, o5⟩ := six_celB hbk.out.o
      have fO := row_frozen hbk.out.o
      have hsz := hide hK.out.size
      obtain ⟨k, hke⟩ : ∃ k, ea.length = k := ⟨_, rfl⟩
      have hkl : k ≤ 3000000 := by omega
      replace hke := hide hke
      go_wp2_with (at_builtin; go_must (refine wpList_append_lies _ rfl (.tmp 30) (.tmp 34) 28 rfl B 120 i1 (.agg #[.slice none 0 0, .int .i64 0]) 2 32 Tryz.underlying28 hi'.out hy0 hy1 hy2 rfl (by omega) _ ea.length (cellsE ea) rfl (hbk.out.a.alloc _) ⟨wr.heap.size, 0, none⟩ 1 1 (cE (.slice pa j ca, ea.length)) rfl rfl ?_ cE_one (by omega) (by unfold maxLen; omega) (by omega) (by have := hsz.out; simp; omega) (wr.heap.size + 1) (by simp) ?_; (intro q u hu; rw [add_eq]; (match q, hu with | 0, hu => (simp [cE] at hu; subst hu; simp [go_sem]) | 1, hu => (simp [cE] at hu; subst hu; simp [go_sem]) | _ + 2, hu => (simp [cE] at hu))); intro g3 c3 w3 hown3 hgrow3 hat3 hlt3; have hbk3 := bk_appA (x := (.slice pa j ca, ea.length)) hbk.out hgrow3 hown3; clear o0 o1 o2 o3 o4 o5 fO; obtain ⟨o0, o1, o2, o3, o4, o5⟩ := six_celB hbk3.1; have fO := row_frozen hbk3.1; replace hbk3 := hide hbk3))
      replace hgrow3 := hide hgrow3; replace hown3 := hide hown3
      have hkO : Hid (Kept (fun b => some b = (Value.slice pe ea.length ce).ownBlock ∨ b = O) wr (w3.setCell ⟨O, 0, none⟩ (.slice (some ⟨g3, 0, none⟩) (ea.length + 1) c3))) := hbk3.out.2.2
      have hnTag : ∀ g c, wr.heap[g]? = some (.cells c 62 (0, 0)) → ¬ (some g = (Value.slice pe ea.length ce).ownBlock ∨ g = O) := fun g c hg h => by
        rcases h with h | h
        · exact ownsRow_ne hbk.out.a hg (by decide) h
        · exact tag_ne hg hbk.out.o (by decide) h
      have hown4 := hide (ownsRow_keep hown0.out hkO.out hnTag)
      have hM4 := hide (hkO.out.heap hM.out (hnTag _ _ hM.out))
      have hK4 : Hid (Kept (TurnA (.slice pa j ca) (.slice pe ea.length ce) O) w (w3.setCell ⟨O, 0, none⟩ (.slice (some ⟨g3, 0, none⟩) (ea.length + 1) c3))) := hK.out.trans hkO.out (fun b _ h => h.elim (fun h => .inr (.inl h)) (fun h => .inr (.inr h)))
      have hat4 : Hid (∀ g, (Value.slice (some ⟨g3, 0, none⟩) (ea.length + 1) c3).ownBlock = some g → (Value.slice pe ea.length ce).ownBlock = some g ∨ w.heap.size ≤ g) := fun g hg => by
        obtain rfl : g3 = g := by simpa [Value.ownBlock] using hg
        rcases hat3 with h | h
        · exact .inl h
        · right; have := hsz.out; omega
      clear o0 o1 o2 o3 o4 o5 fO m0 m1 m2 m3
      have hmk0 : Hid (MarkG 62 4 mkA (w3.setCell ⟨O, 0, none⟩ (.slice (some ⟨g3, 0, none⟩) (ea.length + 1) c3)) (.slice pa j ca, ea.length)) := MarkG.of hown4.out (by omega) (by omega)
      have hbk4 := hide hbk3.out.2.1
      clear hbk3 hown0 hbk hM hK hkO hnTag hat3 hlt3 hgrow3 hown3 hsz
      go_wp2_with fail
      go_loopw [1, 7] (fun v i wr => ∃ (q : Nat) (pl : Option Addr) (cl : Nat) (pq : Option Addr) (cq : Nat) (en : List (Value × Nat)), q ≤ 3 ∧ i = .int .i64 q ∧ v = .slice pl (j + q) cl ∧ en.length = 1 + q ∧ Hid (wr.ownsRow B 62 4 (.slice pl (j + q) cl) (j + q) (rep (j + q) (mkA ea.length))) ∧ Hid (BkAt B wr O (.slice pq (ea.length + 1 + q) cq) vi vn vr vs vc (ea ++ en) ei) ∧ Hid (wr.heap[w.heap.size]? = some (.cells (mkA ea.length).toArray 62 (0, 0))) ∧ Hid (∀ x ∈ en, MarkG 62 4 mkA wr x ∧ x.2 = ea.length ∧ elen x ≤ j + q ∧ ∀ g, x.1.ownBlock = some g → (Value.slice pa j ca).ownBlock = some g ∨ w.heap.size ≤ g) ∧ Hid (∀ g, (Value.slice pl (j + q) cl).ownBlock = some g → (Value.slice pa j ca).ownBlock = some g ∨ w.heap.size < g) ∧ Hid (∀ g, (Value.slice pq (ea.length + 1 + q) cq).ownBlock = some g → (Value.slice pe ea.length ce).ownBlock = some g ∨ w.heap.size ≤ g) ∧ Hid (Kept (TurnA (.slice pa j ca) (.slice pe ea.length ce) O) w wr)) (fun _ i _ => 3 - (intOf i).toNat)
      case atStart =>
        refine ⟨0, pa, ca, some ⟨g3, 0, none⟩, c3, [(.slice pa j ca, ea.length)], by omega, rfl, rfl, rfl, hown4, hbk4, hM4, ?_, fun g hg => .inl hg, hat4, hK4⟩
        intro x hx
        obtain rfl : x = (.slice pa j ca, ea.length) := by simpa using hx
        exact ⟨hmk0.out, rfl, Nat.le_refl _, fun g hg => .inl hg⟩
      case round =>
        obtain ⟨q, pl, cl, pq, cq, en, hq, rfl, rfl, hen, hown, hbk, hM, hmk, hatl, hatq, hK⟩ := hrel
        obtain ⟨m0, m1, m2, m3⟩ := four_cells hM.out
        obtain ⟨o0, o1, o2, o3, o4, o5⟩ := six_celB hbk.out.o
        have fO := row_frozen hbk.out.o
        have hsz := hide hK.out.size
        have hlenE : (ea ++ en).length = ea.length + 1 + q := by rw [List.length_append, hen]; omega
        have hbka := hbk.out.a
        rw [hlenE] at hbka
        replace hbka := hide hbka; replace hlenE := hide hlenE
        by_cases hlt : q < 3
        · have hltM : w.heap.size < wr.heap.size := (Array.getElem?_eq_some_iff.1 hM.out).1
          go_wp2_with (at_builtin; first
            | (refine wpList_append_tight _ rfl (.tmp 42) (.tmp 44) 53 rfl B 62 i0 (.agg #[.string ⟨#[]⟩, .bool false, .string ⟨#[]⟩, .int .i64 0]) 4 48 Tryz.underlying53 hi.out hz0 hz1 hz2 rfl (by omega) _ (j + q) (rep (j + q) (mkA ea.length)) rfl (hown.out.alloc _) ⟨wr.heap.size, 0, none⟩ 1 1 (mkA ea.length) rfl rfl ?_ (mkA_one _) (by omega) (by unfold maxLen; omega) (by omega) (by have := hsz.out; simp; omega) ?_; (intro r u hu; rw [add_eq]; (match r, hu with | 0, hu => (simp [mkA] at hu; subst hu; simp [go_sem]) | 1, hu => (simp [mkA] at hu; subst hu; simp [go_sem]) | 2, hu => (simp [mkA] at hu; subst hu; simp [go_sem]) | 3, hu => (simp [mkA] at hu; subst hu; simp [go_sem]) | _ + 4, hu => (simp [mkA] at hu))); go_must (intro g5 c5 w5 hown5 hgrow5 hat5; have hkl5 : Hid (Kept (fun b => some b = (Value.slice pl (j + q) cl).ownBlock) wr w5) := grown_kept hgrow5; have hbk5 : Hid (BkAt B w5 O (.slice pq (ea.length + 1 + q) cq) vi vn vr vs vc (ea ++ en) ei) := bk_keptA hbk.out hown.out hkl5.out; have hM5 : Hid (w5.heap[w.heap.size]? = some (.cells (mkA ea.length).toArray 62 (0, 0))) := hkl5.out.heap hM.out (fun h => own_neM hatl.out hl.out h.symm); clear o0 o1 o2 o3 o4 o5 fO m0 m1 m2 m3; obtain ⟨o0, o1, o2, o3, o4, o5⟩ := six_celB hbk5.out.o; have fO := row_frozen hbk5.out.o; replace hown5 := hide hown5; replace hgrow5 := hide hgrow5; replace hat5 := hide hat5; have hsz5 := hide (Nat.le_trans hsz.out hkl5.out.size)))
            | (refine wpList_append_lies _ rfl (.tmp 50) (.tmp 54) 28 rfl B 120 i1 (.agg #[.slice none 0 0, .int .i64 0]) 2 32 Tryz.underlying28 hi'.out hy0 hy1 hy2 rfl (by omega) _ (ea.length + 1 + q) (cellsE (ea ++ en)) rfl ((bk_len hbk5.out.a hlenE.out).alloc _) ⟨w5.heap.size, 0, none⟩ 1 1 (cE (.slice (some ⟨g5, 0, none⟩) (j + q + 1) c5, ea.length)) rfl rfl ?_ cE_one (by omega) (by unfold maxLen; omega) (by omega) (by have := hsz5.out; simp; omega) (w5.heap.size + 1) (by simp) ?_; (intro r u hu; rw [add_eq]; (match r, hu with | 0, hu => (simp [cE] at hu; subst hu; simp [go_sem]) | 1, hu => (simp [cE] at hu; subst hu; simp [go_sem]) | _ + 2, hu => (simp [cE] at hu))); go_must (intro g7 c7 w7 hown7 hgrow7 hat7 hlt7; have hbk7 := bk_appA (x := (.slice (some ⟨g5, 0, none⟩) (j + q + 1) c5, ea.length)) (va := .slice pq (ea.length + 1 + q) cq) (va' := .slice (some ⟨g7, 0, none⟩) (ea.length + 1 + q + 1) c7) hbk5.out hgrow7 (by rw [hlenE.out]; exact hown7); clear o0 o1 o2 o3 o4 o5 fO; obtain ⟨o0, o1, o2, o3, o4, o5⟩ := six_celB hbk7.1; have fO := row_frozen hbk7.1; replace hbk7 := hide hbk7; replace hat7 : (Value.slice pq (ea.length + 1 + q) cq).ownBlock = some g7 ∨ g7 = w5.heap.size + 1 := hat7; replace hat7 := hide hat7)))
          replace hgrow5 : (wr.alloc (.cells (mkA ea.length).toArray 62)).grownBy w5 (Value.slice pl (j + q) cl).ownBlock := hgrow5.out
          replace hat5 : (Value.slice pl (j + q) cl).ownBlock = some g5 ∨ ((wr.alloc (.cells (mkA ea.length).toArray 62)).heap.size ≤ g5 ∧ ∀ k, k < (wr.alloc (.cells (mkA ea.length).toArray 62)).heap.size → w5.heap[k]? = (wr.alloc (.cells (mkA ea.length).toArray 62)).heap[k]?) := hat5.out
          replace hgrow5 := hide hgrow5; replace hat5 := hide hat5
          go_roundw
          case rel =>
            have hT5 : ∀ g c, w5.heap[g]? = some (.cells c 62 (0, 0)) → ¬ (some g = (Value.slice pq (ea.length + 1 + q) cq).ownBlock ∨ g = O) := fun g c hg h => by
              rcases h with h | h
              · exact ownsRow_ne hbk5.out.a hg (by decide) h
              · exact tag_ne hg hbk5.out.o (by decide) h
            obtain ⟨_, hb8, K8⟩ := hbk7.out
            refine ⟨q + 1, some ⟨g5, 0, none⟩, c5, some ⟨g7, 0, none⟩, c7, en ++ [(.slice (some ⟨g5, 0, none⟩) (j + q + 1) c5, ea.length)], by omega, by go_num, rfl, by rw [List.length_append, hen]; rfl, ?_, ?_, ?_, ?_, ?_, ?_, ?_⟩
            · have := ownsRow_keep hown5.out K8 hT5
              rw [← rep_succ] at this
              exact this
            · rw [List.append_assoc] at hb8; exact hb8
            · exact K8.heap hM5.out (hT5 _ _ hM5.out)
            · intro x hx
              rcases List.mem_append.1 hx with hx | hx
              · obtain ⟨k1, k2, k3, k4⟩ := hmk.out x hx
                have k5 : MarkG 62 4 mkA w5 x := k1.app k3 (by rw [k2]; rfl) (by rw [k2]; exact hown5.out) hgrow5.out hat5.out
                exact ⟨k5.kept (fun g c _ hg => K8.heap hg (hT5 g c hg)), k2, by omega, k4⟩
              · obtain rfl : x = _ := by simpa using hx
                have k5 : MarkG 62 4 mkA w5 (.slice (some ⟨g5, 0, none⟩) (j + q + 1) c5, ea.length) := MarkG.of (by rw [rep_succ]; exact hown5.out) (by omega) (by omega)
                refine ⟨k5.kept (fun g c _ hg => K8.heap hg (hT5 g c hg)), rfl, Nat.le_refl _, fun g hg => ?_⟩
                obtain rfl : g5 = g := by simpa [Value.ownBlock] using hg
                rcases hat5.out with h | h
                · rcases hatl.out g5 h with h | h
                  · exact .inl h
                  · right; omega
                · right; have := h.1; simp at this; omega
            · intro g hg
              obtain rfl : g5 = g := by simpa [Value.ownBlock] using hg
              rcases hat5.out with h | h
              · exact hatl.out g5 h
              · right; have := h.1; simp at this; omega
            · intro g hg
              obtain rfl : g7 = g := by simpa [Value.ownBlock] using hg
              rcases hat7.out with h | h
              · exact hatq.out g7 h
              · right; have := hsz5.out; omega
            · refine (hK.out.trans hkl5.out (fun b hb h => ?_)).trans K8 (fun b hb h => ?_)
              · rcases hatl.out b h.symm with h | h
                · exact .inl h.symm
                · omega
              · rcases h with h | h
                · rcases hatq.out b h.symm with h | h
                  · exact .inr (.inl h.symm)
                  · omega
                · exact .inr (.inr h)
          case measure => simp [intOf]; omega
        · obtain rfl : q = 3 := by omega
          go_wp2_with fail
          refine ⟨rfl, .tuple #[], by simp [results, Tryz.results62], ?_⟩
          exact ⟨.slice pq (ea.length + 1 + 3) cq, en, rfl, hbk, by omega, fun x hx => (hmk.out x hx).1, fun x hx => (hmk.out x hx).2.2.2, hK, hatq⟩
end Go.Proofs.YtodhhjlemmmjcaaGreat
