/-
  The book: what putting a list of steps into it does.
-/
import Derived.Test.YtodhhjlemmmjcaaGreatBookS
namespace Go.Proofs.YtodhhjlemmmjcaaGreat
open Go.RowKit

def mkSt (k : Nat) : List Value := [.int .i64 (-9 - (k : Int)), .string ⟨#[]⟩, .string ⟨#[]⟩, .slice none 0 0, .slice none 0 0]
theorem mkSt_one (k : Nat) : ∀ u ∈ mkSt k, u.oneCell' = true := by
  intro u hu
  simp [mkSt] at hu
  rcases hu with rfl | rfl | rfl <;> rfl
def TurnSt (ps : List StepC) (l va vi vc : Value) (O : Nat) (b : Nat) : Prop := TurnLS ps va vi O b ∨ some b = l.ownBlock ∨ some b = vc.ownBlock
def OwnedSt (B O : Nat) (w : World) (va vi vn vr vc vs : Value) (ea ei ec : List (Value × Nat)) (l : Value) (ps : List StepC) (e : Ending) (w' : World) : Prop :=
  ∃ (va' vi' vc' : Value) (en em eq : List (Value × Nat)), e = .returned (.tuple #[]) ∧ Hid (BkAt B w' O va' vi' vn vr vc' vs (ea ++ en) (ei ++ em)) ∧ Hid (w'.ownsRow B 75 2 vc' (ec ++ eq).length (cellsE (ec ++ eq))) ∧ en.length = 4 * ps.length ∧ em.length = 4 * ps.length ∧ eq.length = 4 ∧
    Hid (∀ x ∈ en, MarkG 62 4 mkA w' x) ∧ Hid (∀ x ∈ em, MarkG 52 2 mkI w' x) ∧ Hid (∀ x ∈ eq, MarkG 60 5 mkSt w' x) ∧
    Hid (∀ x ∈ en, ∀ g, x.1.ownBlock = some g → (∃ p ∈ ps, p.r.c2.ownBlock = some g) ∨ w.heap.size ≤ g) ∧ Hid (∀ x ∈ em, ∀ g, x.1.ownBlock = some g → (∃ p ∈ ps, p.r.c3.ownBlock = some g) ∨ w.heap.size ≤ g) ∧ Hid (∀ x ∈ eq, ∀ g, x.1.ownBlock = some g → l.ownBlock = some g ∨ w.heap.size ≤ g) ∧ Hid (Kept (TurnSt ps l va vi vc O) w w')
theorem not_TurnLS {B O : Nat} {w : World} {va vi vn vr vc vs v : Value} {ea ei : List (Value × Nat)} {ps : List StepC} {k : Nat} {c : Array Value} {t : TypeId} {fz : Nat × Nat} (hb : BkAt B w O va vi vn vr vc vs ea ei) (hps : StpsAt B w v ps) (hk : w.heap[k]? = some (.cells c t fz)) (h1 : t ≠ 62) (h2 : t ≠ 52) (h3 : t ≠ 120) (h4 : t ≠ 122) (h5 : t ≠ 37) : ¬ TurnLS ps va vi O k := by
  rintro (⟨p, hp, h | h⟩ | h | h | h)
  · exact ownsRow_ne (hps.each p hp).1.attrs hk h1 h
  · exact ownsRow_ne (hps.each p hp).1.after hk h2 h
  · exact ownsRow_ne hb.a hk h3 h
  · exact ownsRow_ne hb.i hk h4 h
  · exact tag_ne hk hb.o h5 h

theorem drop5 {xs : List Value} {o : Nat} (h : o + 5 ≤ xs.length) : ∃ z0 z1 z2 z3 z4, xs.drop o = z0 :: z1 :: z2 :: z3 :: z4 :: xs.drop (o + 5) := by
  obtain ⟨z0, z1, z2, z3, h1⟩ := drop4 (xs := xs) (o := o) (by omega)
  have h2 : xs.drop (o + 4) = xs[o + 4]'(by omega) :: xs.drop (o + 5) := List.drop_eq_getElem_cons (by omega)
  exact ⟨z0, z1, z2, z3, _, by rw [h1, h2]⟩
theorem kept5 (w : World) (b o : Nat) (v0 v1 v2 v3 v4 : Value) : Kept (· = b) w (((((w.setCell ⟨b, o, none⟩ v0).setCell ⟨b, o + 1, none⟩ v1).setCell ⟨b, o + 2, none⟩ v2).setCell ⟨b, o + 3, none⟩ v3).setCell ⟨b, o + 4, none⟩ v4) :=
  ((((kept_setCell w ⟨b, o, none⟩ v0).trans (kept_setCell _ ⟨b, o + 1, none⟩ v1) fun _ _ h => h).trans (kept_setCell _ ⟨b, o + 2, none⟩ v2) fun _ _ h => h).trans (kept_setCell _ ⟨b, o + 3, none⟩ v3) fun _ _ h => h).trans (kept_setCell _ ⟨b, o + 4, none⟩ v4) fun _ _ h => h
theorem own_set5 {w : World} {B b n cap o : Nat} {T : TypeId} {pre post : List Value} {z0 z1 z2 z3 z4 : Value} (h : w.ownsRow B T 5 (.slice (some ⟨b, 0, none⟩) n cap) n (pre ++ z0 :: z1 :: z2 :: z3 :: z4 :: post)) (ho : pre.length = o) (v0 v1 v2 v3 v4 : Value) :
    ((((((w.setCell ⟨b, o, none⟩ v0).setCell ⟨b, o + 1, none⟩ v1).setCell ⟨b, o + 2, none⟩ v2).setCell ⟨b, o + 3, none⟩ v3).setCell ⟨b, o + 4, none⟩ v4)).ownsRow B T 5 (.slice (some ⟨b, 0, none⟩) n cap) n (pre ++ v0 :: v1 :: v2 :: v3 :: v4 :: post) := by
  subst ho
  have h0 := (h.stored pre.length v0).1
  have h1 := (h0.stored (pre.length + 1) v1).1
  have h2 := (h1.stored (pre.length + 2) v2).1
  have h3 := (h2.stored (pre.length + 3) v3).1
  have h4 := (h3.stored (pre.length + 4) v4).1
  have e : (((((pre ++ z0 :: z1 :: z2 :: z3 :: z4 :: post).set pre.length v0).set (pre.length + 1) v1).set (pre.length + 2) v2).set (pre.length + 3) v3).set (pre.length + 4) v4 = pre ++ v0 :: v1 :: v2 :: v3 :: v4 :: post := by simp [List.set_append_right]
  rw [e] at h4; exact h4
theorem six_set4 {w : World} {k : Nat} {a b c d e f : Value} {t : TypeId} {fz : Nat × Nat} (hk : w.heap[k]? = some (.cells #[a, b, c, d, e, f] t fz)) (v : Value) : (w.setCell ⟨k, 4, none⟩ v).heap[k]? = some (.cells #[a, b, c, d, v, f] t fz) := by
  have := row_set hk 4 v; simpa using this
theorem infoSO : (Tryz.prog.info? 75).map (fun i => (i.zero, i.size, i.bytes)) = some (some (.agg #[.slice none 0 0, .int .i64 0]), 2, 32) := by kernel_rfl
def TurnEs (l vc : Value) (O : Nat) (b : Nat) : Prop := some b = l.ownBlock ∨ some b = vc.ownBlock ∨ b = O
/-- An entry is put into the row of records. -/
theorem bk_appS {B O : Nat} {w w3 : World} {va vi vn vr vc vs vc' : Value} {es : List (Value × Nat)} {x : Value × Nat} {o : Obj} (ho : w.heap[O]? = some (.cells #[va, vi, vn, vr, vc, vs] 37 (0, 0))) (hc : w.ownsRow B 75 2 vc es.length (cellsE es)) (hg : (w.alloc o).grownBy w3 vc.ownBlock) (hown : w3.ownsRow B 75 2 vc' (es.length + 1) (cellsE es ++ cE x)) :
    w3.heap[O]? = some (.cells #[va, vi, vn, vr, vc, vs] 37 (0, 0)) ∧ (w3.setCell ⟨O, 4, none⟩ vc').heap[O]? = some (.cells #[va, vi, vn, vr, vc', vs] 37 (0, 0)) ∧ (w3.setCell ⟨O, 4, none⟩ vc').ownsRow B 75 2 vc' (es ++ [x]).length (cellsE (es ++ [x])) ∧ Kept (fun b => some b = vc.ownBlock ∨ b = O) w (w3.setCell ⟨O, 4, none⟩ vc') := by
  have hx : Ext w (w.alloc o) := (Ext.refl w).alloc o
  have ho3 := grown_keepsW (hc.alloc o) (ext_heap hx ho) (by decide) hg
  have hK : Kept (fun b => some b = vc.ownBlock) w w3 := grown_kept hg
  refine ⟨ho3, six_set4 ho3 vc', ?_, (hK.mono (fun _ _ h => .inl h)).trans (kept_setCell w3 ⟨O, 4, none⟩ vc') (fun _ _ h => .inr h)⟩
  rw [List.length_append, cellsE_app]
  exact ownsRow_set hown ho3 (by decide) vc'

set_option maxRecDepth 100000 in
set_option maxHeartbeats 6400000 in
theorem ownSteps (B O : Nat) (w : World) (va vi vn vr vc vs : Value) (ea ei ec : List (Value × Nat)) (l : Value) (ps : List StepC) (hb : BkAt B w O va vi vn vr vc vs ea ei) (hc : w.ownsRow B 75 2 vc ec.length (cellsE ec)) (hB : B ≤ w.heap.size) (hl : StpsAt B w l ps) (hn : ps.length ≤ 150000) (he : ea.length ≤ 600000) (hf : ei.length ≤ 600000) (hg : ec.length ≤ 1000) :
    Calls Tryz.prog 9 #[.pointer (some ⟨O, 0, none⟩), l] w (OwnedSt B O w va vi vn vr vc vs ea ei ec l ps) := by
  obtain ⟨i0, hi, hz0, hz1, hz2⟩ := info_of infoStep
  replace hi := hide hi
  obtain ⟨pa, ca, rfl⟩ := ownsRow_form hl.row
  obtain ⟨pe, ce, rfl⟩ := ownsRow_form hc
  replace hb := hide hb; replace hl := hide hl; replace hc := hide hc
  go_enter Tryz.func9, Tryz.ntmps9
  go_wp2_with fail
  go_loopw [4] (fun i wr => ∃ (j : Nat) (va' vi' : Value) (en em : List (Value × Nat)), j ≤ ps.length ∧ i = .int .i64 j ∧ en.length = 4 * j ∧ em.length = 4 * j ∧ Hid (InBkS B O w va vi vn vr (.slice pe ec.length ce) vs ea ei ps j wr va' vi' en em)) (fun i _ => ps.length - (intOf i).toNat)
  case atStart => exact ⟨0, va, vi, [], [], Nat.zero_le _, rfl, rfl, rfl, InBkS.start hb.out hl.out (Ext.refl _)⟩
  case round =>
    obtain ⟨j, va', vi', en, em, hj, rfl, hen, hem, hin⟩ := hrel
    have hrow := hide (ownsRow_keep hl.out.row hin.out.kept (fun g c hg => not_TurnLS hb.out hl.out hg (by decide) (by decide) (by decide) (by decide) (by decide)))
    by_cases hlt : j < ps.length
    · obtain ⟨p, hp⟩ := some_of_lt hlt
      obtain ⟨g, cap, hv, _, _⟩ := hrow.out.form (by omega)
      obtain ⟨rfl, rfl⟩ : pa = some ⟨g, 0, none⟩ ∧ ca = cap := by simpa using hv
      clear hv
      have hcell : ∀ r u, (cV p)[r]? = some u → wr.cell? ⟨g, j * 5 + r, none⟩ = some u := fun r u hu => by
        have hr : r < 5 := (List.getElem?_eq_some_iff.1 hu).1
        rw [hrow.out.cellAt (j * 5 + r) (by omega)]
        exact (flat_get cV_len hp hr).trans hu
      have hown := hin.out.rest j p (Nat.le_refl _) hp
      have hokp := (hl.out.each p (List.mem_of_getElem? hp)).2
      obtain ⟨a2, p2, e2⟩ := hown.f2
      obtain ⟨a3, p3, e3⟩ := hown.f3
      obtain ⟨op, x, b2, m2, r2, b3, m3, r3⟩ := p
      dsimp only [ResC.c2, ResC.c3] at e2 e3 hown hokp
      obtain ⟨rfl, rfl, rfl⟩ : b2 = a2 ∧ m2 = x.attrs.length ∧ r2 = p2 := by simpa using e2
      obtain ⟨rfl, rfl, rfl⟩ : b3 = a3 ∧ m3 = x.after.length ∧ r3 = p3 := by simpa using e3
      clear e2 e3
      have g4 := hcell 1 _ rfl; have g5 := hcell 2 _ rfl; have g6 := hcell 3 _ rfl; have g7 := hcell 4 _ rfl
      dsimp only at g4 g5 g6 g7
      obtain ⟨n2, n3⟩ : x.attrs.length ≤ 1000 ∧ x.after.length ≤ 1000 := by
        obtain ⟨_, _, _, h4, h5⟩ := hokp
        exact ⟨by omega, by omega⟩
      have j2 : (j : Int) < (ps.length : Int) := by omega
      have j4 : (0 : Int) ≤ (j : Int) := by omega
      clear hcell
      replace hown := hide hown; replace hokp := hide hokp; replace hp := hide hp
      go_wp2_with fail
      refine (ownResource B O _ va' vi' vn vr _ vs (ea ++ en) (ei ++ em) _ _ x hin.out.bk (Nat.le_trans hB hin.out.kept.size) hown.out n2 n3 (by rw [List.length_append]; omega) (by rw [List.length_append]; omega)).mono ?_
      rintro e w1 ⟨va1, vi1, en1, em1, rfl, hb1, hen1, hem1, hma1, hmi1, hla1, hli1, hk1, hqa1, hqi1⟩
      have hst := hide (hin.out.step hl.out hp.out hb1.out hma1.out hmi1.out hla1.out hli1.out hk1.out hqa1.out hqi1.out)
      go_wp2_with fail
      go_roundw
      case rel => exact ⟨j + 1, va1, vi1, en ++ en1, em ++ em1, by omega, by go_num, by rw [List.length_append]; omega, by rw [List.length_append]; omega, hst⟩
      case measure => simp [intOf]; omega
    · obtain rfl : j = ps.length := by omega
      have hcrow := hide (ownsRow_keep hc.out hin.out.kept (fun g c hg => not_TurnLS hb.out hl.out hg (by decide) (by decide) (by decide) (by decide) (by decide)))
      obtain ⟨o0, o1, o2, o3, o4, o5⟩ := six_celB hin.out.bk.o
      obtain ⟨wa, rfl⟩ : ∃ wa : World, wa = wr := ⟨_, rfl⟩
      obtain ⟨i1, hi', hy0, hy1, hy2⟩ := info_of infoSO
      replace hi' := hide hi'
      have hxl : (cellsV ps).length = ps.length * 5 := hrow.out.1
      have hB' : B ≤ wa.heap.size := Nat.le_trans hB hin.out.kept.size
      have hneO : ∀ g, (Value.slice pa ps.length ca).ownBlock = some g → g ≠ O := fun g hg => by
        obtain ⟨c, hcc⟩ := own_row hrow.out hg
        exact tag_ne hcc hin.out.bk.o (by decide)
      have hneE : ∀ g, (Value.slice pa ps.length ca).ownBlock = some g → (Value.slice pe ec.length ce).ownBlock ≠ some g := fun g hg hg' => by
        obtain ⟨c, hcc⟩ := own_row hrow.out hg
        exact ownsRow_ne hcrow.out hcc (by decide) hg'.symm
      have hbo := hide hin.out.bk.o
      replace hxl := hide hxl; replace hneO := hide hneO; replace hneE := hide hneE
      go_wp2_with fail
      clear o0 o1 o2 o3 o4 o5
      go_loopw [6] (fun i wr => ∃ j : Nat, j ≤ ps.length ∧ i = .int .i64 j ∧ Hid (wr.ownsRow B 60 5 (.slice pa ps.length ca) ps.length (rep j (mkSt ec.length) ++ (cellsV ps).drop (j * 5))) ∧ Hid (Kept (fun b => some b = (Value.slice pa ps.length ca).ownBlock) wa wr)) (fun i _ => ps.length - (intOf i).toNat)
      case atStart =>
        refine ⟨0, Nat.zero_le _, rfl, ?_, Kept.refl _ _⟩
        show World.ownsRow _ _ _ _ _ _ _
        simpa [rep_zero] using hrow.out
      case round =>
        obtain ⟨j, hj, rfl, hown, hK⟩ := hrel
        by_cases hlt : j < ps.length
        · obtain ⟨g, cap, hv, hBg, hglt⟩ := hown.out.form (by omega)
          obtain ⟨rfl, rfl⟩ : pa = some ⟨g, 0, none⟩ ∧ ca = cap := by simpa using hv
          clear hv
          obtain ⟨z0, z1, z2, z3, z4, hd⟩ := drop5 (xs := cellsV ps) (o := j * 5) (by have := hxl.out; omega)
          have hown2 := hown.out
          rw [hd] at hown2
          have hpre : (rep j (mkSt ec.length)).length = j * 5 := by rw [rep_len]; rfl
          have c0 := own_celB (r := 0) hown2 hpre rfl
          have c1 := own_celB (r := 1) hown2 hpre rfl
          have c2 := own_celB (r := 2) hown2 hpre rfl
          have c3 := own_celB (r := 3) hown2 hpre rfl
          have c4 := own_celB (r := 4) hown2 hpre rfl
          rw [Nat.add_zero] at c0
          have fg := fun q => hown2.frozenAt q
          have j2 : (j : Int) < (ps.length : Int) := by omega
          have j4 : (0 : Int) ≤ (j : Int) := by omega
          replace hown2 := hide hown2; replace hpre := hide hpre
          go_wp2
          go_roundw
          case rel =>
            have K8 := kept5 wr g (j * 5) (.int .i64 (-9 - (ec.length : Int))) (.string ⟨#[]⟩) (.string ⟨#[]⟩) (.slice none 0 0) (.slice none 0 0)
            have O8 := own_set5 hown2.out hpre.out (.int .i64 (-9 - (ec.length : Int))) (.string ⟨#[]⟩) (.string ⟨#[]⟩) (.slice none 0 0) (.slice none 0 0)
            refine ⟨j + 1, by omega, by go_num, ?_, hK.out.trans K8 (fun b _ hb => by subst hb; rfl)⟩
            show World.ownsRow _ _ _ _ _ _ _
            rw [rep_succ, List.append_assoc, show (j + 1) * 5 = j * 5 + 5 by omega]
            exact O8
          case measure => simp [intOf]; omega
        · obtain rfl : j = ps.length := by omega
          have hown0 : Hid (wr.ownsRow B 60 5 (.slice pa ps.length ca) ps.length (rep ps.length (mkSt ec.length))) := by
            have := hown.out
            rw [List.drop_of_length_le (by rw [hxl.out]; exact Nat.le_refl _), List.append_nil] at this
            exact this
          have hbo2 := hide (hK.out.heap hbo.out (fun h => hneO.out O h.symm rfl))
          have hcr2 := hide (ownsRow_keptR hcrow.out hK.out (fun g hg h => hneE.out g h.symm hg))
          obtain ⟨o0, o1, o2, o3, o4, o5⟩ := six_celB hbo2.out
          have fO := row_frozen hbo2.out
          have hsz := hide (Nat.le_trans hB' hK.out.size)
          have hkc : Hid (∀ g, some g = (Value.slice pe ec.length ce).ownBlock → g < wr.heap.size) := fun g h => (hcr2.out.lt g h.symm).2
          go_wp2_with (at_builtin; go_must (refine wpList_append_lies _ rfl (.tmp 42) (.tmp 46) 34 rfl B 75 i1 (.agg #[.slice none 0 0, .int .i64 0]) 2 32 Tryz.underlying34 hi'.out hy0 hy1 hy2 rfl (by omega) _ ec.length (cellsE ec) rfl (hcr2.out.alloc _) ⟨wr.heap.size, 0, none⟩ 1 1 (cE (.slice pa ps.length ca, ec.length)) rfl rfl ?_ cE_one (by omega) (by unfold maxLen; omega) (by omega) (by have := hsz.out; simp; omega) (wr.heap.size + 1) (by simp) ?_; (intro q u hu; rw [add_eq]; (match q, hu with | 0, hu => (simp [cE] at hu; subst hu; simp [go_sem]) | 1, hu => (simp [cE] at hu; subst hu; simp [go_sem]) | _ + 2, hu => (simp [cE] at hu))); intro g3 c3 w3 hown3 hgrow3 hat3 hlt3; have hbk3 := bk_appS (x := (.slice pa ps.length ca, ec.length)) hbo2.out hcr2.out hgrow3 hown3; clear o0 o1 o2 o3 o4 o5 fO; obtain ⟨o0, o1, o2, o3, o4, o5⟩ := six_celB hbk3.1; have fO := row_frozen hbk3.1; replace hbk3 := hide hbk3))
          replace hgrow3 := hide hgrow3; replace hown3 := hide hown3
          have hkO : Hid (Kept (fun b => some b = (Value.slice pe ec.length ce).ownBlock ∨ b = O) wr (w3.setCell ⟨O, 4, none⟩ (.slice (some ⟨g3, 0, none⟩) (ec.length + 1) c3))) := hbk3.out.2.2.2
          have hnTag : ∀ g c, wr.heap[g]? = some (.cells c 60 (0, 0)) → ¬ (some g = (Value.slice pe ec.length ce).ownBlock ∨ g = O) := fun g c hg h => by
            rcases h with h | h
            · exact ownsRow_ne hcr2.out hg (by decide) h
            · exact tag_ne hg hbo2.out (by decide) h
          have hown4 := hide (ownsRow_keep hown0.out hkO.out hnTag)
          have hK4 : Hid (Kept (TurnEs (.slice pa ps.length ca) (.slice pe ec.length ce) O) wa (w3.setCell ⟨O, 4, none⟩ (.slice (some ⟨g3, 0, none⟩) (ec.length + 1) c3))) := (hK.out.mono (fun _ _ h => Or.inl h)).trans hkO.out (fun b _ h => h.elim (fun h => .inr (.inl h)) (fun h => .inr (.inr h)))
          have hat4 : Hid (∀ g, (Value.slice (some ⟨g3, 0, none⟩) (ec.length + 1) c3).ownBlock = some g → (Value.slice pe ec.length ce).ownBlock = some g ∨ wa.heap.size ≤ g) := fun g hg => by
            obtain rfl : g3 = g := by simpa [Value.ownBlock] using hg
            rcases hat3 with h | h
            · exact .inl h
            · right; have := hK.out.size; omega
          clear o0 o1 o2 o3 o4 o5 fO
          have hmk0 : Hid (MarkG 60 5 mkSt (w3.setCell ⟨O, 4, none⟩ (.slice (some ⟨g3, 0, none⟩) (ec.length + 1) c3)) (.slice pa ps.length ca, ec.length)) := MarkG.of hown4.out (by omega) (by omega)
          have hbo4 := hide hbk3.out.2.1
          have hcr4 := hide hbk3.out.2.2.1
          clear hbk3 hown0 hbo2 hcr2 hK hkO hnTag hat3 hlt3 hgrow3 hown3 hsz hown hkc
          go_wp2_with fail
          go_loopw [1, 7] (fun v i wr => ∃ (q : Nat) (pl : Option Addr) (cl : Nat) (pq : Option Addr) (cq : Nat) (eq : List (Value × Nat)), q ≤ 3 ∧ i = .int .i64 q ∧ v = .slice pl (ps.length + q) cl ∧ eq.length = 1 + q ∧ Hid (wr.ownsRow B 60 5 (.slice pl (ps.length + q) cl) (ps.length + q) (rep (ps.length + q) (mkSt ec.length))) ∧ Hid (wr.heap[O]? = some (.cells #[va', vi', vn, vr, .slice pq (ec.length + 1 + q) cq, vs] 37 (0, 0))) ∧ Hid (wr.ownsRow B 75 2 (.slice pq (ec.length + 1 + q) cq) (ec ++ eq).length (cellsE (ec ++ eq))) ∧ Hid (∀ x ∈ eq, MarkG 60 5 mkSt wr x ∧ x.2 = ec.length ∧ elen x ≤ ps.length + q ∧ ∀ g, x.1.ownBlock = some g → (Value.slice pa ps.length ca).ownBlock = some g ∨ wa.heap.size ≤ g) ∧ Hid (∀ g, (Value.slice pl (ps.length + q) cl).ownBlock = some g → (Value.slice pa ps.length ca).ownBlock = some g ∨ wa.heap.size ≤ g) ∧ Hid (∀ g, (Value.slice pq (ec.length + 1 + q) cq).ownBlock = some g → (Value.slice pe ec.length ce).ownBlock = some g ∨ wa.heap.size ≤ g) ∧ Hid (Kept (TurnEs (.slice pa ps.length ca) (.slice pe ec.length ce) O) wa wr)) (fun _ i _ => 3 - (intOf i).toNat)
          case atStart =>
            refine ⟨0, pa, ca, some ⟨g3, 0, none⟩, c3, [(.slice pa ps.length ca, ec.length)], by omega, rfl, rfl, rfl, hown4, hbo4, hcr4, ?_, fun g hg => .inl hg, hat4, hK4⟩
            intro x hx
            obtain rfl : x = (.slice pa ps.length ca, ec.length) := by simpa using hx
            exact ⟨hmk0.out, rfl, Nat.le_refl _, fun g hg => .inl hg⟩
          case round =>
            obtain ⟨q, pl, cl, pq, cq, eq, hq, rfl, rfl, hen', hown, hbo5, hcr5, hmk, hatl, hatq, hK⟩ := hrel
            obtain ⟨o0, o1, o2, o3, o4, o5⟩ := six_celB hbo5.out
            have fO := row_frozen hbo5.out
            have hsz := hide (Nat.le_trans hB' hK.out.size)
            have hlenE : (ec ++ eq).length = ec.length + 1 + q := by rw [List.length_append, hen']; omega
            replace hlenE := hide hlenE
            by_cases hlt : q < 3
            · go_wp2_with (at_builtin; first
                | (refine wpList_append_tight _ rfl (.tmp 54) (.tmp 58) 23 rfl B 60 i0 (.agg #[.int .i64 0, .string ⟨#[]⟩, .string ⟨#[]⟩, .slice none 0 0, .slice none 0 0]) 5 88 Tryz.underlying23 hi.out hz0 hz1 hz2 rfl (by omega) _ (ps.length + q) (rep (ps.length + q) (mkSt ec.length)) rfl (hown.out.alloc _) ⟨wr.heap.size, 0, none⟩ 1 1 (mkSt ec.length) rfl rfl ?_ (mkSt_one _) (by omega) (by unfold maxLen; omega) (by omega) (by have := hsz.out; simp; omega) ?_; (intro r u hu; rw [add_eq]; (match r, hu with | 0, hu => (simp [mkSt] at hu; subst hu; simp [go_sem]) | 1, hu => (simp [mkSt] at hu; subst hu; simp [go_sem]) | 2, hu => (simp [mkSt] at hu; subst hu; simp [go_sem]) | 3, hu => (simp [mkSt] at hu; subst hu; simp [go_sem]) | 4, hu => (simp [mkSt] at hu; subst hu; simp [go_sem]) | _ + 5, hu => (simp [mkSt] at hu))); go_must (intro g5 c5 w5 hown5 hgrow5 hat5; have hkl5 : Hid (Kept (fun b => some b = (Value.slice pl (ps.length + q) cl).ownBlock) wr w5) := grown_kept hgrow5; have hbo6 : Hid (w5.heap[O]? = some (.cells #[va', vi', vn, vr, .slice pq (ec.length + 1 + q) cq, vs] 37 (0, 0))) := hkl5.out.heap hbo5.out (ownsRow_ne hown.out hbo5.out (by decide)); have hcr6 : Hid (w5.ownsRow B 75 2 (.slice pq (ec.length + 1 + q) cq) (ec ++ eq).length (cellsE (ec ++ eq))) := ownsRow_keep hcr5.out hkl5.out (fun _ _ hg => ownsRow_ne hown.out hg (by decide)); clear o0 o1 o2 o3 o4 o5 fO; obtain ⟨o0, o1, o2, o3, o4, o5⟩ := six_celB hbo6.out; have fO := row_frozen hbo6.out; replace hown5 := hide hown5; replace hgrow5 := hide hgrow5; replace hat5 := hide hat5; have hsz5 := hide (Nat.le_trans hsz.out hkl5.out.size)))
                | (refine wpList_append_lies _ rfl (.tmp 64) (.tmp 68) 34 rfl B 75 i1 (.agg #[.slice none 0 0, .int .i64 0]) 2 32 Tryz.underlying34 hi'.out hy0 hy1 hy2 rfl (by omega) _ (ec.length + 1 + q) (cellsE (ec ++ eq)) rfl ((bk_len hcr6.out hlenE.out).alloc _) ⟨w5.heap.size, 0, none⟩ 1 1 (cE (.slice (some ⟨g5, 0, none⟩) (ps.length + q + 1) c5, ec.length)) rfl rfl ?_ cE_one (by omega) (by unfold maxLen; omega) (by omega) (by have := hsz5.out; simp; omega) (w5.heap.size + 1) (by simp) ?_; (intro r u hu; rw [add_eq]; (match r, hu with | 0, hu => (simp [cE] at hu; subst hu; simp [go_sem]) | 1, hu => (simp [cE] at hu; subst hu; simp [go_sem]) | _ + 2, hu => (simp [cE] at hu))); go_must (intro g7 c7 w7 hown7 hgrow7 hat7 hlt7; have hbk7 := bk_appS (x := (.slice (some ⟨g5, 0, none⟩) (ps.length + q + 1) c5, ec.length)) (vc := .slice pq (ec.length + 1 + q) cq) (vc' := .slice (some ⟨g7, 0, none⟩) (ec.length + 1 + q + 1) c7) hbo6.out hcr6.out hgrow7 (by rw [hlenE.out]; exact hown7); clear o0 o1 o2 o3 o4 o5 fO; obtain ⟨o0, o1, o2, o3, o4, o5⟩ := six_celB hbk7.1; have fO := row_frozen hbk7.1; replace hbk7 := hide hbk7; replace hat7 : (Value.slice pq (ec.length + 1 + q) cq).ownBlock = some g7 ∨ g7 = w5.heap.size + 1 := hat7; replace hat7 := hide hat7)))
              replace hgrow5 : (wr.alloc (.cells (mkSt ec.length).toArray 60)).grownBy w5 (Value.slice pl (ps.length + q) cl).ownBlock := hgrow5.out
              replace hat5 : (Value.slice pl (ps.length + q) cl).ownBlock = some g5 ∨ ((wr.alloc (.cells (mkSt ec.length).toArray 60)).heap.size ≤ g5 ∧ ∀ k, k < (wr.alloc (.cells (mkSt ec.length).toArray 60)).heap.size → w5.heap[k]? = (wr.alloc (.cells (mkSt ec.length).toArray 60)).heap[k]?) := hat5.out
              replace hgrow5 := hide hgrow5; replace hat5 := hide hat5
              have hge := hide hK.out.size
              go_roundw
              case rel =>
                have hT5 : ∀ g c, w5.heap[g]? = some (.cells c 60 (0, 0)) → ¬ (some g = (Value.slice pq (ec.length + 1 + q) cq).ownBlock ∨ g = O) := fun g c hg h => by
                  rcases h with h | h
                  · exact ownsRow_ne hcr6.out hg (by decide) h
                  · exact tag_ne hg hbo6.out (by decide) h
                obtain ⟨_, hb8, hc8, K8⟩ := hbk7.out
                refine ⟨q + 1, some ⟨g5, 0, none⟩, c5, some ⟨g7, 0, none⟩, c7, eq ++ [(.slice (some ⟨g5, 0, none⟩) (ps.length + q + 1) c5, ec.length)], by omega, by go_num, rfl, by rw [List.length_append, hen']; rfl, ?_, hb8, ?_, ?_, ?_, ?_, ?_⟩
                · have := ownsRow_keep hown5.out K8 hT5
                  rw [← rep_succ] at this
                  exact this
                · rw [List.append_assoc] at hc8; exact hc8
                · intro x hx
                  rcases List.mem_append.1 hx with hx | hx
                  · obtain ⟨k1, k2, k3, k4⟩ := hmk.out x hx
                    have k5 : MarkG 60 5 mkSt w5 x := k1.app k3 (by rw [k2]; rfl) (by rw [k2]; exact hown5.out) hgrow5.out hat5.out
                    exact ⟨k5.kept (fun g c _ hg => K8.heap hg (hT5 g c hg)), k2, by omega, k4⟩
                  · obtain rfl : x = _ := by simpa using hx
                    have k5 : MarkG 60 5 mkSt w5 (.slice (some ⟨g5, 0, none⟩) (ps.length + q + 1) c5, ec.length) := MarkG.of (by rw [rep_succ]; exact hown5.out) (by omega) (by omega)
                    refine ⟨k5.kept (fun g c _ hg => K8.heap hg (hT5 g c hg)), rfl, Nat.le_refl _, fun g hg => ?_⟩
                    obtain rfl : g5 = g := by simpa [Value.ownBlock] using hg
                    rcases hat5.out with h | h
                    · exact hatl.out g5 h
                    · right; have := h.1; have := hge.out; simp at *; omega
                · intro g hg
                  obtain rfl : g5 = g := by simpa [Value.ownBlock] using hg
                  rcases hat5.out with h | h
                  · exact hatl.out g5 h
                  · right; have := h.1; have := hge.out; simp at *; omega
                · intro g hg
                  obtain rfl : g7 = g := by simpa [Value.ownBlock] using hg
                  rcases hat7.out with h | h
                  · exact hatq.out g7 h
                  · right; have := hge.out; have := hkl5.out.size; omega
                · refine (hK.out.trans hkl5.out (fun b hb h => ?_)).trans K8 (fun b hb h => ?_)
                  · rcases hatl.out b h.symm with h | h
                    · exact .inl h.symm
                    · omega
                  · rcases h with h | h
                    · rcases hatq.out b h.symm with h | h
                      · exact .inr (.inl h.symm)
                      · omega
                    · exact .inr (.inr h)
              case measure => simp [intOf]; omega
            · obtain rfl : q = 3 := by omega
              go_wp2_with fail
              refine ⟨rfl, .tuple #[], by simp [results, Tryz.results9], ?_⟩
              have hnE : ∀ g c t, wa.heap[g]? = some (.cells c t (0, 0)) → t ≠ 60 → t ≠ 75 → t ≠ 37 → ¬ TurnEs (.slice pa ps.length ca) (.slice pe ec.length ce) O g := by
                rintro g c t hg h1 h2 h3 (h | h | h)
                · exact ownsRow_ne hrow.out hg h1 h
                · exact ownsRow_ne hcrow.out hg h2 h
                · exact tag_ne hg hbo.out h3 h
              have hI := hin.out
              have hkw := hI.kept
              have hwa := hkw.size
              refine ⟨va', vi', .slice pq (ec.length + 1 + 3) cq, en, em, eq, rfl, ?_, hcr5, hen, hem, by omega, ?_, ?_, fun x hx => (hmk.out x hx).1, ?_, ?_, ?_, ?_⟩
              · exact ⟨hbo5.out, ownsRow_keep hI.bk.a hK.out (fun g c hg => hnE g c _ hg (by decide) (by decide) (by decide)), ownsRow_keep hI.bk.i hK.out (fun g c hg => hnE g c _ hg (by decide) (by decide) (by decide)), hI.bk.low⟩
              · exact fun x hx => (hI.ma x hx).kept (fun g c _ hg => hK.out.heap hg (hnE g c _ hg (by decide) (by decide) (by decide)))
              · exact fun x hx => (hI.mi x hx).kept (fun g c _ hg => hK.out.heap hg (hnE g c _ hg (by decide) (by decide) (by decide)))
              · intro x hx g hg
                rcases hI.la x hx g hg with ⟨j, p, _, hp, h⟩ | h
                · exact .inl ⟨p, List.mem_of_getElem? hp, h⟩
                · exact .inr h
              · intro x hx g hg
                rcases hI.li x hx g hg with ⟨j, p, _, hp, h⟩ | h
                · exact .inl ⟨p, List.mem_of_getElem? hp, h⟩
                · exact .inr h
              · intro x hx g hg
                rcases (hmk.out x hx).2.2.2 g hg with h | h
                · exact .inl h
                · exact .inr (by omega)
              · refine (hkw.mono (fun _ _ h => Or.inl h)).trans hK.out (fun b _ h => ?_)
                rcases h with h | h | h
                · exact .inr (.inl h)
                · exact .inr (.inr h)
                · exact .inl (.inr (.inr (.inr h)))
end Go.Proofs.YtodhhjlemmmjcaaGreat
