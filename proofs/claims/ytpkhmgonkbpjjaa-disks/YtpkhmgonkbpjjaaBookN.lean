/-
  The book: what putting a list of names into it does.
-/
import Derived.Test.YtpkhmgonkbpjjaaJ8
import Derived.Test.YtpkhmgonkbpjjaaNamF
import Derived.Test.YtpkhmgonkbpjjaaBroad
namespace Go.Proofs.Ytpkhmgonkbpjjaa
open Go.RowKit

abbrev nil0 : Value := .slice none 0 0
def mkN (k : Nat) : List Value := [.string (textD k)]
theorem mkN_one (k : Nat) : ∀ u ∈ mkN k, u.oneCell' = true := by
  intro u hu
  simp [mkN] at hu
  subst hu; rfl
/-- A book that holds names alone. -/
structure BkN (B : Nat) (w : World) (O : Nat) (vn : Value) (en : List (Value × Nat)) : Prop where
  o : w.heap[O]? = some (.cells #[nil0, nil0, vn, nil0, nil0, nil0] 41 (0, 0))
  n : w.ownsRow B 121 2 vn en.length (cellsE en)
  low : B ≤ O
def OwnedN (B O : Nat) (w : World) (vn : Value) (en : List (Value × Nat)) (l : Value) (e : Ending) (w' : World) : Prop :=
  ∃ (vn' : Value) (ex : List (Value × Nat)), e = .returned (.tuple #[]) ∧ Hid (BkN B w' O vn' (en ++ ex)) ∧ ex.length = 4 ∧ Hid (∀ x ∈ ex, MarkG 9 1 mkN w' x) ∧ Hid (∀ x ∈ ex, ∀ g, x.1.ownBlock = some g → l.ownBlock = some g ∨ w.heap.size ≤ g) ∧ Hid (Kept (TurnA l vn O) w w') ∧ Hid (∀ g, vn'.ownBlock = some g → vn.ownBlock = some g ∨ w.heap.size ≤ g)
theorem six_set2 {w : World} {k : Nat} {a b c d e f : Value} {t : TypeId} {fz : Nat × Nat} (hk : w.heap[k]? = some (.cells #[a, b, c, d, e, f] t fz)) (v : Value) : (w.setCell ⟨k, 2, none⟩ v).heap[k]? = some (.cells #[a, b, v, d, e, f] t fz) := by
  have := row_set hk 2 v; simpa using this
theorem infoNO : (Try.prog.info? 121).map (fun i => (i.zero, i.size, i.bytes)) = some (some (.agg #[.slice none 0 0, .int .i64 0]), 2, 32) := by kernel_rfl
theorem own_set1 {w : World} {B g n cap o : Nat} {T : TypeId} {pre post : List Value} {z0 : Value} (h : w.ownsRow B T 1 (.slice (some ⟨g, 0, none⟩) n cap) n (pre ++ z0 :: post)) (ho : pre.length = o) (v0 : Value) :
    (w.setCell ⟨g, o, none⟩ v0).ownsRow B T 1 (.slice (some ⟨g, 0, none⟩) n cap) n (pre ++ v0 :: post) := by
  subst ho
  have h1 := (h.stored pre.length v0).1
  have e : (pre ++ z0 :: post).set pre.length v0 = pre ++ v0 :: post := by simp
  rw [e] at h1; exact h1
/-- An entry is put into the book. -/
theorem bk_appN {B O : Nat} {w w3 : World} {vn vn' : Value} {en : List (Value × Nat)} {x : Value × Nat} {o : Obj} (hb : BkN B w O vn en) (hg : (w.alloc o).grownBy w3 vn.ownBlock) (hown : w3.ownsRow B 121 2 vn' (en.length + 1) (cellsE en ++ cE x)) :
    w3.heap[O]? = some (.cells #[nil0, nil0, vn, nil0, nil0, nil0] 41 (0, 0)) ∧ BkN B (w3.setCell ⟨O, 2, none⟩ vn') O vn' (en ++ [x]) ∧ Kept (fun b => some b = vn.ownBlock ∨ b = O) w (w3.setCell ⟨O, 2, none⟩ vn') := by
  have hx : Ext w (w.alloc o) := (Ext.refl w).alloc o
  have ho3 := grown_keepsW (hb.n.alloc o) (ext_heap hx hb.o) (by decide) hg
  have hK : Kept (fun b => some b = vn.ownBlock) w w3 := grown_kept hg
  refine ⟨ho3, ⟨six_set2 ho3 vn', ?_, hb.low⟩, (hK.mono (fun _ _ h => .inl h)).trans (kept_setCell w3 ⟨O, 2, none⟩ vn') (fun _ _ h => .inr h)⟩
  rw [List.length_append, cellsE_app]
  exact ownsRow_set hown ho3 (by decide) vn'
theorem bk_keptN {B O : Nat} {w w5 : World} {vn l : Value} {en : List (Value × Nat)} {n : Nat} {xs : List Value} (hb : BkN B w O vn en) (hl : w.ownsRow B 9 1 l n xs) (hK : Kept (fun b => some b = l.ownBlock) w w5) : BkN B w5 O vn en :=
  ⟨hK.heap hb.o (ownsRow_ne hl hb.o (by decide)), ownsRow_keep hb.n hK (fun _ _ hg => ownsRow_ne hl hg (by decide)), hb.low⟩
theorem BkN.kept {D : Nat → Prop} {B O : Nat} {w w' : World} {vn : Value} {en : List (Value × Nat)} (h : BkN B w O vn en) (k : Kept D w w') (h1 : ¬ D O) (h2 : ∀ g, vn.ownBlock = some g → ¬ D g) : BkN B w' O vn en :=
  ⟨k.heap h.o h1, ownsRow_keptR h.n k h2, h.low⟩
theorem BkN.ext {B O : Nat} {w w' : World} {vn : Value} {en : List (Value × Nat)} (h : BkN B w O vn en) (x : Ext w w') : BkN B w' O vn en := h.kept (x.kept (fun _ => False)) id (fun _ _ => id)

set_option maxRecDepth 100000 in
set_option maxHeartbeats 3200000 in
theorem ownNames (B O : Nat) (w0 : World) (vn : Value) (en : List (Value × Nat)) (l : Value) (n : Nat) (xs : List Value) (hb0 : BkN B w0 O vn en) (hB0 : B ≤ w0.heap.size) (hl0 : w0.ownsRow B 9 1 l n xs) (hn : n ≤ 2000000000000) (he : en.length ≤ 7036874417568) :
    Calls Try.prog 27 #[.pointer (some ⟨O, 0, none⟩), l] w0 (OwnedN B O w0 vn en l) := by
  obtain ⟨i0, hi, hz0, hz1, hz2⟩ := info_of infoString
  obtain ⟨i1, hi', hy0, hy1, hy2⟩ := info_of infoNO
  replace hi := hide hi; replace hi' := hide hi'
  obtain ⟨pa, ca, rfl⟩ := ownsRow_form hl0
  obtain ⟨pe, ce, rfl⟩ := ownsRow_form hb0.n
  obtain ⟨p0, p1, p2, p3, p4, p5⟩ := six_celB hb0.o
  replace hb0 := hide hb0; replace hl0 := hide hl0
  go_enter Try.func27, Try.ntmps27
  go_wp2_with fail
  refine (textOf en.length _ (by omega) (by omega)).mono ?_
  rintro e w ⟨rfl, he1⟩
  have hB : B ≤ w.heap.size := Nat.le_trans hB0 he1.size
  have hb := hb0.out.ext he1
  have hl := ownsRow_keep hl0.out (he1.kept (fun _ => False)) (fun _ _ _ => id)
  obtain ⟨o0, o1, o2, o3, o4, o5⟩ := six_celB hb.o
  clear p0 p1 p2 p3 p4 p5
  replace he1 := hide he1
  have hxl : xs.length = n * 1 := hl.1
  have hneO : ∀ g, (Value.slice pa n ca).ownBlock = some g → g ≠ O := fun g hg => by
    rcases hl.2 with ⟨h, _⟩ | ⟨g', cap, cur, h, _, hh, _⟩
    · rw [h] at hg; simp [Value.ownBlock] at hg
    · rw [h] at hg; simp [Value.ownBlock] at hg; subst hg; exact tag_ne hh hb.o (by decide)
  have hneE : ∀ g, (Value.slice pa n ca).ownBlock = some g → (Value.slice pe en.length ce).ownBlock ≠ some g := fun g hg => by
    rcases hl.2 with ⟨h, _⟩ | ⟨g', cap, cur, h, _, hh, _⟩
    · rw [h] at hg; simp [Value.ownBlock] at hg
    · rw [h] at hg; simp [Value.ownBlock] at hg; subst hg
      exact fun hk => ownsRow_ne hb.n hh (by decide) hk.symm
  replace hb := hide hb; replace hl := hide hl; replace hxl := hide hxl; replace hneO := hide hneO; replace hneE := hide hneE
  go_wp2_with fail
  go_loopw [6] (fun i wr => ∃ j : Nat, j ≤ n ∧ i = .int .i64 j ∧ Hid (wr.ownsRow B 9 1 (.slice pa n ca) n (rep j (mkN en.length) ++ xs.drop j)) ∧ Hid (Kept (TurnA (.slice pa n ca) (.slice pe en.length ce) O) w wr) ∧ Hid (BkN B wr O (.slice pe en.length ce) en)) (fun i _ => n - (intOf i).toNat)
  case atStart =>
    refine ⟨0, Nat.zero_le _, rfl, ?_, Kept.refl _ _, hb⟩
    show World.ownsRow _ _ _ _ _ _ _
    simpa [rep_zero] using hl.out
  case round =>
    obtain ⟨j, hj, rfl, hown, hK, hbk⟩ := hrel
    by_cases hlt : j < n
    · obtain ⟨g, cap, hv, hBg, hglt⟩ := hown.out.form (by omega)
      obtain ⟨rfl, rfl⟩ : pa = some ⟨g, 0, none⟩ ∧ ca = cap := by simpa using hv
      clear hv
      obtain ⟨z0, hd⟩ : ∃ z0, xs.drop j = z0 :: xs.drop (j + 1) := ⟨_, List.drop_eq_getElem_cons (by have := hxl.out; omega)⟩
      have hown2 := hown.out
      rw [hd] at hown2
      have hpre : (rep j (mkN en.length)).length = j := by rw [rep_len]; exact Nat.mul_one j
      have c0 := own_celB (r := 0) hown2 hpre rfl
      rw [Nat.add_zero] at c0
      have fg := fun q => hown2.frozenAt q
      have j2 : (j : Int) < (n : Int) := by omega
      have j4 : (0 : Int) ≤ (j : Int) := by omega
      replace hown2 := hide hown2; replace hpre := hide hpre; replace hd := hide hd
      go_wp2
      go_roundw
      case rel =>
        have K4 := kept_setCell wr ⟨g, j, none⟩ (.string (textD en.length))
        have O4 := own_set1 hown2.out hpre.out (.string (textD en.length))
        refine ⟨j + 1, by omega, by go_num, ?_, hK.out.trans K4 (fun b _ (hb : b = g) => .inl (by subst hb; rfl)), ?_⟩
        · show World.ownsRow _ _ _ _ _ _ _
          rw [rep_succ, List.append_assoc]
          exact O4
        · exact hbk.out.kept K4 (fun h => hneO.out g rfl h.symm) (fun g' hg' (h : g' = g) => hneE.out g rfl (by subst h; exact hg'))
      case measure => simp [intOf]; omega
    · obtain rfl : j = n := by omega
      have hown0 : Hid (wr.ownsRow B 9 1 (.slice pa j ca) j (rep j (mkN en.length))) := by
        have := hown.out
        rw [List.drop_of_length_le (by rw [hxl.out]; omega), List.append_nil] at this
        exact this
      clear hown o0 o1 o2 o3 o4 o5 hj hlt
      obtain ⟨o0, o1, o2, o3, o4, o5⟩ := six_celB hbk.out.o
      have fO := row_frozen hbk.out.o
      have hsz := hide hK.out.size
      obtain ⟨k, hke⟩ : ∃ k, en.length = k := ⟨_, rfl⟩
      have hkl : k ≤ 7036874417568 := by omega
      replace hke := hide hke
      go_wp2_with (at_builtin; go_must (refine wpList_append_broad _ rfl (.tmp 29) (.tmp 33) 34 rfl B 121 i1 (.agg #[.slice none 0 0, .int .i64 0]) 2 32 Try.underlying34 hi'.out hy0 hy1 hy2 rfl (by omega) _ en.length (cellsE en) rfl (hbk.out.n.alloc _) ⟨wr.heap.size, 0, none⟩ 1 1 (cE (.slice pa j ca, en.length)) rfl rfl ?_ cE_one (by omega) (by unfold maxLen; omega) ⟨by omega, by omega⟩ (by have := hsz.out; simp; omega) (wr.heap.size + 1) (by simp) ?_; (intro q u hu; rw [add_eq]; (match q, hu with | 0, hu => (simp [cE] at hu; subst hu; simp [go_sem]) | 1, hu => (simp [cE] at hu; subst hu; simp [go_sem]) | _ + 2, hu => (simp [cE] at hu))); intro g3 c3 w3 hown3 hgrow3 hat3 hlt3; have hbk3 := bk_appN (x := (.slice pa j ca, en.length)) hbk.out hgrow3 hown3; clear o0 o1 o2 o3 o4 o5 fO; obtain ⟨o0, o1, o2, o3, o4, o5⟩ := six_celB hbk3.1; have fO := row_frozen hbk3.1; replace hbk3 := hide hbk3))
      replace hgrow3 := hide hgrow3; replace hown3 := hide hown3
      have hkO : Hid (Kept (fun b => some b = (Value.slice pe en.length ce).ownBlock ∨ b = O) wr (w3.setCell ⟨O, 2, none⟩ (.slice (some ⟨g3, 0, none⟩) (en.length + 1) c3))) := hbk3.out.2.2
      have hnTag : ∀ g c, wr.heap[g]? = some (.cells c 9 (0, 0)) → ¬ (some g = (Value.slice pe en.length ce).ownBlock ∨ g = O) := fun g c hg h => by
        rcases h with h | h
        · exact ownsRow_ne hbk.out.n hg (by decide) h
        · exact tag_ne hg hbk.out.o (by decide) h
      have hown4 := hide (ownsRow_keep hown0.out hkO.out hnTag)
      have hK4 : Hid (Kept (TurnA (.slice pa j ca) (.slice pe en.length ce) O) w (w3.setCell ⟨O, 2, none⟩ (.slice (some ⟨g3, 0, none⟩) (en.length + 1) c3))) := hK.out.trans hkO.out (fun b _ h => h.elim (fun h => .inr (.inl h)) (fun h => .inr (.inr h)))
      have hat4 : Hid (∀ g, (Value.slice (some ⟨g3, 0, none⟩) (en.length + 1) c3).ownBlock = some g → (Value.slice pe en.length ce).ownBlock = some g ∨ w.heap.size ≤ g) := fun g hg => by
        obtain rfl : g3 = g := by simpa [Value.ownBlock] using hg
        rcases hat3 with h | h
        · exact .inl h
        · right; have := hsz.out; omega
      clear o0 o1 o2 o3 o4 o5 fO
      have hmk0 : Hid (MarkG 9 1 mkN (w3.setCell ⟨O, 2, none⟩ (.slice (some ⟨g3, 0, none⟩) (en.length + 1) c3)) (.slice pa j ca, en.length)) := MarkG.of hown4.out (by omega) (by omega)
      have hbk4 := hide hbk3.out.2.1
      clear hbk3 hown0 hbk hK hkO hnTag hat3 hlt3 hgrow3 hown3 hsz
      go_wp2_with fail
      go_loopw [1, 7] (fun v i wr => ∃ (q : Nat) (pl : Option Addr) (cl : Nat) (pq : Option Addr) (cq : Nat) (ex : List (Value × Nat)), q ≤ 3 ∧ i = .int .i64 q ∧ v = .slice pl (j + q) cl ∧ ex.length = 1 + q ∧ Hid (wr.ownsRow B 9 1 (.slice pl (j + q) cl) (j + q) (rep (j + q) (mkN en.length))) ∧ Hid (BkN B wr O (.slice pq (en.length + 1 + q) cq) (en ++ ex)) ∧ Hid (∀ x ∈ ex, MarkG 9 1 mkN wr x ∧ x.2 = en.length ∧ elen x ≤ j + q ∧ ∀ g, x.1.ownBlock = some g → (Value.slice pa j ca).ownBlock = some g ∨ w.heap.size ≤ g) ∧ Hid (∀ g, (Value.slice pl (j + q) cl).ownBlock = some g → (Value.slice pa j ca).ownBlock = some g ∨ w.heap.size ≤ g) ∧ Hid (∀ g, (Value.slice pq (en.length + 1 + q) cq).ownBlock = some g → (Value.slice pe en.length ce).ownBlock = some g ∨ w.heap.size ≤ g) ∧ Hid (Kept (TurnA (.slice pa j ca) (.slice pe en.length ce) O) w wr)) (fun _ i _ => 3 - (intOf i).toNat)
      case atStart =>
        refine ⟨0, pa, ca, some ⟨g3, 0, none⟩, c3, [(.slice pa j ca, en.length)], by omega, rfl, rfl, rfl, hown4, hbk4, ?_, fun g hg => .inl hg, hat4, hK4⟩
        intro x hx
        obtain rfl : x = (.slice pa j ca, en.length) := by simpa using hx
        exact ⟨hmk0.out, rfl, Nat.le_refl _, fun g hg => .inl hg⟩
      case round =>
        obtain ⟨q, pl, cl, pq, cq, ex, hq, rfl, rfl, hen, hown, hbk, hmk, hatl, hatq, hK⟩ := hrel
        obtain ⟨o0, o1, o2, o3, o4, o5⟩ := six_celB hbk.out.o
        have fO := row_frozen hbk.out.o
        have hsz := hide hK.out.size
        have hlenE : (en ++ ex).length = en.length + 1 + q := by rw [List.length_append, hen]; omega
        replace hlenE := hide hlenE
        by_cases hlt : q < 3
        · go_wp2_with (at_builtin; first
            | (refine wpList_append_tight _ rfl (.tmp 41) (.tmp 43) 64 rfl B 9 i0 (.string ⟨#[]⟩) 1 16 Try.underlying64 hi.out hz0 hz1 hz2 rfl (by omega) _ (j + q) (rep (j + q) (mkN en.length)) rfl (hown.out.alloc _) ⟨wr.heap.size, 0, none⟩ 1 1 (mkN en.length) rfl rfl ?_ (mkN_one _) (by omega) (by unfold maxLen; omega) (by omega) (by have := hsz.out; simp; omega) ?_; (intro r u hu; rw [add_eq]; (match r, hu with | 0, hu => (simp [mkN] at hu; subst hu; simp [go_sem]) | _ + 1, hu => (simp [mkN] at hu))); go_must (intro g5 c5 w5 hown5 hgrow5 hat5; have hkl5 : Hid (Kept (fun b => some b = (Value.slice pl (j + q) cl).ownBlock) wr w5) := grown_kept hgrow5; have hbk5 : Hid (BkN B w5 O (.slice pq (en.length + 1 + q) cq) (en ++ ex)) := bk_keptN hbk.out hown.out hkl5.out; clear o0 o1 o2 o3 o4 o5 fO; obtain ⟨o0, o1, o2, o3, o4, o5⟩ := six_celB hbk5.out.o; have fO := row_frozen hbk5.out.o; replace hown5 := hide hown5; replace hgrow5 := hide hgrow5; replace hat5 := hide hat5; have hsz5 := hide (Nat.le_trans hsz.out hkl5.out.size)))
            | (refine wpList_append_broad _ rfl (.tmp 49) (.tmp 53) 34 rfl B 121 i1 (.agg #[.slice none 0 0, .int .i64 0]) 2 32 Try.underlying34 hi'.out hy0 hy1 hy2 rfl (by omega) _ (en.length + 1 + q) (cellsE (en ++ ex)) rfl ((bk_len hbk5.out.n hlenE.out).alloc _) ⟨w5.heap.size, 0, none⟩ 1 1 (cE (.slice (some ⟨g5, 0, none⟩) (j + q + 1) c5, en.length)) rfl rfl ?_ cE_one (by omega) (by unfold maxLen; omega) ⟨by omega, by omega⟩ (by have := hsz5.out; simp; omega) (w5.heap.size + 1) (by simp) ?_; (intro r u hu; rw [add_eq]; (match r, hu with | 0, hu => (simp [cE] at hu; subst hu; simp [go_sem]) | 1, hu => (simp [cE] at hu; subst hu; simp [go_sem]) | _ + 2, hu => (simp [cE] at hu))); go_must (intro g7 c7 w7 hown7 hgrow7 hat7 hlt7; have hbk7 := bk_appN (x := (.slice (some ⟨g5, 0, none⟩) (j + q + 1) c5, en.length)) (vn := .slice pq (en.length + 1 + q) cq) (vn' := .slice (some ⟨g7, 0, none⟩) (en.length + 1 + q + 1) c7) hbk5.out hgrow7 (by rw [hlenE.out]; exact hown7); clear o0 o1 o2 o3 o4 o5 fO; obtain ⟨o0, o1, o2, o3, o4, o5⟩ := six_celB hbk7.1; have fO := row_frozen hbk7.1; replace hbk7 := hide hbk7; replace hat7 : (Value.slice pq (en.length + 1 + q) cq).ownBlock = some g7 ∨ g7 = w5.heap.size + 1 := hat7; replace hat7 := hide hat7)))
          replace hgrow5 : (wr.alloc (.cells (mkN en.length).toArray 9)).grownBy w5 (Value.slice pl (j + q) cl).ownBlock := hgrow5.out
          replace hat5 : (Value.slice pl (j + q) cl).ownBlock = some g5 ∨ ((wr.alloc (.cells (mkN en.length).toArray 9)).heap.size ≤ g5 ∧ ∀ k, k < (wr.alloc (.cells (mkN en.length).toArray 9)).heap.size → w5.heap[k]? = (wr.alloc (.cells (mkN en.length).toArray 9)).heap[k]?) := hat5.out
          replace hgrow5 := hide hgrow5; replace hat5 := hide hat5
          go_roundw
          case rel =>
            have hT5 : ∀ g c, w5.heap[g]? = some (.cells c 9 (0, 0)) → ¬ (some g = (Value.slice pq (en.length + 1 + q) cq).ownBlock ∨ g = O) := fun g c hg h => by
              rcases h with h | h
              · exact ownsRow_ne hbk5.out.n hg (by decide) h
              · exact tag_ne hg hbk5.out.o (by decide) h
            obtain ⟨_, hb8, K8⟩ := hbk7.out
            refine ⟨q + 1, some ⟨g5, 0, none⟩, c5, some ⟨g7, 0, none⟩, c7, ex ++ [(.slice (some ⟨g5, 0, none⟩) (j + q + 1) c5, en.length)], by omega, by go_num, rfl, by rw [List.length_append, hen]; rfl, ?_, ?_, ?_, ?_, ?_, ?_⟩
            · have := ownsRow_keep hown5.out K8 hT5
              rw [← rep_succ] at this
              exact this
            · rw [List.append_assoc] at hb8; exact hb8
            · intro x hx
              rcases List.mem_append.1 hx with hx | hx
              · obtain ⟨k1, k2, k3, k4⟩ := hmk.out x hx
                have k5 : MarkG 9 1 mkN w5 x := k1.app k3 (by rw [k2]; rfl) (by rw [k2]; exact hown5.out) hgrow5.out hat5.out
                exact ⟨k5.kept (fun g c _ hg => K8.heap hg (hT5 g c hg)), k2, by omega, k4⟩
              · obtain rfl : x = _ := by simpa using hx
                have k5 : MarkG 9 1 mkN w5 (.slice (some ⟨g5, 0, none⟩) (j + q + 1) c5, en.length) := MarkG.of (by rw [rep_succ]; exact hown5.out) (by omega) (by omega)
                refine ⟨k5.kept (fun g c _ hg => K8.heap hg (hT5 g c hg)), rfl, Nat.le_refl _, fun g hg => ?_⟩
                obtain rfl : g5 = g := by simpa [Value.ownBlock] using hg
                rcases hat5.out with h | h
                · exact hatl.out g5 h
                · right; have := h.1; have := hsz.out; simp at *; omega
            · intro g hg
              obtain rfl : g5 = g := by simpa [Value.ownBlock] using hg
              rcases hat5.out with h | h
              · exact hatl.out g5 h
              · right; have := h.1; have := hsz.out; simp at *; omega
            · intro g hg
              obtain rfl : g7 = g := by simpa [Value.ownBlock] using hg
              rcases hat7.out with h | h
              · exact hatq.out g7 h
              · right; have := hsz5.out; omega
            · refine (hK.out.trans hkl5.out (fun b hb h => ?_)).trans K8 (fun b hb h => ?_)
              · rcases hatl.out b h.symm with h | h
                · exact .inl h.symm
                · omega
              · rcases h with h | h
                · rcases hatq.out b h.symm with h | h
                  · exact .inr (.inl h.symm)
                  · omega
                · exact .inr (.inr h)
          case measure => simp [intOf]; omega
        · obtain rfl : q = 3 := by omega
          go_wp2_with fail
          refine ⟨rfl, .tuple #[], by simp [results, Try.results27], ?_⟩
          exact ⟨.slice pq (en.length + 1 + 3) cq, ex, rfl, hbk, by omega, fun x hx => (hmk.out x hx).1, fun x hx g hg => ((hmk.out x hx).2.2.2 g hg).imp id (Nat.le_trans he1.out.size), (he1.out.kept (fun _ => False)).trans' hK.out, fun g hg => (hatq.out g hg).imp id (Nat.le_trans he1.out.size)⟩
end Go.Proofs.Ytpkhmgonkbpjjaa
