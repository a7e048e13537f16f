/-
  The reference's disk: what a crash leaves.
-/
import Derived.Test.YtpkhmgonkbpjjaaRfUs
import Derived.Deep.DeepCutAuto
import Derived.Deep.CutBlock
namespace Go.Proofs.Ytpkhmgonkbpjjaa
open Go.RowKit

attribute [local go_sem] Go.World.cell?_alloc_some
/-- What an act leaves. -/
def RefTo (w : World) (y : Nat) (vF vC : Value) (kc sc : Int) (R : DskS) (w' : World) : Prop :=
  ∃ vF' vC', RefIn w' y vF' vC' kc sc R ∧ Kept (RFoot y vF vC) w w' ∧ ∀ k, RFoot y vF' vC' k → RFoot y vF vC k ∨ w.heap.size ≤ k
theorem cells_set {ρ : Type} {c : ρ → List Value} {n : Nat} (hc : ∀ x, (c x).length = n) {rs : List ρ} {i : Nat} {x x' : ρ} (hi : rs[i]? = some x) {r : Nat} {v : Value} (hr : r < n) (hx : c x' = (c x).set r v) : (cellsG c rs).set (i * n + r) v = cellsG c (rs.set i x') := by
  have hlt := (List.getElem?_eq_some_iff.1 hi).1
  have e1 : rs = rs.take i ++ x :: rs.drop (i + 1) := by
    have hxx : rs[i] = x := (List.getElem?_eq_some_iff.1 hi).2
    rw [← hxx, ← List.drop_eq_getElem_cons hlt, List.take_append_drop]
  have hl : (rs.take i).length = i := by rw [List.length_take]; omega
  have hf : ∀ l : List ρ, (cellsG c l).length = l.length * n := fun l => by
    induction l with
    | nil => simp [cellsG]
    | cons a l ih => unfold cellsG at ih ⊢; rw [List.flatMap_cons, List.length_append, ih, hc, List.length_cons, Nat.succ_mul]; omega
  generalize rs.take i = A at e1 hl
  generalize rs.drop (i + 1) = B at e1
  subst e1
  have h1 : cellsG c (A ++ x :: B) = cellsG c A ++ (c x ++ cellsG c B) := by unfold cellsG; rw [List.flatMap_append, List.flatMap_cons]
  have h2 : cellsG c (A ++ x' :: B) = cellsG c A ++ (c x' ++ cellsG c B) := by unfold cellsG; rw [List.flatMap_append, List.flatMap_cons]
  have hA := hf A
  rw [List.set_append_right _ _ (by omega)]
  have h3 : i - A.length = 0 := by omega
  rw [h3, List.set_cons_zero, h1, h2, List.set_append_right _ _ (by rw [hA, hl]; omega), hA, hl]
  have h4 : i * n + r - i * n = r := by omega
  rw [h4, List.set_append_left _ _ (by rw [hc]; exact hr), hx]
theorem cut_files {w : World} {g cap : Nat} {fs : List FileS} (h : w.ownsRow 0 105 2 (.slice (some ⟨g, 0, none⟩) fs.length cap) fs.length (cellsG cFl fs)) {i : Nat} {f f' : FileS} (hi : fs[i]? = some f) (v0 v1 : Value) (h' : cFl f' = [v0, v1]) :
    ((w.setCell ⟨g, i * 2, none⟩ v0).setCell ⟨g, i * 2 + 1, none⟩ v1).ownsRow 0 105 2 (.slice (some ⟨g, 0, none⟩) fs.length cap) fs.length (cellsG cFl (fs.set i f')) := by
  have h1 := (h.stored (i * 2) v0).1
  have h2 := (h1.stored (i * 2 + 1) v1).1
  have hv : v0 = .string ⟨f'.1.toArray⟩ ∧ v1 = .int .i64 (f'.2 : Int) := by simpa [cFl, eq_comm] using h'
  have e1 : (cellsG cFl fs).set (i * 2) v0 = cellsG cFl (fs.set i (f'.1, f.2)) := by
    have := cells_set (c := cFl) (n := 2) cFl_len hi (x' := (f'.1, f.2)) (r := 0) (v := v0) (by omega) (by rw [hv.1]; rfl)
    simpa using this
  have hlt := (List.getElem?_eq_some_iff.1 hi).1
  have e2 : (cellsG cFl (fs.set i (f'.1, f.2))).set (i * 2 + 1) v1 = cellsG cFl (fs.set i f') := by
    have := cells_set (c := cFl) (n := 2) cFl_len (rs := fs.set i (f'.1, f.2)) (i := i) (x := (f'.1, f.2)) (by rw [List.getElem?_set_self hlt]) (x' := f') (r := 1) (v := v1) (by omega) (by rw [hv.2]; rfl)
    rw [this, List.set_set]
  rw [e1, e2] at h2
  exact h2
theorem mod_set {α : Type} {l : List α} {i : Nat} {x : α} (h : l[i]? = some x) (g : α → α) : l.modify i g = l.set i (g x) := by
  apply List.ext_getElem?
  intro j
  rw [List.getElem?_modify, List.getElem?_set]
  by_cases hij : i = j
  · subst hij
    have hlt := (List.getElem?_eq_some_iff.1 h).1
    have hx : l[i] = x := (List.getElem?_eq_some_iff.1 h).2
    simp [hlt, hx]
  · simp [hij]
theorem row_take {w : World} {base g n m cap : Nat} {e : TypeId} {size : Nat} {xs : List Value} (h : w.ownsRow base e size (.slice (some ⟨g, 0, none⟩) n cap) n xs) (hm : m ≤ n) : w.ownsRow base e size (.slice (some ⟨g, 0, none⟩) m cap) m (xs.take (m * size)) := by
  have hl := h.1
  have hle : m * size ≤ n * size := Nat.mul_le_mul_right _ hm
  rcases h.2 with ⟨h1, h2⟩ | ⟨g', cp, cur, h1, h3, hg, hcc, hmx, hs, ht⟩
  · cases h1
  · obtain ⟨rfl, rfl⟩ : g = g' ∧ cap = cp := by simpa using h1
    refine ⟨by rw [List.length_take]; omega, .inr ⟨g, cap, cur, rfl, h3, hg, by omega, hmx, hs, ?_⟩⟩
    rw [← ht, List.take_take, Nat.min_eq_left hle]
theorem cut_str (bs : List UInt8) (n : Nat) : (ByteArray.mk bs.toArray).extract 0 n = ⟨(bs.take n).toArray⟩ := by
  apply ByteArray.ext
  apply Array.toList_inj.1
  simp [ByteArray.data_extract]
theorem cut_box {w : World} {b : Nat} {u v : Value} {t : TypeId} {fz : Nat × Nat} (h : w.heap[b]? = some (.cells #[u, v] t fz)) (u' : Value) : (w.setCell ⟨b, 0, none⟩ u').heap[b]? = some (.cells #[u', v] t fz) := by
  have := set_row h 0 u'
  simpa using this
theorem atMost_end {k : Int} {all j : Nat} (hj : j ≤ atMostS k all) (h : ¬ j < all ∨ ¬ 0 < k - (j : Int)) : j = atMostS k all := by
  unfold atMostS at hj ⊢
  omega
theorem chs_take {w : World} {v : Value} {chs : List ChgS} (h : w.ownsRow 0 107 3 v chs.length (cellsG cRC chs)) {pa : Option Addr} {n cap m : Nat} (hv : v = .slice pa n cap) (hm : m ≤ chs.length) : w.ownsRow 0 107 3 (.slice pa m cap) (chs.take m).length (cellsG cRC (chs.take m)) := by
  subst hv
  have hl : (chs.take m).length = m := by rw [List.length_take]; omega
  rw [hl, ← cellsG_take cRC_len]
  rcases h.2 with ⟨h1, h2⟩ | ⟨g', cp, cur, h1, -⟩
  · obtain ⟨rfl, rfl, rfl⟩ : pa = none ∧ n = 0 ∧ cap = 0 := by simpa using h1
    obtain rfl : m = 0 := by omega
    exact World.ownsRow_nil _ _ _ _
  · obtain ⟨rfl, rfl, rfl⟩ : pa = some ⟨g', 0, none⟩ ∧ n = chs.length ∧ cap = cp := by simpa using h1
    exact row_take h hm

/-- Its files alone have turned, where they lay. -/
theorem RefIn.filed {w w' : World} {y : Nat} {vF vC : Value} {kc sc : Int} {D : DskS} {F : List FileS} (h : RefIn w y vF vC kc sc D) (k : Kept (fun q => vF.ownBlock = some q) w w') (hrow : w'.ownsRow 0 105 2 vF F.length (cellsG cFl F)) (hl : F.length = D.files.length) (hok : ∀ f ∈ F, f.2 ≤ f.1.length ∧ f.1.length ≤ 20000) : RefIn w' y vF vC kc sc { D with files := F } :=
  ⟨k.heap h.box (fun e => h.yF e rfl), hrow, rows_keptP h.chs k (fun _ hg e => h.fC e hg), ⟨h.ok.room0, h.ok.room1, h.ok.last, fun c hc => by simp only; rw [hl]; exact h.ok.chs c hc, hok⟩, h.due, h.brk, h.st⟩
theorem kept_two (w : World) (g i j : Nat) (u v : Value) : Kept (fun q => some g = some q) w ((w.setCell ⟨g, i, none⟩ u).setCell ⟨g, j, none⟩ v).drew :=
  ((((kept_setCell w ⟨g, i, none⟩ u).trans (kept_setCell _ ⟨g, j, none⟩ v) (fun _ _ h => h)).mono (D' := fun q => some g = some q) (fun q _ (h : q = g) => by rw [h])).trans ((Ext.refl _).drew.kept (fun _ => False)) (fun _ _ h => h.elim))

set_option maxRecDepth 100000 in
set_option maxHeartbeats 3200000 in
theorem refCrash (w : World) (y : Nat) (vF vC : Value) (kc sc : Int) (D : DskS) (keep names : Int) (h : RefIn w y vF vC kc sc D) (hfew : D.chs.length ≤ 2000000000000) (hnm : names ≤ 9223372036854775807) :
    Calls Try.prog 31 #[.pointer (some ⟨y, 0, none⟩), .int .i64 keep, .int .i64 names] w fun e w' => e = .returned (.tuple #[]) ∧ Hid (RefTo w y vF vC kc sc (D.crash keep names) w') := by
  obtain ⟨c0, c1, c2, c3, c4, c5, c6⟩ := seven_at h.box
  obtain ⟨pc, cc, rfl⟩ := ownsRow_form h.chs
  obtain ⟨-, hc1, hc2, -⟩ := rowG_at cRC_len h.chs
  have hla := h.ok.last
  have hfz := row_frozen h.box
  replace h := hide h
  go_enter Try.func31, Try.ntmps31
  go_upto_block 0 with fail
  go_cut [6] (fun nv wx => nv = .int .i64 ((D.last + atMostS names (D.chs.length - D.last) : Nat) : Int) ∧ wx = w)
  case first =>
    go_wp2_with fail
    go_loopw [6, 2] (fun nv mv wr => ∃ (m : Nat) (q : Int), nv = .int .i64 (m : Int) ∧ mv = .int .i64 q ∧ wr = w ∧ Hid (D.last ≤ m ∧ m - D.last ≤ atMostS names (D.chs.length - D.last) ∧ q = names - ((m - D.last : Nat) : Int))) (fun nv _ _ => D.chs.length - (intOf nv).toNat)
    case atStart => exact ⟨D.last, names, rfl, rfl, rfl, Nat.le_refl _, by omega, by omega⟩
    case round =>
      obtain ⟨m, q, rfl, rfl, rfl, hm⟩ := hrel
      have hjl := atMostS_le names (D.chs.length - D.last)
      obtain ⟨m1, m2, m3⟩ := hm.out
      by_cases h1 : m < D.chs.length
      · have b1 : (m : Int) < (D.chs.length : Int) := by omega
        by_cases h2 : 0 < q
        · have b2 : decide (0 < q) = true := by simp [h2]
          have e2 : IntKind.i64.wrap (q - 1) = q - 1 := by rw [IntKind.wrap_i64]; omega
          have hj2 : Hid (D.last ≤ m + 1 ∧ m + 1 - D.last ≤ atMostS names (D.chs.length - D.last) ∧ q - 1 = names - ((m + 1 - D.last : Nat) : Int)) := by unfold atMostS at m2 hjl ⊢; exact ⟨by omega, by omega, by omega⟩
          replace h1 := hide h1; replace hjl := hide hjl; replace m1 := hide m1; replace m2 := hide m2; replace m3 := hide m3
          go_wp2_with fail
          go_roundw
          case rel => exact ⟨m + 1, q - 1, by go_num, by go_num, trivial, hj2⟩
          case measure => have := h1.out; simp [intOf]; omega
        · have b2 : decide (0 < q) = false := by simp; omega
          have he : m = D.last + atMostS names (D.chs.length - D.last) := by have := atMost_end m2 (.inr (by omega)); omega
          replace h1 := hide h1; replace hjl := hide hjl; replace m1 := hide m1; replace m2 := hide m2; replace m3 := hide m3; replace he := hide he
          go_wp2_with fail
          go_meet
          exact ⟨by rw [← he.out], rfl⟩
      · have b1 : ¬ (m : Int) < (D.chs.length : Int) := by omega
        have he : m = D.last + atMostS names (D.chs.length - D.last) := by have := atMost_end m2 (.inl (by omega)); omega
        replace h1 := hide h1; replace hjl := hide hjl; replace m1 := hide m1; replace m2 := hide m2; replace m3 := hide m3; replace he := hide he
        go_wp2_with fail
        go_meet
        exact ⟨by rw [← he.out], rfl⟩
  case rest =>
    obtain ⟨rfl, rfl⟩ := hcut
    obtain ⟨n, hn⟩ : ∃ n, n = D.last + atMostS names (D.chs.length - D.last) := ⟨_, rfl⟩
    have hnl : n ≤ D.chs.length := by have := atMostS_le names (D.chs.length - D.last); omega
    rw [← hn]
    replace hn := hide hn
    have n0 : (0 : Int) ≤ (n : Int) := by omega
    have n1 : (n : Int) ≤ (cc : Int) := by omega
    have B1 := set_row h.out.box 2 (.slice pc n cc)
    have B2 := set_row B1 3 (.int .i64 (n : Int))
    have B3 := set_row B2 4 (.int .i64 0)
    simp only [List.setIfInBounds_toArray, List.set_cons_succ, List.set_cons_zero] at B1 B2 B3
    have K3 := ((kept_setCell wc ⟨y, 2, none⟩ (.slice pc n cc)).trans (kept_setCell _ ⟨y, 3, none⟩ (.int .i64 (n : Int))) (fun _ _ h => h)).trans (kept_setCell _ ⟨y, 4, none⟩ (.int .i64 0)) (fun _ _ h => h)
    have hfz1 := row_frozen B1
    have hfz2 := row_frozen B2
    obtain ⟨E, hE⟩ : ∃ E : DskS, E = { D with chs := D.chs.take n, last := n, due := 0 } := ⟨_, rfl⟩
    have hI3 : RefIn (((wc.setCell ⟨y, 2, none⟩ (.slice pc n cc)).setCell ⟨y, 3, none⟩ (.int .i64 (n : Int))).setCell ⟨y, 4, none⟩ (.int .i64 0)) y vF (.slice pc n cc) kc sc E := by
      have hC := rows_keptP h.out.chs K3 (fun _ hg => h.out.yC hg)
      subst hE
      refine ⟨B3, rows_keptP h.out.files K3 (fun _ hg => h.out.yF hg), chs_take hC rfl hnl, ⟨h.out.ok.room0, h.out.ok.room1, ?_, fun c hc => h.out.ok.chs c (List.mem_of_mem_take hc), h.out.ok.files⟩, Nat.zero_le _, fun hz => absurd rfl hz, h.out.st⟩
      simp only [List.length_take]; omega
    have hEl : E.chs.length = n := by rw [hE]; simp only [List.length_take]; omega
    have hpl := hide (playedP _ _ E.chs E.files.length hI3.chs hI3.ok.chs (by omega))
    obtain ⟨w3, hw3⟩ : ∃ w3, w3 = ((wc.setCell ⟨y, 2, none⟩ (.slice pc n cc)).setCell ⟨y, 3, none⟩ (.int .i64 (n : Int))).setCell ⟨y, 4, none⟩ (.int .i64 0) := ⟨_, rfl⟩
    replace hI3 := hide hI3; replace K3 := hide K3; replace B1 := hide B1; replace B2 := hide B2; replace B3 := hide B3; replace hE := hide hE; replace hEl := hide hEl
    rw [← hw3] at hI3 K3 hpl
    replace hw3 := hide hw3
    go_wp2_with fail
    rw [← hw3.out]
    refine hpl.out.mono ?_
    rintro e4 w4 ⟨pa, cap, rfl, hr, X4⟩
    have hI4 := hide (hI3.out.ext X4.out)
    obtain ⟨-, hm1, hm2, hat⟩ := rowG_at cNm_len hr.out
    have hL1 := play_len E.chs
    have hLk := hide (play_ok hI3.out.ok.chs)
    obtain ⟨L, hL⟩ : ∃ L, L = playN E.chs := ⟨_, rfl⟩
    rw [← hL] at hat hL1 hm1 hLk hr
    rw [← hL]
    rw [hEl.out] at hL1
    have hLn : L.length ≤ 2000000000000 := by omega
    have hY3 : Hid (∀ k, RFoot y vF (.slice pc n cc) k → k < w3.heap.size) := fun k hk => hI3.out.lt hk
    have hRow : Hid (∀ wr, Kept (RFoot y vF (.slice pc n cc)) w4 wr → ∀ (i : Nat) x, L[i]? = some x → ∃ g, pa = some ⟨g, 0, none⟩ ∧ wr.cell? ⟨g, i * 2, none⟩ = some (.string x.1) ∧ wr.cell? ⟨g, i * 2 + 1, none⟩ = some (.int .i64 (x.2 : Int)) ∧ w3.heap.size ≤ g ∧ g < w4.heap.size) := fun wr hk i x hx => by
      have h1 := rows_keptP hr.out hk (fun q hq he => by have h1 := (hr.out.lt q hq).1; have h2 := hY3.out q he; omega)
      obtain ⟨-, -, -, h2⟩ := rowG_at cNm_len h1
      obtain ⟨g, hg, hc⟩ := h2 i x hx
      have x0 := hc 0 (by omega)
      have x1 := hc 1 (by omega)
      rw [Nat.add_zero] at x0
      have := hr.out.lt g (by rw [hg]; rfl)
      exact ⟨g, hg, x0, x1, this.1, this.2⟩
    obtain ⟨pF, cF, hvF⟩ := ownsRow_form hI4.out.files
    subst hvF
    replace hat := hide hat; replace hL := hide hL; replace hr := hide hr.out
    clear hpl c0 c1 c2 c3 c4 c5 c6 hfz hfz1 hfz2 B1 B2 B3 hw3 n0 n1
    go_wp2_with fail
    go_loopw [8] (fun kv wr => ∃ (k : Nat) (F : List FileS), k ≤ L.length ∧ kv = .int .i64 k ∧ Hid (F = crashF keep ((L.take k).map Prod.snd) E.files) ∧ Hid (F.length = E.files.length) ∧ Hid (RefIn wr y (.slice pF E.files.length cF) (.slice pc n cc) kc sc { E with files := F }) ∧ Hid (Kept (RFoot y (.slice pF E.files.length cF) (.slice pc n cc)) w4 wr)) (fun k _ => L.length - (intOf k).toNat)
    case atStart => exact ⟨0, E.files, Nat.zero_le _, rfl, by show _ = _; apply List.ext_getElem?; intro i; rw [crashF_get]; simp, rfl, hI4, Kept.refl _ _⟩
    case round =>
      obtain ⟨k, F, hk, rfl, hF, hFl, hI, hK⟩ := hrel
      by_cases hlt : k < L.length
      · obtain ⟨x, hx⟩ : ∃ x, L[k]? = some x := ⟨_, List.getElem?_eq_getElem hlt⟩
        obtain ⟨g, rfl, x0, x1, hg1, hg2⟩ := hRow.out wr hK.out k x hx
        have k1 : (k : Int) < (L.length : Int) := by omega
        have k2 : (0 : Int) ≤ (k : Int) := by omega
        have hxk := (hLk.out x (List.mem_of_getElem? hx)).2
        obtain ⟨f, hf⟩ : ∃ f, F[x.2]? = some f := ⟨_, List.getElem?_eq_getElem (by rw [hFl.out]; exact hxk)⟩
        have d1 := (seven_at hI.out.box).2.1
        obtain ⟨-, hf1, hf2, hfa⟩ := rowG_at cFl_len hI.out.files
        obtain ⟨gf, hpf, hgf⟩ := hfa x.2 f hf
        subst hpf
        have f0 := hgf 0 (by omega)
        have f1 := hgf 1 (by omega)
        rw [Nat.add_zero] at f0
        simp only [cFl, List.getElem?_cons_zero, List.getElem?_cons_succ] at f0 f1
        have hfok := hI.out.ok.files f (List.mem_of_getElem? hf)
        have q1 : ((x.2 : Nat) : Int) < (E.files.length : Int) := by omega
        have q2 : (0 : Int) ≤ ((x.2 : Nat) : Int) := by omega
        have hs : (⟨f.1.toArray⟩ : ByteArray).size = f.1.length := by simp [ByteArray.size]
        replace hx := hide hx; replace hf := hide hf; replace hxk := hide hxk; replace hfa := hide hfa; replace hgf := hide hgf; replace hfok := hide hfok
        go_upto_region 11 with fail
        go_cut [9] (fun v wx => ∃ b, v = .pointer (some ⟨b, 0, none⟩) ∧ wr.heap.size ≤ b ∧ Hid (wx.heap[b]? = some (.cells #[.string ⟨f.1.toArray⟩, .int .i64 (f.2 : Int)] 105 (0, 0))) ∧ Hid (Ext wr wx))
        case first =>
          go_region
          go_wp2_with fail
          go_meet
          exact ⟨wr.heap.size, rfl, Nat.le_refl _, heap_alloc_new wr _, ((Ext.refl wr).alloc _).drew⟩
        case rest =>
          obtain ⟨b, rfl, hb, hbx, Xc⟩ := hcut
          obtain ⟨w5, rfl⟩ : ∃ w5 : World, w5 = wc := ⟨_, rfl⟩
          have y0 : w5.cell? ⟨b, 0, none⟩ = some (.string ⟨f.1.toArray⟩) := by simp [World.cell?, hbx.out]
          have y1 : w5.cell? ⟨b, 1, none⟩ = some (.int .i64 (f.2 : Int)) := by simp [World.cell?, hbx.out]
          have fzb := row_frozen hbx.out
          obtain ⟨hk1, hk2⟩ := hfok.out
          have e1 : IntKind.i64.wrap ((f.1.length : Int) - (f.2 : Int)) = ((f.1.length - f.2 : Nat) : Int) := by rw [IntKind.wrap_i64]; omega
          have x1h := hide x1; have f0h := hide f0; have f1h := hide f1
          clear x0 x1 d1 f0 f1
          go_upto_if 75 with fail
          go_cut [] (fun wx => Hid (wx.heap[b]? = some (.cells #[.string ⟨(cutF keep f).1.toArray⟩, .int .i64 (f.2 : Int)] 105 (0, 0))) ∧ Hid (Kept (· = b) w5 wx))
          case first =>
            by_cases hkp : keep < ((f.1.length - f.2 : Nat) : Int)
            · have b1 : decide (keep < ((f.1.length - f.2 : Nat) : Int)) = true := by simp [hkp]
              by_cases hk0 : 0 < keep
              · have hq : Hid (((f.2 : Int) + keep).toNat = f.2 + atMostS keep (f.1.length - f.2)) := by show _ = _; unfold atMostS; omega
                go_wp2_with fail
                go_meet
                refine ⟨?_, hide (kept_setCell w5 ⟨b, 0, none⟩ _)⟩
                show _ = _
                rw [cut_box hbx.out, hq.out, cut_str]; rfl
              · have hq : Hid (((f.2 : Int)).toNat = f.2 + atMostS keep (f.1.length - f.2)) := by show _ = _; unfold atMostS; omega
                go_wp2_with fail
                go_meet
                refine ⟨?_, hide (kept_setCell w5 ⟨b, 0, none⟩ _)⟩
                show _ = _
                rw [cut_box hbx.out]
                first
                  | (rw [hq.out, cut_str]; rfl)
                  | (rw [show f.2 = f.2 + atMostS keep (f.1.length - f.2) from hq.out, cut_str]; rfl)
            · have b1 : decide (keep < ((f.1.length - f.2 : Nat) : Int)) = false := by simp; omega
              have hq : Hid ((cutF keep f).1 = f.1) := by
                show _ = _
                unfold cutF atMostS
                exact List.take_of_length_le (by omega)
              go_wp2_with fail
              go_meet
              refine ⟨?_, Kept.refl _ _⟩
              show _ = _
              rw [hq.out]; exact hbx.out
          case rest =>
            obtain ⟨hbx2, K2⟩ := hcut
            obtain ⟨wd, rfl⟩ : ∃ wd : World, wd = wc := ⟨_, rfl⟩
            have X2 : Ext wr wd := Xc.out.since K2.out (fun j (hj : j = b) => by rw [hj]; exact hb)
            have hcl : (cutF keep f).1.length = (cutF keep f).2 := by unfold cutF; simp only [List.length_take]; have := atMostS_le keep (f.1.length - f.2); omega
            have hcz : (cutF keep f).2 ≤ 20000 := by have := (cutF_ok (keep := keep) ⟨hk1, hk2⟩).2; omega
            have hsz : (⟨(cutF keep f).1.toArray⟩ : ByteArray).size = (cutF keep f).2 := by simp [ByteArray.size, hcl]
            have hfc : Hid (cFl (cutF keep f) = [.string ⟨(cutF keep f).1.toArray⟩, .int .i64 ((cutF keep f).2 : Int)]) := rfl
            have hmod : Hid (F.set x.2 (cutF keep f) = crashF keep ((L.take (k + 1)).map Prod.snd) E.files) := by
              show _ = _
              rw [List.take_add_one, hx.out, Option.toList_some, List.map_append, List.map_singleton, crashF_snoc (fun f hf => (hI4.out.ok.files f hf).1), ← hF.out, mod_set hf.out]
            generalize hcg : cutF keep f = fc at *
            replace hcg := hide hcg; replace hcl := hide hcl
            have z0 : wd.cell? ⟨b, 0, none⟩ = some (.string ⟨fc.1.toArray⟩) := by simp [World.cell?, hbx2.out]
            have z1 : wd.cell? ⟨b, 1, none⟩ = some (.int .i64 (f.2 : Int)) := by simp [World.cell?, hbx2.out]
            have fzd := row_frozen hbx2.out
            have hbx3 := set_row hbx2.out 1 (.int .i64 (fc.2 : Int))
            simp only [List.setIfInBounds_toArray, List.set_cons_succ, List.set_cons_zero] at hbx3
            have K3' := kept_setCell wd ⟨b, 1, none⟩ (.int .i64 (fc.2 : Int))
            have X3 : Ext wr (wd.setCell ⟨b, 1, none⟩ (.int .i64 (fc.2 : Int))) := X2.since K3' (fun j (hj : j = b) => by rw [hj]; exact hb)
            have hIe := hI.out.ext X3
            obtain ⟨-, -, -, hfe⟩ := rowG_at cFl_len hIe.files
            have d1 := (seven_at hIe.box).2.1
            have x1 := X3.cells x1h.out
            have f0 := X3.cells f0h.out
            have f1 := X3.cells f1h.out
            have w0 : (wd.setCell ⟨b, 1, none⟩ (.int .i64 (fc.2 : Int))).cell? ⟨b, 0, none⟩ = some (.string ⟨fc.1.toArray⟩) := by simp [World.cell?, hbx3]
            have w1 : (wd.setCell ⟨b, 1, none⟩ (.int .i64 (fc.2 : Int))).cell? ⟨b, 1, none⟩ = some (.int .i64 (fc.2 : Int)) := by simp [World.cell?, hbx3]
            have hown : (wd.setCell ⟨b, 1, none⟩ (.int .i64 (fc.2 : Int))).ownsRow 0 105 2 (.slice (some ⟨gf, 0, none⟩) F.length cF) F.length (cellsG cFl F) := by
              have h1 := hIe.files
              rw [← hFl.out] at h1
              exact h1
            have hng : ¬ gf = b := fun e => by
              have := hI.out.lt (.inr (.inl rfl) : RFoot y (.slice (some ⟨gf, 0, none⟩) E.files.length cF) (.slice pc n cc) gf)
              omega
            have fzg : ∀ q, (wd.setCell ⟨b, 1, none⟩ (.int .i64 (fc.2 : Int))).frozen? ⟨gf, q, none⟩ = false := fun q => hown.frozenAt q
            replace hIe := hide hIe; replace hown := hide hown; replace K3' := hide K3'; replace X3 := hide X3; replace hbx3 := hide hbx3; replace X2 := hide X2; replace hfe := hide hfe
            go_upto_region 18 with fail
            go_region
            go_wp2_with fail
            go_roundw
            case rel =>
              have K4 := kept_two (wd.setCell ⟨b, 1, none⟩ (.int .i64 (fc.2 : Int))) gf (x.2 * 2) (x.2 * 2 + 1) (.string ⟨fc.1.toArray⟩) (.int .i64 (fc.2 : Int))
              have hrow := ownsRow_wrote (cut_files hown.out hf.out _ _ hfc.out) (Wrote.ext (B := 0) (T := fun _ => False) (Ext.refl _).drew) id rfl
              have hl2 : (F.set x.2 fc).length = E.files.length := by rw [List.length_set]; exact hFl.out
              refine ⟨k + 1, F.set x.2 fc, by omega, by go_num, hmod, hl2, ?_, ?_⟩
              · have := hIe.out.filed (F := F.set x.2 fc) K4 (by rw [List.length_set]; rw [← hFl.out]; exact hrow) (by rw [List.length_set]) (fun q hq => ?_)
                · exact this
                · rw [hmod.out] at hq
                  exact crashF_ok hI4.out.ok.files q hq
              · exact hK.out.trans ((X3.out.kept _).trans K4 (fun j _ (hj : some gf = some j) => (show RFoot y (.slice (some ⟨gf, 0, none⟩) E.files.length cF) (.slice pc n cc) j from .inr (.inl hj)))) (fun _ _ h => h)
            case measure => simp [intOf]; omega
      · obtain rfl : k = L.length := by omega
        go_wp2_with fail
        refine ⟨rfl, .tuple #[], by simp [results, Try.results31], rfl, ?_⟩
        have hD : D.crash keep names = { E with files := F } := by
          rw [hF.out, List.take_length, hL.out, hE.out]
          unfold DskS.crash DskS.settle DskS.names
          simp only [← hn.out]
        rw [hD]
        have hfoot : ∀ q, RFoot y (.slice pF E.files.length cF) (.slice pc n cc) q → RFoot y (.slice pF E.files.length cF) (.slice pc D.chs.length cc) q := fun q hq => by cases pc <;> exact hq
        refine ⟨_, _, hI.out, ?_, fun q hq => .inl (hfoot q hq)⟩
        refine ((K3.out.mono (D' := RFoot y (.slice pF E.files.length cF) (.slice pc D.chs.length cc)) (fun q _ h => .inl h)).trans (X4.out.kept (fun _ => False)) (fun _ _ h => h.elim)).trans hK.out (fun q _ h => hfoot q h)
end Go.Proofs.Ytpkhmgonkbpjjaa
