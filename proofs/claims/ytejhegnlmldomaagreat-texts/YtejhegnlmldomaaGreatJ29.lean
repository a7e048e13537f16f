/-
  The reference: Parse answers as the program's does.
-/
/-
  The law Texts: it answers true.
-/
import Derived.Test.YtejhegnlmldomaaGreatJ28
import Derived.Test.YtejhegnlmldomaaGreatRfRs
import Derived.Test.YtejhegnlmldomaaGreatRfSt
import Derived.Test.YtejhegnlmldomaaGreatRfTok
import Derived.Test.YtejhegnlmldomaaGreatJ5
import Derived.Deep.DeepCutAuto
import Derived.Deep.CutBlock
import Derived.Test.YtejhegnlmldomaaGreatJ17
namespace Go.Proofs.YtejhegnlmldomaaGreat
open Go.RowKit

theorem txtM_end {ts : List Tok} {f : Nat} {q : RSt} {g : Got} (h : ¬ (q.en = 0 ∧ rKind ts q.i ≠ 5)) : txtM ts f q g = (q, g) := by
  cases f with
  | zero => rfl
  | succ f => unfold txtM; rw [if_neg h]
theorem txtM_step {ts : List Tok} {f : Nat} {q q' : RSt} {g g' : Got} (h : q.en = 0 ∧ rKind ts q.i ≠ 5) (hm : resM ts q g = (q', g')) : txtM ts (f + 1) q g = txtM ts f q' g' := by
  conv => lhs; unfold txtM
  rw [if_pos h, hm]
theorem rowB.onR {R : Nat} {w w' : World} {b : Nat} {r : List Bool} (h : rowB w b r) (k : Wr (OnR R) w w') (hb : b ≠ R) : rowB w' b r :=
  World.rowIs.of_block h (k.heap b (World.rowIs.lt h) fun _ _ _ _ hd => hb hd.1)
theorem refs_cells {w : World} {B g cap : Nat} {rf : List (IDd × Nat)} (h : w.ownsRow B 55 3 (.slice (some ⟨g, 0, none⟩) rf.length cap) rf.length (rf.flatMap cRf)) {k : Nat} {r : IDd × Nat} (hx : rf[k]? = some r) : w.cell? ⟨g, k * 3, none⟩ = some (.string r.1.kind) ∧ w.cell? ⟨g, k * 3 + 1, none⟩ = some (.string r.1.name) ∧ w.cell? ⟨g, k * 3 + 2, none⟩ = some (.int .i64 r.2) := by
  have key : ∀ j, j < 3 → ∀ u, (cRf r)[j]? = some u → w.cell? ⟨g, k * 3 + j, none⟩ = some u := by
    intro j hr u hu
    have h1 : (rf.flatMap cRf)[k * 3 + j]? = (cRf r)[j]? := flat_get (n := 3) (fun _ => rfl) hx hr
    have := own_cell h (h1.trans hu)
    rwa [Nat.zero_add] at this
  exact ⟨key 0 (by omega) _ rfl, key 1 (by omega) _ rfl, key 2 (by omega) _ rfl⟩
theorem ats_cells {w : World} {B g cap : Nat} {l : List Nat} (h : w.ownsRow B 3 1 (.slice (some ⟨g, 0, none⟩) l.length cap) l.length (l.flatMap cN)) {k : Nat} {p : Nat} (hx : l[k]? = some p) : w.cell? ⟨g, k, none⟩ = some (.int .i64 p) := by
  have h1 : (l.flatMap cN)[k * 1 + 0]? = (cN p)[0]? := flat_get (n := 1) cN_len hx (by omega)
  have := own_cell h (h1.trans rfl)
  simpa using this
theorem left_less2 {q q' : RSt} {n : Nat} (hz : q.en = 0) (hl : q.i < n) (h : q'.en = 0 → q.i < q'.i) : leftM q' n < leftM q n := by
  unfold leftM
  rw [if_pos hz]
  split
  · rename_i h0; have := h h0; omega
  · omega
theorem nonesM_in {out : List Resd} {r : IDd × Nat} {s : RSt} (h : r.1 ∈ out.map Resd.id) : nonesM out [r] s = s := by
  simp only [nonesM]; rw [if_pos h]
theorem nonesM_out {out : List Resd} {r : IDd × Nat} {s : RSt} (h : r.1 ∉ out.map Resd.id) : nonesM out [r] s = wrongM s 9 r.2 := by
  simp only [nonesM]; rw [if_neg h]
theorem srtM_len (l : List Resd) : (srtM l).length = l.length := by
  have h1 : ∀ (l : List Resd) x, (insRs l x).length = l.length + 1 := by
    intro l x
    unfold insRs
    have := congrArg List.length (List.takeWhile_append_dropWhile (p := fun q : Resd => decide (cmpI q.id x.id < 0)) (l := l))
    simp only [List.length_append, List.length_cons] at this ⊢
    omega
  have h2 : ∀ (l m : List Resd), (l.foldl insRs m).length = l.length + m.length := by
    intro l
    induction l with
    | nil => intro m; simp
    | cons x l ih => intro m; simp only [List.foldl_cons, List.length_cons]; rw [ih, h1]; omega
  exact h2 l []
/-- What the reference's Parse answers. -/
def RefParseIs (w : World) (r : List Resd × Flt) (e : Ending) (w' : World) : Prop :=
  ∃ v, e = .returned (.tuple #[v, .int .i64 r.2.1, .int .i64 r.2.2]) ∧ Hid (RessV w' v r.1) ∧ Hid (Ext w w')
theorem ressV_nil (w : World) : RessV w (.slice none 0 0) [] := ⟨⟨none, 0, rfl, Nat.le_refl _, by decide, .inl rfl⟩, Nat.zero_le _⟩

set_option maxRecDepth 100000 in
set_option maxHeartbeats 3200000 in
theorem refParse (s : ByteArray) (w : World) :
    Calls Tryz.prog 4 #[.string s] w (RefParseIs w (parseS s.data.toList)) := by
  have hlen : s.data.toList.length = s.size := Array.length_toList
  classical
  by_cases h0 : 2000 < s.size
  · have hi : (2000 : Int) < (s.size : Int) := by omega
    have hfin : Hid (parseS s.data.toList = ([], (1, 0))) := by
      show _ = _
      unfold parseS; rw [if_pos (by omega)]
    replace h0 := hide h0; replace hlen := hide hlen
    go_enter Tryz.func4, Tryz.ntmps4
    go_wp2_with fail
    refine bodyPost_ret (v := .tuple #[.slice none 0 0, .int .i64 1, .int .i64 0]) (by simp [results, Tryz.results4, go_sem]) rfl ?_
    rw [hfin.out]
    exact ⟨.slice none 0 0, rfl, ressV_nil _, Ext.refl _⟩
  · have hi : ¬ (2000 : Int) < (s.size : Int) := by omega
    have hs2 : s.size ≤ 2000 := by omega
    have hl2 : Hid (¬ 2000 < s.data.toList.length) := by show ¬ _; omega
    replace h0 := hide h0; replace hlen := hide hlen
    by_cases hz : (cutL s.data.toList).2.1 = 0
    · have hcl : TsEnd (cutL s.data.toList).1 ∧ (∀ t ∈ (cutL s.data.toList).1, TokOk t) ∧ (cutL s.data.toList).1.length ≤ s.data.toList.length + 1 - 0 := cutF_is s.data.toList (s.data.toList.length + 1) 0 (Nat.zero_le _) (by omega) hz
      have hz2 : Hid ((cutL s.data.toList).2 = (0, 0)) := cutF_ok s.data.toList (s.data.toList.length + 1) 0 _ rfl hz
      have hps := hide (fun (q : RSt) (g : Got) ht (qb : List Bool) hq hqc (s2 : RSt) hs => parse_same (q := q) (g := g) hl2.out hz ht (qb := qb) hq hqc (s2 := s2) hs)
      have hcut := hide (refTokens s w (by omega))
      have hn : (cutL s.data.toList).1.length ≤ 1000000 := by have := hcl.2.2; have := hlen.out; omega
      obtain ⟨he, hok, -⟩ := hcl
      replace hz := hide hz
      have hcutE : Hid (∃ ts, (cutL s.data.toList).1 = ts) := ⟨_, rfl⟩
      obtain ⟨ts, hts⟩ := hcutE.out
      rw [hts] at he hok hn
      replace he := hide he; replace hok := hide hok; replace hts := hide hts
      go_enter Tryz.func4, Tryz.ntmps4
      go_wp2_with fail
      refine hcut.out.mono ?_
      rintro e1 w1 ⟨hE1, pa1, cap1, rfl, hT1⟩
      rw [hts.out, hz2.out]
      rw [hts.out] at hT1
      dsimp only
      go_upto_block 0 with fail
      obtain ⟨gT, rfl, hgc1, hgc2, hgB⟩ := own_some hT1.out he.out.some_
      have hg0 : Hid (GotAt w.heap.size (w1.alloc (.cells #[.slice (some ⟨gT, 0, none⟩) ts.length cap1, .int .i64 0, .int .i64 0, .int .i64 0, .slice none 0 0, .slice none 0 0, .slice none 0 0] 48)) w1.heap.size (.slice (some ⟨gT, 0, none⟩) ts.length cap1) (.slice none 0 0) (.slice none 0 0) (.slice none 0 0) ts ⟨0, 0, 0⟩ ⟨[], [], []⟩ []) := ⟨⟨heap_alloc_new w1 _, ownsRow_low' (hT1.out.alloc _) (Nat.zero_le _)⟩, World.ownsRow_nil _ _ _ _, fun p hp => (by cases hp), rfl, World.ownsRow_nil _ _ _ _, World.ownsRow_nil _ _ _ _⟩
      have hE2 := hide (hE1.out.alloc (.cells #[.slice (some ⟨gT, 0, none⟩) ts.length cap1, .int .i64 0, .int .i64 0, .int .i64 0, .slice none 0 0, .slice none 0 0, .slice none 0 0] 48))
      have hRB : Hid (w.heap.size ≤ w1.heap.size) := Ext.size hE1.out
      generalize hw2 : World.alloc w1 _ = w2 at *
      clear hw2
      generalize hRR : w1.heap.size = R at *
      clear hRR
      go_cut [] (fun wx => ∃ (q : RSt) (g : Got) (ps : List ResP) (vO vA vF : Value), Hid (txtM ts ts.length ⟨0, 0, 0⟩ ⟨[], [], []⟩ = (q, g)) ∧ Hid (GotAt w.heap.size wx R (.slice (some ⟨gT, 0, none⟩) ts.length cap1) vO vA vF ts q g ps) ∧ Hid (Wr (ChgG R w.heap.size) w2 wx) ∧ Hid (GotB ts q g))
      case first =>
        go_wp2_with fail
        go_loopw [] (fun wr => ∃ (f : Nat) (q : RSt) (g : Got) (ps : List ResP) (vO vA vF : Value), Hid (txtM ts ts.length ⟨0, 0, 0⟩ ⟨[], [], []⟩ = txtM ts f q g) ∧ Hid (GotAt w.heap.size wr R (.slice (some ⟨gT, 0, none⟩) ts.length cap1) vO vA vF ts q g ps) ∧ Hid (Wr (ChgG R w.heap.size) w2 wr) ∧ Hid (GotB ts q g) ∧ Hid (q.en = 0 → ts.length ≤ f + q.i)) (fun wr => leftOf wr R ts.length)
        case atStart => exact ⟨ts.length, ⟨0, 0, 0⟩, ⟨[], [], []⟩, [], _, _, _, rfl, hg0, Wr.refl _ _, ⟨he.out.some_, by simp, fun _ => by simp, rfl, Nat.le_refl _⟩, fun _ => Nat.le_add_right _ _⟩
        case round =>
          obtain ⟨f, q, g, ps, vO, vA, vF, hst, hS, hW, hb, hfu⟩ := hrel
          obtain ⟨wo, rfl⟩ : ∃ wo : World, wo = wr := ⟨_, rfl⟩
          obtain ⟨t, ht⟩ := TsEnd.there hb.out.lt
          have hrk : Hid (rKind ts q.i = (rTok t).kind) := by show _ = _; unfold rKind; rw [ht]
          obtain ⟨c0, c1, c2', -⟩ := seven_cells hS.out.rdr.box
          obtain ⟨g', cap', hv', k0, -⟩ := rtoks_in hS.out.rdr.toks ht
          cases hv'
          have hq1 : (q.i : Int) < (ts.length : Int) := by have := hb.out.lt; omega
          have hq2 : (0 : Int) ≤ (q.i : Int) := by omega
          replace ht := hide ht
          generalize rTok t = rt at *
          by_cases hy : q.en = 0
          · have hyb : (q.en == 0) = true := by simp [hy]
            by_cases hk : rt.kind = 5
            · have hkb : ((rt.kind : Int) != 5) = false := by simp [hk]
              have hno : Hid (¬ (q.en = 0 ∧ rKind ts q.i ≠ 5)) := fun hh => hh.2 (hrk.out.trans hk)
              replace hy := hide hy; replace hk := hide hk
              go_wp2_with fail
              go_quiet (fail)
              go_wp2_with fail
              go_meet
              exact ⟨q, g, ps, vO, vA, vF, hst.out.trans (txtM_end hno.out), hS.out.ext ((Ext.refl wo).drewN _), hW.out.trans (Wr.ext ((Ext.refl wo).drewN _)), hb⟩
            · have hkb : ((rt.kind : Int) != 5) = true := by simp; omega
              have hyes : Hid (q.en = 0 ∧ rKind ts q.i ≠ 5) := ⟨hy, fun hh => hk (hrk.out.symm.trans hh)⟩
              replace hy := hide hy; replace hk := hide hk
              have hBo : Hid (w.heap.size ≤ wo.heap.size) := by show _ ≤ _; have := Ext.size hE2.out; have := hW.out.size; omega
              go_wp2_with fail
              go_quiet (fail)
              clear c0 c1 c2' k0 hq1 hq2 hyb hkb
              go_wp2_with fail
              refine (refResource (hS.out.ext ((Ext.refl wo).drewN _)) (Nat.le_trans hBo.out (Ext.size ((Ext.refl wo).drewN _))) hn he.out hok.out hy.out hb.out).mono ?_
              rintro e3 w3 ⟨q3, g3, ps3, vO3, vA3, vF3, rfl, hm3, hS3, hW3, hb3⟩
              obtain ⟨f', hf'⟩ : ∃ f', f = f' + 1 := ⟨f - 1, by have := hfu.out hy.out; have := hb.out.lt; omega⟩
              subst hf'
              have hfu3 : Hid (q3.en = 0 → ts.length ≤ f' + q3.i) := fun h0 => by have := hb3.out.2 h0; have := hfu.out hy.out; omega
              go_wp2_with fail
              go_roundw
              case rel =>
                (repeat apply Exists.intro)
                exact ⟨⟨f', q3, g3, ps3, vO3, vA3, vF3, hst.out.trans (txtM_step hyes.out hm3.out), hS3, hW.out.trans ((Wr.ext ((Ext.refl wo).drewN _)).trans hW3.out), hb3.out.1, hfu3⟩, rfl⟩
              case measure =>
                have h1 := hS3.out.rdr.left ts.length
                have h2 := hS.out.rdr.left ts.length
                rw [h1, h2]; exact left_less2 hy.out hb.out.lt hb3.out.2
          · have hyb : (q.en == 0) = false := by simpa using hy
            have hno : Hid (¬ (q.en = 0 ∧ rKind ts q.i ≠ 5)) := fun hh => hy hh.1
            replace hy := hide hy
            go_wp2_with fail
            go_quiet (fail)
            go_wp2_with fail
            go_meet
            exact ⟨q, g, ps, vO, vA, vF, hst.out.trans (txtM_end hno.out), hS.out.ext ((Ext.refl wo).drewN _), hW.out.trans (Wr.ext ((Ext.refl wo).drewN _)), hb⟩
      case rest =>
        obtain ⟨q, g, ps, vO, vA, vF, hm, hS, hW, hb⟩ := hcut
        obtain ⟨w3, rfl⟩ : ∃ w3 : World, w3 = wc := ⟨_, rfl⟩
        have hpl : Hid (ps.length = g.out.length) := by show _ = _; rw [← hS.out.xs, List.length_map]
        have hV : Hid (∀ w', Wr (OnR R) w3 w' → RessV w' vO g.out) := fun w' k => by
          have := ressV_of (ownsRow_wr hS.out.out k fun _ _ _ hd => absurd hd.2 (by decide)) (fun p hp => ⟨(hS.out.each p hp).1.wr k (fun _ hd => absurd hd.2 (by decide)) (fun _ hd => absurd hd.2 (by decide)), (hS.out.each p hp).2⟩) (by have := hpl.out; have := hb.out.few; omega)
          rw [hS.out.xs] at this
          exact this
        have hrl : g.rf.length ≤ 1000000 := by have := hb.out.refs; have := hb.out.lt; omega
        obtain ⟨paF, capF, rfl⟩ := ownsRow_form hS.out.refs
        go_upto_block 2 with fail
        go_cut [] (fun wx => Hid (RdrIn wx R (.slice (some ⟨gT, 0, none⟩) ts.length cap1) vO vA (.slice paF g.rf.length capF) ts (nonesM g.out g.rf q).i (nonesM g.out g.rf q).en (nonesM g.out g.rf q).pl) ∧ Hid (Wr (OnR R) w3 wx))
        case first =>
          go_wp2_with fail
          go_loopw [9] (fun iv wr => ∃ j : Nat, j ≤ g.rf.length ∧ iv = .int .i64 j ∧ Hid (RdrIn wr R (.slice (some ⟨gT, 0, none⟩) ts.length cap1) vO vA (.slice paF g.rf.length capF) ts (nonesM g.out (g.rf.take j) q).i (nonesM g.out (g.rf.take j) q).en (nonesM g.out (g.rf.take j) q).pl) ∧ Hid (Wr (OnR R) w3 wr)) (fun iv _ => g.rf.length - (intOf iv).toNat)
          case atStart => exact ⟨0, Nat.zero_le _, rfl, hS.out.rdr, Wr.refl _ _⟩
          case round =>
            obtain ⟨j, hj, rfl, hR, hWr⟩ := hrel
            obtain ⟨-, -, -, -, c4, -, c6⟩ := seven_cells hR.out.box
            by_cases hlt : j < g.rf.length
            · obtain ⟨r, hr⟩ := some_of_lt hlt
              have hFr := hide (ownsRow_wr hS.out.refs hWr.out fun _ _ _ hd => absurd hd.2 (by decide))
              obtain ⟨gF, rfl, hg1, hg2, hg3⟩ := own_some hFr.out (by omega)
              obtain ⟨a0, a1, a2⟩ := refs_cells hFr.out hr
              have j2 : (j : Int) < (g.rf.length : Int) := by omega
              have j4 : (0 : Int) ≤ (j : Int) := by omega
              have hst := hide (nonesM_take g.out hr q)
              have hRr := hide hR.out.box
              replace hr := hide hr
              have hV1 : Hid (∀ w', Ext wr w' → RessV w' vO g.out) := fun w' x => hV.out w' (hWr.out.trans (Wr.ext x))
              go_wp2_with fail
              go_region_held3 (fun w' => w'.cell? ⟨R, 4, none⟩ = some vO ∧ w'.cell? ⟨R, 6, none⟩ = some (.slice (some ⟨gF, 0, none⟩) g.rf.length capF) ∧ w'.cell? ⟨gF, j * 3, none⟩ = some (.string r.1.kind) ∧ w'.cell? ⟨gF, j * 3 + 1, none⟩ = some (.string r.1.name)) (go_keep) ((go_at_call 11; refine (refFind vO g.out r.1 _ (hV1.out _ (Ext.refl wr).drew)).mono ?_; rintro e w5 ⟨rfl, he5⟩; have q0 := he5.cells (p := ⟨R, 4, none⟩) (v := vO) (by simpa using c4); have q1 := he5.cells (p := ⟨R, 6, none⟩) (v := .slice (some ⟨gF, 0, none⟩) g.rf.length capF) (by simpa using c6); have q2 := he5.cells (p := ⟨gF, j * 3, none⟩) (v := .string r.1.kind) (by simpa using a0); have q3 := he5.cells (p := ⟨gF, j * 3 + 1, none⟩) (v := .string r.1.name) (by simpa using a1); have q4 := he5.cells (p := ⟨gF, j * 3 + 2, none⟩) (v := .int .i64 r.2) (by simpa using a2); replace he5 := hide he5))
              have hX5 : Hid (Ext wr w5) := (Ext.refl wr).drew.trans he5.out
              have hpn := hide (place_neg g.out r.1)
              by_cases hneg : placeI g.out r.1 < 0
              · have hs1 : Hid (nonesM g.out [r] (nonesM g.out (g.rf.take j) q) = wrongM (nonesM g.out (g.rf.take j) q) 9 r.2) := nonesM_out (hpn.out.1 hneg)
                go_wp2_with fail
                refine (refWrongM (hR.out.ext hX5.out) 9 r.2).mono ?_
                rintro e6 w6 ⟨rfl, hR6, hW6⟩
                go_wp2_with fail
                go_roundw
                case rel =>
                  (repeat apply Exists.intro)
                  refine ⟨⟨j + 1, by omega, by go_num, ?_, hWr.out.trans ((Wr.ext hX5.out).trans hW6.out)⟩, rfl⟩
                  rw [hst.out, hs1.out]
                  exact hR6
                case measure => simp [intOf]; omega
              · have hs1 : Hid (nonesM g.out [r] (nonesM g.out (g.rf.take j) q) = nonesM g.out (g.rf.take j) q) := nonesM_in (Classical.byContradiction fun hc => hneg (hpn.out.2 hc))
                go_wp2_with fail
                go_roundw
                case rel =>
                  refine ⟨j + 1, by omega, by go_num, ?_, hWr.out.trans (Wr.ext hX5.out)⟩
                  rw [hst.out, hs1.out]
                  exact hR.out.ext hX5.out
                case measure => simp [intOf]; omega
            · have hall : Hid (g.rf.take j = g.rf) := List.take_of_length_le (by omega)
              go_wp2_with fail
              go_meet
              rw [hall.out] at hR
              exact ⟨hR, hWr⟩
        case rest =>
          obtain ⟨hR4, hW4⟩ := hcut
          obtain ⟨w4, rfl⟩ : ∃ w4 : World, w4 = wc := ⟨_, rfl⟩
          obtain ⟨s3, hm3⟩ : ∃ s3, Hid (nonesM g.out g.rf q = s3) := ⟨_, rfl⟩
          rw [hm3.out] at hR4
          have c4 := (seven_cells hR4.out.box).2.2.2.2.1
          have hS4 := hide (hS.out.onR hR4.out hW4.out)
          go_wp2_with fail
          refine (refCircles vO g.out w4 (hV.out w4 hW4.out) (by have := hb.out.few; omega)).mono ?_
          rintro e5 w5 ⟨qb, rfl, hql, hqc, hrow, hE5⟩
          replace hql := hide hql; replace hqc := hide hqc; replace hrow := hide hrow; replace hE5 := hide hE5
          have hS5 := hide (hS4.out.ext hE5.out)
          clear c4
          obtain ⟨paA, capA, rfl⟩ := ownsRow_form hS.out.ats
          have hRne : Hid (w4.heap.size ≠ R) := by show _ ≠ _; have := (Array.getElem?_eq_some_iff.1 hR4.out.box).1; omega
          have hol : g.out.length ≤ 13 := hb.out.few
          have hal : Hid (g.ats.length = g.out.length) := hb.out.same
          go_upto_block 4 with fail
          go_cut [] (fun wx => Hid (RdrIn wx R (.slice (some ⟨gT, 0, none⟩) ts.length cap1) vO (.slice paA g.ats.length capA) (.slice paF g.rf.length capF) ts (circsM qb g.ats s3).i (circsM qb g.ats s3).en (circsM qb g.ats s3).pl) ∧ Hid (Wr (OnR R) w5 wx))
          case first =>
            go_wp2_with fail
            go_loopw [11] (fun iv wr => ∃ j : Nat, j ≤ g.out.length ∧ iv = .int .i64 j ∧ Hid (RdrIn wr R (.slice (some ⟨gT, 0, none⟩) ts.length cap1) vO (.slice paA g.ats.length capA) (.slice paF g.rf.length capF) ts (circsM (qb.take j) (g.ats.take j) s3).i (circsM (qb.take j) (g.ats.take j) s3).en (circsM (qb.take j) (g.ats.take j) s3).pl) ∧ Hid (Wr (OnR R) w5 wr)) (fun iv _ => g.out.length - (intOf iv).toNat)
            case atStart => exact ⟨0, Nat.zero_le _, rfl, hS5.out.rdr, Wr.refl _ _⟩
            case round =>
              obtain ⟨j, hj, rfl, hR, hWr⟩ := hrel
              have c5 := (seven_cells hR.out.box).2.2.2.2.2.1
              by_cases hlt : j < g.out.length
              · obtain ⟨b, hbj⟩ := some_of_lt (l := qb) (k := j) (by rw [hql.out]; exact hlt)
                obtain ⟨p, hpj⟩ := some_of_lt (l := g.ats) (k := j) (by rw [hal.out]; exact hlt)
                have hAr := hide (ownsRow_wr hS5.out.ats hWr.out fun _ _ _ hd => absurd hd.2 (by decide))
                obtain ⟨gA, rfl, hg1, hg2, hg3⟩ := own_some hAr.out (by rw [hal.out]; omega)
                have a0 := ats_cells hAr.out hpj
                have b0 := (hrow.out.onR hWr.out hRne.out).cell hbj
                have j2 : (j : Int) < (g.out.length : Int) := by omega
                have j3 : (j : Int) < (g.ats.length : Int) := by have := hal.out; omega
                have j4 : (0 : Int) ≤ (j : Int) := by omega
                have hst := hide (circsM_take hbj hpj s3)
                replace hbj := hide hbj; replace hpj := hide hpj
                cases b with
                | true =>
                  have hst2 : Hid (circsM (qb.take (j + 1)) (g.ats.take (j + 1)) s3 = wrongM (circsM (qb.take j) (g.ats.take j) s3) 10 p) := hst.out.trans (if_pos rfl)
                  clear hst
                  go_wp2_with fail
                  refine (refWrongM hR.out 10 p).mono ?_
                  rintro e6 w6 ⟨rfl, hR6, hW6⟩
                  go_wp2_with fail
                  go_roundw
                  case rel =>
                    refine ⟨j + 1, by omega, by go_num, ?_, hWr.out.trans hW6.out⟩
                    rw [hst2.out]
                    exact hR6
                  case measure => simp [intOf]; omega
                | false =>
                  have hst2 : Hid (circsM (qb.take (j + 1)) (g.ats.take (j + 1)) s3 = circsM (qb.take j) (g.ats.take j) s3) := hst.out.trans (if_neg (by decide))
                  clear hst
                  go_wp2_with fail
                  go_roundw
                  case rel =>
                    refine ⟨j + 1, by omega, by go_num, ?_, hWr⟩
                    rw [hst2.out]
                    exact hR
                  case measure => simp [intOf]; omega
              · have hall : Hid (qb.take j = qb) := List.take_of_length_le (by rw [hql.out]; omega)
                have hall2 : Hid (g.ats.take j = g.ats) := List.take_of_length_le (by rw [hal.out]; omega)
                go_wp2_with fail
                go_meet
                rw [hall.out, hall2.out] at hR
                exact ⟨hR, hWr⟩
          case rest =>
            obtain ⟨hR6, hW6⟩ := hcut
            obtain ⟨w6, rfl⟩ : ∃ w6 : World, w6 = wc := ⟨_, rfl⟩
            obtain ⟨s4, hm4⟩ : ∃ s4, Hid (circsM qb g.ats s3 = s4) := ⟨_, rfl⟩
            rw [hm4.out] at hR6
            have hS6 := hide (hS5.out.onR hR6.out hW6.out)
            obtain ⟨-, -, c2, c3, c4, -, -⟩ := seven_cells hR6.out.box
            obtain ⟨f1, f2⟩ := hps.out q g (by rw [hts.out]; exact hm.out) qb hql.out hqc.out s4 (by rw [hm3.out]; exact hm4.out)
            have hEz : Hid (Ext w w6) := Wr.toExt (Wr.toExt hE2.out hW.out (fun j t hd => by rcases hd with (⟨rfl, _⟩ | ⟨h, _⟩) | ⟨h, _⟩; exact hRB.out; exact h; exact h)) ((hW4.out.trans (Wr.ext hE5.out)).trans hW6.out) (fun j t hd => by rw [hd.1]; exact hRB.out)
            replace f1 := hide f1; replace f2 := hide f2
            by_cases hx : s4.en = 0
            · have hxb : (s4.en != 0) = false := by simp [hx]
              have hfin := hide (f2.out hx)
              replace hx := hide hx
              go_wp2_with fail
              refine (refSorted hS6.out.out hS6.out.each (by have := hpl.out; omega)).mono ?_
              rintro e7 w7 ⟨pa7, cap7, qs, rfl, hq7, hsub7, hO7, hE7⟩
              go_wp2_with fail
              refine bodyPost_ret (v := .tuple #[.slice pa7 qs.length cap7, .int .i64 0, .int .i64 0]) (by simp [results, Tryz.results4, go_sem]) rfl ?_
              rw [hfin.out]
              refine ⟨_, rfl, ?_, hEz.out.trans hE7.out⟩
              have hv := ressV_of (B := 0) (ownsRow_low' hO7.out (Nat.zero_le _)) (fun p hp => ⟨((hS6.out.each p (hsub7.out p hp)).1.low (Nat.zero_le _)).ext hE7.out, (hS6.out.each p (hsub7.out p hp)).2⟩) (by have h1 := congrArg List.length hq7.out; rw [List.length_map, hS6.out.xs, srtM_len] at h1; omega)
              rw [hq7.out, hS6.out.xs] at hv
              exact hv
            · have hxb : (s4.en != 0) = true := by simpa using hx
              have hfin := hide (f1.out hx)
              replace hx := hide hx
              go_wp2_with fail
              go_quiet (fail)
              go_wp2_with fail
              refine bodyPost_ret (v := .tuple #[.slice none 0 0, .int .i64 s4.en, .int .i64 s4.pl]) (by simp [results, Tryz.results4, go_sem]) rfl ?_
              rw [hfin.out]
              exact ⟨_, rfl, ressV_nil _, hEz.out.drewN _⟩
    · have hcut := hide (refTokens s w (by omega))
      have hfin : Hid (parseS s.data.toList = ([], (cutL s.data.toList).2)) := by
        show _ = _
        unfold parseS; rw [if_neg hl2.out, if_pos hz]
      have hzb : ((cutL s.data.toList).2.1 != 0) = true := by simpa using hz
      replace hz := hide hz
      go_enter Tryz.func4, Tryz.ntmps4
      go_wp2_with fail
      refine hcut.out.mono ?_
      rintro e1 w1 ⟨hE1, pa1, cap1, rfl, hT1⟩
      go_wp2_with fail
      refine bodyPost_ret (v := .tuple #[.slice none 0 0, .int .i64 (cutL s.data.toList).2.1, .int .i64 (cutL s.data.toList).2.2]) (by simp [results, Tryz.results4, go_sem]) rfl ?_
      rw [hfin.out]
      exact ⟨_, rfl, ressV_nil _, hE1⟩
end Go.Proofs.YtejhegnlmldomaaGreat

namespace Go.Proofs.YtejhegnlmldomaaGreat
open Go.RowKit

theorem resS_few {ts : List Tok} {i : Nat} {es : List EntD} {rf : List (IDd × Nat)} {i' : Nat} {es' : List EntD} {rf' : List (IDd × Nat)} (h : resS ts i es rf = .ok (i', es', rf')) (hn : es.length ≤ 12) : es'.length ≤ 12 := by
  unfold resS at h
  split at h
  · cases h
  · rename_i i1 e1 h1
    have h12 : es.length ≠ 12 := by
      unfold headS at h1
      split at h1
      · cases h1
      · split at h1
        · cases h1
        · split at h1
          · cases h1
          · assumption
    split at h
    · cases h
    · split at h
      · cases h
      · split at h
        · cases h
        · cases h
          rw [List.length_append, List.length_singleton]; omega
theorem textS_few {ts : List Tok} : ∀ (f : Nat) {i : Nat} {es : List EntD} {rf : List (IDd × Nat)} {es' : List EntD} {rf' : List (IDd × Nat)}, es.length ≤ 12 → textS ts f i es rf = .ok (es', rf') → es'.length ≤ 12
  | 0, i, es, rf, es', rf', _, h => by cases h
  | f + 1, i, es, rf, es', rf', hn, h => by
    unfold textS at h
    split at h
    · cases h; exact hn
    · split at h
      · cases h
      · rename_i i1 es1 rf1 h1
        exact textS_few f (resS_few h1 hn) h
theorem parseS_few (l : List UInt8) : (parseS l).1.length ≤ 12 := by
  unfold parseS
  split
  · simp
  · split
    · simp
    · split
      · simp
      · rename_i es rf h
        have := textS_few _ (by simp) h
        split
        · simp
        · split
          · simp
          · simp [srtN_len]; exact this

set_option maxRecDepth 100000 in
set_option maxHeartbeats 6400000 in
theorem textsLaw (s : ByteArray) (w : World) :
    Calls Tryz.prog 3 #[.string s] w fun e w' => e = .returned (.bool true) ∧ Ext w w' := by
  have hfew := parseS_few s.data.toList
  have hP := hide (refParse s w)
  have hQ : Hid (∀ w', Calls Tryz.prog 5 #[.string s] w' (ParseIs w' (parseS s.data.toList))) := fun w' => parseP s w'
  generalize parseS s.data.toList = r at *
  obtain ⟨L, f1, n1⟩ := r
  dsimp only at hfew
  go_enter Tryz.func3, Tryz.ntmps3
  go_wp2_with fail
  refine hP.out.mono ?_
  rintro e w1 ⟨v1, rfl, hv1, he1⟩
  go_wp2_with fail
  refine (hQ.out _).mono ?_
  rintro e w2 ⟨vq, qs, rfl, hm2, hr2, hc2, he2⟩
  go_wp2_with fail
  refine (hQ.out _).mono ?_
  rintro e w3 ⟨vr, rs, rfl, hm3, hr3, hc3, he3⟩
  dsimp only at hm2 hm3 hc2
  have hnq : qs.length ≤ 12 := by have := congrArg List.length hm2.out; rw [List.length_map] at this; omega
  have hnr : rs.length ≤ 12 := by have := congrArg List.length hm3.out; rw [List.length_map] at this; omega
  clear hc3
  obtain ⟨pb, cb, rfl⟩ := ownsRow_form hr2.out.row
  obtain ⟨pc, cc, rfl⟩ := ownsRow_form hr3.out.row
  obtain ⟨pa, ca, rfl, -⟩ := hv1.out.shape
  have r2 := hide (hr2.out.ext he3.out)
  have r3 := hide hr3.out
  have v1 := hide ((hv1.out.ext he2.out).ext he3.out)
  have v2 := hide (r2.out.ressV (by omega))
  have v3 := hide (r3.out.ressV (by omega))
  rw [hm2.out] at v2
  rw [hm3.out] at v3
  have hnil : (f1 = 0) ∨ (f1 ≠ 0 ∧ pb = none ∧ qs = [] ∧ cb = 0) := by
    by_cases h0 : f1 = 0
    · exact .inl h0
    · have h1 := hc2.out h0
      simp only [Value.slice.injEq] at h1
      exact .inr ⟨h0, h1.1, List.eq_nil_of_length_eq_zero h1.2.1, h1.2.2⟩
  clear hc2
  go_wp2_with fail
  refine (sameRess _ _ L _ v2.out v1.out).mono ?_
  rintro e w4 ⟨rfl, he4⟩
  replace he4 := hide he4
  go_wp2_with fail
  refine (sameRess _ _ L _ (v3.out.ext he4.out) (v1.out.ext he4.out)).mono ?_
  rintro e w5 ⟨rfl, he5⟩
  have X5 := hide (he4.out.trans he5)
  clear he4 he5 v1 v2 v3
  rcases hnil with rfl | ⟨hf1, rfl, hqs, hcb⟩
  all_goals
    try (have hfb : (f1 != 0) = true := by simpa using hf1)
    try (replace hqs := hide hqs; replace hcb := hide hcb; replace hf1 := hide hf1)
    have X6 : Ext w5 (w5.alloc (.cells #[.slice none 0 0, .slice none 0 0, .slice none 0 0, .slice none 0 0, .slice none 0 0, .slice none 0 0] 37)) := (Ext.refl w5).alloc _
    have s1 : w1.heap.size ≤ w2.heap.size := he2.out.size
    have s2 : w2.heap.size ≤ w3.heap.size := he3.out.size
    have s3 : w3.heap.size ≤ w5.heap.size := X5.out.size
    have hbk : BkAt w1.heap.size (w5.alloc (.cells #[.slice none 0 0, .slice none 0 0, .slice none 0 0, .slice none 0 0, .slice none 0 0, .slice none 0 0] 37)) w5.heap.size (.slice none 0 0) (.slice none 0 0) (.slice none 0 0) (.slice none 0 0) (.slice none 0 0) (.slice none 0 0) [] [] :=
      ⟨heap_alloc_new w5 _, World.ownsRow_nil _ _ _ _, World.ownsRow_nil _ _ _ _, by omega⟩
    have hc6 : (w5.alloc (.cells #[.slice none 0 0, .slice none 0 0, .slice none 0 0, .slice none 0 0, .slice none 0 0, .slice none 0 0] 37)).ownsRow w1.heap.size 78 2 (.slice none 0 0) ([] : List (Value × Nat)).length (cellsE []) := World.ownsRow_nil _ _ _ _
    have lo6 := ((r2.out.ext X5.out).ext X6)
    have hB6 : w1.heap.size ≤ (w5.alloc (.cells #[.slice none 0 0, .slice none 0 0, .slice none 0 0, .slice none 0 0, .slice none 0 0, .slice none 0 0] 37)).heap.size := by have := X6.size; omega
    replace X6 := hide X6; replace hbk := hide hbk; replace hB6 := hide hB6; replace hc6 := hide hc6; replace lo6 := hide lo6
    replace s1 := hide s1; replace s2 := hide s2; replace s3 := hide s3
    go_wp2_with fail
    refine (ownResources w1.heap.size w5.heap.size _ _ _ _ _ _ _ [] [] [] _ qs hbk.out hc6.out hB6.out lo6.out (by omega) (by simp) (by simp) (by simp)).mono ?_
    rintro e w7 ⟨va7, vi7, vc7, en7, em7, eq7, rfl, hb7, hc7, hen7, hem7, heq7, hma7, hmi7, hmc7, hla7, hli7, hlc7, hk7⟩
    have hD7 := turnQ_not (w3 := w3) (O := w5.heap.size) hr2.out s3.out
    have ow7 := hide (r3.out.stay (X5.out.trans X6.out) hk7.out hD7)
    have lo7 := hide (ow7.out.low (B' := w1.heap.size) s1.out)
    have hB7 := hide (Nat.le_trans hB6.out hk7.out.size)
    clear hD7
    go_wp2_with fail
    refine (ownResources w1.heap.size w5.heap.size _ _ _ _ _ _ _ ([] ++ en7) ([] ++ em7) ([] ++ eq7) _ rs hb7.out hc7.out hB7.out lo7.out (by omega) (by simp; omega) (by simp; omega) (by simp; omega)).mono ?_
    rintro e w8 ⟨va8, vi8, vc8, en8, em8, eq8, rfl, hb8, hc8, hen8, hem8, heq8, hma8, hmi8, hmc8, hla8, hli8, hlc8, hk8⟩
    have s6 : w3.heap.size ≤ (w5.alloc (.cells #[.slice none 0 0, .slice none 0 0, .slice none 0 0, .slice none 0 0, .slice none 0 0, .slice none 0 0] 37)).heap.size := Nat.le_trans s3.out X6.out.size
    have hA8 : Hid (∀ x ∈ ([] ++ en7) ++ en8, MarkG 129 4 mkA w8 x) := by
      intro x hx
      rcases List.mem_append.1 hx with hx | hx
      · rw [List.nil_append] at hx
        refine mark_stayQ (hma7.out x hx) hb7.out hc7.out r3.out hk8.out (by decide) (by decide) (by decide) (by decide) fun g hg => ?_
        rcases hla7.out x hx g hg with ⟨p, hp, h⟩ | h
        · exact .inl ((hr2.out.each p hp).1.attrs.lt g h).2
        · exact .inr (Nat.le_trans s6 h)
      · exact hma8.out x hx
    have hI8 : Hid (∀ x ∈ ([] ++ em7) ++ em8, MarkG 53 2 mkI w8 x) := by
      intro x hx
      rcases List.mem_append.1 hx with hx | hx
      · rw [List.nil_append] at hx
        refine mark_stayQ (hmi7.out x hx) hb7.out hc7.out r3.out hk8.out (by decide) (by decide) (by decide) (by decide) fun g hg => ?_
        rcases hli7.out x hx g hg with ⟨p, hp, h⟩ | h
        · exact .inl ((hr2.out.each p hp).1.after.lt g h).2
        · exact .inr (Nat.le_trans s6 h)
      · exact hmi8.out x hx
    have hC8 : Hid (∀ x ∈ ([] ++ eq7) ++ eq8, MarkG 74 4 mkQ w8 x) := by
      intro x hx
      rcases List.mem_append.1 hx with hx | hx
      · rw [List.nil_append] at hx
        refine mark_stayQ (hmc7.out x hx) hb7.out hc7.out r3.out hk8.out (by decide) (by decide) (by decide) (by decide) fun g hg => ?_
        rcases hlc7.out x hx g hg with h | h
        · exact .inl (hr2.out.row.lt g h).2
        · exact .inr (Nat.le_trans s6 h)
      · exact hmc8.out x hx
    clear s6
    go_wp2_with fail
    refine (booksLookQ w1.heap.size w5.heap.size _ va8 vi8 vc8 _ _ _ hb8.out hc8.out (by simp; omega) (by simp; omega) (by simp; omega) hA8.out hI8.out hC8.out).mono ?_
    rintro e w9 ⟨rfl, he9⟩
    replace he9 := hide he9
    go_wp2_with fail
    go_ret
    refine ⟨rfl, ?_⟩
    have hge := he1.out.size
    have k6 : Ext w (w5.alloc (.cells #[.slice none 0 0, .slice none 0 0, .slice none 0 0, .slice none 0 0, .slice none 0 0, .slice none 0 0] 37)) := (((he1.out.trans he2.out).trans he3.out).trans X5.out).trans X6.out
    have k7 : Ext w w7 := k6.since hk7.out (fun g hg => Nat.le_trans hge (turnQ_low hbk.out hc6.out lo6.out hg))
    have k8 : Ext w w8 := k7.since hk8.out (fun g hg => Nat.le_trans hge (turnQ_low hb7.out hc7.out lo7.out hg))
    exact k8.trans he9.out
end Go.Proofs.YtejhegnlmldomaaGreat
