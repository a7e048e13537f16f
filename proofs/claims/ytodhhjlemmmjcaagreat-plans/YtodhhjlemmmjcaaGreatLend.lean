/-
  lend: what it makes.
-/
import Derived.Test.YtodhhjlemmmjcaaGreatJ12
import Derived.Test.YtodhhjlemmmjcaaGreatJ4
import Derived.Deep.RegionHeld3
import Derived.Deep.AppendLies
import Derived.Deep.DeepMust
namespace Go.Proofs.YtodhhjlemmmjcaaGreat
open Go.RowKit

def cR (x : Resd) : List Value := [.string x.id.kind, .string x.id.name, .slice none 0 0, .slice none 0 0]

/-- Only the row of resources has turned. -/
theorem Lending.relay {B n : Nat} {ps : List Pt} {w w' : World} {O L : Nat} {va vf : Value} {rest rest' : List Value} (h : Lending B n ps w O L va vf rest) (k : Kept (· = L) w w')
    (hl : w'.heap[L]? = some (.cells (ps.flatMap cP ++ rest').toArray 56 (0, 0))) : Lending B n ps w' O L va vf rest' :=
  ⟨k.heap h.o (tag_ne h.o h.l (by decide)), hl, ownsRow_keep h.va k (fun _ _ hg => tag_ne hg h.l (by decide)), ownsRow_keep h.vf k (fun _ _ hg => tag_ne hg h.l (by decide)),
    fun p hp => k.heap (h.a p hp) (tag_ne (h.a p hp) h.l (by decide)), fun p hp => k.heap (h.f p hp) (tag_ne (h.f p hp) h.l (by decide)), h.apart, h.low, h.ok⟩

set_option maxRecDepth 100000 in
set_option maxHeartbeats 6400000 in
theorem lend (v : Value) (l : List Resd) (w : World) (hv : RessV w v l) (hl : l.length ≤ 1759218604390) (hok : ∀ x ∈ l, okR x) :
    Calls Tryz.prog 5 #[v] w fun e w' => Ext w w' ∧ ∃ ps O L va vf, ps.map Pt.x = l ∧ e = .returned (.pointer (some ⟨O, 0, none⟩)) ∧ Lending w.heap.size l.length ps w' O L va vf ((List.replicate 8 markR).flatMap cR) := by
  obtain ⟨⟨a, cap, rfl, hcap, hmax, hs⟩, hfew⟩ := hv
  obtain ⟨zs, hzs, hmk⟩ := make_rows Tryz.underlying22 infoRes l.length (by omega) (by omega)
  replace hzs := hide hzs
  replace hs := hide hs; replace hok := hide hok
  go_enter Tryz.func5, Tryz.ntmps5
  go_wp2_with fail
  go_loopw [4] (fun i wr => ∃ (k : Nat) (ps : List Pt) (va vf : Value) (rest : List Value), k ≤ l.length ∧ i = .int .i64 k ∧ ps.length = k ∧ Hid (ps.map Pt.x = l.take k) ∧ rest.length = (l.length + 8 - k) * 4 ∧ Lending w.heap.size l.length ps wr (w.heap.size + 1) w.heap.size va vf rest ∧ Ext w wr) (fun i _ => l.length - (intOf i).toNat)
  case atStart =>
    refine ⟨0, [], .slice none 0 0, .slice none 0 0, zs, Nat.zero_le _, rfl, rfl, rfl, hzs.out, ?_, ((Ext.refl _).alloc _).alloc _⟩
    refine ⟨?_, ?_, World.ownsRow_nil _ _ _ _, World.ownsRow_nil _ _ _ _, fun p hp => (by cases hp), fun p hp => (by cases hp), List.Pairwise.nil, ⟨by omega, by omega, fun p hp => (by cases hp)⟩, fun p hp => (by cases hp)⟩
    · have := heap_alloc_new (w.alloc (.cells zs.toArray 56)) (.cells #[.slice (some ⟨w.heap.size, 0, none⟩) (l.length + 8) (l.length + 8), .slice none 0 0, .slice none 0 0] 43)
      simpa using this
    · rw [Below.heap_alloc _ _ _ (by simp)]; exact heap_alloc_new w _
  case round =>
    obtain ⟨k, ps, va, vf, rest, hk, rfl, hps, hpx, hrest, hL, he⟩ := hrel
    by_cases hlt : k < l.length
    · rcases hs.out with h0 | ⟨b, off, rfl, hin⟩
      · rw [h0] at hlt; simp at hlt
      obtain ⟨x, hx⟩ := some_of_lt hlt
      obtain ⟨h0w, h1w, c2, c3, h2w, h3w, hresw⟩ := hin k x hx
      have g0 := he.cells h0w; have g1 := he.cells h1w; have g2 := he.cells h2w; have g3 := he.cells h3w
      have hres := hresw.ext he
      replace hresw := hide hresw; replace h0w := hide h0w; replace h1w := hide h1w; replace h2w := hide h2w; replace h3w := hide h3w
      have hres0 := hide hres
      obtain ⟨a2, p2, rfl⟩ := hres.attrs.form
      obtain ⟨a3, p3, rfl⟩ := hres.after.form
      have nA := (hok.out x (List.mem_of_getElem? hx)).2.2.2.1
      have nF := (hok.out x (List.mem_of_getElem? hx)).2.2.2.2
      have hokx := hide (hok.out x (List.mem_of_getElem? hx))
      obtain ⟨zA, hzA, hmA⟩ := make_rows Tryz.underlying53 infoAttr x.attrs.length (by omega) (by omega)
      obtain ⟨zF, hzF, hmF⟩ := make_rows Tryz.underlying54 infoID x.after.length (by omega) (by omega)
      have hblt : b < wr.heap.size := World.block_lt_of_cell? wr _ g0
      have i2 : (k : Int) < (l.length : Int) := by omega
      have i4 : (0 : Int) ≤ (k : Int) := by omega
      have sAttr : (Tryz.prog.info? 62).map (·.size) = some 4 := by kernel_rfl
      have sID : (Tryz.prog.info? 52).map (·.size) = some 2 := by kernel_rfl
      have srcA : x.attrs.length = 0 ∨ ∃ b off, a2 = some ⟨b, off, none⟩ ∧ ∀ j v, (cellsA x.attrs)[j]? = some v → wr.cell? ⟨b, off + j, none⟩ = some v := by
        obtain ⟨⟨aa, cc, hav, _, _, hh⟩, _, _⟩ := hres.attrs
        obtain ⟨rfl, rfl⟩ : aa = a2 ∧ cc = p2 := by simpa using hav.symm
        rcases hh with hh | ⟨b', o', rfl, hi⟩
        · left; rw [hh]; rfl
        · exact .inr ⟨b', o', rfl, hi.src⟩
      have srcF : x.after.length = 0 ∨ ∃ b off, a3 = some ⟨b, off, none⟩ ∧ ∀ j v, (cellsI x.after)[j]? = some v → wr.cell? ⟨b, off + j, none⟩ = some v := by
        obtain ⟨⟨aa, cc, hav, _, _, hh⟩, _, _⟩ := hres.after
        obtain ⟨rfl, rfl⟩ : aa = a3 ∧ cc = p3 := by simpa using hav.symm
        rcases hh with hh | ⟨b', o', rfl, hi⟩
        · left; rw [hh]; rfl
        · exact .inr ⟨b', o', rfl, hi.src⟩
      have srcA' : x.attrs.length = 0 ∨ ∃ b off, a2 = some ⟨b, off, none⟩ ∧ ∀ j v, (cellsA x.attrs)[j]? = some v → (wr.alloc (.cells zA.toArray 62)).cell? ⟨b, off + j, none⟩ = some v :=
        srcA.imp id fun ⟨b, off, h1, h2⟩ => ⟨b, off, h1, fun j v hj => ((Ext.refl wr).alloc _).cells (h2 j v hj)⟩
      have hzA' : (cellsA x.attrs).length ≤ zA.length := by rw [cellsA_len, hzA]; omega
      have hzF' : (cellsI x.after).length ≤ zF.length := by rw [cellsI_len, hzF]; omega
      have G0 := hide g0; have G1 := hide g1; have G2 := hide g2; have G3 := hide g3
      clear hres srcA
      replace hin := hide hin; replace hx := hide hx; replace he := hide he; replace hL := hide hL; replace hzA := hide hzA; replace hzF := hide hzF; replace srcA' := hide srcA'; replace srcF := hide srcF; replace hzA' := hide hzA'; replace hzF' := hide hzF'; replace sAttr := hide sAttr; replace sID := hide sID; replace hps := hide hps; replace hrest := hide hrest
      go_wp2_with (first
        | (refine wpList_copy_rows (by rfl) (.tmp 29) (.tmp 34) 53 53 (by rfl) 62 4 Tryz.underlying53 sAttr.out wr.heap.size (x.attrs.length + 8) (x.attrs.length + 8) a2 x.attrs.length p2 (by rfl) (by rfl) (by omega) zA 62 (heap_alloc_new wr _) (cellsA x.attrs) (cellsA_len _) srcA'.out hzA'.out (cellsA_one _) ?_; intro w1 hA1 hk1 hz1; have X1 : Ext wr w1 := Ext.since ((Ext.refl wr).alloc _) hk1 (fun j hj => by subst hj; exact Nat.le_refl _); clear g0 g1 g2 g3; have g0 := X1.cells G0.out; have g1 := X1.cells G1.out; have g2 := X1.cells G2.out; have g3 := X1.cells G3.out; have hblt1 : b < w1.heap.size := World.block_lt_of_cell? w1 _ g0; replace X1 := hide X1; replace hA1 := hide hA1; replace hk1 := hide hk1; replace hz1 := hide hz1)
        | (refine wpList_copy_rows (by rfl) (.tmp 44) (.tmp 49) 54 54 (by rfl) 52 2 Tryz.underlying54 sID.out w1.heap.size (x.after.length + 8) (x.after.length + 8) a3 x.after.length p3 (by rfl) (by rfl) (by omega) zF 52 (heap_alloc_new w1 _) (cellsI x.after) (cellsI_len _) (srcF.out.imp id fun ⟨b, off, h1, h2⟩ => ⟨b, off, h1, fun j v hj => (X1.out.alloc _).cells (h2 j v hj)⟩) hzF'.out (cellsI_one _) ?_; intro w2 hF2 hk2 hz2; have X2 : Ext w1 w2 := Ext.since ((Ext.refl w1).alloc _) hk2 (fun j hj => by subst hj; exact Nat.le_refl _); have X3 : Ext wr w2 := X1.out.trans X2; clear g0 g1 g2 g3; have g0 := X3.cells G0.out; have g1 := X3.cells G1.out; have g2 := X3.cells G2.out; have g3 := X3.cells G3.out; have hA2 := ext_heap X2 hA1.out; replace X2 := hide X2; replace X3 := hide X3; replace hA2 := hide hA2; replace hF2 := hide hF2; replace hk2 := hide hk2; replace hz2 := hide hz2))
      have hsz1 : w1.heap.size = wr.heap.size + 1 := by have := hz1.out; simpa using this
      have hsz2 : w2.heap.size = wr.heap.size + 2 := by have := hz2.out; simp at this; omega
      clear g0 g1 g2 g3
      replace hsz1 := hide hsz1; replace hsz2 := hide hsz2
      have hdA : (zA.drop (cellsA x.attrs).length).length = (8 - 0) * 4 := by rw [List.length_drop, hzA.out, cellsA_len]; omega
      have hdF : (zF.drop (cellsI x.after).length).length = (8 - 0) * 2 := by rw [List.length_drop, hzF.out, cellsI_len]; omega
      obtain ⟨wo, rfl⟩ : ∃ wo : World, wo = wr := ⟨_, rfl⟩
      go_loopw [7] (fun i w3 => ∃ (q : Nat) (rA rF : List Value), q ≤ 8 ∧ i = .int .i64 q ∧ rA.length = (8 - q) * 4 ∧ rF.length = (8 - q) * 2 ∧ Hid (w3.heap[wo.heap.size]? = some (.cells (cellsA (x.attrs ++ List.replicate q markA) ++ rA).toArray 62 (0, 0))) ∧ Hid (w3.heap[w1.heap.size]? = some (.cells (cellsI (x.after ++ List.replicate q markI) ++ rF).toArray 52 (0, 0))) ∧ Ext wo w3 ∧ w3.heap.size = w2.heap.size) (fun i _ => 8 - (intOf i).toNat)
      case atStart => exact ⟨0, _, _, by omega, rfl, hdA, hdF, by simpa [Hid] using hA2.out, by simpa [Hid] using hF2.out, X3.out, rfl⟩
      case round =>
        obtain ⟨q, rA, rF, hq, rfl, hrA, hrF, hbA, hbF, X4, hsz⟩ := hrel
        have g0 := X4.cells G0.out; have g1 := X4.cells G1.out; have g2 := X4.cells G2.out; have g3 := X4.cells G3.out
        have hbA' : ¬ b = wo.heap.size := by omega
        have hbF' : ¬ b = w1.heap.size := by have := hsz1.out; omega
        have hAF : ¬ wo.heap.size = w1.heap.size := by have := hsz1.out; omega
        have hFA : ¬ w1.heap.size = wo.heap.size := by have := hsz1.out; omega
        by_cases hlt3 : q < 8
        · obtain ⟨z0, z1, z2, z3, rA', rfl⟩ : ∃ z0 z1 z2 z3 r, rA = z0 :: z1 :: z2 :: z3 :: r := by
            match rA, hrA with
            | z0 :: z1 :: z2 :: z3 :: r, _ => exact ⟨z0, z1, z2, z3, r, rfl⟩
            | [], h => simp at h; omega
            | [_], h => simp at h; omega
            | [_, _], h => simp at h; omega
            | [_, _, _], h => simp at h; omega
          obtain ⟨y0, y1, rF', rfl⟩ : ∃ y0 y1 r, rF = y0 :: y1 :: r := by
            match rF, hrF with
            | y0 :: y1 :: r, _ => exact ⟨y0, y1, r, rfl⟩
            | [], h => simp at h; omega
            | [_], h => simp at h; omega
          have lA : (cellsA (x.attrs ++ List.replicate q markA)).length = (x.attrs.length + q) * 4 := by rw [cellsA_len]; simp
          have lF : (cellsI (x.after ++ List.replicate q markI)).length = (x.after.length + q) * 2 := by rw [cellsI_len]; simp
          have cc : ∀ r, wr.cell? ⟨wo.heap.size, (x.attrs.length + q) * 4 + r, none⟩ = (z0 :: z1 :: z2 :: z3 :: rA')[r]? := fun r => by
            rw [blk_cell hbA.out, ← lA, List.getElem?_append_right (by omega)]; congr 1; omega
          have dd : ∀ r, wr.cell? ⟨w1.heap.size, (x.after.length + q) * 2 + r, none⟩ = (y0 :: y1 :: rF')[r]? := fun r => by
            rw [blk_cell hbF.out, ← lF, List.getElem?_append_right (by omega)]; congr 1; omega
          have cc0 := cc 0; have cc1 := cc 1; have cc2 := cc 2; have cc3 := cc 3
          have dd0 := dd 0; have dd1 := dd 1
          simp only [Nat.add_zero, List.getElem?_cons_zero, List.getElem?_cons_succ] at cc0 cc1 cc2 cc3 dd0 dd1
          have fA := blk_frozen hbA.out
          have fF := blk_frozen hbF.out
          have q2 : (x.attrs.length : Int) + (q : Int) < (x.attrs.length : Int) + 8 := by omega
          have q3 : (x.after.length : Int) + (q : Int) < (x.after.length : Int) + 8 := by omega
          have q4 : (0 : Int) ≤ (x.attrs.length : Int) + (q : Int) := by omega
          have q5 : (0 : Int) ≤ (x.after.length : Int) + (q : Int) := by omega
          have n2 : ((x.attrs.length : Int) + (q : Int)).toNat = x.attrs.length + q := by omega
          have n3 : ((x.after.length : Int) + (q : Int)).toNat = x.after.length + q := by omega
          clear cc dd
          replace hbA := hide hbA; replace hbF := hide hbF; replace X4 := hide X4; replace hsz := hide hsz; replace lA := hide lA; replace lF := hide lF; replace hrA := hide hrA; replace hrF := hide hrF
          go_wp2
          go_roundw
          case rel =>
            have K4 := kept4 wr wo.heap.size ((x.attrs.length + q) * 4) (.string ⟨#[]⟩) (.bool false) (.string ⟨#[]⟩) (.int .i64 (-77))
            have S4 := size4 wr wo.heap.size ((x.attrs.length + q) * 4) (.string ⟨#[]⟩) (.bool false) (.string ⟨#[]⟩) (.int .i64 (-77))
            have B4 := set4_blk (v0 := .string ⟨#[]⟩) (v1 := .bool false) (v2 := .string ⟨#[]⟩) (v3 := .int .i64 (-77)) lA.out hbA.out
            have F4 := K4.heap hbF.out hFA
            generalize ((((wr.setCell ⟨wo.heap.size, (x.attrs.length + q) * 4, none⟩ (.string ⟨#[]⟩)).setCell ⟨wo.heap.size, (x.attrs.length + q) * 4 + 1, none⟩ (.bool false)).setCell ⟨wo.heap.size, (x.attrs.length + q) * 4 + 2, none⟩ (.string ⟨#[]⟩)).setCell ⟨wo.heap.size, (x.attrs.length + q) * 4 + 3, none⟩ (.int .i64 (-77))) = W1 at *
            have K2 := kept2 W1 w1.heap.size ((x.after.length + q) * 2) (.string ⟨#[98, 101, 121, 111, 110, 100]⟩) (.string ⟨#[]⟩)
            have S2 := size2 W1 w1.heap.size ((x.after.length + q) * 2) (.string ⟨#[98, 101, 121, 111, 110, 100]⟩) (.string ⟨#[]⟩)
            have B2 := set2_blk (v0 := .string ⟨#[98, 101, 121, 111, 110, 100]⟩) (v1 := .string ⟨#[]⟩) lF.out F4
            refine ⟨q + 1, rA', rF', by omega, by go_num, ?_, ?_, ?_, ?_, ?_, ?_⟩
            · have := hrA.out; simp only [List.length_cons] at this; omega
            · have := hrF.out; simp only [List.length_cons] at this; omega
            · show _ = _; rw [cellsA_snoc]; exact K2.heap B4 hAF
            · show _ = _; rw [cellsI_snoc]; exact B2
            · exact Ext.since (Ext.since X4.out K4 (fun j hj => by subst hj; exact Nat.le_refl _)) K2 (fun j hj => by subst hj; have := hsz1.out; omega)
            · rw [S2, S4]; exact hsz.out
          case measure => simp [intOf]; omega
        · obtain rfl : q = 8 := by omega
          obtain rfl : rA = [] := List.eq_nil_of_length_eq_zero (by simpa using hrA)
          obtain rfl : rF = [] := List.eq_nil_of_length_eq_zero (by simpa using hrF)
          have hL4 := hL.out.ext X4
          have hO := hL4.o
          obtain ⟨r0, r1, r2, r3, rest', rfl⟩ : ∃ z0 z1 z2 z3 r, rest = z0 :: z1 :: z2 :: z3 :: r := by
            have hr := hrest.out
            match rest, hr with
            | z0 :: z1 :: z2 :: z3 :: r, _ => exact ⟨z0, z1, z2, z3, r, rfl⟩
            | [], h => simp at h; omega
            | [_], h => simp at h; omega
            | [_, _], h => simp at h; omega
            | [_, _, _], h => simp at h; omega
          obtain ⟨pa, ca, rfl⟩ := ownsRow_form hL4.va
          obtain ⟨pf, cf, rfl⟩ := ownsRow_form hL4.vf
          have hpk := hps.out
          rw [hpk] at hO
          have o0 : wr.cell? ⟨w.heap.size + 1, 0, none⟩ = some (.slice (some ⟨w.heap.size, 0, none⟩) (l.length + 8) (l.length + 8)) := (block_cell' hO 0).trans rfl
          have o1 : wr.cell? ⟨w.heap.size + 1, 1, none⟩ = some (.slice pa k ca) := (block_cell' hO 1).trans rfl
          have o2 : wr.cell? ⟨w.heap.size + 1, 2, none⟩ = some (.slice pf k cf) := (block_cell' hO 2).trans rfl
          have hfO := blk_frozen hO
          have hltO : w.heap.size + 1 < wr.heap.size := (Array.getElem?_eq_some_iff.1 hO).1
          obtain ⟨iA, hiA, yA0, yA1, yA2⟩ := info_of infoAttrs
          obtain ⟨iF, hiF, yF0, yF1, yF2⟩ := info_of infoIDs
          have hva := hide hL4.va; have hvf := hide hL4.vf
          rw [hpk] at hva hvf
          have ebA := hide (he.out.trans X4)
          replace hL4 := hide hL4; replace hO := hide hO; replace hiA := hide hiA; replace hiF := hide hiF; replace X4 := hide X4; replace hpk := hide hpk; replace hsz := hide hsz
          clear g0 g1 g2 g3
          go_wp2_with (first
            | (at_builtin; refine wpList_append_lies _ (by rfl) (.tmp 81) (.tmp 83) 40 (by rfl) w.heap.size 53 iA (.slice none 0 0) 1 24 Tryz.underlying40 hiA.out yA0 yA1 yA2 rfl (by omega) _ k (ps.map slA) (by rfl) (hva.out.alloc _) ⟨wr.heap.size, 0, none⟩ 1 1 [slA ⟨x, wo.heap.size, w1.heap.size⟩] (by rfl) rfl ?_ (by simp [slA, Value.oneCell']) (by omega) (by unfold maxLen; omega) (by omega) (by have := ebA.out.size; simp; omega) (wr.heap.size + 1) (by simp) ?_; (intro j u hu; rw [add_eq]; (match j, hu with | 0, hu => (simp at hu; subst hu; simp [go_sem, slA]) | _ + 1, hu => (simp at hu))); intro ga ca1 w4 hownA hgrA hatA hltA; have KA := grown_kept hgrA; have hO4 := KA.heap hO.out (ownsRow_ne hva.out hO.out (by decide)); have e0 := (block_cell' hO4 0).trans rfl; have e1 := (block_cell' hO4 1).trans rfl; have e2 := (block_cell' hO4 2).trans rfl; have hf4 := blk_frozen hO4; have hvf4 : Hid (∀ (v : Value) (o : Obj), ((w4.setCell ⟨w.heap.size + 1, 1, none⟩ v).alloc o).ownsRow w.heap.size 54 1 (.slice pf k cf) k (ps.map slF)) := fun v o => (ownsRow_keep (ownsRow_keep hvf.out KA (fun g c hg => ownsRow_ne hva.out hg (by decide))) (kept_setCell w4 ⟨w.heap.size + 1, 1, none⟩ v) (fun g c hg hgO => by subst hgO; rw [hO4] at hg; simp at hg)).alloc o; have hvf5 : Hid (∀ (v : Value), (w4.setCell ⟨w.heap.size + 1, 1, none⟩ v).ownsRow w.heap.size 54 1 (.slice pf k cf) k (ps.map slF)) := fun v => ownsRow_keep (ownsRow_keep hvf.out KA (fun g c hg => ownsRow_ne hva.out hg (by decide))) (kept_setCell w4 ⟨w.heap.size + 1, 1, none⟩ v) (fun g c hg hgO => by subst hgO; rw [hO4] at hg; simp at hg); have hs4 := KA.size; have eb4 : Hid (Ext w w4) := Ext.since ebA.out KA (fun j hj => (hva.out.lt j hj.symm).1); replace KA := hide KA; replace hO4 := hide hO4; replace hownA := hide hownA; replace hgrA := hide hgrA; replace hatA := hide hatA)
            | (at_builtin; go_must (refine wpList_append_lies _ (by rfl) (.tmp 91) (.tmp 93) 41 (by rfl) w.heap.size 54 iF (.slice none 0 0) 1 24 Tryz.underlying41 hiF.out yF0 yF1 yF2 rfl (by omega) _ k (ps.map slF) (by rfl) (hvf4.out _ _) ⟨w4.heap.size, 0, none⟩ 1 1 [slF ⟨x, wo.heap.size, w1.heap.size⟩] (by rfl) rfl ?_ (by simp [slF, Value.oneCell']) (by omega) (by unfold maxLen; omega) (by omega) (by have := eb4.out.size; simp [World.setCell]; omega) (w4.heap.size + 1) (by simp [World.setCell]) ?_); (intro j u hu; rw [add_eq]; (match j, hu with | 0, hu => (simp at hu; subst hu; simp [go_sem, slF]) | _ + 1, hu => (simp at hu))); go_must (intro gf cf1 w5 hownF hgrF hatF hltF; have KF := grown_kept hgrF; have hO4' := setc1 hO4.out (.slice (some ⟨ga, 0, none⟩) (k + 1) ca1); have hO5 := KF.heap hO4' (ownsRow_ne (hvf5.out _) hO4' (by decide)); have m0 := (block_cell' hO5 0).trans rfl; have m1 := (block_cell' hO5 1).trans rfl; have m2 := (block_cell' hO5 2).trans rfl; have hf5 := blk_frozen hO5; have hLb4 := KA.out.heap hL4.out.l (ownsRow_ne hva.out hL4.out.l (by decide)); have hLb4' := (kept_setCell w4 ⟨w.heap.size + 1, 1, none⟩ (.slice (some ⟨ga, 0, none⟩) (k + 1) ca1)).heap hLb4 (fun (h : w.heap.size = w.heap.size + 1) => absurd h (by omega)); have hLb5 := KF.heap hLb4' (ownsRow_ne (hvf5.out _) hLb4' (by decide)); have eb5 : Hid (Ext w w5) := Ext.since (Ext.since eb4.out (kept_setCell w4 ⟨w.heap.size + 1, 1, none⟩ (.slice (some ⟨ga, 0, none⟩) (k + 1) ca1)) (fun j hj => by subst hj; exact Nat.le_succ _)) KF (fun j hj => ((hvf5.out (.slice (some ⟨ga, 0, none⟩) (k + 1) ca1)).lt j hj.symm).1); have g0 := eb5.out.cells h0w.out; have g1 := eb5.out.cells h1w.out; have g2 := eb5.out.cells h2w.out; have g3 := eb5.out.cells h3w.out; have fL5 := blk_frozen hLb5; have ll : ∀ r, w5.cell? ⟨w.heap.size, k * 4 + r, none⟩ = (r0 :: r1 :: r2 :: r3 :: rest')[r]? := row_cell hLb5 (by rw [flat_length cP_len, hpk.out]); have l0 := (ll 0).trans rfl; have l1 := (ll 1).trans rfl; have l2 := (ll 2).trans rfl; have l3 := (ll 3).trans rfl; rw [Nat.add_zero] at l0; clear ll; replace KF := hide KF; replace hO4' := hide hO4'; replace hO5 := hide hO5; replace hLb4 := hide hLb4; replace hLb4' := hide hLb4'; replace hLb5 := hide hLb5; replace hownF := hide hownF; replace hgrF := hide hgrF; replace hatF := hide hatF)))
          have hO6 := setc2 hO5.out (.slice (some ⟨gf, 0, none⟩) (k + 1) cf1)
          have K6 := kept_setCell w5 ⟨w.heap.size + 1, 2, none⟩ (.slice (some ⟨gf, 0, none⟩) (k + 1) cf1)
          have s6 : (w5.setCell ⟨w.heap.size + 1, 2, none⟩ (.slice (some ⟨gf, 0, none⟩) (k + 1) cf1)).heap.size = w5.heap.size := by simp [World.setCell]
          clear g0 g1 g2 g3 l0 l1 l2 l3 fL5 hf5 m0 m1 m2 e0 e1 e2 o0 o1 o2 hfO hf4
          generalize w5.setCell ⟨w.heap.size + 1, 2, none⟩ (.slice (some ⟨gf, 0, none⟩) (k + 1) cf1) = w6 at *
          have hL6 := K6.heap hLb5.out (fun (h : w.heap.size = w.heap.size + 1) => absurd h (by omega))
          have eb6 : Ext w w6 := Ext.since eb5.out K6 (fun j hj => by subst hj; exact Nat.le_succ _)
          have g0 := eb6.cells h0w.out; have g1 := eb6.cells h1w.out; have g2 := eb6.cells h2w.out; have g3 := eb6.cells h3w.out
          have m0 := (block_cell' hO6 0).trans rfl
          have fL6 := blk_frozen hL6
          have ll : ∀ r, w6.cell? ⟨w.heap.size, k * 4 + r, none⟩ = (r0 :: r1 :: r2 :: r3 :: rest')[r]? := row_cell hL6 (by rw [flat_length cP_len, hpk.out])
          have l0 := (ll 0).trans rfl; have l1 := (ll 1).trans rfl; have l2 := (ll 2).trans rfl; have l3 := (ll 3).trans rfl
          rw [Nat.add_zero] at l0
          have hbL : ¬ b = w.heap.size := by have := World.block_lt_of_cell? w _ h0w.out; simp at this; omega
          have hbL' : ¬ w.heap.size = b := fun h => hbL h.symm
          have u1 : (x.attrs.length : Int) ≤ (x.attrs.length : Int) + 8 := by omega
          have u2 : (x.after.length : Int) ≤ (x.after.length : Int) + 8 := by omega
          have u3 : (k : Int) < (l.length : Int) + 8 := by omega
          clear ll
          replace hO6 := hide hO6; replace K6 := hide K6; replace s6 := hide s6; replace hL6 := hide hL6; replace eb6 := hide eb6
          go_region_held3 (fun w' => w'.cell? ⟨w.heap.size + 1, 0, none⟩ = some (.slice (some ⟨w.heap.size, 0, none⟩) (l.length + 8) (l.length + 8)) ∧ w'.cell? ⟨b, off + k * 4, none⟩ = some (.string x.id.kind) ∧ w'.cell? ⟨b, off + k * 4 + 1, none⟩ = some (.string x.id.name) ∧ w'.cell? ⟨b, off + k * 4 + 2, none⟩ = some (.slice a2 x.attrs.length p2) ∧ w'.cell? ⟨b, off + k * 4 + 3, none⟩ = some (.slice a3 x.after.length p3)) (go_keep) (fail)
          go_wp2
          go_roundw
          case rel =>
            have K7 := kept4 w6 w.heap.size (k * 4) (.string x.id.kind) (.string x.id.name) (.slice (some ⟨wo.heap.size, 0, none⟩) x.attrs.length (x.attrs.length + 8)) (.slice (some ⟨w1.heap.size, 0, none⟩) x.after.length (x.after.length + 8))
            have S7 := size4 w6 w.heap.size (k * 4) (.string x.id.kind) (.string x.id.name) (.slice (some ⟨wo.heap.size, 0, none⟩) x.attrs.length (x.attrs.length + 8)) (.slice (some ⟨w1.heap.size, 0, none⟩) x.after.length (x.after.length + 8))
            have B7 := set4_blk (v0 := .string x.id.kind) (v1 := .string x.id.name) (v2 := .slice (some ⟨wo.heap.size, 0, none⟩) x.attrs.length (x.attrs.length + 8)) (v3 := .slice (some ⟨w1.heap.size, 0, none⟩) x.after.length (x.after.length + 8)) (o := k * 4) (by rw [flat_length cP_len, hpk.out]) hL6.out
            generalize ((((w6.setCell ⟨w.heap.size, k * 4, none⟩ (.string x.id.kind)).setCell ⟨w.heap.size, k * 4 + 1, none⟩ (.string x.id.name)).setCell ⟨w.heap.size, k * 4 + 2, none⟩ (.slice (some ⟨wo.heap.size, 0, none⟩) x.attrs.length (x.attrs.length + 8))).setCell ⟨w.heap.size, k * 4 + 3, none⟩ (.slice (some ⟨w1.heap.size, 0, none⟩) x.after.length (x.after.length + 8))) = w7 at *
            have hsz7 : w7.drew.heap = w7.heap := rfl
            have K45 := kept_setCell w4 ⟨w.heap.size + 1, 1, none⟩ (.slice (some ⟨ga, 0, none⟩) (k + 1) ca1)
            have carry : ∀ {d : Nat} {c : Array Value} {t : TypeId}, wr.heap[d]? = some (.cells c t (0, 0)) → t ≠ 53 → t ≠ 54 → t ≠ 43 → t ≠ 56 → w7.heap[d]? = some (.cells c t (0, 0)) := by
              intro d c t hd h1 h2 h3 h4
              have n1 := tag_ne hd hO.out h3
              have n2 := tag_ne hd hL4.out.l h4
              have a1 := KA.out.heap hd (ownsRow_ne hva.out hd h1)
              have a2 := K45.heap a1 n1
              have a3 := KF.out.heap a2 (ownsRow_ne (hvf5.out _) a2 h2)
              have a4 := K6.out.heap a3 n1
              exact K7.heap a4 n2
            have vA7 : w7.ownsRow w.heap.size 53 1 (.slice (some ⟨ga, 0, none⟩) (k + 1) ca1) (k + 1) (ps.map slA ++ [slA ⟨x, wo.heap.size, w1.heap.size⟩]) := by
              have v1 := ownsRow_keep hownA.out K45 (fun g c hg => tag_ne hg hO4.out (by decide))
              have v2 := ownsRow_keep v1 KF.out (fun g c hg => ownsRow_ne (hvf5.out _) hg (by decide))
              have v3 := ownsRow_keep v2 K6.out (fun g c hg => tag_ne hg hO5.out (by decide))
              exact ownsRow_keep v3 K7 (fun g c hg => tag_ne hg hL6.out (by decide))
            have vF7 : w7.ownsRow w.heap.size 54 1 (.slice (some ⟨gf, 0, none⟩) (k + 1) cf1) (k + 1) (ps.map slF ++ [slF ⟨x, wo.heap.size, w1.heap.size⟩]) := by
              have v3 := ownsRow_keep hownF.out K6.out (fun g c hg => tag_ne hg hO5.out (by decide))
              exact ownsRow_keep v3 K7 (fun g c hg => tag_ne hg hL6.out (by decide))
            have hlen : (ps ++ [(⟨x, wo.heap.size, w1.heap.size⟩ : Pt)]).length = k + 1 := by rw [List.length_append, hpk.out]; rfl
            have hBo : w.heap.size ≤ wo.heap.size := he.out.size
            refine ⟨k + 1, ps ++ [⟨x, wo.heap.size, w1.heap.size⟩], .slice (some ⟨ga, 0, none⟩) (k + 1) ca1, .slice (some ⟨gf, 0, none⟩) (k + 1) cf1, rest', by omega, by go_num, hlen, ?_, ?_, ?_, ?_⟩
            · show _ = _
              have hx' : l[k] = x := (List.getElem?_eq_some_iff.1 hx.out).2
              rw [List.map_append, hpx.out, List.take_succ_eq_append_getElem hlt, hx']; rfl
            · have := hrest.out; simp only [List.length_cons] at this; omega
            · refine ⟨K7.heap hO6.out (fun (h : w.heap.size + 1 = w.heap.size) => absurd h (by omega)), ?_, ?_, ?_, ?_, ?_, ?_, ?_, ?_⟩
              · have e : (ps ++ [(⟨x, wo.heap.size, w1.heap.size⟩ : Pt)]).flatMap cP ++ rest' = ps.flatMap cP ++ Value.string x.id.kind :: Value.string x.id.name :: Value.slice (some ⟨wo.heap.size, 0, none⟩) x.attrs.length (x.attrs.length + 8) :: Value.slice (some ⟨w1.heap.size, 0, none⟩) x.after.length (x.after.length + 8) :: rest' := by
                  rw [List.flatMap_append]; simp [cP]
                rw [e]; exact B7
              · rw [hlen, List.map_append]; exact vA7
              · rw [hlen, List.map_append]; exact vF7
              · intro p hp
                rcases List.mem_append.1 hp with hp | hp
                · exact carry (hL4.out.a p hp) (by decide) (by decide) (by decide) (by decide)
                · obtain rfl := List.mem_singleton.1 hp
                  have := hbA.out; rw [List.append_nil] at this
                  exact carry this (by decide) (by decide) (by decide) (by decide)
              · intro p hp
                rcases List.mem_append.1 hp with hp | hp
                · exact carry (hL4.out.f p hp) (by decide) (by decide) (by decide) (by decide)
                · obtain rfl := List.mem_singleton.1 hp
                  have := hbF.out; rw [List.append_nil] at this
                  exact carry this (by decide) (by decide) (by decide) (by decide)
              · rw [List.pairwise_append]
                refine ⟨hL4.out.apart, List.pairwise_singleton _ _, fun p hp q hq => ?_⟩
                obtain rfl := List.mem_singleton.1 hq
                have h1 := (Array.getElem?_eq_some_iff.1 (hL.out.a p hp)).1
                have h2 := (Array.getElem?_eq_some_iff.1 (hL.out.f p hp)).1
                have h3 := hsz1.out
                exact ⟨by show p.a ≠ wo.heap.size; omega, by show p.f ≠ w1.heap.size; omega⟩
              · refine ⟨by omega, by omega, fun p hp => ?_⟩
                rcases List.mem_append.1 hp with hp | hp
                · exact hL4.out.low.2.2 p hp
                · obtain rfl := List.mem_singleton.1 hp
                  have h3 := hsz1.out
                  exact ⟨hBo, by show w.heap.size ≤ w1.heap.size; omega⟩
              · intro p hp
                rcases List.mem_append.1 hp with hp | hp
                · exact hL4.out.ok p hp
                · obtain rfl := List.mem_singleton.1 hp; exact hokx.out
            · exact (Ext.since eb6.out K7 (fun j hj => by subst hj; exact Nat.le_refl _)).drew
          case measure => simp [intOf]; omega
    · obtain rfl : k = l.length := by omega
      have hpx' : Hid (ps.map Pt.x = l) := by show _ = _; rw [hpx.out, List.take_length]
      have hrl : rest.length = (8 - 0) * 4 := by rw [hrest]; omega
      have hL0 := hide hL
      have he0 := hide he
      have hO := hL.o
      have o0 : wr.cell? ⟨w.heap.size + 1, 0, none⟩ = some (.slice (some ⟨w.heap.size, 0, none⟩) (l.length + 8) (l.length + 8)) := (block_cell' hO 0).trans rfl
      clear hL hO hrest
      replace hs := hide hs; replace hrl := hide hrl; replace he := hide he; replace hps := hide hps
      go_wp2_with fail
      obtain ⟨wo, rfl⟩ : ∃ wo : World, wo = wr := ⟨_, rfl⟩
      go_loopw [8] (fun i w3 => ∃ (q : Nat) (r : List Value), q ≤ 8 ∧ i = .int .i64 q ∧ r.length = (8 - q) * 4 ∧ Lending w.heap.size l.length ps w3 (w.heap.size + 1) w.heap.size va vf ((List.replicate q markR).flatMap cR ++ r) ∧ Ext w w3) (fun i _ => 8 - (intOf i).toNat)
      case atStart => exact ⟨0, rest, by omega, rfl, hrl.out, hL0.out, he0.out⟩
      case round =>
        obtain ⟨q, r, hq, rfl, hr, hL, he2⟩ := hrel
        by_cases hlt3 : q < 8
        · obtain ⟨z0, z1, z2, z3, r', rfl⟩ : ∃ z0 z1 z2 z3 r', r = z0 :: z1 :: z2 :: z3 :: r' := by
            match r, hr with
            | z0 :: z1 :: z2 :: z3 :: r', _ => exact ⟨z0, z1, z2, z3, r', rfl⟩
            | [], h => simp at h; omega
            | [_], h => simp at h; omega
            | [_, _], h => simp at h; omega
            | [_, _, _], h => simp at h; omega
          have hO := hL.o
          have hB := hL.l
          rw [← List.append_assoc] at hB
          have hpl : (ps.flatMap cP ++ (List.replicate q markR).flatMap cR).length = (l.length + q) * 4 := by
            rw [List.length_append, flat_length cP_len, flat_length (n := 4) (fun _ => rfl), hps.out, List.length_replicate]; omega
          clear o0
          have o0 : wr.cell? ⟨w.heap.size + 1, 0, none⟩ = some (.slice (some ⟨w.heap.size, 0, none⟩) (l.length + 8) (l.length + 8)) := (block_cell' hO 0).trans rfl
          have q2 : (l.length : Int) + (q : Int) < (l.length : Int) + 8 := by omega
          have q4 : (0 : Int) ≤ (l.length : Int) + (q : Int) := by omega
          have n2 : ((l.length : Int) + (q : Int)).toNat = l.length + q := by omega
          have n3 : IntKind.i64.wrap ((l.length : Int) + (q : Int)) = (l.length : Int) + (q : Int) := by rw [IntKind.wrap_i64]; omega
          replace hO := hide hO; replace hB := hide hB; replace hL := hide hL; replace he2 := hide he2; replace hpl := hide hpl; replace hr := hide hr
          go_wp2_with fail
          go_region_held3 (fun w' => w'.cell? ⟨w.heap.size + 1, 0, none⟩ = some (.slice (some ⟨w.heap.size, 0, none⟩) (l.length + 8) (l.length + 8))) (go_keep)
            ((go_at_call 16; refine (resourceOf 77 _ (by omega) (by omega)).mono ?_; rintro e w1 ⟨rfl, he1⟩; go_must (have p0 := he1.cells (p := ⟨w.heap.size + 1, 0, none⟩) (v := .slice (some ⟨w.heap.size, 0, none⟩) (l.length + 8) (l.length + 8)) (by simpa using o0); have hB1 := ext_heap he1 hB.out; have fL := blk_frozen hB1; have ll := row_cell hB1 hpl.out; have l0 := (ll 0).trans rfl; have l1 := (ll 1).trans rfl; have l2 := (ll 2).trans rfl; have l3 := (ll 3).trans rfl; rw [Nat.add_zero] at l0; clear ll; replace hB1 := hide hB1; replace he1 := hide he1)))
          go_wp2
          go_roundw
          case rel =>
            have X1 : Ext wr w1 := (Ext.refl wr).drew.trans he1.out
            have K7 := kept4 w1 w.heap.size ((l.length + q) * 4) (.string (textD 77)) (.string ⟨#[]⟩) (.slice none 0 0) (.slice none 0 0)
            have B7 := set4_blk (v0 := .string (textD 77)) (v1 := .string ⟨#[]⟩) (v2 := .slice none 0 0) (v3 := .slice none 0 0) hpl.out hB1.out
            have e : ps.flatMap cP ++ ((List.replicate (q + 1) markR).flatMap cR ++ r') = ps.flatMap cP ++ (List.replicate q markR).flatMap cR ++ Value.string (textD 77) :: Value.string ⟨#[]⟩ :: Value.slice none 0 0 :: Value.slice none 0 0 :: r' := by
              rw [List.replicate_succ', List.flatMap_append]; simp [cR, markR]
            rw [← e] at B7
            refine ⟨q + 1, r', by omega, by go_num, ?_, (hL.out.ext X1).relay K7 B7, Ext.since (he2.out.trans X1) K7 (fun j hj => by subst hj; exact Nat.le_refl _)⟩
            have := hr.out; simp only [List.length_cons] at this; omega
          case measure => simp [intOf]; omega
        · obtain rfl : q = 8 := by omega
          obtain rfl : r = [] := List.eq_nil_of_length_eq_zero (by simpa using hr)
          replace hL := hide hL; replace he2 := hide he2
          go_wp2
          go_ret
          refine ⟨he2.out, ps, w.heap.size + 1, w.heap.size, va, vf, hpx'.out, rfl, ?_⟩
          have := hL.out
          rw [List.append_nil] at this
          exact this
end Go.Proofs.YtodhhjlemmmjcaaGreat
