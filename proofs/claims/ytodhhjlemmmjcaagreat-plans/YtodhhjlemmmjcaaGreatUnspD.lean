/-
  unspoilt: what was lent is as it was.
-/
import Derived.Test.YtodhhjlemmmjcaaGreatJ14
namespace Go.Proofs.YtodhhjlemmmjcaaGreat
open Go.RowKit

/-- The blocks of what was lent, that are written into. -/
def LentD (B L : Nat) (ps : List Pt) (j : Nat) : Prop := B ≤ j ∧ (j = L ∨ ∃ p ∈ ps, j = p.a ∨ j = p.f)

set_option maxRecDepth 100000 in
set_option maxHeartbeats 6400000 in
theorem unspoiltD (B : Nat) (v : Value) (l : List Resd) (ps : List Pt) (O L : Nat) (va vf : Value) (w : World) (hv : RessV w v l) (hl : l.length ≤ 1759218604390) (hok : ∀ x ∈ l, okR x) (hpl : ps.map Pt.x = l) (hL : Lending B l.length ps w O L va vf marksR) :
    Calls Tryz.prog 7 #[.pointer (some ⟨O, 0, none⟩), v] w fun e w' => e = .returned (.bool true) ∧ Kept (LentD B L ps) w w' := by
  have hps : ps.length = l.length := by rw [← hpl, List.length_map]
  have hvf := hv
  obtain ⟨⟨a, cap, rfl, hcap, hmax, hs⟩, hfew⟩ := hv
  replace hs := hide hs; replace hvf := hide hvf; replace hok := hide hok; replace hL := hide hL; replace hpl := hide hpl; replace hps := hide hps
  go_enter Tryz.func7, Tryz.ntmps7
  go_wp2_with fail
  refine (lend _ l _ hvf.out hl hok.out).mono ?_
  rintro e w1 ⟨he1, ps', O', L', va', vf', hpl', rfl, hL'⟩
  have hps' : ps'.length = l.length := by rw [← hpl', List.length_map]
  have hL1 := hL.out.ext he1
  have o0 : w1.cell? ⟨O, 0, none⟩ = _ := (block_cell' hL1.o 0).trans rfl
  have p0 : w1.cell? ⟨O', 0, none⟩ = _ := (block_cell' hL'.o 0).trans rfl
  replace hL1 := hide hL1; replace hL' := hide hL'; replace he1 := hide he1; replace hpl' := hide hpl'; replace hps' := hide hps'
  go_wp2_with fail
  have hl1 : ps.map Pt.x ++ List.replicate 8 markR = ps'.map Pt.x ++ List.replicate 8 markR := by rw [hpl.out, hpl'.out]
  have r1 := hL1.out.ressAll hps.out hl
  have r2 := hL'.out.ressAll hps'.out hl
  rw [← hl1] at r2
  replace r1 := hide r1; replace r2 := hide r2; replace hl1 := hide hl1
  go_region_held3 (fun w' => w'.cell? ⟨O, 0, none⟩ = some (.slice (some ⟨L, 0, none⟩) (l.length + 8) (l.length + 8)) ∧ w'.cell? ⟨O', 0, none⟩ = some (.slice (some ⟨L', 0, none⟩) (l.length + 8) (l.length + 8))) (go_keep)
    ((go_at_call 26; refine (sameRess _ _ (ps.map Pt.x ++ List.replicate 8 markR) _ (r1.out.ext (Ext.refl _).drew) (r2.out.ext (Ext.refl _).drew)).mono ?_; rintro e w2 ⟨rfl, he2⟩; have u0 := he2.cells (p := ⟨O, 0, none⟩) (by simpa using o0); have u1 := he2.cells (p := ⟨O', 0, none⟩) (by simpa using p0); replace he2 := hide he2))
  have X2 : Ext w1 w2 := (Ext.refl _).drew.trans he2.out
  have hL2 := hide (hL1.out.ext X2)
  have hL2' := hide (hL'.out.ext X2)
  have E2 := hide (he1.out.trans X2)
  clear u0 u1 o0 p0
  replace X2 := hide X2
  go_wp2_with fail
  go_loopw [6, 7] (fun ok i wr => ∃ (k : Nat), k ≤ l.length ∧ ok = .bool true ∧ i = .int .i64 k ∧ Kept (DL ps k) w2 wr) (fun _ i _ => l.length - (intOf i).toNat)
  case atStart => exact ⟨0, Nat.zero_le _, rfl, rfl, Kept.refl _ _⟩
  case round =>
    obtain ⟨k, hk, rfl, rfl, hK⟩ := hrel
    by_cases hlt : k < l.length
    · obtain ⟨p, hp⟩ := some_of_lt (l := ps) (k := k) (by have := hps.out; omega)
      obtain ⟨p', hp'⟩ := some_of_lt (l := ps') (k := k) (by have := hps'.out; omega)
      have hxx : p'.x = p.x := by
        have h1 : (ps.map Pt.x)[k]? = some p.x := by rw [List.getElem?_map, hp]; rfl
        have h2 : (ps'.map Pt.x)[k]? = some p'.x := by rw [List.getElem?_map, hp']; rfl
        rw [hpl.out] at h1; rw [hpl'.out, h1] at h2; exact (Option.some.inj h2).symm
      have hpm := List.mem_of_getElem? hp
      have hpm' := List.mem_of_getElem? hp'
      have keep : ∀ {j : Nat} {c : Array Value} {t : TypeId}, w2.heap[j]? = some (.cells c t (0, 0)) → t ≠ 62 → t ≠ 52 → ∀ {w' : World}, Kept (DL ps (k + 1)) w2 w' → w'.heap[j]? = some (.cells c t (0, 0)) :=
        fun hj h1 h2 _ hk => hk.heap hj (hL2.out.notD hj h1 h2)
      have hK1 : Kept (DL ps (k + 1)) w2 wr := hK.mono fun _ _ h => h.more
      have hlo : w.heap.size ≤ w2.heap.size := E2.out.size
      have low : ∀ {j : Nat}, w.heap.size ≤ j → ∀ {m : Nat}, ¬ DL ps m j := fun h _ hd => by have := (hL.out.ltD hd).2; omega
      have bA := hK.heap (hL2.out.a p hpm) (hL2.out.notA hp)
      have bF := hK.heap (hL2.out.f p hpm) (hL2.out.notF hp)
      have bA' := hK.heap (hL2'.out.a p' hpm') (low (hL2'.out.low.2.2 p' hpm').1)
      have bF' := hK.heap (hL2'.out.f p' hpm') (low (hL2'.out.low.2.2 p' hpm').2)
      have vA := attrsAll bA (hL2.out.ok p hpm)
      have vF := idsAll bF (hL2.out.ok p hpm)
      have vA' := attrsAll bA' (hL2'.out.ok p' hpm')
      have vF' := idsAll bF' (hL2'.out.ok p' hpm')
      rw [hxx] at vA' vF'
      obtain ⟨gA, cA, yA, rfl, a1, a2, a3, hgA, a4⟩ := ownsRow_at hL2.out.va (k := k) (by have := hps.out; omega)
      obtain ⟨gF, cF, yF, rfl, f1, f2, f3, hgF, f4⟩ := ownsRow_at hL2.out.vf (k := k) (by have := hps.out; omega)
      obtain ⟨gA', cA', yA', rfl, a1', a2', a3', hgA', a4'⟩ := ownsRow_at hL2'.out.va (k := k) (by have := hps'.out; omega)
      obtain ⟨gF', cF', yF', rfl, f1', f2', f3', hgF', f4'⟩ := ownsRow_at hL2'.out.vf (k := k) (by have := hps'.out; omega)
      have eA : (ps.map slA)[k]? = some (slA p) := by rw [List.getElem?_map, hp]; rfl
      have eF : (ps.map slF)[k]? = some (slF p) := by rw [List.getElem?_map, hp]; rfl
      have eA' : (ps'.map slA)[k]? = some (.slice (some ⟨p'.a, 0, none⟩) (p.x.attrs.length + 8) (p.x.attrs.length + 8)) := by rw [List.getElem?_map, hp', ← hxx]; rfl
      have eF' : (ps'.map slF)[k]? = some (.slice (some ⟨p'.f, 0, none⟩) (p.x.after.length + 8) (p.x.after.length + 8)) := by rw [List.getElem?_map, hp', ← hxx]; rfl
      rw [eA] at a4; rw [eF] at f4; rw [eA'] at a4'; rw [eF'] at f4'
      have cells : ∀ (w' : World), Kept (DL ps (k + 1)) w2 w' →
          (w'.cell? ⟨O, 1, none⟩ = some (.slice (some ⟨gA, 0, none⟩) l.length cA) ∧ w'.cell? ⟨O, 2, none⟩ = some (.slice (some ⟨gF, 0, none⟩) l.length cF)) ∧
          (w'.cell? ⟨gA, k, none⟩ = some (.slice (some ⟨p.a, 0, none⟩) (p.x.attrs.length + 8) (p.x.attrs.length + 8)) ∧ w'.cell? ⟨gF, k, none⟩ = some (.slice (some ⟨p.f, 0, none⟩) (p.x.after.length + 8) (p.x.after.length + 8))) ∧
          (w'.cell? ⟨O', 1, none⟩ = some (.slice (some ⟨gA', 0, none⟩) l.length cA') ∧ w'.cell? ⟨O', 2, none⟩ = some (.slice (some ⟨gF', 0, none⟩) l.length cF')) ∧
          (w'.cell? ⟨gA', k, none⟩ = some (.slice (some ⟨p'.a, 0, none⟩) (p.x.attrs.length + 8) (p.x.attrs.length + 8)) ∧ w'.cell? ⟨gF', k, none⟩ = some (.slice (some ⟨p'.f, 0, none⟩) (p.x.after.length + 8) (p.x.after.length + 8))) := by
        intro w' hk'
        have oo := keep hL2.out.o (by decide) (by decide) hk'
        have oo' := keep hL2'.out.o (by decide) (by decide) hk'
        rw [hps.out] at oo; rw [hps'.out] at oo'
        refine ⟨⟨(block_cell' oo 1).trans rfl, (block_cell' oo 2).trans rfl⟩, ⟨hk'.cell a4 (hL2.out.notD hgA (by decide) (by decide)), hk'.cell f4 (hL2.out.notD hgF (by decide) (by decide))⟩, ⟨(block_cell' oo' 1).trans rfl, (block_cell' oo' 2).trans rfl⟩, ⟨hk'.cell a4' (hL2.out.notD hgA' (by decide) (by decide)), hk'.cell f4' (hL2.out.notD hgF' (by decide) (by decide))⟩⟩
      obtain ⟨⟨c1, c2⟩, ⟨c3, c4⟩, ⟨d1, d2⟩, ⟨d3, d4⟩⟩ := cells _ hK1
      have i2 : (k : Int) < (l.length : Int) := by omega
      have i4 : (0 : Int) ≤ (k : Int) := by omega
      obtain ⟨_, _, _, nA, nF⟩ := hL2.out.ok p hpm
      clear a4 f4 a4' f4' hgA hgF hgA' hgF' eA eF eA' eF' a1 a2 a3 a1' a2' a3' f1 f2 f3 f1' f2' f3' bA' bF' keep low
      replace cells := hide cells
      replace hp := hide hp; replace hp' := hide hp'; replace hxx := hide hxx; replace hK1 := hide hK1; replace hK := hide hK; replace hlo := hide hlo; replace bA := hide bA; replace bF := hide bF; replace vA := hide vA; replace vF := hide vF; replace vA' := hide vA'; replace vF' := hide vF'
      clear c2 c4 d2 d4
      go_wp2_with fail
      go_region_held3 (fun w' => w'.cell? ⟨O, 1, none⟩ = some (.slice (some ⟨gA, 0, none⟩) l.length cA) ∧ w'.cell? ⟨gA, k, none⟩ = some (.slice (some ⟨p.a, 0, none⟩) (p.x.attrs.length + 8) (p.x.attrs.length + 8)) ∧ w'.cell? ⟨O', 1, none⟩ = some (.slice (some ⟨gA', 0, none⟩) l.length cA') ∧ w'.cell? ⟨gA', k, none⟩ = some (.slice (some ⟨p'.a, 0, none⟩) (p.x.attrs.length + 8) (p.x.attrs.length + 8))) (go_keep)
        ((go_at_call 27; go_must (refine (sameAttrs _ _ (p.x.attrs ++ List.replicate 8 markA) _ (vA.out.ext (Ext.refl _).drew) (by have := vA'.out; rw [slA, hxx.out] at this; exact this.ext (Ext.refl _).drew)).mono ?_; rintro e w3 ⟨rfl, he3⟩; have u1 := he3.cells (p := ⟨O, 1, none⟩) (by simpa using c1); have u2 := he3.cells (p := ⟨gA, k, none⟩) (by simpa using c3); have u3 := he3.cells (p := ⟨O', 1, none⟩) (by simpa using d1); have u4 := he3.cells (p := ⟨gA', k, none⟩) (by simpa using d3); replace he3 := hide he3)))
      have X3 : Ext wr w3 := (Ext.refl _).drew.trans he3.out
      have K3 : Kept (DL ps k) w2 w3 := hK.out.trans (X3.kept (fun _ => False)) (fun _ _ h => h.elim)
      have K3' : Kept (DL ps (k + 1)) w2 w3 := K3.mono fun _ _ h => h.more
      have vF3 := vF.out.ext X3
      have vF3' := vF'.out.ext X3
      have bA3 := ext_heap X3 bA.out
      have bF3 := ext_heap X3 bF.out
      clear u1 u2 u3 u4 c1 c3 d1 d3 vF vF' vA vA'
      obtain ⟨⟨_, c2⟩, ⟨_, c4⟩, ⟨_, d2⟩, ⟨_, d4⟩⟩ := cells.out _ K3'
      replace X3 := hide X3; replace K3 := hide K3; replace K3' := hide K3'; replace vF3 := hide vF3; replace vF3' := hide vF3'; replace bA3 := hide bA3; replace bF3 := hide bF3
      go_wp2_with fail
      go_region_held3 (fun w' => w'.cell? ⟨O, 2, none⟩ = some (.slice (some ⟨gF, 0, none⟩) l.length cF) ∧ w'.cell? ⟨gF, k, none⟩ = some (.slice (some ⟨p.f, 0, none⟩) (p.x.after.length + 8) (p.x.after.length + 8)) ∧ w'.cell? ⟨O', 2, none⟩ = some (.slice (some ⟨gF', 0, none⟩) l.length cF') ∧ w'.cell? ⟨gF', k, none⟩ = some (.slice (some ⟨p'.f, 0, none⟩) (p.x.after.length + 8) (p.x.after.length + 8))) (go_keep)
        ((go_at_call 28; go_must (refine (sameIds _ _ (p.x.after ++ List.replicate 8 markI) _ (vF3.out.ext (Ext.refl _).drew) (by have := vF3'.out; rw [slF, hxx.out] at this; exact this.ext (Ext.refl _).drew)).mono ?_; rintro e w4 ⟨rfl, he4⟩; have u1 := he4.cells (p := ⟨O, 2, none⟩) (by simpa using c2); have u2 := he4.cells (p := ⟨gF, k, none⟩) (by simpa using c4); have u3 := he4.cells (p := ⟨O', 2, none⟩) (by simpa using d2); have u4 := he4.cells (p := ⟨gF', k, none⟩) (by simpa using d4); replace he4 := hide he4)))
      have X4 : Ext w3 w4 := (Ext.refl _).drew.trans he4.out
      have K4 : Kept (DL ps (k + 1)) w2 w4 := K3'.out.trans (X4.kept (fun _ => False)) (fun _ _ h => h.elim)
      have bA4 := ext_heap X4 bA3.out
      have bF4 := ext_heap X4 bF3.out
      clear u1 u2 u3 u4 c2 c4 d2 d4 vF3 vF3'
      replace X4 := hide X4; replace K4 := hide K4; replace bA4 := hide bA4; replace bF4 := hide bF4
      go_wp2_with fail
      go_loopw [10] (fun i w5 => ∃ (q : Nat) (cs : List Value), q ≤ p.x.attrs.length + 8 ∧ i = .int .i64 q ∧ cs.length = (p.x.attrs.length + 8) * 4 ∧ w5.heap[p.a]? = some (.cells cs.toArray 62 (0, 0)) ∧ w5.heap[p.f]? = some (.cells (cellsI (p.x.after ++ List.replicate 8 markI)).toArray 52 (0, 0)) ∧ Kept (DL ps (k + 1)) w2 w5) (fun i _ => p.x.attrs.length + 8 - (intOf i).toNat)
      case atStart => exact ⟨0, _, by omega, rfl, by rw [cellsA_len, List.length_append, List.length_replicate], bA4.out, bF4.out, K4.out⟩
      case round =>
        obtain ⟨q, cs, hq, rfl, hcs, hA5, hF5, K5⟩ := hrel
        obtain ⟨⟨c1, _⟩, ⟨c3, _⟩, _⟩ := cells.out _ K5
        by_cases hlt5 : q < p.x.attrs.length + 8
        · obtain ⟨pre, z0, z1, z2, z3, post, rfl, hpre⟩ := split4 (cs := cs) (o := q * 4) (by omega)
          have ll := row_cell hA5 hpre
          have l0 := (ll 0).trans rfl; have l1 := (ll 1).trans rfl; have l2 := (ll 2).trans rfl; have l3 := (ll 3).trans rfl
          rw [Nat.add_zero] at l0
          have fA := blk_frozen hA5
          have q2 : (q : Int) < (p.x.attrs.length : Int) + 8 := by omega
          have q4 : (0 : Int) ≤ (q : Int) := by omega
          clear ll
          replace hA5 := hide hA5; replace hF5 := hide hF5; replace K5 := hide K5; replace hcs := hide hcs; replace hpre := hide hpre
          go_wp2_with fail
          go_roundw
          case rel =>
            have K7 := kept4 wr p.a (q * 4) (.string ⟨#[]⟩) (.bool false) (.string ⟨#[]⟩) (.int .i64 (-99))
            have B7 := set4_blk (v0 := .string ⟨#[]⟩) (v1 := .bool false) (v2 := .string ⟨#[]⟩) (v3 := .int .i64 (-99)) hpre.out hA5.out
            refine ⟨q + 1, _, by omega, by go_num, ?_, B7, K7.heap hF5.out (tag_ne hF5.out hA5.out (by decide)), K5.out.trans K7 (fun j _ hj => by subst hj; exact DL.a hp.out)⟩
            have := hcs.out; simp only [List.length_append, List.length_cons] at this ⊢; omega
          case measure => simp [intOf]; omega
        · obtain rfl : q = p.x.attrs.length + 8 := by omega
          replace hA5 := hide hA5; replace hF5 := hide hF5; replace K5 := hide K5; replace hcs := hide hcs
          go_wp2_with fail
          go_loopw [11] (fun i w5 => ∃ (q : Nat) (cs : List Value), q ≤ p.x.after.length + 8 ∧ i = .int .i64 q ∧ cs.length = (p.x.after.length + 8) * 2 ∧ w5.heap[p.f]? = some (.cells cs.toArray 52 (0, 0)) ∧ Kept (DL ps (k + 1)) w2 w5) (fun i _ => p.x.after.length + 8 - (intOf i).toNat)
          case atStart => exact ⟨0, _, by omega, rfl, by rw [cellsI_len, List.length_append, List.length_replicate], hF5.out, K5.out⟩
          case round =>
            obtain ⟨q, ds, hq, rfl, hds, hF6, K6⟩ := hrel
            clear c1 c3
            obtain ⟨⟨_, c1⟩, ⟨_, c3⟩, _⟩ := cells.out _ K6
            by_cases hlt6 : q < p.x.after.length + 8
            · obtain ⟨pre, z0, z1, post, rfl, hpre⟩ := split2 (cs := ds) (o := q * 2) (by omega)
              have ll := row_cell hF6 hpre
              have l0 := (ll 0).trans rfl; have l1 := (ll 1).trans rfl
              rw [Nat.add_zero] at l0
              have fA := blk_frozen hF6
              have q2 : (q : Int) < (p.x.after.length : Int) + 8 := by omega
              have q4 : (0 : Int) ≤ (q : Int) := by omega
              clear ll
              replace hF6 := hide hF6; replace K6 := hide K6; replace hds := hide hds; replace hpre := hide hpre
              go_wp2_with fail
              go_roundw
              case rel =>
                have K7 := kept2 wr p.f (q * 2) (.string ⟨#[111, 116, 104, 101, 114]⟩) (.string ⟨#[]⟩)
                have B7 := set2_blk (v0 := .string ⟨#[111, 116, 104, 101, 114]⟩) (v1 := .string ⟨#[]⟩) hpre.out hF6.out
                refine ⟨q + 1, _, by omega, by go_num, ?_, B7, K6.out.trans K7 (fun j _ hj => by subst hj; exact DL.f hp.out)⟩
                have := hds.out; simp only [List.length_append, List.length_cons] at this ⊢; omega
              case measure => simp [intOf]; omega
            · obtain rfl : q = p.x.after.length + 8 := by omega
              replace hF6 := hide hF6; replace K6 := hide K6; replace hds := hide hds
              go_wp2_with fail
              go_roundw
              case rel => exact ⟨k + 1, by omega, rfl, by go_num, K6.out⟩
              case measure => simp [intOf]; omega
    · obtain rfl : k = l.length := by omega
      have hO2 := hK.heap hL2.out.o (hL2.out.notD hL2.out.o (by decide) (by decide))
      have hB2 := hK.heap hL2.out.l (hL2.out.notD hL2.out.l (by decide) (by decide))
      have hcl : (ps.flatMap cP ++ marksR).length = (l.length + 8) * 4 := by
        rw [List.length_append, flat_length cP_len, marksR, flat_length cR_len, hps.out, List.length_replicate]; omega
      have KB : Kept (LentD B L ps) w wr := (E2.out.kept (LentD B L ps)).trans hK (fun j _ hd => ⟨(hL2.out.ltD hd).1, .inr (by obtain ⟨p, hp, h⟩ := hd; exact ⟨p, (List.take_sublist _ _).subset hp, h⟩)⟩)
      have hlow := hL2.out.low.2.1
      have o0 := (block_cell' hO2 0).trans rfl
      replace hO2 := hide hO2; replace hB2 := hide hB2; replace hcl := hide hcl; replace KB := hide KB; replace hK := hide hK; replace hlow := hide hlow
      go_wp2_with fail
      go_loopw [12] (fun i w5 => ∃ (q : Nat) (cs : List Value), q ≤ l.length + 8 ∧ i = .int .i64 q ∧ cs.length = (l.length + 8) * 4 ∧ w5.heap[L]? = some (.cells cs.toArray 56 (0, 0)) ∧ w5.heap[O]? = some (.cells #[.slice (some ⟨L, 0, none⟩) (l.length + 8) (l.length + 8), va, vf] 43 (0, 0)) ∧ Kept (LentD B L ps) w w5) (fun i _ => l.length + 8 - (intOf i).toNat)
      case atStart => exact ⟨0, _, by omega, rfl, hcl.out, hB2.out, hO2.out, KB.out⟩
      case round =>
        obtain ⟨q, cs, hq, rfl, hcs, hB5, hO5, K5⟩ := hrel
        clear o0
        have o0 : wr.cell? ⟨O, 0, none⟩ = some (.slice (some ⟨L, 0, none⟩) (l.length + 8) (l.length + 8)) := (block_cell' hO5 0).trans rfl
        by_cases hlt5 : q < l.length + 8
        · obtain ⟨pre, z0, z1, z2, z3, post, rfl, hpre⟩ := split4 (cs := cs) (o := q * 4) (by omega)
          have q2 : (q : Int) < (l.length : Int) + 8 := by omega
          have q4 : (0 : Int) ≤ (q : Int) := by omega
          have hOL : ¬ O = L := tag_ne hO5 hB5 (by decide)
          have hLO : ¬ L = O := fun h => hOL h.symm
          replace hB5 := hide hB5; replace hO5 := hide hO5; replace K5 := hide K5; replace hcs := hide hcs; replace hpre := hide hpre
          go_wp2_with fail
          go_region_held3 (fun w' => w'.cell? ⟨O, 0, none⟩ = some (.slice (some ⟨L, 0, none⟩) (l.length + 8) (l.length + 8))) (go_keep)
            ((go_at_call 16; refine (resourceOf 99 _ (by omega) (by omega)).mono ?_; rintro e w6 ⟨rfl, he6⟩; go_must (have p0 := he6.cells (p := ⟨O, 0, none⟩) (v := .slice (some ⟨L, 0, none⟩) (l.length + 8) (l.length + 8)) (by simpa using o0); have hB6 := ext_heap he6 hB5.out; have hO6 := ext_heap he6 hO5.out; have fL := blk_frozen hB6; have ll := row_cell hB6 hpre.out; have l0 := (ll 0).trans rfl; have l1 := (ll 1).trans rfl; have l2 := (ll 2).trans rfl; have l3 := (ll 3).trans rfl; rw [Nat.add_zero] at l0; clear ll; replace hB6 := hide hB6; replace hO6 := hide hO6; replace he6 := hide he6)))
          go_wp2
          go_roundw
          case rel =>
            have X6 : Ext wr w6 := (Ext.refl wr).drew.trans he6.out
            have K7 := kept4 w6 L (q * 4) (.string (textD 99)) (.string ⟨#[]⟩) (.slice none 0 0) (.slice none 0 0)
            have B7 := set4_blk (v0 := .string (textD 99)) (v1 := .string ⟨#[]⟩) (v2 := .slice none 0 0) (v3 := .slice none 0 0) hpre.out hB6.out
            refine ⟨q + 1, _, by omega, by go_num, ?_, B7, K7.heap hO6.out (tag_ne hO6.out hB6.out (by decide)), (K5.out.trans (X6.kept (fun _ => False)) (fun _ _ h => h.elim)).trans K7 (fun j _ hj => by subst hj; exact ⟨hlow.out, .inl rfl⟩)⟩
            have := hcs.out; simp only [List.length_append, List.length_cons] at this ⊢; omega
          case measure => simp [intOf]; omega
        · obtain rfl : q = l.length + 8 := by omega
          replace hB5 := hide hB5; replace hO5 := hide hO5; replace K5 := hide K5; replace hcs := hide hcs
          go_wp2
          go_ret
          exact ⟨rfl, K5.out⟩
end Go.Proofs.YtodhhjlemmmjcaaGreat
