/-
  The book is looked at: every list reads as it was marked.
-/
/-
  The book: what putting the lists of resources into it does, ahead of their own list.
-/
/-
  Tokens: the token that begins at a place; a text is cut.
-/
/-
  What is looked for in a list by its ID.
-/
import Derived.Test.YtejhegnlmldomaaGreatJ12
import Derived.Deep.QuietTactic
import Derived.BigQuiet
import Derived.Test.YtejhegnlmldomaaGreatJ10
import Derived.Test.YtejhegnlmldomaaGreatJ4
import Derived.Test.YtejhegnlmldomaaGreatRefFind
import Derived.Test.YtejhegnlmldomaaGreatJ9
namespace Go.Proofs.YtejhegnlmldomaaGreat
open Go.RowKit

theorem ent_cells {w : World} {B : Nat} {T : TypeId} {v : Value} {es : List (Value × Nat)} {i : Nat} {x : Value × Nat} (h : w.ownsRow B T 2 v es.length (cellsE es)) (hx : es[i]? = some x) :
    ∃ g cap, v = .slice (some ⟨g, 0, none⟩) es.length cap ∧ w.cell? ⟨g, i * 2, none⟩ = some x.1 ∧ w.cell? ⟨g, i * 2 + 1, none⟩ = some (.int .i64 x.2) := by
  have hi : i < es.length := (List.getElem?_eq_some_iff.1 hx).1
  obtain ⟨g, cap, rfl, _, _⟩ := h.form (by omega)
  refine ⟨g, cap, rfl, ?_, ?_⟩
  · have := h.cellAt (i * 2 + 0) (by omega)
    rw [Nat.add_zero] at this
    rw [this]
    exact flat_get cE_len hx (r := 0) (by omega)
  · rw [h.cellAt (i * 2 + 1) (by omega)]
    exact flat_get cE_len hx (r := 1) (by omega)
theorem mark_cell {w : World} {g : Nat} {c : Array Value} {T : TypeId} {n sz i r : Nat} {m : List Value} {u : Value} (hm : m.length = sz) (hg : w.heap[g]? = some (.cells c T (0, 0))) (ht : c.toList.take (n * sz) = rep n m) (hi : i < n) (hr : m[r]? = some u) : w.cell? ⟨g, i * sz + r, none⟩ = some u := by
  have hrs : r < sz := by rw [← hm]; exact (List.getElem?_eq_some_iff.1 hr).1
  have hlt : i * sz + r < n * sz := by
    have : (i + 1) * sz ≤ n * sz := Nat.mul_le_mul_right _ (by omega)
    rw [Nat.succ_mul] at this; omega
  have h1 : c[i * sz + r]? = some u := by
    rw [← Array.getElem?_toList, ← List.getElem?_take_of_lt hlt, ht, rep_get hm hi hrs]; exact hr
  simp [World.cell?, hg, h1]

set_option maxRecDepth 100000 in
set_option maxHeartbeats 3200000 in
theorem bookLooks (B O : Nat) (w : World) (va vi vr vs vc : Value) (ea ei : List (Value × Nat)) (hb : BkAt B w O va vi (.slice none 0 0) vr vs vc ea ei) (he : ea.length ≤ 3000000) (hf : ei.length ≤ 3000000) (hA : ∀ x ∈ ea, MarkG 129 4 mkA w x) (hI : ∀ x ∈ ei, MarkG 53 2 mkI w x) :
    Calls Tryz.prog 25 #[.pointer (some ⟨O, 0, none⟩)] w fun e w' => e = .returned (.bool true) ∧ Ext w w' := by
  obtain ⟨pe, ce, rfl⟩ := ownsRow_form hb.a
  obtain ⟨pf, cf, rfl⟩ := ownsRow_form hb.i
  obtain ⟨o0, o1, o2, o3, o4, o5⟩ := six_celB hb.o
  have O0 := hide o0; have O1 := hide o1; have O2 := hide o2
  clear o0 o1 o2 o3 o4 o5
  replace hb := hide hb; replace hA := hide hA; replace hI := hide hI
  go_enter Tryz.func25, Tryz.ntmps25
  go_wp2_with fail
  go_loopw [3] (fun i wr => ∃ j : Nat, j ≤ ea.length ∧ i = .int .i64 j ∧ Ext w wr) (fun i _ => ea.length - (intOf i).toNat)
  case atStart => exact ⟨0, Nat.zero_le _, rfl, Ext.refl _⟩
  case round =>
    obtain ⟨j, hj, rfl, hx⟩ := hrel
    have o0 := hx.cells O0.out
    by_cases hlt : j < ea.length
    · obtain ⟨x, hxj⟩ := some_of_lt hlt
      obtain ⟨g, cap, hv, k0, k1⟩ := ent_cells hb.out.a hxj
      obtain ⟨rfl, rfl⟩ : pe = some ⟨g, 0, none⟩ ∧ ce = cap := by simpa using hv
      clear hv
      obtain ⟨hk, pa, n, ca, h1, h2, h3, h4, h5⟩ := hA.out x (List.mem_of_getElem? hxj)
      rw [h1] at k0
      have K0 := hide k0; have K1 := hide k1
      replace k0 := hx.cells k0; replace k1 := hx.cells k1
      have j2 : (j : Int) < (ea.length : Int) := by omega
      have j4 : (0 : Int) ≤ (j : Int) := by omega
      replace hxj := hide hxj; replace h1 := hide h1; replace hx := hide hx
      clear o0 k0 k1
      have o0 := hx.out.cells O0.out; have k0 := hx.out.cells K0.out; have k1 := hx.out.cells K1.out
      go_wp2_with fail
      clear o0 k0 k1
      obtain ⟨wo, rfl⟩ : ∃ wo : World, wo = wr := ⟨_, rfl⟩
      go_loopw [5] (fun i w2 => ∃ q : Nat, q ≤ n ∧ i = .int .i64 q ∧ Ext (wo.alloc (.cells (mkA x.2).toArray 129)) w2) (fun i _ => n - (intOf i).toNat)
      case atStart => exact ⟨0, Nat.zero_le _, rfl, Ext.refl _⟩
      case round =>
        obtain ⟨q, hq, rfl, e2⟩ := hrel
        have E2 : Ext w wr := (hx.out.alloc _).trans e2
        have hM := ext_heap e2 (heap_alloc_new wo _)
        obtain ⟨m0, m1, m2, m3⟩ := four_cells hM
        have p0 := E2.cells O0.out
        have k0 := E2.cells K0.out
        have k1 := E2.cells K1.out
        by_cases hltq : q < n
        · rcases h5 with h5 | ⟨g', c, rfl, hg, ht⟩
          · omega
          have c0 := E2.cells (mark_cell (r := 0) (sz := 4) (m := mkA x.2) (u := (.string ⟨#[]⟩)) rfl hg ht hltq rfl)
          have c1 := E2.cells (mark_cell (r := 1) (sz := 4) (m := mkA x.2) (u := (.bool false)) rfl hg ht hltq rfl)
          have c2 := E2.cells (mark_cell (r := 2) (sz := 4) (m := mkA x.2) (u := (.string ⟨#[]⟩)) rfl hg ht hltq rfl)
          have c3 := E2.cells (mark_cell (r := 3) (sz := 4) (m := mkA x.2) (u := (.int .i64 (-9 - (x.2 : Int)))) rfl hg ht hltq rfl)
          rw [Nat.add_zero] at c0
          have i2 : (q : Int) < (n : Int) := by omega
          have i4 : (0 : Int) ≤ (q : Int) := by omega
          replace E2 := hide E2; replace e2 := hide e2; replace hM := hide hM; replace hg := hide hg; replace ht := hide ht
          go_wp2_with fail
          go_quiet (fail)
          go_wp2_with fail
          go_roundw
          case rel => exact ⟨q + 1, by omega, by go_num, e2.out.drewN _⟩
          case measure => simp [intOf]; omega
        · replace E2 := hide E2; replace e2 := hide e2; replace hM := hide hM; replace h5 := hide h5
          go_wp2_with fail
          go_roundw
          case rel => exact ⟨j + 1, by omega, by go_num, E2.out⟩
          case measure => simp [intOf]; omega
    · have hxw := hide hx
      clear hx
      have o1 := hxw.out.cells O1.out
      go_wp2_with fail
      clear o0 o1 hlt hj
      obtain ⟨wa, rfl⟩ : ∃ wa : World, wa = wr := ⟨_, rfl⟩
      go_loopw [6] (fun i wr => ∃ j : Nat, j ≤ ei.length ∧ i = .int .i64 j ∧ Ext w wr) (fun i _ => ei.length - (intOf i).toNat)
      case atStart => exact ⟨0, Nat.zero_le _, rfl, hxw.out⟩
      case round =>
        obtain ⟨j, hj, rfl, hx⟩ := hrel
        have o1 := hx.cells O1.out
        by_cases hlt : j < ei.length
        · obtain ⟨x, hxj⟩ := some_of_lt hlt
          obtain ⟨g, cap, hv, k0, k1⟩ := ent_cells hb.out.i hxj
          obtain ⟨rfl, rfl⟩ : pf = some ⟨g, 0, none⟩ ∧ cf = cap := by simpa using hv
          clear hv
          obtain ⟨hk, pa, n, ca, h1, h2, h3, h4, h5⟩ := hI.out x (List.mem_of_getElem? hxj)
          rw [h1] at k0
          have K0 := hide k0; have K1 := hide k1
          replace k0 := hx.cells k0; replace k1 := hx.cells k1
          have j2 : (j : Int) < (ei.length : Int) := by omega
          have j4 : (0 : Int) ≤ (j : Int) := by omega
          replace hxj := hide hxj; replace h1 := hide h1; replace hx := hide hx
          go_wp2_with fail
          refine (textOf x.2 _ (by omega) (by omega)).mono ?_
          rintro e wo ⟨rfl, heo⟩
          have hxo := hide (hx.out.trans heo)
          clear o1 k0 k1 heo
          go_wp2_with fail
          go_loopw [8] (fun i w2 => ∃ q : Nat, q ≤ n ∧ i = .int .i64 q ∧ Ext (wo.alloc (.cells (mkI x.2).toArray 53)) w2) (fun i _ => n - (intOf i).toNat)
          case atStart => exact ⟨0, Nat.zero_le _, rfl, Ext.refl _⟩
          case round =>
            obtain ⟨q, hq, rfl, e2⟩ := hrel
            have E2 : Ext w wr := (hxo.out.alloc _).trans e2
            have hM := ext_heap e2 (heap_alloc_new wo _)
            have m0 := id_c0 hM
            have m1 := id_c1 hM
            have p0 := E2.cells O1.out
            have k0 := E2.cells K0.out
            have k1 := E2.cells K1.out
            by_cases hltq : q < n
            · rcases h5 with h5 | ⟨g', c, rfl, hg, ht⟩
              · omega
              have c0 := E2.cells (mark_cell (r := 0) (sz := 2) (m := mkI x.2) (u := .string (textD x.2)) rfl hg ht hltq rfl)
              have c1 := E2.cells (mark_cell (r := 1) (sz := 2) (m := mkI x.2) (u := .string ⟨#[]⟩) rfl hg ht hltq rfl)
              rw [Nat.add_zero] at c0
              have i2 : (q : Int) < (n : Int) := by omega
              have i4 : (0 : Int) ≤ (q : Int) := by omega
              replace E2 := hide E2; replace e2 := hide e2; replace hM := hide hM; replace hg := hide hg; replace ht := hide ht
              go_wp2_with fail
              go_quiet (fail)
              go_wp2_with fail
              go_roundw
              case rel => exact ⟨q + 1, by omega, by go_num, e2.out.drewN _⟩
              case measure => simp [intOf]; omega
            · replace E2 := hide E2; replace e2 := hide e2; replace hM := hide hM; replace h5 := hide h5
              go_wp2_with fail
              go_roundw
              case rel => exact ⟨j + 1, by omega, by go_num, E2.out⟩
              case measure => simp [intOf]; omega
        · have o2 := hx.cells O2.out
          replace hx := hide hx
          go_wp2_with fail
          go_loop [9] (fun i => i = .int .i64 0) (fun _ => 0)
          case atStart => rfl
          case round =>
            subst hrel
            go_wp2_with fail
            go_ret
            exact ⟨rfl, hx.out⟩
end Go.Proofs.YtejhegnlmldomaaGreat

namespace Go.Proofs.YtejhegnlmldomaaGreat
open Go.RowKit

/-- What is turned by resources: their lists. -/
def TurnLQ (ps : List ResP) (va vi : Value) (O : Nat) (b : Nat) : Prop := (∃ p ∈ ps, some b = p.c2.ownBlock ∨ some b = p.c3.ownBlock) ∨ some b = va.ownBlock ∨ some b = vi.ownBlock ∨ b = O
/-- The lists of the first i resources are in the book. -/
structure InBookQ (B O : Nat) (w : World) (va0 vi0 vn vr vs vc : Value) (ea ei : List (Value × Nat)) (ps : List ResP) (i : Nat) (wr : World) (va vi : Value) (en em : List (Value × Nat)) : Prop where
  bk : BkAt B wr O va vi vn vr vs vc (ea ++ en) (ei ++ em)
  rest : ∀ j p, i ≤ j → ps[j]? = some p → OwnR B wr p.c2 p.c3 p.x
  ma : ∀ x ∈ en, MarkG 129 4 mkA wr x
  mi : ∀ x ∈ em, MarkG 53 2 mkI wr x
  la : ∀ x ∈ en, ∀ g, x.1.ownBlock = some g → (∃ j p, j < i ∧ ps[j]? = some p ∧ p.c2.ownBlock = some g) ∨ w.heap.size ≤ g
  li : ∀ x ∈ em, ∀ g, x.1.ownBlock = some g → (∃ j p, j < i ∧ ps[j]? = some p ∧ p.c3.ownBlock = some g) ∨ w.heap.size ≤ g
  kept : Kept (TurnLQ ps va0 vi0 O) w wr
  qa : ∀ g, va.ownBlock = some g → va0.ownBlock = some g ∨ w.heap.size ≤ g
  qi : ∀ g, vi.ownBlock = some g → vi0.ownBlock = some g ∨ w.heap.size ≤ g
theorem InBookQ.start {B O : Nat} {w wr : World} {va vi vn vr vs vc : Value} {ea ei : List (Value × Nat)} {v : Value} {ps : List ResP} (hb : BkAt B w O va vi vn vr vs vc ea ei) (hp : RessAt B w v ps) (hx : Ext w wr) : InBookQ B O w va vi vn vr vs vc ea ei ps 0 wr va vi [] [] :=
  ⟨by rw [List.append_nil, List.append_nil]; exact hb.ext hx, fun _ p _ h => (hp.each p (List.mem_of_getElem? h)).1.extB hx, fun _ h => (by cases h), fun _ h => (by cases h), fun _ h => (by cases h), fun _ h => (by cases h), hx.kept _, fun _ h => .inl h, fun _ h => .inl h⟩
theorem InBookQ.ext {B O : Nat} {w wr wr' : World} {va0 vi0 va vi vn vr vs vc : Value} {ea ei en em : List (Value × Nat)} {ps : List ResP} {i : Nat} (h : InBookQ B O w va0 vi0 vn vr vs vc ea ei ps i wr va vi en em) (x : Ext wr wr') : InBookQ B O w va0 vi0 vn vr vs vc ea ei ps i wr' va vi en em :=
  ⟨h.bk.ext x, fun j p hj hp => (h.rest j p hj hp).extB x, fun y hy => (h.ma y hy).ext x, fun y hy => (h.mi y hy).ext x, h.la, h.li, h.kept.trans (x.kept (fun _ => False)) (fun _ _ h => h.elim), h.qa, h.qi⟩
theorem apart_atQ {ps : List ResP} (h : ps.Pairwise ApartQ) {i j : Nat} {p q : ResP} (hij : i < j) (hp : ps[i]? = some p) (hq : ps[j]? = some q) : ApartQ p q := by
  obtain ⟨hi, rfl⟩ := List.getElem?_eq_some_iff.1 hp
  obtain ⟨hj, rfl⟩ := List.getElem?_eq_some_iff.1 hq
  exact List.pairwise_iff_getElem.1 h i j hi hj hij
/-- The lists of one more. -/
theorem InBookQ.step {B O : Nat} {w wr w' : World} {va0 vi0 va vi va' vi' vn vr vs vc v : Value} {ea ei en em en' em' : List (Value × Nat)} {ps : List ResP} {i : Nat} {p : ResP} (h : InBookQ B O w va0 vi0 vn vr vs vc ea ei ps i wr va vi en em) (hps : RessAt B w v ps) (hp : ps[i]? = some p)
    (hb : BkAt B w' O va' vi' vn vr vs vc ((ea ++ en) ++ en') ((ei ++ em) ++ em')) (ha : ∀ x ∈ en', MarkG 129 4 mkA w' x) (hi : ∀ x ∈ em', MarkG 53 2 mkI w' x) (hla : ∀ x ∈ en', ∀ g, x.1.ownBlock = some g → p.c2.ownBlock = some g ∨ wr.heap.size ≤ g) (hli : ∀ x ∈ em', ∀ g, x.1.ownBlock = some g → p.c3.ownBlock = some g ∨ wr.heap.size ≤ g)
    (hk : Kept (TurnR p.c2 p.c3 va vi O) wr w') (hqa : ∀ g, va'.ownBlock = some g → va.ownBlock = some g ∨ wr.heap.size ≤ g) (hqi : ∀ g, vi'.ownBlock = some g → vi.ownBlock = some g ∨ wr.heap.size ≤ g) :
    InBookQ B O w va0 vi0 vn vr vs vc ea ei ps (i + 1) w' va' vi' (en ++ en') (em ++ em') := by
  have hwr : w.heap.size ≤ wr.heap.size := h.kept.size
  have hown := h.rest i p (Nat.le_refl _) hp
  have hlow2 : ∀ g, p.c2.ownBlock = some g → g < w.heap.size := fun g hg => ((hps.each p (List.mem_of_getElem? hp)).1.attrs.lt g hg).2
  have hlow3 : ∀ g, p.c3.ownBlock = some g → g < w.heap.size := fun g hg => ((hps.each p (List.mem_of_getElem? hp)).1.after.lt g hg).2
  refine ⟨by rw [← List.append_assoc, ← List.append_assoc]; exact hb, ?_, ?_, ?_, ?_, ?_, ?_, ?_, ?_⟩
  · intro j q hj hq
    have hoq := h.rest j q (by omega) hq
    have hap := apart_atQ hps.apart (show i < j by omega) hp hq
    refine ⟨hoq.f2, hoq.f3, ownsRow_keptR hoq.attrs hk ?_, ownsRow_keptR hoq.after hk ?_⟩
    · intro g hg
      obtain ⟨c, hc⟩ := own_row hoq.attrs hg
      exact at_notR h.bk hown hc (fun hh => hap.1 g hh hg)
    · intro g hg
      obtain ⟨c, hc⟩ := own_row hoq.after hg
      exact id_notR h.bk hown hc (fun hh => hap.2 g hh hg)
  · intro x hx
    rcases List.mem_append.1 hx with hx | hx
    · refine (h.ma x hx).kept fun g c hg hc => hk.heap hc (at_notR h.bk hown hc fun hh => ?_)
      rcases h.la x hx g hg with ⟨j, q, hj, hq, hqg⟩ | h1
      · exact (apart_atQ hps.apart hj hq hp).1 g hqg hh
      · have := hlow2 g hh; omega
    · exact ha x hx
  · intro x hx
    rcases List.mem_append.1 hx with hx | hx
    · refine (h.mi x hx).kept fun g c hg hc => hk.heap hc (id_notR h.bk hown hc fun hh => ?_)
      rcases h.li x hx g hg with ⟨j, q, hj, hq, hqg⟩ | h1
      · exact (apart_atQ hps.apart hj hq hp).2 g hqg hh
      · have := hlow3 g hh; omega
    · exact hi x hx
  · intro x hx g hg
    rcases List.mem_append.1 hx with hx | hx
    · rcases h.la x hx g hg with ⟨j, q, hj, hq, hqg⟩ | h1
      · exact .inl ⟨j, q, by omega, hq, hqg⟩
      · exact .inr h1
    · rcases hla x hx g hg with h1 | h1
      · exact .inl ⟨i, p, by omega, hp, h1⟩
      · exact .inr (by omega)
  · intro x hx g hg
    rcases List.mem_append.1 hx with hx | hx
    · rcases h.li x hx g hg with ⟨j, q, hj, hq, hqg⟩ | h1
      · exact .inl ⟨j, q, by omega, hq, hqg⟩
      · exact .inr h1
    · rcases hli x hx g hg with h1 | h1
      · exact .inl ⟨i, p, by omega, hp, h1⟩
      · exact .inr (by omega)
  · refine h.kept.trans hk fun b hb' hD => ?_
    rcases hD with hD | hD | hD | hD | hD
    · exact .inl ⟨p, List.mem_of_getElem? hp, .inl hD⟩
    · exact .inl ⟨p, List.mem_of_getElem? hp, .inr hD⟩
    · rcases h.qa b hD.symm with h1 | h1
      · exact .inr (.inl h1.symm)
      · omega
    · rcases h.qi b hD.symm with h1 | h1
      · exact .inr (.inr (.inl h1.symm))
      · omega
    · exact .inr (.inr (.inr hD))
  · intro g hg
    rcases hqa g hg with h1 | h1
    · exact h.qa g h1
    · exact .inr (by omega)
  · intro g hg
    rcases hqi g hg with h1 | h1
    · exact h.qi g h1
    · exact .inr (by omega)
end Go.Proofs.YtejhegnlmldomaaGreat

namespace Go.Proofs.YtejhegnlmldomaaGreat
open Go.RowKit

set_option maxRecDepth 100000 in
set_option maxHeartbeats 1600000 in
theorem readP (s : ByteArray) (a : Nat) (c : UInt8) (w : World) (hs : s.size ≤ 1000000) (ha : a < s.size) (hc : s.data.toList[a]? = some c) :
    Calls Tryz.prog 36 #[.string s, .int .i64 a] w (TkIs w (tokL s.data.toList a c)) := by
  obtain ⟨c', hc1, hc2⟩ := byteAt ha
  obtain rfl : c = c' := by rw [hc] at hc1; simpa using hc1
  have key : ∀ d : UInt8, ((c.toNat : Int) == (d.toNat : Int)) = decide (c = d) := fun d => by
    by_cases h : c = d
    · subst h; simp
    · rw [byte_ne h]; simp [h]
  have b45 := key 45; have b34 := key 34
  rw [show ((45 : UInt8).toNat : Int) = 45 from rfl] at b45
  rw [show ((34 : UInt8).toNat : Int) = 34 from rfl] at b34
  replace key := hide key; replace hc1 := hide hc1
  have ka : (a : Int) < (s.size : Int) := by omega
  cases hl : isLetterB c.toNat
  · cases hd : isDigitB c.toNat
    · by_cases h45 : c = 45
      · have hw := hide (readNumber s a c (w.alloc (.cells #[.int .i64 0, .int .i64 0, .string ⟨#[]⟩, .int .i64 0] 102)) hs ha hc hl (by simp [h45]))
        rw [decide_eq_true h45] at b45
        replace hc := hide hc; replace h45 := hide h45; replace b34 := hide b34
        go_enter Tryz.func36, Tryz.ntmps36
        go_wp2_with (first | (go_at_call 59; refine (isLetter _ _).mono ?_; rintro e w' ⟨rfl, rfl⟩) | (go_at_call 61; refine (isDigit _ _).mono ?_; rintro e w' ⟨rfl, rfl⟩))
        refine hw.out.mono ?_
        rintro e w1 ⟨he1, hcase⟩
        have hO := ext_heap he1.out (heap_alloc_new w _)
        obtain ⟨o0, o1, o2, o3⟩ := four_cells hO
        have fO := row_frozen hO
        replace hO := hide hO
        have X1 := hide (((Ext.refl w).alloc _).trans he1.out)
        rcases hcase with ⟨t, b, hr, rfl⟩ | ⟨en, hr, hne, rfl⟩
        · go_wp2_with fail
          refine bodyPost_ret (v := .tuple #[.agg #[.int .i64 t.kind, .int .i64 0, .string t.text, .int .i64 t.value], .int .i64 b, .int .i64 0]) (by simp [results, Tryz.results36, go_sem, o0, o1, o2, o3]) rfl ?_
          exact ⟨X1.out.set4 _ _ _ _, .inl ⟨t, b, hr, rfl⟩⟩
        · go_wp2_with fail
          refine bodyPost_ret (v := .tuple #[.agg #[.int .i64 0, .int .i64 0, .string ⟨#[]⟩, .int .i64 0], .int .i64 0, .int .i64 en]) (by simp [results, Tryz.results36, go_sem, o0, o1, o2, o3]) rfl ?_
          exact ⟨X1.out.set4 _ _ _ _, .inr ⟨en, hr, hne, rfl⟩⟩
      · rw [decide_eq_false h45] at b45
        by_cases h34 : c = 34
        · have hw := hide (readString s a c (w.alloc (.cells #[.int .i64 0, .int .i64 0, .string ⟨#[]⟩, .int .i64 0] 102)) hs ha h34)
          rw [decide_eq_true h34] at b34
          replace hc := hide hc; replace h45 := hide h45; replace h34 := hide h34
          go_enter Tryz.func36, Tryz.ntmps36
          go_wp2_with (first | (go_at_call 59; refine (isLetter _ _).mono ?_; rintro e w' ⟨rfl, rfl⟩) | (go_at_call 61; refine (isDigit _ _).mono ?_; rintro e w' ⟨rfl, rfl⟩))
          refine hw.out.mono ?_
          rintro e w1 ⟨he1, hcase⟩
          have hO := ext_heap he1.out (heap_alloc_new w _)
          obtain ⟨o0, o1, o2, o3⟩ := four_cells hO
          have fO := row_frozen hO
          replace hO := hide hO
          have X1 := hide (((Ext.refl w).alloc _).trans he1.out)
          rcases hcase with ⟨t, b, hr, rfl⟩ | ⟨en, hr, hne, rfl⟩
          · go_wp2_with fail
            refine bodyPost_ret (v := .tuple #[.agg #[.int .i64 t.kind, .int .i64 0, .string t.text, .int .i64 t.value], .int .i64 b, .int .i64 0]) (by simp [results, Tryz.results36, go_sem, o0, o1, o2, o3]) rfl ?_
            exact ⟨X1.out.set4 _ _ _ _, .inl ⟨t, b, hr, rfl⟩⟩
          · go_wp2_with fail
            refine bodyPost_ret (v := .tuple #[.agg #[.int .i64 0, .int .i64 0, .string ⟨#[]⟩, .int .i64 0], .int .i64 0, .int .i64 en]) (by simp [results, Tryz.results36, go_sem, o0, o1, o2, o3]) rfl ?_
            exact ⟨X1.out.set4 _ _ _ _, .inr ⟨en, hr, hne, rfl⟩⟩
        · rw [decide_eq_false h34] at b34
          have hT : Hid (tokL s.data.toList a c = if signKind c = 0 then .inr 2 else .inl (⟨signKind c, a, ⟨#[]⟩, 0⟩, a + 1)) := by
            show _ = _; unfold tokL; rw [hl, hd]; simp [h45, h34]
          replace hc := hide hc; replace h45 := hide h45; replace h34 := hide h34
          have hk := hide (signKindP c (w.alloc (.cells #[.int .i64 0, .int .i64 0, .string ⟨#[]⟩, .int .i64 0] 102)))
          generalize signKind c = sk at *
          go_enter Tryz.func36, Tryz.ntmps36
          go_wp2_with (first | (go_at_call 59; refine (isLetter _ _).mono ?_; rintro e w' ⟨rfl, rfl⟩) | (go_at_call 61; refine (isDigit _ _).mono ?_; rintro e w' ⟨rfl, rfl⟩))
          refine hk.out.mono ?_
          rintro e w' ⟨rfl, rfl⟩
          by_cases h0 : sk = 0
          · have hT2 : Hid (tokL s.data.toList a c = .inr 2) := by show _ = _; rw [hT.out, if_pos h0]
            subst h0
            go_wp2_with fail
            refine bodyPost_ret (v := .tuple #[.agg #[.int .i64 0, .int .i64 0, .string ⟨#[]⟩, .int .i64 0], .int .i64 0, .int .i64 2]) (by simp [results, Tryz.results36, go_sem]) rfl ?_
            exact ⟨by first | exact (Ext.refl w).alloc _ | exact ((Ext.refl w).alloc _).set4 _ _ _ _, .inr ⟨2, hT2, by decide, rfl⟩⟩
          · have hT2 : Hid (tokL s.data.toList a c = .inl (⟨sk, a, ⟨#[]⟩, 0⟩, a + 1)) := by show _ = _; rw [hT.out, if_neg h0]
            have h0' : ((sk : Int) == 0) = false := by simp; omega
            go_wp2_with fail
            refine bodyPost_ret (v := .tuple #[.agg #[.int .i64 sk, .int .i64 0, .string ⟨#[]⟩, .int .i64 0], .int .i64 ((a + 1 : Nat) : Int), .int .i64 0]) (by simp [results, Tryz.results36, go_sem]) rfl ?_
            refine ⟨?_, .inl ⟨_, _, hT2, rfl⟩⟩
            show Ext _ _
            first | exact ((Ext.refl w).alloc _).set4 _ _ _ _ | exact ((Ext.refl w).alloc _) | exact (((Ext.refl w).alloc _).alloc _) | exact (((Ext.refl w).alloc _).alloc _).set4 _ _ _ _
    · have hw := hide (readNumber s a c (w.alloc (.cells #[.int .i64 0, .int .i64 0, .string ⟨#[]⟩, .int .i64 0] 102)) hs ha hc hl (by simp [hd]))
      replace hc := hide hc; replace b34 := hide b34; replace b45 := hide b45
      go_enter Tryz.func36, Tryz.ntmps36
      go_wp2_with (first | (go_at_call 59; refine (isLetter _ _).mono ?_; rintro e w' ⟨rfl, rfl⟩) | (go_at_call 61; refine (isDigit _ _).mono ?_; rintro e w' ⟨rfl, rfl⟩))
      refine hw.out.mono ?_
      rintro e w1 ⟨he1, hcase⟩
      have hO := ext_heap he1.out (heap_alloc_new w _)
      obtain ⟨o0, o1, o2, o3⟩ := four_cells hO
      have fO := row_frozen hO
      replace hO := hide hO
      have X1 := hide (((Ext.refl w).alloc _).trans he1.out)
      rcases hcase with ⟨t, b, hr, rfl⟩ | ⟨en, hr, hne, rfl⟩
      · go_wp2_with fail
        refine bodyPost_ret (v := .tuple #[.agg #[.int .i64 t.kind, .int .i64 0, .string t.text, .int .i64 t.value], .int .i64 b, .int .i64 0]) (by simp [results, Tryz.results36, go_sem, o0, o1, o2, o3]) rfl ?_
        exact ⟨X1.out.set4 _ _ _ _, .inl ⟨t, b, hr, rfl⟩⟩
      · go_wp2_with fail
        refine bodyPost_ret (v := .tuple #[.agg #[.int .i64 0, .int .i64 0, .string ⟨#[]⟩, .int .i64 0], .int .i64 0, .int .i64 en]) (by simp [results, Tryz.results36, go_sem, o0, o1, o2, o3]) rfl ?_
        exact ⟨X1.out.set4 _ _ _ _, .inr ⟨en, hr, hne, rfl⟩⟩
  · have hw := hide (readWord s a c (w.alloc (.cells #[.int .i64 0, .int .i64 0, .string ⟨#[]⟩, .int .i64 0] 102)) hs ha hl)
    replace hc := hide hc; replace b34 := hide b34; replace b45 := hide b45
    go_enter Tryz.func36, Tryz.ntmps36
    go_wp2_with (first | (go_at_call 59; refine (isLetter _ _).mono ?_; rintro e w' ⟨rfl, rfl⟩) | (go_at_call 61; refine (isDigit _ _).mono ?_; rintro e w' ⟨rfl, rfl⟩))
    refine hw.out.mono ?_
    rintro e w1 ⟨he1, hcase⟩
    have hO := ext_heap he1.out (heap_alloc_new w _)
    obtain ⟨o0, o1, o2, o3⟩ := four_cells hO
    have fO := row_frozen hO
    replace hO := hide hO
    have X1 := hide (((Ext.refl w).alloc _).trans he1.out)
    rcases hcase with ⟨t, b, hr, rfl⟩ | ⟨en, hr, hne, rfl⟩
    · go_wp2_with fail
      refine bodyPost_ret (v := .tuple #[.agg #[.int .i64 t.kind, .int .i64 0, .string t.text, .int .i64 t.value], .int .i64 b, .int .i64 0]) (by simp [results, Tryz.results36, go_sem, o0, o1, o2, o3]) rfl ?_
      exact ⟨X1.out.set4 _ _ _ _, .inl ⟨t, b, hr, rfl⟩⟩
    · go_wp2_with fail
      refine bodyPost_ret (v := .tuple #[.agg #[.int .i64 0, .int .i64 0, .string ⟨#[]⟩, .int .i64 0], .int .i64 0, .int .i64 en]) (by simp [results, Tryz.results36, go_sem, o0, o1, o2, o3]) rfl ?_
      exact ⟨X1.out.set4 _ _ _ _, .inr ⟨en, hr, hne, rfl⟩⟩
end Go.Proofs.YtejhegnlmldomaaGreat

namespace Go.Proofs.YtejhegnlmldomaaGreat
open Go.RowKit

theorem ba_iff {a b : ByteArray} : a.toList = b.toList ↔ a = b := ⟨fun h => by by_cases e : a = b; exact e; exact absurd h (ba_ne e), fun h => by rw [h]⟩
def hitK (x a : IDd) : Bool := decide (x.kind = a.kind ∧ x.name = a.name)
theorem hitK_iff {x a : IDd} : hitK x a = true ↔ x = a := by
  unfold hitK
  rw [decide_eq_true_eq]
  constructor
  · rintro ⟨h1, h2⟩; cases x; cases a; simp_all
  · rintro rfl; exact ⟨rfl, rfl⟩

set_option maxRecDepth 100000 in
set_option maxHeartbeats 800000 in
theorem hitA (a x : IDd) (a2 a3 : Option Addr) (n2 n3 p2 p3 p : Nat) (w : World) (h0 : w.cell? ⟨p, 0, none⟩ = some (.string a.kind)) (h1 : w.cell? ⟨p, 1, none⟩ = some (.string a.name)) :
    Calls Tryz.prog 105 #[.agg #[.string x.kind, .string x.name, .slice a2 n2 p2, .slice a3 n3 p3], .pointer (some ⟨p, 0, none⟩)] w fun e w' => e = .returned (.bool (hitK x a)) ∧ Ext w w' := by
  have hp := World.block_lt_of_cell? w _ h0
  have g0 := World.cell?_alloc_past (w := w) (.cells #[.string x.kind, .string x.name, .slice a2 n2 p2, .slice a3 n3 p3] 74) p 0 hp
  have g1 := World.cell?_alloc_past (w := w) (.cells #[.string x.kind, .string x.name, .slice a2 n2 p2, .slice a3 n3 p3] 74) p 1 hp
  rw [h0] at g0; rw [h1] at g1
  replace h0 := hide h0; replace h1 := hide h1; replace hp := hide hp
  go_enter Tryz.func105, Tryz.ntmps105
  go_wp2_with fail
  all_goals go_ret
  all_goals refine ⟨retB ?_, (Ext.refl _).alloc _⟩
  all_goals simp_all [hitK, ba_iff]

set_option maxRecDepth 100000 in
set_option maxHeartbeats 800000 in
theorem hitW (a x : IDd) (p : Nat) (w : World) (h0 : w.cell? ⟨p, 0, none⟩ = some (.string a.kind)) (h1 : w.cell? ⟨p, 1, none⟩ = some (.string a.name)) :
    Calls Tryz.prog 75 #[.agg #[.string x.kind, .string x.name], .pointer (some ⟨p, 0, none⟩)] w fun e w' => e = .returned (.bool (hitK x a)) ∧ Ext w w' := by
  have hp := World.block_lt_of_cell? w _ h0
  have g0 := World.cell?_alloc_past (w := w) (.cells #[.string x.kind, .string x.name] 53) p 0 hp
  have g1 := World.cell?_alloc_past (w := w) (.cells #[.string x.kind, .string x.name] 53) p 1 hp
  rw [h0] at g0; rw [h1] at g1
  replace h0 := hide h0; replace h1 := hide h1; replace hp := hide hp
  go_enter Tryz.func75, Tryz.ntmps75
  go_wp2_with fail
  all_goals go_ret
  all_goals refine ⟨retB ?_, (Ext.refl _).alloc _⟩
  all_goals simp_all [hitK, ba_iff]

/-- The list of what the resource of an ID waits for, as a value. -/
def AfterIs (w0 w : World) (l : List Resd) (a : IDd) (e : Ending) (w' : World) : Prop :=
  ∃ (k n : ByteArray) (c2 : Value) (pa : Option Addr) (cap : Nat) (b : Bool), e = .returned (.tuple #[.agg #[.string k, .string n, c2, .slice pa (afterL l a).length cap], .bool b]) ∧ (∃ pa2 n2 cap2, c2 = .slice pa2 n2 cap2) ∧ Hid (IDsV w0 (.slice pa (afterL l a).length cap) (afterL l a)) ∧ Hid (Ext w w')
theorem IDsV.zero (w : World) : IDsV w (.slice none 0 0) [] := ⟨⟨none, 0, rfl, Nat.le_refl _, by decide, .inl rfl⟩, Nat.zero_le _, fun x h => (by cases h)⟩
theorem after_none {l : List Resd} {a : IDd} (h : ∀ (i : Nat) y, l[i]? = some y → hitK y.id a = false) : afterL l a = [] := by
  have : placeL l a = none := List.findIdx?_eq_none_iff.2 fun y hy => by
    obtain ⟨i, hi, rfl⟩ := List.getElem_of_mem hy
    exact h i _ (List.getElem?_eq_getElem hi)
  unfold afterL; rw [this]
theorem after_some {l : List Resd} {a : IDd} {j : Nat} {x : Resd} (h : ∀ i y, i < j → l[i]? = some y → hitK y.id a = false) (hx : l[j]? = some x) (hh : hitK x.id a = true) : afterL l a = x.after := by
  obtain ⟨hj, hxj⟩ := List.getElem?_eq_some_iff.1 hx
  have : placeL l a = some j := List.findIdx?_eq_some_iff_getElem.2 ⟨hj, by rw [hxj]; exact hh, fun i hi => by
    have := h i l[i] hi (List.getElem?_eq_getElem (by omega))
    simpa [hitK] using this⟩
  unfold afterL; rw [this]; simp only [hx]
theorem newRes_cells (w : World) (o : Obj) (c : Array Value) (t : TypeId) (w1 : World) (h : Ext (w.alloc o) w1) (ho : o = .cells c t (0, 0)) : w1.heap[w.heap.size]? = some (.cells c t (0, 0)) := by
  subst ho
  exact ext_heap h (heap_alloc_new w _)

set_option maxRecDepth 100000 in
set_option maxHeartbeats 1600000 in
theorem findA (v : Value) (l : List Resd) (a : IDd) (p : Nat) (w0 w : World) (hv : RessV w0 v l) (hE : Ext w0 w) (h0 : w.cell? ⟨p, 0, none⟩ = some (.string a.kind)) (h1 : w.cell? ⟨p, 1, none⟩ = some (.string a.name)) :
    Calls Tryz.prog 104 #[v, .func (.func 105) #[] #[.pointer (some ⟨p, 0, none⟩)]] w (AfterIs w0 w l a) := by
  obtain ⟨⟨pa, cap, rfl, hc1, hc2, hin⟩, hfew⟩ := hv
  replace hin := hide hin; replace h0 := hide h0; replace h1 := hide h1; replace hE := hide hE
  go_enter Tryz.func104, Tryz.ntmps104
  go_wp2_with fail
  go_loopw [11] (fun i wr => ∃ j : Nat, j ≤ l.length ∧ i = .int .i64 j ∧ Hid (∀ i y, i < j → l[i]? = some y → hitK y.id a = false) ∧ Hid (Ext (w.alloc (.cells #[.string ⟨#[]⟩, .string ⟨#[]⟩, .slice none 0 0, .slice none 0 0] 74)) wr)) (fun i _ => l.length - (intOf i).toNat)
  case atStart => exact ⟨0, Nat.zero_le _, rfl, fun _ _ h => absurd h (by omega), Ext.refl _⟩
  case round =>
    obtain ⟨j, hj, rfl, hno, hx⟩ := hrel
    have X0 := hide (((Ext.refl w).alloc _).trans hx.out)
    have hO := newRes_cells w _ _ _ _ hx.out rfl
    by_cases hlt : j < l.length
    · obtain ⟨x, hxj⟩ := some_of_lt hlt
      rcases hin.out with h | ⟨b, off, rfl, h⟩
      · rw [h] at hlt; simp at hlt
      obtain ⟨k0, k1, c2, c3, k2, k3, hR⟩ := h j x hxj
      replace k0 := (hE.out.trans X0.out).cells k0
      replace k1 := (hE.out.trans X0.out).cells k1
      replace k2 := (hE.out.trans X0.out).cells k2
      replace k3 := (hE.out.trans X0.out).cells k3
      obtain ⟨a2, p2, rfl⟩ := hR.attrs.form
      obtain ⟨a3, p3, rfl⟩ := hR.after.form
      have j2 : (j : Int) < (l.length : Int) := by omega
      have j4 : (0 : Int) ≤ (j : Int) := by omega
      replace h := hide h; replace hxj := hide hxj; replace hR := hide hR; replace hO := hide hO
      go_wp2_with fail
      refine (hitA a x.id _ _ _ _ _ _ p _ (X0.out.alloc _ |>.cells h0.out) (X0.out.alloc _ |>.cells h1.out)).mono ?_
      rintro e w1 ⟨rfl, he1⟩
      have X1 := hide ((X0.out.alloc _).trans he1)
      have hx1 := hide ((hx.out.alloc _).trans he1)
      have hE := ext_heap he1 (heap_alloc_new _ _)
      replace he1 := hide he1
      cases hb : hitK x.id a
      · replace hE := hide hE
        go_wp2_with fail
        go_roundw
        case rel =>
          refine ⟨j + 1, by omega, by go_num, fun i y hi hy => ?_, hx1.out⟩
          by_cases hij : i = j
          · subst hij
            obtain rfl : x = y := by simpa [hxj.out] using hy
            exact hb
          · exact hno.out i y (by omega) hy
        case measure => simp [intOf]; omega
      · have hO1 := newRes_cells w _ _ _ _ hx1.out rfl
        obtain ⟨q0, q1, q2, q3⟩ := four_cells hE
        obtain ⟨o0, o1, o2, o3⟩ := four_cells hO1
        have fO := row_frozen hO1
        have hA := hide (after_some hno.out hxj.out hb)
        replace hE := hide hE; replace hO1 := hide hO1
        go_wp2
        refine bodyPost_ret (v := .tuple #[.agg #[.string x.id.kind, .string x.id.name, .slice a2 x.attrs.length p2, .slice a3 x.after.length p3], .bool true]) (by simp [results, Tryz.results104, go_sem, o0, o1, o2, o3]) rfl ⟨_, _, _, a3, p3, true, by rw [hA.out], ⟨_, _, _, rfl⟩, by rw [hA.out]; exact hR.out.after, ?_⟩
        exact (((X1.out.setCell (p := ⟨w.heap.size, 0, none⟩) (Nat.le_refl _) _).setCell (p := ⟨w.heap.size, 1, none⟩) (Nat.le_refl _) _).setCell (p := ⟨w.heap.size, 2, none⟩) (Nat.le_refl _) _).setCell (p := ⟨w.heap.size, 3, none⟩) (Nat.le_refl _) _
    · have hA := hide (after_none (l := l) (a := a) fun i y hy => hno.out i y (by have := (List.getElem?_eq_some_iff.1 hy).1; omega) hy)
      have hO2 := ext_heap ((Ext.refl wr).alloc (.cells #[.string ⟨#[]⟩, .string ⟨#[]⟩, .slice none 0 0, .slice none 0 0] 74)) hO
      have fO := row_frozen hO2
      obtain ⟨o0, o1, o2, o3⟩ := four_cells hO2
      replace hO := hide hO; replace hO2 := hide hO2
      go_wp2
      refine bodyPost_ret (v := .tuple #[.agg #[.string ⟨#[]⟩, .string ⟨#[]⟩, .slice none 0 0, .slice none 0 0], .bool false]) (by simp [results, Tryz.results104, go_sem, o0, o1, o2, o3]) rfl ⟨_, _, _, none, 0, false, by rw [hA.out]; rfl, ⟨_, _, _, rfl⟩, by rw [hA.out]; exact IDsV.zero w0, ?_⟩
      exact ((((X0.out.alloc _).setCell (p := ⟨w.heap.size, 0, none⟩) (Nat.le_refl _) _).setCell (p := ⟨w.heap.size, 1, none⟩) (Nat.le_refl _) _).setCell (p := ⟨w.heap.size, 2, none⟩) (Nat.le_refl _) _).setCell (p := ⟨w.heap.size, 3, none⟩) (Nat.le_refl _) _

set_option maxRecDepth 100000 in
set_option maxHeartbeats 1600000 in
theorem afterOf (v : Value) (l : List Resd) (a : IDd) (w0 w : World) (hv : RessV w0 v l) (hE : Ext w0 w) :
    Calls Tryz.prog 92 #[v, .agg #[.string a.kind, .string a.name]] w fun e w' => ∃ pa cap, e = .returned (.slice pa (afterL l a).length cap) ∧ Hid (IDsV w0 (.slice pa (afterL l a).length cap) (afterL l a)) ∧ Hid (Ext w w') := by
  obtain ⟨va, vc, rfl, -, -, -⟩ := hv.shape
  replace hv := hide hv; replace hE := hide hE
  have c0 : (w.alloc (.cells #[.string a.kind, .string a.name] 53)).cell? ⟨w.heap.size, 0, none⟩ = some (.string a.kind) := by simp [go_sem]
  have c1 : (w.alloc (.cells #[.string a.kind, .string a.name] 53)).cell? ⟨w.heap.size, 1, none⟩ = some (.string a.name) := by simp [go_sem]
  go_enter Tryz.func92, Tryz.ntmps92
  go_wp2_with fail
  refine (findA _ l a w.heap.size w0 _ hv.out (hE.out.alloc _) c0 c1).mono ?_
  rintro e w1 ⟨k, n, c2, pa, cap, b, rfl, ⟨pa2, n2, cap2, rfl⟩, hI, hX⟩
  clear c0 c1
  generalize hgl : (afterL l a).length = gl at *
  replace hgl := hide hgl
  go_wp2_with fail
  go_ret
  obtain rfl := hgl.out
  exact ⟨pa, cap, rfl, hI, ((Ext.refl w).alloc _).trans (hX.out.alloc _)⟩
end Go.Proofs.YtejhegnlmldomaaGreat
