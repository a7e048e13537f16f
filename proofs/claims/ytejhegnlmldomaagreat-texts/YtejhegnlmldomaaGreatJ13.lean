/-
  A key is looked for among the rows (table A).
-/
/-
  The table A: what its methods answer.
-/
/-
  A key is looked for among the rows (table E).
-/
/-
  The table E: what its methods answer.
-/
/-
  The table E: what a key that is put into it leaves.
-/
import Derived.Test.YtejhegnlmldomaaGreatInsA
import Derived.Test.YtejhegnlmldomaaGreatJ6
import Derived.Laws.BitsAllLaws
import Derived.Test.YtejhegnlmldomaaGreatInsE
namespace Go.Proofs.YtejhegnlmldomaaGreat
open Go.RowKit

theorem rowsA_in {B : Nat} {w : World} {pa : Option Addr} {n cap : Nat} {rs : List RowA} (h : RowsA B w (.slice pa n cap) rs) : n = rs.length ∧ n ≤ cap ∧ cap ≤ maxLen ∧ (rs = [] ∨ ∃ g, pa = some ⟨g, 0, none⟩ ∧ ∀ (i : Nat) x, rs[i]? = some x → ∀ r u, (cRowA x)[r]? = some u → w.cell? ⟨g, i * 5 + r, none⟩ = some u) := by
  rcases h.2 with ⟨h1, h2⟩ | ⟨g, c, cur, h1, _, hg, hc, hm, hs, ht⟩
  · cases h1
    exact ⟨h2.symm, Nat.le_refl _, by unfold maxLen; omega, .inl (List.eq_nil_of_length_eq_zero h2)⟩
  · cases h1
    refine ⟨rfl, hc, hm, .inr ⟨g, rfl, fun i x hx r u hu => ?_⟩⟩
    have hlt : i < rs.length := (List.getElem?_eq_some_iff.1 hx).1
    have hr : r < 5 := (List.getElem?_eq_some_iff.1 hu).1
    have h1 : (cellsG cRowA rs)[i * 5 + r]? = (cRowA x)[r]? := flat_get cRowA_len hx hr
    rw [← hu, ← h1, ← ht, List.getElem?_take, if_pos (by omega)]
    simp [World.cell?, hg]

set_option maxRecDepth 100000 in
set_option maxHeartbeats 800000 in
theorem findCmpA (x : RowA) (a : ByteArray) (p t : Nat) (w : World) (hp : w.cell? ⟨p, 0, none⟩ = some (.pointer (some ⟨t, 0, none⟩))) (ht : w.cell? ⟨t, 0, none⟩ = some (.func (.func 66) #[] #[])) :
    Calls Tryz.prog 119 #[.agg #[.string x.key, .string x.val.name, .bool x.val.isText, .string x.val.text, .int .i64 x.val.number], .string a, .pointer (some ⟨p, 0, none⟩)] w fun e w' => e = .returned (.int .i64 (cmpS x.key a)) ∧ Ext w w' := by
  have hpl : p < w.heap.size := World.block_lt_of_cell? w _ hp
  have htl : t < w.heap.size := World.block_lt_of_cell? w _ ht
  have g0 := World.cell?_alloc_past (w := w) (.cells #[.string x.key, .string x.val.name, .bool x.val.isText, .string x.val.text, .int .i64 x.val.number] 190) p 0 hpl
  have g1 := World.cell?_alloc_past (w := w) (.cells #[.string x.key, .string x.val.name, .bool x.val.isText, .string x.val.text, .int .i64 x.val.number] 190) t 0 htl
  rw [hp] at g0
  rw [ht] at g1
  replace hp := hide hp; replace ht := hide ht; replace hpl := hide hpl; replace htl := hide htl
  go_enter Tryz.func119, Tryz.ntmps119
  go_wp2_with fail
  go_region_held3 (fun w' => w'.cell? ⟨p, 0, none⟩ = some (.pointer (some ⟨t, 0, none⟩)) ∧ w'.cell? ⟨t, 0, none⟩ = some (.func (.func 66) #[] #[]) ∧ w'.cell? ⟨w.heap.size, 0, none⟩ = some (.string x.key)) (go_keep)
    ((go_at_call 66; refine (Tryz.strings_Compare _ _ _).mono ?_; rintro e w1 ⟨rfl, rfl⟩))
  go_wp2
  go_ret
  exact ⟨rfl, ((Ext.refl _).alloc _).drew⟩

/-- What the look for a key answers. -/
def SrcIsA (w : World) (rs : List RowA) (a : ByteArray) (e : Ending) (w' : World) : Prop :=
  ∃ (i : Nat) (b : Bool), e = .returned (.tuple #[.int .i64 i, .bool b]) ∧ i ≤ rs.length ∧ Hid (StandsG cmpS RowA.key rs a i) ∧ Hid (b = true ↔ HasK RowA.key rs a) ∧ Hid (b = true → ∃ x, rs[i]? = some x ∧ x.key = a) ∧ Hid (Ext w w')

set_option maxRecDepth 100000 in
set_option maxHeartbeats 3200000 in
theorem searchA (B : Nat) (v : Value) (rs : List RowA) (a : ByteArray) (p t : Nat) (w : World) (hv : RowsA B w v rs) (hu : UpG cmpS RowA.key rs) (hn : rs.length ≤ 1000000)
    (hp : w.cell? ⟨p, 0, none⟩ = some (.pointer (some ⟨t, 0, none⟩))) (ht : w.cell? ⟨t, 0, none⟩ = some (.func (.func 66) #[] #[])) :
    Calls Tryz.prog 118 #[v, .string a, .func (.func 119) #[] #[.pointer (some ⟨p, 0, none⟩)]] w (SrcIsA w rs a) := by
  obtain ⟨pa, cap, rfl⟩ := ownsRow_form hv
  obtain ⟨-, hc1, hc2, hin⟩ := rowsA_in hv
  unfold maxLen at hc2
  replace hin := hide hin; replace hp := hide hp; replace ht := hide ht; replace hv := hide hv; replace hu := hide hu
  go_enter Tryz.func118, Tryz.ntmps118
  go_wp2_with fail
  go_loopw [9, 10] (fun i j wr => ∃ i' j' : Nat, i' ≤ j' ∧ j' ≤ rs.length ∧ i = .int .i64 i' ∧ j = .int .i64 j' ∧ Hid (∀ (k : Nat) x, k < i' → rs[k]? = some x → cmpS x.key a < 0) ∧ Hid (∀ (k : Nat) x, j' ≤ k → rs[k]? = some x → 0 ≤ cmpS x.key a) ∧ Hid (Ext w wr)) (fun i j _ => (intOf j).toNat - (intOf i).toNat)
  case atStart => exact ⟨0, rs.length, Nat.zero_le _, Nat.le_refl _, rfl, rfl, fun _ _ h => absurd h (by omega), fun k x h hx => absurd (List.getElem?_eq_some_iff.1 hx).1 (by omega), Ext.refl _⟩
  case round =>
    obtain ⟨i, j, hij, hj, rfl, rfl, hA, hB, hx⟩ := hrel
    have X0 := hx
    have hp1 := hide (X0.out.cells hp.out)
    have ht1 := hide (X0.out.cells ht.out)
    by_cases hlt : i < j
    · obtain ⟨h, hh⟩ : ∃ h, h = (i + j) / 2 := ⟨_, rfl⟩
      have e1 : IntKind.u64.wrap ((i : Int) + (j : Int)) = ((i + j : Nat) : Int) := by rw [IntKind.wrap_u64]; omega
      obtain ⟨x, hxh⟩ := some_of_lt (show h < rs.length by omega)
      rcases hin.out with hnil | ⟨g, rfl, hI⟩
      · rw [hnil] at hj; simp at hj; omega
      replace hI := hI h x hxh
      have k0 := X0.out.cells (hI 0 _ rfl)
      have k1 := X0.out.cells (hI 1 _ rfl)
      have k2 := X0.out.cells (hI 2 _ rfl)
      have k3 := X0.out.cells (hI 3 _ rfl)
      have k4 := X0.out.cells (hI 4 _ rfl)
      rw [Nat.add_zero] at k0
      have h2 : (h : Int) < (rs.length : Int) := by omega
      have h3 : (0 : Int) ≤ (h : Int) := by omega
      have h4 : ((i : Int) + (j : Int)) / 2 = (h : Int) := by omega
      have hlo : i ≤ h := by omega
      have hhi : h < j := by omega
      replace hI := hide hI; replace hxh := hide hxh; replace hh := hide hh
      go_wp2_with fail
      refine (findCmpA x a p t wr hp1.out ht1.out).mono ?_
      rintro e w1 ⟨rfl, he1⟩
      replace he1 := hide he1
      by_cases hb : cmpS x.key a < 0
      · go_wp2_with fail
        go_roundw
        case rel => exact ⟨h + 1, j, by omega, hj, by go_num, rfl, hu.out.stands ordS hxh.out hb, hB, hx.out.trans he1.out⟩
        case measure => simp [intOf]; omega
      · have hb' : ¬ cmpS x.key a < 0 := hb
        replace hb' := hide hb'
        go_wp2_with fail
        go_roundw
        case rel => exact ⟨i, h, by omega, by omega, rfl, rfl, hA, hu.out.stands' ordS hxh.out (by first | exact hb'.out | exact Int.not_lt.2 hb'.out), hx.out.trans he1.out⟩
        case measure => simp [intOf]; omega
    · obtain rfl : i = j := by omega
      have hst : Hid (StandsG cmpS RowA.key rs a i) := ⟨hj, hA.out, fun k x hk hx => Int.not_lt.2 (hB.out k x hk hx)⟩
      by_cases hend : i < rs.length
      · obtain ⟨x, hxh⟩ := some_of_lt hend
        rcases hin.out with hnil | ⟨g, rfl, hI⟩
        · rw [hnil] at hend; simp at hend
        replace hI := hI i x hxh
        have k0 := X0.out.cells (hI 0 _ rfl)
        have k1 := X0.out.cells (hI 1 _ rfl)
        have k2 := X0.out.cells (hI 2 _ rfl)
        have k3 := X0.out.cells (hI 3 _ rfl)
        have k4 := X0.out.cells (hI 4 _ rfl)
        rw [Nat.add_zero] at k0
        have h2 : (i : Int) < (rs.length : Int) := by omega
        have h3 : (0 : Int) ≤ (i : Int) := by omega
        replace hI := hide hI; replace hxh := hide hxh
        go_wp2_with fail
        refine (findCmpA x a p t wr hp1.out ht1.out).mono ?_
        rintro e w1 ⟨rfl, he1⟩
        replace he1 := hide he1
        go_wp2
        go_ret2
        refine ⟨i, cmpS x.key a == 0, rfl, hj, hst, ?_, ?_, X0.out.trans he1.out⟩
        · show _ ↔ _
          constructor
          · intro h; exact StandsG.there ordS hxh.out (by simpa using h)
          · intro h
            by_cases e : cmpS x.key a = 0
            · simpa using e
            · exact absurd h (hst.out.gone ordS hu.out fun y hy => by rw [hxh.out] at hy; cases hy; exact e)
        · intro h
          exact ⟨x, hxh.out, ordS.zero.1 (by simpa using h)⟩
      · have h2 : ¬ (i : Int) < (rs.length : Int) := by omega
        go_wp2
        go_ret2
        refine ⟨i, false, rfl, hj, hst, ?_, ?_, X0.out⟩
        · show _ ↔ _
          constructor
          · intro h; cases h
          · intro h
            exact absurd h (hst.out.gone ordS hu.out fun y hy => absurd (List.getElem?_eq_some_iff.1 hy).1 (by omega))
        · intro h; cases h
end Go.Proofs.YtejhegnlmldomaaGreat

namespace Go.Proofs.YtejhegnlmldomaaGreat
open Go.RowKit

/-- A table lies in memory. -/
structure TabAtA (B : Nat) (w : World) (t : Nat) (v : Value) (rs : List RowA) : Prop where
  at_ : w.heap[t]? = some (.cells #[.func (.func 66) #[] #[], v] 188 (0, 0))
  rows : RowsA B w v rs
  up : UpG cmpS RowA.key rs
  few : rs.length ≤ 1000000
  base : B ≤ t
theorem tabA_c0 {w : World} {k : Nat} {a b : Value} {t : TypeId} {fz : Nat × Nat} (hk : w.heap[k]? = some (.cells #[a, b] t fz)) : w.cell? ⟨k, 0, none⟩ = some a := by simp [World.cell?, hk]
theorem tabA_c1 {w : World} {k : Nat} {a b : Value} {t : TypeId} {fz : Nat × Nat} (hk : w.heap[k]? = some (.cells #[a, b] t fz)) : w.cell? ⟨k, 1, none⟩ = some b := by simp [World.cell?, hk]
theorem tabA_set {w : World} {k : Nat} {a b : Value} {t : TypeId} {fz : Nat × Nat} (hk : w.heap[k]? = some (.cells #[a, b] t fz)) (v : Value) : (w.setCell ⟨k, 1, none⟩ v).heap[k]? = some (.cells #[a, v] t fz) := by
  simp [World.setCell, Array.getElem?_modify, hk]
theorem TabAtA.ext {B : Nat} {w w' : World} {t : Nat} {v : Value} {rs : List RowA} (h : TabAtA B w t v rs) (e : Ext w w') : TabAtA B w' t v rs :=
  ⟨ext_heap e h.at_, ownsRow_wrote h.rows (Wrote.ext (B := 0) (T := fun _ => False) e) id rfl, h.up, h.few, h.base⟩
theorem TabAtA.low {B B' : Nat} {w : World} {t : Nat} {v : Value} {rs : List RowA} (h : TabAtA B w t v rs) (hb : B' ≤ B) : TabAtA B' w t v rs := ⟨h.at_, ownsRow_low h.rows hb, h.up, h.few, Nat.le_trans hb h.base⟩
theorem TabAtA.wrote {B B' : Nat} {T : TypeId → Prop} {w w' : World} {t : Nat} {v : Value} {rs : List RowA} (h : TabAtA B w t v rs) (k : Wrote B' T w w') (hT : ¬ T 190 ∧ ¬ T 188) : TabAtA B w' t v rs :=
  ⟨k.keeps h.at_ hT.2, ownsRow_wrote h.rows k hT.1 rfl, h.up, h.few, h.base⟩

set_option maxRecDepth 100000 in
set_option maxHeartbeats 800000 in
theorem tabFindA (B : Nat) (v : Value) (rs : List RowA) (a : ByteArray) (t : Nat) (w : World) (ht : TabAtA B w t v rs) :
    Calls Tryz.prog 109 #[.pointer (some ⟨t, 0, none⟩), .string a] w (SrcIsA w rs a) := by
  obtain ⟨pa, cap, rfl⟩ := ownsRow_form ht.rows
  have hw : t < w.heap.size := (Array.getElem?_eq_some_iff.1 ht.at_).1
  have X2 := hide ((Ext.refl w).alloc (.cells #[.pointer (some ⟨t, 0, none⟩)] 123))
  have ht2 := hide (ht.ext X2.out)
  have c1 := X2.out.cells (tabA_c1 ht.at_)
  have c0 := hide (X2.out.cells (tabA_c0 ht.at_))
  replace ht := hide ht
  go_enter Tryz.func109, Tryz.ntmps109
  go_wp2_with fail
  refine (searchA B _ rs a w.heap.size t _ ht2.out.rows ht2.out.up ht2.out.few (by simp [go_sem]) c0.out).mono ?_
  rintro e w1 ⟨i, b, rfl, hi, hs1, hs2, hs3, he1⟩
  go_wp2
  go_ret2
  exact ⟨i, b, rfl, hi, hs1, hs2, hs3, X2.out.trans he1.out⟩

set_option maxRecDepth 100000 in
set_option maxHeartbeats 800000 in
theorem tabHasA (B : Nat) (v : Value) (rs : List RowA) (a : ByteArray) (t : Nat) (w : World) (ht : TabAtA B w t v rs) :
    Calls Tryz.prog 101 #[.pointer (some ⟨t, 0, none⟩), .string a] w fun e w' => ∃ b : Bool, e = .returned (.bool b) ∧ Hid (b = true ↔ HasK RowA.key rs a) ∧ Hid (Ext w w') := by
  have hf := hide (tabFindA B v rs a t _ (ht.ext (Ext.refl w)))
  replace ht := hide ht
  go_enter Tryz.func101, Tryz.ntmps101
  go_wp2_with fail
  refine hf.out.mono ?_
  rintro e w1 ⟨i, b, rfl, hi, hs1, hs2, hs3, he1⟩
  go_wp2
  go_ret
  exact ⟨b, rfl, hs2, (Ext.refl w).trans he1.out⟩

set_option maxRecDepth 100000 in
set_option maxHeartbeats 800000 in
theorem tabLenA (B : Nat) (v : Value) (rs : List RowA) (t : Nat) (w : World) (ht : TabAtA B w t v rs) :
    Calls Tryz.prog 100 #[.pointer (some ⟨t, 0, none⟩)] w fun e w' => e = .returned (.int .i64 rs.length) ∧ w' = w := by
  obtain ⟨pa, cap, rfl⟩ := ownsRow_form ht.rows
  have c1 := tabA_c1 ht.at_
  replace ht := hide ht
  go_enter Tryz.func100, Tryz.ntmps100
  go_wp2
  go_ret
  exact ⟨rfl, rfl⟩

set_option maxRecDepth 100000 in
set_option maxHeartbeats 800000 in
theorem tabNewA (w : World) :
    Calls Tryz.prog 98 #[.func (.func 66) #[] #[]] w fun e w' => e = .returned (.pointer (some ⟨w.heap.size, 0, none⟩)) ∧ Hid (TabAtA w.heap.size w' w.heap.size (.slice none 0 0) []) ∧ Hid (w' = w.alloc (.cells #[.func (.func 66) #[] #[], .slice none 0 0] 188)) := by
  go_enter Tryz.func98, Tryz.ntmps98
  go_wp2
  go_ret
  exact ⟨rfl, ⟨heap_alloc_new _ _, World.ownsRow_nil _ _ _ _, List.Pairwise.nil, Nat.zero_le _, Nat.le_refl _⟩, rfl⟩
end Go.Proofs.YtejhegnlmldomaaGreat

namespace Go.Proofs.YtejhegnlmldomaaGreat
open Go.RowKit

theorem rowsE_in {B : Nat} {w : World} {pa : Option Addr} {n cap : Nat} {rs : List RowE} (h : RowsE B w (.slice pa n cap) rs) : n = rs.length ∧ n ≤ cap ∧ cap ≤ maxLen ∧ (rs = [] ∨ ∃ g, pa = some ⟨g, 0, none⟩ ∧ ∀ (i : Nat) x, rs[i]? = some x → ∀ r u, (cRowE x)[r]? = some u → w.cell? ⟨g, i * 3 + r, none⟩ = some u) := by
  rcases h.2 with ⟨h1, h2⟩ | ⟨g, c, cur, h1, _, hg, hc, hm, hs, ht⟩
  · cases h1
    exact ⟨h2.symm, Nat.le_refl _, by unfold maxLen; omega, .inl (List.eq_nil_of_length_eq_zero h2)⟩
  · cases h1
    refine ⟨rfl, hc, hm, .inr ⟨g, rfl, fun i x hx r u hu => ?_⟩⟩
    have hlt : i < rs.length := (List.getElem?_eq_some_iff.1 hx).1
    have hr : r < 3 := (List.getElem?_eq_some_iff.1 hu).1
    have h1 : (cellsG cRowE rs)[i * 3 + r]? = (cRowE x)[r]? := flat_get cRowE_len hx hr
    rw [← hu, ← h1, ← ht, List.getElem?_take, if_pos (by omega)]
    simp [World.cell?, hg]

set_option maxRecDepth 100000 in
set_option maxHeartbeats 800000 in
theorem findCmpE (x : RowE) (a : IDd) (p t : Nat) (w : World) (hp : w.cell? ⟨p, 0, none⟩ = some (.pointer (some ⟨t, 0, none⟩))) (ht : w.cell? ⟨t, 0, none⟩ = some (.func (.func 38) #[] #[])) :
    Calls Tryz.prog 88 #[.agg #[.string x.key.kind, .string x.key.name, .pointer (some ⟨x.val, 0, none⟩)], .agg #[.string a.kind, .string a.name], .pointer (some ⟨p, 0, none⟩)] w fun e w' => e = .returned (.int .i64 (cmpI x.key a)) ∧ Ext w w' := by
  have hpl : p < w.heap.size := World.block_lt_of_cell? w _ hp
  have htl : t < w.heap.size := World.block_lt_of_cell? w _ ht
  have g0 := World.cell?_alloc_past (w := w.alloc (.cells #[.string x.key.kind, .string x.key.name, .pointer (some ⟨x.val, 0, none⟩)] 168)) (.cells #[.string a.kind, .string a.name] 53) p 0 (by simp; omega)
  have g1 := World.cell?_alloc_past (w := w.alloc (.cells #[.string x.key.kind, .string x.key.name, .pointer (some ⟨x.val, 0, none⟩)] 168)) (.cells #[.string a.kind, .string a.name] 53) t 0 (by simp; omega)
  rw [World.cell?_alloc_past (w := w) _ p 0 hpl, hp] at g0
  rw [World.cell?_alloc_past (w := w) _ t 0 htl, ht] at g1
  replace hp := hide hp; replace ht := hide ht; replace hpl := hide hpl; replace htl := hide htl
  go_enter Tryz.func88, Tryz.ntmps88
  go_wp2_with fail
  go_region_held3 (fun w' => w'.cell? ⟨p, 0, none⟩ = some (.pointer (some ⟨t, 0, none⟩)) ∧ w'.cell? ⟨t, 0, none⟩ = some (.func (.func 38) #[] #[]) ∧ w'.cell? ⟨w.heap.size, 0, none⟩ = some (.string x.key.kind) ∧ w'.cell? ⟨w.heap.size, 1, none⟩ = some (.string x.key.name) ∧ w'.cell? ⟨w.heap.size + 1, 0, none⟩ = some (.string a.kind) ∧ w'.cell? ⟨w.heap.size + 1, 1, none⟩ = some (.string a.name)) (go_keep)
    ((go_at_call 38; refine (compareIDs x.key a _).mono ?_; rintro e w1 ⟨rfl, he1⟩; go_must (have q0 := he1.cells (p := ⟨p, 0, none⟩) (by simp [g0]; rfl); have q1 := he1.cells (p := ⟨t, 0, none⟩) (by simp [g1]; rfl); have qa0 := he1.cells (p := ⟨w.heap.size, 0, none⟩) (v := .string x.key.kind) (by simp [go_sem]); have qa1 := he1.cells (p := ⟨w.heap.size, 1, none⟩) (v := .string x.key.name) (by simp [go_sem]); have qb0 := he1.cells (p := ⟨w.heap.size + 1, 0, none⟩) (v := .string a.kind) (by simp [go_sem]); have qb1 := he1.cells (p := ⟨w.heap.size + 1, 1, none⟩) (v := .string a.name) (by simp [go_sem])); replace he1 := hide he1))
  go_wp2
  go_ret
  exact ⟨rfl, (((Ext.refl _).alloc _).alloc _).drew.trans he1.out⟩

/-- What the look for a key answers. -/
def SrcIsE (w : World) (rs : List RowE) (a : IDd) (e : Ending) (w' : World) : Prop :=
  ∃ (i : Nat) (b : Bool), e = .returned (.tuple #[.int .i64 i, .bool b]) ∧ i ≤ rs.length ∧ Hid (StandsG cmpI RowE.key rs a i) ∧ Hid (b = true ↔ HasK RowE.key rs a) ∧ Hid (b = true → ∃ x, rs[i]? = some x ∧ x.key = a) ∧ Hid (Ext w w')

set_option maxRecDepth 100000 in
set_option maxHeartbeats 3200000 in
theorem searchE (B : Nat) (v : Value) (rs : List RowE) (a : IDd) (p t : Nat) (w : World) (hv : RowsE B w v rs) (hu : UpG cmpI RowE.key rs) (hn : rs.length ≤ 1000000)
    (hp : w.cell? ⟨p, 0, none⟩ = some (.pointer (some ⟨t, 0, none⟩))) (ht : w.cell? ⟨t, 0, none⟩ = some (.func (.func 38) #[] #[])) :
    Calls Tryz.prog 87 #[v, .agg #[.string a.kind, .string a.name], .func (.func 88) #[] #[.pointer (some ⟨p, 0, none⟩)]] w (SrcIsE w rs a) := by
  obtain ⟨pa, cap, rfl⟩ := ownsRow_form hv
  obtain ⟨-, hc1, hc2, hin⟩ := rowsE_in hv
  unfold maxLen at hc2
  replace hin := hide hin; replace hp := hide hp; replace ht := hide ht; replace hv := hide hv; replace hu := hide hu
  go_enter Tryz.func87, Tryz.ntmps87
  go_wp2_with fail
  go_loopw [9, 10] (fun i j wr => ∃ i' j' : Nat, i' ≤ j' ∧ j' ≤ rs.length ∧ i = .int .i64 i' ∧ j = .int .i64 j' ∧ Hid (∀ (k : Nat) x, k < i' → rs[k]? = some x → cmpI x.key a < 0) ∧ Hid (∀ (k : Nat) x, j' ≤ k → rs[k]? = some x → 0 ≤ cmpI x.key a) ∧ Hid (Ext (w.alloc (.cells #[.string a.kind, .string a.name] 53)) wr)) (fun i j _ => (intOf j).toNat - (intOf i).toNat)
  case atStart => exact ⟨0, rs.length, Nat.zero_le _, Nat.le_refl _, rfl, rfl, fun _ _ h => absurd h (by omega), fun k x h hx => absurd (List.getElem?_eq_some_iff.1 hx).1 (by omega), Ext.refl _⟩
  case round =>
    obtain ⟨i, j, hij, hj, rfl, rfl, hA, hB, hx⟩ := hrel
    have X0 := hide (((Ext.refl w).alloc _).trans hx.out)
    have m0 := hx.out.cells (p := ⟨w.heap.size, 0, none⟩) (v := .string a.kind) (by simp [go_sem])
    have m1 := hx.out.cells (p := ⟨w.heap.size, 1, none⟩) (v := .string a.name) (by simp [go_sem])
    have hp1 := hide (X0.out.drew.cells hp.out)
    have ht1 := hide (X0.out.drew.cells ht.out)
    by_cases hlt : i < j
    · obtain ⟨h, hh⟩ : ∃ h, h = (i + j) / 2 := ⟨_, rfl⟩
      have e1 : IntKind.u64.wrap ((i : Int) + (j : Int)) = ((i + j : Nat) : Int) := by rw [IntKind.wrap_u64]; omega
      obtain ⟨x, hxh⟩ := some_of_lt (show h < rs.length by omega)
      rcases hin.out with hnil | ⟨g, rfl, hI⟩
      · rw [hnil] at hj; simp at hj; omega
      replace hI := hI h x hxh
      have k0 := X0.out.cells (hI 0 _ rfl)
      have k1 := X0.out.cells (hI 1 _ rfl)
      have k2 := X0.out.cells (hI 2 _ rfl)
      rw [Nat.add_zero] at k0
      have h2 : (h : Int) < (rs.length : Int) := by omega
      have h3 : (0 : Int) ≤ (h : Int) := by omega
      have h4 : ((i : Int) + (j : Int)) / 2 = (h : Int) := by omega
      have hlo : i ≤ h := by omega
      have hhi : h < j := by omega
      replace hI := hide hI; replace hxh := hide hxh; replace hh := hide hh
      go_wp2_with fail
      go_region_held3 (fun w' => w'.cell? ⟨g, h * 3, none⟩ = some (.string x.key.kind) ∧ w'.cell? ⟨g, h * 3 + 1, none⟩ = some (.string x.key.name) ∧ w'.cell? ⟨g, h * 3 + 2, none⟩ = some (.pointer (some ⟨x.val, 0, none⟩)) ∧ w'.cell? ⟨w.heap.size, 0, none⟩ = some (.string a.kind) ∧ w'.cell? ⟨w.heap.size, 1, none⟩ = some (.string a.name)) (go_keep)
        ((go_at_call 88; refine (findCmpE x a p t wr.drew hp1.out ht1.out).mono ?_; rintro e w1 ⟨rfl, he1⟩; go_must (have qr0 := he1.cells (p := ⟨g, h * 3, none⟩) (v := .string x.key.kind) (by simpa using k0); have qr1 := he1.cells (p := ⟨g, h * 3 + 1, none⟩) (v := .string x.key.name) (by simpa using k1); have qr2 := he1.cells (p := ⟨g, h * 3 + 2, none⟩) (v := .pointer (some ⟨x.val, 0, none⟩)) (by simpa using k2); have qk0 := he1.cells (p := ⟨w.heap.size, 0, none⟩) (v := .string a.kind) (by simpa using m0); have qk1 := he1.cells (p := ⟨w.heap.size, 1, none⟩) (v := .string a.name) (by simpa using m1)); replace he1 := hide he1))
      by_cases hb : cmpI x.key a < 0
      · go_wp2_with fail
        go_roundw
        case rel => exact ⟨h + 1, j, by omega, hj, by go_num, rfl, hu.out.stands ordI hxh.out hb, hB, hx.out.drew.trans he1.out⟩
        case measure => simp [intOf]; omega
      · have hb' : ¬ cmpI x.key a < 0 := hb
        replace hb' := hide hb'
        go_wp2_with fail
        go_roundw
        case rel => exact ⟨i, h, by omega, by omega, rfl, rfl, hA, hu.out.stands' ordI hxh.out (by first | exact hb'.out | exact Int.not_lt.2 hb'.out), hx.out.drew.trans he1.out⟩
        case measure => simp [intOf]; omega
    · obtain rfl : i = j := by omega
      have hst : Hid (StandsG cmpI RowE.key rs a i) := ⟨hj, hA.out, fun k x hk hx => Int.not_lt.2 (hB.out k x hk hx)⟩
      by_cases hend : i < rs.length
      · obtain ⟨x, hxh⟩ := some_of_lt hend
        rcases hin.out with hnil | ⟨g, rfl, hI⟩
        · rw [hnil] at hend; simp at hend
        replace hI := hI i x hxh
        have k0 := X0.out.cells (hI 0 _ rfl)
        have k1 := X0.out.cells (hI 1 _ rfl)
        have k2 := X0.out.cells (hI 2 _ rfl)
        rw [Nat.add_zero] at k0
        have h2 : (i : Int) < (rs.length : Int) := by omega
        have h3 : (0 : Int) ≤ (i : Int) := by omega
        replace hI := hide hI; replace hxh := hide hxh
        go_wp2_with fail
        go_region_held3 (fun w' => w'.cell? ⟨g, i * 3, none⟩ = some (.string x.key.kind) ∧ w'.cell? ⟨g, i * 3 + 1, none⟩ = some (.string x.key.name) ∧ w'.cell? ⟨g, i * 3 + 2, none⟩ = some (.pointer (some ⟨x.val, 0, none⟩)) ∧ w'.cell? ⟨w.heap.size, 0, none⟩ = some (.string a.kind) ∧ w'.cell? ⟨w.heap.size, 1, none⟩ = some (.string a.name)) (go_keep)
          ((go_at_call 88; refine (findCmpE x a p t wr.drew hp1.out ht1.out).mono ?_; rintro e w1 ⟨rfl, he1⟩; go_must (have qr0 := he1.cells (p := ⟨g, i * 3, none⟩) (v := .string x.key.kind) (by simpa using k0); have qr1 := he1.cells (p := ⟨g, i * 3 + 1, none⟩) (v := .string x.key.name) (by simpa using k1); have qr2 := he1.cells (p := ⟨g, i * 3 + 2, none⟩) (v := .pointer (some ⟨x.val, 0, none⟩)) (by simpa using k2); have qk0 := he1.cells (p := ⟨w.heap.size, 0, none⟩) (v := .string a.kind) (by simpa using m0); have qk1 := he1.cells (p := ⟨w.heap.size, 1, none⟩) (v := .string a.name) (by simpa using m1)); replace he1 := hide he1))
        go_wp2
        go_ret2
        refine ⟨i, cmpI x.key a == 0, rfl, hj, hst, ?_, ?_, X0.out.drew.trans he1.out⟩
        · show _ ↔ _
          constructor
          · intro h; exact StandsG.there ordI hxh.out (by simpa using h)
          · intro h
            by_cases e : cmpI x.key a = 0
            · simpa using e
            · exact absurd h (hst.out.gone ordI hu.out fun y hy => by rw [hxh.out] at hy; cases hy; exact e)
        · intro h
          exact ⟨x, hxh.out, ordI.zero.1 (by simpa using h)⟩
      · have h2 : ¬ (i : Int) < (rs.length : Int) := by omega
        go_wp2_with fail
        go_quiet (fail)
        go_wp2
        go_ret2
        refine ⟨i, false, rfl, hj, hst, ?_, ?_, X0.out.drewN _⟩
        · show _ ↔ _
          constructor
          · intro h; cases h
          · intro h
            exact absurd h (hst.out.gone ordI hu.out fun y hy => absurd (List.getElem?_eq_some_iff.1 hy).1 (by omega))
        · intro h; cases h
end Go.Proofs.YtejhegnlmldomaaGreat

namespace Go.Proofs.YtejhegnlmldomaaGreat
open Go.RowKit

/-- A table lies in memory. -/
structure TabAtE (B : Nat) (w : World) (t : Nat) (v : Value) (rs : List RowE) : Prop where
  at_ : w.heap[t]? = some (.cells #[.func (.func 38) #[] #[], v] 156 (0, 0))
  rows : RowsE B w v rs
  up : UpG cmpI RowE.key rs
  few : rs.length ≤ 1000000
  base : B ≤ t
theorem tabE_c0 {w : World} {k : Nat} {a b : Value} {t : TypeId} {fz : Nat × Nat} (hk : w.heap[k]? = some (.cells #[a, b] t fz)) : w.cell? ⟨k, 0, none⟩ = some a := by simp [World.cell?, hk]
theorem tabE_c1 {w : World} {k : Nat} {a b : Value} {t : TypeId} {fz : Nat × Nat} (hk : w.heap[k]? = some (.cells #[a, b] t fz)) : w.cell? ⟨k, 1, none⟩ = some b := by simp [World.cell?, hk]
theorem tabE_set {w : World} {k : Nat} {a b : Value} {t : TypeId} {fz : Nat × Nat} (hk : w.heap[k]? = some (.cells #[a, b] t fz)) (v : Value) : (w.setCell ⟨k, 1, none⟩ v).heap[k]? = some (.cells #[a, v] t fz) := by
  simp [World.setCell, Array.getElem?_modify, hk]
theorem TabAtE.ext {B : Nat} {w w' : World} {t : Nat} {v : Value} {rs : List RowE} (h : TabAtE B w t v rs) (e : Ext w w') : TabAtE B w' t v rs :=
  ⟨ext_heap e h.at_, ownsRow_wrote h.rows (Wrote.ext (B := 0) (T := fun _ => False) e) id rfl, h.up, h.few, h.base⟩
theorem TabAtE.low {B B' : Nat} {w : World} {t : Nat} {v : Value} {rs : List RowE} (h : TabAtE B w t v rs) (hb : B' ≤ B) : TabAtE B' w t v rs := ⟨h.at_, ownsRow_low h.rows hb, h.up, h.few, Nat.le_trans hb h.base⟩
theorem TabAtE.wrote {B B' : Nat} {T : TypeId → Prop} {w w' : World} {t : Nat} {v : Value} {rs : List RowE} (h : TabAtE B w t v rs) (k : Wrote B' T w w') (hT : ¬ T 168 ∧ ¬ T 156) : TabAtE B w' t v rs :=
  ⟨k.keeps h.at_ hT.2, ownsRow_wrote h.rows k hT.1 rfl, h.up, h.few, h.base⟩

set_option maxRecDepth 100000 in
set_option maxHeartbeats 800000 in
theorem tabFindE (B : Nat) (v : Value) (rs : List RowE) (a : IDd) (t : Nat) (w : World) (ht : TabAtE B w t v rs) :
    Calls Tryz.prog 70 #[.pointer (some ⟨t, 0, none⟩), .agg #[.string a.kind, .string a.name]] w (SrcIsE w rs a) := by
  obtain ⟨pa, cap, rfl⟩ := ownsRow_form ht.rows
  have hw : t < w.heap.size := (Array.getElem?_eq_some_iff.1 ht.at_).1
  have X2 := hide (((Ext.refl w).alloc (.cells #[.pointer (some ⟨t, 0, none⟩)] 105)).alloc (.cells #[.string a.kind, .string a.name] 53))
  have ht2 := hide (ht.ext X2.out.drew)
  have c1 := X2.out.cells (tabE_c1 ht.at_)
  have c0 := hide (X2.out.drew.cells (tabE_c0 ht.at_))
  replace ht := hide ht
  go_enter Tryz.func70, Tryz.ntmps70
  go_wp2_with fail
  go_region_held3 (fun w' => w'.cell? ⟨w.heap.size, 0, none⟩ = some (.pointer (some ⟨t, 0, none⟩)) ∧ w'.cell? ⟨t, 1, none⟩ = some (.slice pa rs.length cap) ∧ w'.cell? ⟨w.heap.size + 1, 0, none⟩ = some (.string a.kind) ∧ w'.cell? ⟨w.heap.size + 1, 1, none⟩ = some (.string a.name)) (go_keep)
    ((go_at_call 87; refine (searchE B _ rs a w.heap.size t _ ht2.out.rows ht2.out.up ht2.out.few (by simp [go_sem]) c0.out).mono ?_; rintro e w1 ⟨i, b, rfl, hi, hs1, hs2, hs3, he1⟩; go_must (have q0 := he1.out.cells (p := ⟨w.heap.size, 0, none⟩) (v := .pointer (some ⟨t, 0, none⟩)) (by simp [go_sem]); have q1 := he1.out.cells (p := ⟨t, 1, none⟩) (v := .slice pa rs.length cap) (by simp [c1]); have qb0 := he1.out.cells (p := ⟨w.heap.size + 1, 0, none⟩) (v := .string a.kind) (by simp [go_sem]); have qb1 := he1.out.cells (p := ⟨w.heap.size + 1, 1, none⟩) (v := .string a.name) (by simp [go_sem]))))
  go_wp2
  go_ret2
  exact ⟨i, b, rfl, hi, hs1, hs2, hs3, X2.out.drew.trans he1.out⟩

set_option maxRecDepth 100000 in
set_option maxHeartbeats 800000 in
theorem tabHasE (B : Nat) (v : Value) (rs : List RowE) (a : IDd) (t : Nat) (w : World) (ht : TabAtE B w t v rs) :
    Calls Tryz.prog 43 #[.pointer (some ⟨t, 0, none⟩), .agg #[.string a.kind, .string a.name]] w fun e w' => ∃ b : Bool, e = .returned (.bool b) ∧ Hid (b = true ↔ HasK RowE.key rs a) ∧ Hid (Ext w w') := by
  have hf := hide (tabFindE B v rs a t _ (ht.ext ((Ext.refl w).alloc (.cells #[.string a.kind, .string a.name] 53))))
  replace ht := hide ht
  go_enter Tryz.func43, Tryz.ntmps43
  go_wp2_with fail
  refine hf.out.mono ?_
  rintro e w1 ⟨i, b, rfl, hi, hs1, hs2, hs3, he1⟩
  go_wp2
  go_ret
  exact ⟨b, rfl, hs2, ((Ext.refl w).alloc (.cells #[.string a.kind, .string a.name] 53)).trans he1.out⟩

set_option maxRecDepth 100000 in
set_option maxHeartbeats 800000 in
theorem tabLenE (B : Nat) (v : Value) (rs : List RowE) (t : Nat) (w : World) (ht : TabAtE B w t v rs) :
    Calls Tryz.prog 82 #[.pointer (some ⟨t, 0, none⟩)] w fun e w' => e = .returned (.int .i64 rs.length) ∧ w' = w := by
  obtain ⟨pa, cap, rfl⟩ := ownsRow_form ht.rows
  have c1 := tabE_c1 ht.at_
  replace ht := hide ht
  go_enter Tryz.func82, Tryz.ntmps82
  go_wp2
  go_ret
  exact ⟨rfl, rfl⟩

set_option maxRecDepth 100000 in
set_option maxHeartbeats 800000 in
theorem tabNewE (w : World) :
    Calls Tryz.prog 37 #[.func (.func 38) #[] #[]] w fun e w' => e = .returned (.pointer (some ⟨w.heap.size, 0, none⟩)) ∧ Hid (TabAtE w.heap.size w' w.heap.size (.slice none 0 0) []) ∧ Hid (w' = w.alloc (.cells #[.func (.func 38) #[] #[], .slice none 0 0] 156)) := by
  go_enter Tryz.func37, Tryz.ntmps37
  go_wp2
  go_ret
  exact ⟨rfl, ⟨heap_alloc_new _ _, World.ownsRow_nil _ _ _ _, List.Pairwise.nil, Nat.zero_le _, Nat.le_refl _⟩, rfl⟩
end Go.Proofs.YtejhegnlmldomaaGreat

namespace Go.Proofs.YtejhegnlmldomaaGreat
open Go.RowKit

attribute [local go_sem] Go.World.cell?_alloc_some
/-- Only rows and tables from B on have turned. -/
abbrev WroteTE (B : Nat) (w w' : World) : Prop := Wrote B (fun t => t = 168 ∨ t = 156) w w'
/-- What a key put into a table leaves. -/
def PutIsE (B : Nat) (w : World) (t : Nat) (rs : List RowE) (x : RowE) (e : Ending) (w' : World) : Prop :=
  ∃ (i : Nat) (pa : Option Addr) (cap n : Nat), e = .returned (.tuple #[]) ∧ Hid (StandsG cmpI RowE.key rs x.key i) ∧ Hid (TabAtE B w' t (.slice pa n cap) (insG rs i x)) ∧ Hid (WroteTE B w w')

set_option maxRecDepth 100000 in
set_option maxHeartbeats 3200000 in
theorem tabPutE (B : Nat) (u : Value) (rs : List RowE) (a : IDd) (v : Nat) (t : Nat) (w : World) (ht : TabAtE B w t u rs) (ha : ¬ HasK RowE.key rs a) (hB : B ≤ w.heap.size) (hfew : rs.length + 1 ≤ 1000000) :
    Calls Tryz.prog 99 #[.pointer (some ⟨t, 0, none⟩), .agg #[.string a.kind, .string a.name], .pointer (some ⟨v, 0, none⟩)] w (PutIsE B w t rs ⟨a, v⟩) := by
  obtain ⟨pa, cap, rfl⟩ := ownsRow_form ht.rows
  have XP := hide ((Ext.refl w).alloc (.cells #[.string a.kind, .string a.name] 53))
  have ht3 := hide (ht.ext XP.out)
  have hf := hide (tabFindE B _ rs a t _ ht3.out)
  replace ht := hide ht
  go_enter Tryz.func99, Tryz.ntmps99
  go_wp2_with fail
  refine hf.out.mono ?_
  rintro e w1 ⟨i, b, rfl, hi, hs1, hs2, hs3, he1⟩
  obtain rfl : b = false := by
    cases b
    · rfl
    · exact absurd (hs2.out.1 rfl) ha
  have hk1 := ht3.out.ext he1.out
  have c1 := tabE_c1 hk1.at_
  have f1 := row_frozen hk1.at_
  have k4 := ext_heap he1.out (heap_alloc_new w _)
  have b00 := block_cell' k4 0
  have b01 := block_cell' k4 1
  simp only [List.getElem?_toArray, List.getElem?_cons_zero, List.getElem?_cons_succ] at b00 b01
  replace k4 := hide k4
  have hin := hide (insRowE B _ rs ⟨a, v⟩ i w1.heap.size (w1.drew.alloc (.cells #[.string a.kind, .string a.name, .pointer (some ⟨v, 0, none⟩)] 168)) ((hk1.ext ((Ext.refl w1).drew.alloc _)).rows) (by have := Ext.size XP.out; have := Ext.size he1.out; simp at *; omega) hi (by omega) (heap_alloc_new w1.drew _) (by
    intro e
    rcases hk1.rows.2 with ⟨h, _⟩ | ⟨g, c, cur, h, _, hg, _⟩
    · rw [h] at e; simp [Value.ownBlock] at e
    · rw [h] at e; simp [Value.ownBlock] at e
      have := (Array.getElem?_eq_some_iff.1 hg).1
      omega))
  replace hk1 := hide hk1
  go_wp2_with fail
  go_region_with (go_at_call 108; refine hin.out.mono ?_; rintro e w2 ⟨pa2, cap2, n2, rfl, hn2, hK2, hW2⟩; go_must (have ht2 := Wrote.keeps (hW2.out) (ext_heap ((Ext.refl w1).drew.alloc _) hk1.out.at_) (by decide); have f2 := row_frozen ht2; have d1 := tabE_c1 ht2; replace ht2 := hide ht2))
  all_goals go_wp2
  all_goals
    refine ⟨rfl, .tuple #[], by simp [results, Tryz.results99], ?_⟩
    have hup := ht.out.up
    refine ⟨i, pa2, cap2, n2, rfl, hs1, ⟨tabE_set ht2.out _, ownsRow_set hK2.out ht2.out (by decide) _, hup.insert ordI hs1.out ha, by rw [insG_len hi]; exact hfew, ht.out.base⟩, ?_⟩
    refine Wrote.setCell (p := ⟨t, 1, none⟩) ?_ ht.out.base ht2.out (.inr rfl) _
    exact (((Wrote.ext XP.out).then he1.out).then ((Ext.refl w1).drew.alloc _)).trans (hW2.out.mono (Nat.le_refl _) fun _ h => .inl h)
end Go.Proofs.YtejhegnlmldomaaGreat
