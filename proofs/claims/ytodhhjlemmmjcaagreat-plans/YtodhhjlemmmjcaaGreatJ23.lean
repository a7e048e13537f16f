/-
  A key is looked for among the others.
-/
/-
  The table of keys: what its methods answer.
-/
import Derived.Test.YtodhhjlemmmjcaaGreatJ22
import Derived.Test.YtodhhjlemmmjcaaGreatJ8
import Derived.Laws.BitsAllLaws
namespace Go.Proofs.YtodhhjlemmmjcaaGreat
open Go.RowKit

theorem keys_in {B : Nat} {w : World} {el : TypeId} {pa : Option Addr} {n cap : Nat} {ks : List IDd} (h : w.ownsRow B el 2 (.slice pa n cap) ks.length (cellsI ks)) : n = ks.length ∧ n ≤ cap ∧ cap ≤ maxLen ∧ (ks = [] ∨ ∃ g, pa = some ⟨g, 0, none⟩ ∧ IDsIn w g 0 ks) := by
  rcases h.2 with ⟨h1, h2⟩ | ⟨g, c, cur, h1, _, hg, hc, hm, hs, ht⟩
  · cases h1
    exact ⟨h2.symm, Nat.le_refl _, by unfold maxLen; omega, .inl (List.eq_nil_of_length_eq_zero h2)⟩
  · cases h1
    refine ⟨rfl, hc, hm, .inr ⟨g, rfl, fun i x hx => ?_⟩⟩
    have hlt : i < ks.length := (List.getElem?_eq_some_iff.1 hx).1
    have key : ∀ r, r < 2 → w.cell? ⟨g, i * 2 + r, none⟩ = (cI x)[r]? := by
      intro r hr
      have h1 : (cellsI ks)[i * 2 + r]? = (cI x)[r]? := flat_get cI_len hx hr
      rw [← h1, ← ht, List.getElem?_take, if_pos (by omega)]
      simp [World.cell?, hg]
    refine ⟨?_, ?_⟩
    · rw [show 0 + i * 2 = i * 2 + 0 by omega]; exact key 0 (by omega)
    · rw [show 0 + i * 2 + 1 = i * 2 + 1 by omega]; exact key 1 (by omega)

set_option maxRecDepth 100000 in
set_option maxHeartbeats 800000 in
theorem findCmp (x a : IDd) (p t : Nat) (w : World) (hp : w.cell? ⟨p, 0, none⟩ = some (.pointer (some ⟨t, 0, none⟩))) (ht : w.cell? ⟨t, 0, none⟩ = some (.func (.func 53) #[] #[])) :
    Calls Tryz.prog 111 #[.agg #[.string x.kind, .string x.name], .agg #[.string a.kind, .string a.name], .pointer (some ⟨p, 0, none⟩)] w fun e w' => e = .returned (.int .i64 (cmpI x a)) ∧ Ext w w' := by
  have hpl : p < w.heap.size := World.block_lt_of_cell? w _ hp
  have htl : t < w.heap.size := World.block_lt_of_cell? w _ ht
  have g0 := World.cell?_alloc_past (w := w.alloc (.cells #[.string x.kind, .string x.name] 158)) (.cells #[.string a.kind, .string a.name] 52) p 0 (by simp; omega)
  have g1 := World.cell?_alloc_past (w := w.alloc (.cells #[.string x.kind, .string x.name] 158)) (.cells #[.string a.kind, .string a.name] 52) t 0 (by simp; omega)
  rw [World.cell?_alloc_past (w := w) _ p 0 hpl, hp] at g0
  rw [World.cell?_alloc_past (w := w) _ t 0 htl, ht] at g1
  replace hp := hide hp; replace ht := hide ht; replace hpl := hide hpl; replace htl := hide htl
  go_enter Tryz.func111, Tryz.ntmps111
  go_wp2_with fail
  go_region_held3 (fun w' => w'.cell? ⟨p, 0, none⟩ = some (.pointer (some ⟨t, 0, none⟩)) ∧ w'.cell? ⟨t, 0, none⟩ = some (.func (.func 53) #[] #[]) ∧ w'.cell? ⟨w.heap.size, 0, none⟩ = some (.string x.kind) ∧ w'.cell? ⟨w.heap.size, 1, none⟩ = some (.string x.name) ∧ w'.cell? ⟨w.heap.size + 1, 0, none⟩ = some (.string a.kind) ∧ w'.cell? ⟨w.heap.size + 1, 1, none⟩ = some (.string a.name)) (go_keep)
    ((go_at_call 53; refine (compareIDs x a _).mono ?_; rintro e w1 ⟨rfl, he1⟩; go_must (have q0 := he1.cells (p := ⟨p, 0, none⟩) (by simp [g0]; rfl); have q1 := he1.cells (p := ⟨t, 0, none⟩) (by simp [g1]; rfl); have q2 := he1.cells (p := ⟨w.heap.size, 0, none⟩) (v := .string x.kind) (by simp [go_sem]); have q3 := he1.cells (p := ⟨w.heap.size, 1, none⟩) (v := .string x.name) (by simp [go_sem]); have q4 := he1.cells (p := ⟨w.heap.size + 1, 0, none⟩) (v := .string a.kind) (by simp [go_sem]); have q5 := he1.cells (p := ⟨w.heap.size + 1, 1, none⟩) (v := .string a.name) (by simp [go_sem])); replace he1 := hide he1))
  go_wp2
  go_ret
  exact ⟨rfl, (((Ext.refl _).alloc _).alloc _).drew.trans he1.out⟩

theorem Up.stands {ks : List IDd} {a : IDd} {k : Nat} {x : IDd} (hu : Up ks) (hx : ks[k]? = some x) (h : cmpI x a < 0) : ∀ (j : Nat) y, j < k + 1 → ks[j]? = some y → cmpI y a < 0 := fun j y hj hy => by
  by_cases e : j = k
  · subst e; rw [hx] at hy; cases hy; exact h
  · exact cmpI_trans (hu.at hy hx (by omega)) h
theorem Up.stands' {ks : List IDd} {a : IDd} {k : Nat} {x : IDd} (hu : Up ks) (hx : ks[k]? = some x) (h : ¬ cmpI x a < 0) : ∀ (j : Nat) y, k ≤ j → ks[j]? = some y → 0 ≤ cmpI y a := fun j y hj hy => Int.not_lt.1 fun hn => by
  by_cases e : j = k
  · subst e; rw [hx] at hy; cases hy; exact h hn
  · exact h (cmpI_trans (hu.at hx hy (by omega)) hn)
/-- What the look for a key answers. -/
def SrcIs (w : World) (ks : List IDd) (a : IDd) (e : Ending) (w' : World) : Prop :=
  ∃ (i : Nat) (b : Bool), e = .returned (.tuple #[.int .i64 i, .bool b]) ∧ i ≤ ks.length ∧ Hid (Stands ks a i) ∧ Hid (b = true ↔ a ∈ ks) ∧ Hid (b = true → ks[i]? = some a) ∧ Hid (Ext w w')

set_option maxRecDepth 100000 in
set_option maxHeartbeats 1600000 in
theorem search (B : Nat) (v : Value) (ks : List IDd) (a : IDd) (p t : Nat) (w : World) (hv : KeysV B w v ks) (hu : Up ks) (hn : ks.length ≤ 1000000)
    (hp : w.cell? ⟨p, 0, none⟩ = some (.pointer (some ⟨t, 0, none⟩))) (ht : w.cell? ⟨t, 0, none⟩ = some (.func (.func 53) #[] #[])) :
    Calls Tryz.prog 110 #[v, .agg #[.string a.kind, .string a.name], .func (.func 111) #[] #[.pointer (some ⟨p, 0, none⟩)]] w (SrcIs w ks a) := by
  obtain ⟨pa, cap, rfl⟩ := ownsRow_form hv
  obtain ⟨-, hc1, hc2, hin⟩ := keys_in hv
  unfold maxLen at hc2
  replace hin := hide hin; replace hp := hide hp; replace ht := hide ht; replace hv := hide hv; replace hu := hide hu
  go_enter Tryz.func110, Tryz.ntmps110
  go_wp2_with fail
  go_loopw [9, 10] (fun i j wr => ∃ i' j' : Nat, i' ≤ j' ∧ j' ≤ ks.length ∧ i = .int .i64 i' ∧ j = .int .i64 j' ∧ Hid (∀ (k : Nat) x, k < i' → ks[k]? = some x → cmpI x a < 0) ∧ Hid (∀ (k : Nat) x, j' ≤ k → ks[k]? = some x → 0 ≤ cmpI x a) ∧ Hid (Ext (w.alloc (.cells #[.string a.kind, .string a.name] 52)) wr)) (fun i j _ => (intOf j).toNat - (intOf i).toNat)
  case atStart => exact ⟨0, ks.length, Nat.zero_le _, Nat.le_refl _, rfl, rfl, fun _ _ h => absurd h (by omega), fun k x h hx => absurd (List.getElem?_eq_some_iff.1 hx).1 (by omega), Ext.refl _⟩
  case round =>
    obtain ⟨i, j, hij, hj, rfl, rfl, hA, hB, hx⟩ := hrel
    have X0 := hide (((Ext.refl w).alloc _).trans hx.out)
    have m0 := hx.out.cells (p := ⟨w.heap.size, 0, none⟩) (v := .string a.kind) (by simp [go_sem])
    have m1 := hx.out.cells (p := ⟨w.heap.size, 1, none⟩) (v := .string a.name) (by simp [go_sem])
    have hp1 := hide (X0.out.drew.cells hp.out)
    have ht1 := hide (X0.out.drew.cells ht.out)
    by_cases hlt : i < j
    · obtain ⟨h, hh⟩ : ∃ h, h = (i + j) / 2 := ⟨_, rfl⟩
      have e1 : IntKind.u64.wrap ((i : Int) + (j : Int)) = ((i + j : Nat) : Int) := by rw [IntKind.wrap_u64]; omega
      obtain ⟨x, hxh⟩ := some_of_lt (show h < ks.length by omega)
      rcases hin.out with hnil | ⟨g, rfl, hI⟩
      · rw [hnil] at hj; simp at hj; omega
      obtain ⟨k0, k1⟩ := (hI.ext X0.out) h x hxh
      have h2 : (h : Int) < (ks.length : Int) := by omega
      have h3 : (0 : Int) ≤ (h : Int) := by omega
      have h4 : ((i : Int) + (j : Int)) / 2 = (h : Int) := by omega
      have hlo : i ≤ h := by omega
      have hhi : h < j := by omega
      rw [Nat.zero_add] at k0 k1
      replace hI := hide hI; replace hxh := hide hxh; replace hh := hide hh
      go_wp2_with fail
      go_region_held3 (fun w' => w'.cell? ⟨g, h * 2, none⟩ = some (.string x.kind) ∧ w'.cell? ⟨g, h * 2 + 1, none⟩ = some (.string x.name) ∧ w'.cell? ⟨w.heap.size, 0, none⟩ = some (.string a.kind) ∧ w'.cell? ⟨w.heap.size, 1, none⟩ = some (.string a.name)) (go_keep)
        ((go_at_call 111; refine (findCmp x a p t wr.drew hp1.out ht1.out).mono ?_; rintro e w1 ⟨rfl, he1⟩; go_must (have q0 := he1.cells (p := ⟨g, h * 2, none⟩) (v := .string x.kind) (by simpa using k0); have q1 := he1.cells (p := ⟨g, h * 2 + 1, none⟩) (v := .string x.name) (by simpa using k1); have q2 := he1.cells (p := ⟨w.heap.size, 0, none⟩) (v := .string a.kind) (by simpa using m0); have q3 := he1.cells (p := ⟨w.heap.size, 1, none⟩) (v := .string a.name) (by simpa using m1)); replace he1 := hide he1))
      by_cases hb : cmpI x a < 0
      · go_wp2_with fail
        go_roundw
        case rel => exact ⟨h + 1, j, by omega, hj, by go_num, rfl, hu.out.stands hxh.out hb, hB, hx.out.drew.trans he1.out⟩
        case measure => simp [intOf]; omega
      · have hb' : ¬ cmpI x a < 0 := hb
        replace hb' := hide hb'
        go_wp2_with fail
        go_roundw
        case rel => exact ⟨i, h, by omega, by omega, rfl, rfl, hA, hu.out.stands' hxh.out hb'.out, hx.out.drew.trans he1.out⟩
        case measure => simp [intOf]; omega
    · obtain rfl : i = j := by omega
      have hst : Hid (Stands ks a i) := ⟨hj, hA.out, fun k x hk hx => Int.not_lt.2 (hB.out k x hk hx)⟩
      by_cases hend : i < ks.length
      · obtain ⟨x, hxh⟩ := some_of_lt hend
        rcases hin.out with hnil | ⟨g, rfl, hI⟩
        · rw [hnil] at hend; simp at hend
        obtain ⟨k0, k1⟩ := (hI.ext X0.out) i x hxh
        have h2 : (i : Int) < (ks.length : Int) := by omega
        have h3 : (0 : Int) ≤ (i : Int) := by omega
        rw [Nat.zero_add] at k0 k1
        replace hI := hide hI; replace hxh := hide hxh
        go_wp2_with fail
        go_region_held3 (fun w' => w'.cell? ⟨g, i * 2, none⟩ = some (.string x.kind) ∧ w'.cell? ⟨g, i * 2 + 1, none⟩ = some (.string x.name) ∧ w'.cell? ⟨w.heap.size, 0, none⟩ = some (.string a.kind) ∧ w'.cell? ⟨w.heap.size, 1, none⟩ = some (.string a.name)) (go_keep)
          ((go_at_call 111; refine (findCmp x a p t wr.drew hp1.out ht1.out).mono ?_; rintro e w1 ⟨rfl, he1⟩; go_must (have q0 := he1.cells (p := ⟨g, i * 2, none⟩) (v := .string x.kind) (by simpa using k0); have q1 := he1.cells (p := ⟨g, i * 2 + 1, none⟩) (v := .string x.name) (by simpa using k1); have q2 := he1.cells (p := ⟨w.heap.size, 0, none⟩) (v := .string a.kind) (by simpa using m0); have q3 := he1.cells (p := ⟨w.heap.size, 1, none⟩) (v := .string a.name) (by simpa using m1)); replace he1 := hide he1))
        go_wp2
        go_ret2
        refine ⟨i, cmpI x a == 0, rfl, hj, hst, ?_, ?_, X0.out.drew.trans he1.out⟩
        · show _ ↔ _
          constructor
          · intro h; exact Stands.there hxh.out (by simpa using h)
          · intro h
            by_cases e : cmpI x a = 0
            · simpa using e
            · exact absurd h (hst.out.gone hu.out fun y hy => by rw [hxh.out] at hy; cases hy; exact e)
        · intro h
          have e : x = a := cmpI_zero.1 (by simpa using h)
          rw [← e]; exact hxh.out
      · have h2 : ¬ (i : Int) < (ks.length : Int) := by omega
        go_wp2_with fail
        go_quiet (fail)
        go_wp2
        go_ret2
        refine ⟨i, false, rfl, hj, hst, ?_, ?_, X0.out.drewN _⟩
        · show _ ↔ _
          constructor
          · intro h; cases h
          · intro h
            exact absurd h (hst.out.gone hu.out fun y hy => absurd (List.getElem?_eq_some_iff.1 hy).1 (by omega))
        · intro h; cases h
end Go.Proofs.YtodhhjlemmmjcaaGreat

namespace Go.Proofs.YtodhhjlemmmjcaaGreat
open Go.RowKit

/-- A table of keys lies in memory. -/
structure TabAt (B : Nat) (w : World) (t : Nat) (v : Value) (ks : List IDd) : Prop where
  at_ : w.heap[t]? = some (.cells #[.func (.func 53) #[] #[], v] 153 (0, 0))
  keys : KeysV B w v ks
  up : Up ks
  few : ks.length ≤ 1000000
  base : B ≤ t
theorem two_c0 {w : World} {k : Nat} {a b : Value} {t : TypeId} {fz : Nat × Nat} (hk : w.heap[k]? = some (.cells #[a, b] t fz)) : w.cell? ⟨k, 0, none⟩ = some a := by simp [World.cell?, hk]
theorem two_c1 {w : World} {k : Nat} {a b : Value} {t : TypeId} {fz : Nat × Nat} (hk : w.heap[k]? = some (.cells #[a, b] t fz)) : w.cell? ⟨k, 1, none⟩ = some b := by simp [World.cell?, hk]
theorem TabAt.ext {B : Nat} {w w' : World} {t : Nat} {v : Value} {ks : List IDd} (h : TabAt B w t v ks) (e : Ext w w') : TabAt B w' t v ks :=
  ⟨ext_heap e h.at_, ownsRow_wrote h.keys (Wrote.ext (B := 0) (T := fun _ => False) e) id rfl, h.up, h.few, h.base⟩

set_option maxRecDepth 100000 in
set_option maxHeartbeats 800000 in
theorem tabFind (B : Nat) (v : Value) (ks : List IDd) (a : IDd) (t : Nat) (w : World) (ht : TabAt B w t v ks) :
    Calls Tryz.prog 88 #[.pointer (some ⟨t, 0, none⟩), .agg #[.string a.kind, .string a.name]] w (SrcIs w ks a) := by
  obtain ⟨pa, cap, rfl⟩ := ownsRow_form ht.keys
  have hw : t < w.heap.size := (Array.getElem?_eq_some_iff.1 ht.at_).1
  have X2 := hide (((Ext.refl w).alloc (.cells #[.pointer (some ⟨t, 0, none⟩)] 104)).alloc (.cells #[.string a.kind, .string a.name] 52))
  have ht2 := hide (ht.ext X2.out.drew)
  have c1 := X2.out.cells (two_c1 ht.at_)
  have c0 := hide (X2.out.drew.cells (two_c0 ht.at_))
  replace ht := hide ht
  go_enter Tryz.func88, Tryz.ntmps88
  go_wp2_with fail
  go_region_held3 (fun w' => w'.cell? ⟨w.heap.size, 0, none⟩ = some (.pointer (some ⟨t, 0, none⟩)) ∧ w'.cell? ⟨t, 1, none⟩ = some (.slice pa ks.length cap) ∧ w'.cell? ⟨w.heap.size + 1, 0, none⟩ = some (.string a.kind) ∧ w'.cell? ⟨w.heap.size + 1, 1, none⟩ = some (.string a.name)) (go_keep)
    ((go_at_call 110; refine (search B _ ks a w.heap.size t _ ht2.out.keys ht2.out.up ht2.out.few (by simp [go_sem]) c0.out).mono ?_; rintro e w1 ⟨i, b, rfl, hi, hs1, hs2, hs3, he1⟩; go_must (have q0 := he1.out.cells (p := ⟨w.heap.size, 0, none⟩) (v := .pointer (some ⟨t, 0, none⟩)) (by simp [go_sem]); have q1 := he1.out.cells (p := ⟨t, 1, none⟩) (v := .slice pa ks.length cap) (by simp [c1]); have q2 := he1.out.cells (p := ⟨w.heap.size + 1, 0, none⟩) (v := .string a.kind) (by simp [go_sem]); have q3 := he1.out.cells (p := ⟨w.heap.size + 1, 1, none⟩) (v := .string a.name) (by simp [go_sem]))))
  go_wp2
  go_ret2
  exact ⟨i, b, rfl, hi, hs1, hs2, hs3, X2.out.drew.trans he1.out⟩

set_option maxRecDepth 100000 in
set_option maxHeartbeats 800000 in
theorem tabHas (B : Nat) (v : Value) (ks : List IDd) (a : IDd) (t : Nat) (w : World) (ht : TabAt B w t v ks) :
    Calls Tryz.prog 55 #[.pointer (some ⟨t, 0, none⟩), .agg #[.string a.kind, .string a.name]] w fun e w' => ∃ b : Bool, e = .returned (.bool b) ∧ Hid (b = true ↔ a ∈ ks) ∧ Hid (Ext w w') := by
  have hf := hide (tabFind B v ks a t _ (ht.ext ((Ext.refl w).alloc (.cells #[.string a.kind, .string a.name] 52))))
  replace ht := hide ht
  go_enter Tryz.func55, Tryz.ntmps55
  go_wp2_with fail
  refine hf.out.mono ?_
  rintro e w1 ⟨i, b, rfl, hi, hs1, hs2, hs3, he1⟩
  go_wp2
  go_ret
  exact ⟨b, rfl, hs2, ((Ext.refl w).alloc _).trans he1.out⟩

attribute [local go_sem] Go.World.cell?_alloc_some
theorem two_set1 {w : World} {k : Nat} {a b : Value} {t : TypeId} {fz : Nat × Nat} (hk : w.heap[k]? = some (.cells #[a, b] t fz)) (v : Value) : (w.setCell ⟨k, 1, none⟩ v).heap[k]? = some (.cells #[a, v] t fz) := by
  simp [World.setCell, Array.getElem?_modify, hk]
/-- Only rows of keys and tables from B on have turned. -/
abbrev WroteT (B : Nat) (w w' : World) : Prop := Wrote B (fun t => t = 158 ∨ t = 153) w w'
/-- What a key put into a table leaves. -/
def PutIs (B : Nat) (w : World) (t : Nat) (ks : List IDd) (a : IDd) (e : Ending) (w' : World) : Prop :=
  ∃ (i : Nat) (pa : Option Addr) (cap n : Nat), e = .returned (.tuple #[]) ∧ Hid (Stands ks a i) ∧ Hid (TabAt B w' t (.slice pa n cap) (insL ks i a)) ∧ Hid (WroteT B w w')

set_option maxRecDepth 100000 in
set_option maxHeartbeats 1600000 in
theorem tabPut (B : Nat) (v : Value) (ks : List IDd) (a : IDd) (t : Nat) (w : World) (ht : TabAt B w t v ks) (ha : a ∉ ks) (hB : B ≤ w.heap.size) (hfew : ks.length + 1 ≤ 1000000) :
    Calls Tryz.prog 56 #[.pointer (some ⟨t, 0, none⟩), .agg #[.string a.kind, .string a.name], .agg #[]] w (PutIs B w t ks a) := by
  obtain ⟨pa, cap, rfl⟩ := ownsRow_form ht.keys
  have ht3 := hide (ht.ext (((Ext.refl w).alloc (.cells #[.string a.kind, .string a.name] 52)).alloc (.cells #[] 106)))
  have hf := hide (tabFind B _ ks a t _ ht3.out)
  replace ht := hide ht
  go_enter Tryz.func56, Tryz.ntmps56
  go_wp2_with fail
  refine hf.out.mono ?_
  rintro e w1 ⟨i, b, rfl, hi, hs1, hs2, hs3, he1⟩
  obtain rfl : b = false := by
    cases b
    · rfl
    · exact absurd (hs2.out.1 rfl) ha
  have hk1 := ht3.out.ext he1.out
  have c1 := two_c1 hk1.at_
  have f1 := row_frozen hk1.at_
  have k4 := ext_heap he1.out (ext_heap ((Ext.refl _).alloc _) (heap_alloc_new w _))
  have b0 := two_c0 k4
  have b1 := two_c1 k4
  have hin := hide (insKey B _ ks a i w1.heap.size (w1.drew.alloc (.cells #[.string a.kind, .string a.name] 158)) ((hk1.ext ((Ext.refl w1).drew.alloc _)).keys) (by have := Ext.size he1.out; simp at this ⊢; omega) hi (by omega) (heap_alloc_new w1.drew _) (by
    intro e
    rcases hk1.keys.2 with ⟨h, _⟩ | ⟨g, c, cur, h, _, hg, _⟩
    · rw [h] at e; simp [Value.ownBlock] at e
    · rw [h] at e; simp [Value.ownBlock] at e
      have := (Array.getElem?_eq_some_iff.1 hg).1
      omega))
  have hz0 : ∀ cs : Array Value, Array.foldl (fun (cs : Array Value) (x : Value × Nat) => cs.setIfInBounds (2 + x.snd) x.fst) cs (#[] : Array Value).zipIdx 0 0 = cs := fun cs => rfl
  replace hk1 := hide hk1; replace k4 := hide k4
  go_wp2_with fail
  go_region_with (go_at_call 89; refine hin.out.mono ?_; rintro e w2 ⟨pa2, cap2, n2, rfl, hn2, hK2, hW2⟩; go_must (have ht2 := Wrote.keeps (hW2.out) (ext_heap ((Ext.refl w1).drew.alloc _) hk1.out.at_) (by decide); have f2 := row_frozen ht2; have d1 := two_c1 ht2; replace ht2 := hide ht2))
  all_goals go_wp2
  all_goals
    refine ⟨rfl, .tuple #[], by simp [results, Tryz.results56], ?_⟩
    have hup := ht.out.up
    refine ⟨i, pa2, cap2, n2, rfl, hs1, ⟨two_set1 ht2.out _, ownsRow_set hK2.out ht2.out (by decide) _, hup.insert hs1.out ha, by rw [ins_len hi]; exact hfew, ht.out.base⟩, ?_⟩
    refine Wrote.setCell (p := ⟨t, 1, none⟩) ?_ ht.out.base ht2.out (.inr rfl) _
    exact (((Wrote.ext (((Ext.refl w).alloc _).alloc _)).then he1.out).then ((Ext.refl w1).drew.alloc _)).trans (hW2.out.mono (Nat.le_refl _) fun _ h => .inl h)

set_option maxRecDepth 100000 in
set_option maxHeartbeats 800000 in
theorem tabNew (w : World) :
    Calls Tryz.prog 52 #[.func (.func 53) #[] #[]] w fun e w' => e = .returned (.pointer (some ⟨w.heap.size, 0, none⟩)) ∧ Hid (TabAt w.heap.size w' w.heap.size (.slice none 0 0) []) ∧ Hid (Ext w w') := by
  go_enter Tryz.func52, Tryz.ntmps52
  go_wp2
  go_ret
  exact ⟨rfl, ⟨heap_alloc_new _ _, World.ownsRow_nil _ _ _ _, List.Pairwise.nil, Nat.zero_le _, Nat.le_refl _⟩, (Ext.refl w).alloc _⟩
end Go.Proofs.YtodhhjlemmmjcaaGreat
