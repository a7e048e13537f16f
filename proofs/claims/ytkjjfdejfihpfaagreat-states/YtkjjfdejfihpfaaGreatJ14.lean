/-
  A key is put into its place among the others: one law for all cases.
-/
/-
  A key is looked for among the others.
-/
import Derived.Test.YtkjjfdejfihpfaaGreatIns
import Derived.Test.YtkjjfdejfihpfaaGreatJ6
import Derived.Laws.BitsAllLaws
namespace Go.Proofs.YtkjjfdejfihpfaaGreat
open Go.RowKit

theorem cellsI_take : ∀ (l : List IDd) (i : Nat), (cellsI l).take (i * 2) = cellsI (l.take i)
  | [], i => by simp [cellsI]
  | _ :: _, 0 => by simp [cellsI]
  | x :: l, i + 1 => by
    have := cellsI_take l i
    rw [show (i + 1) * 2 = i * 2 + 2 by omega]
    simp only [cellsI, List.flatMap_cons, cI, List.take_succ_cons, List.cons_append, List.nil_append] at this ⊢
    rw [this]
theorem cellsI_drop : ∀ (l : List IDd) (i : Nat), (cellsI l).drop (i * 2) = cellsI (l.drop i)
  | [], i => by simp [cellsI]
  | _ :: _, 0 => by simp [cellsI]
  | x :: l, i + 1 => by
    have := cellsI_drop l i
    rw [show (i + 1) * 2 = i * 2 + 2 by omega]
    simp only [cellsI, List.flatMap_cons, cI, List.drop_succ_cons, List.cons_append, List.nil_append] at this ⊢
    rw [this]
theorem cellsI_ins (l : List IDd) (i : Nat) (a : IDd) : (cellsI l).take (i * 2) ++ [Value.string a.kind, Value.string a.name] ++ (cellsI l).drop (i * 2) = cellsI (insL l i a) := by
  rw [cellsI_take, cellsI_drop]; simp [cellsI, insL, List.flatMap_append, cI]
/-- Only rows of keys from B on have turned. -/
abbrev WroteK (B : Nat) (w w' : World) : Prop := Wrote B (· = 157) w w'
/-- The rows of a table: keys in a row of our own. -/
abbrev KeysV (B : Nat) (w : World) (v : Value) (ks : List IDd) : Prop := w.ownsRow B 157 2 v ks.length (cellsI ks)
/-- What is answered when a key was put into its place. -/
def InsIs (B : Nat) (w : World) (ks : List IDd) (e : Ending) (w' : World) : Prop :=
  ∃ (pa : Option Addr) (cap n : Nat), e = .returned (.slice pa n cap) ∧ Hid (n = ks.length) ∧ Hid (KeysV B w' (.slice pa n cap) ks) ∧ Hid (WroteK B w w')
theorem Wrote.kept {g B : Nat} {T : TypeId → Prop} {w w' : World} {c : Array Value} {t : TypeId} {fz : Nat × Nat} (h : Kept (· = g) w w') (hg : w.heap[g]? = some (.cells c t fz)) (ht : T t) (hb : B ≤ g) : Wrote B T w w' :=
  ⟨h.os, h.tape, h.output, h.size, fun k hk hd => h.block k hk (fun e => by
    subst e
    rcases hd with hd | hd
    · omega
    · exact hd _ _ _ hg ht)⟩

set_option maxRecDepth 100000 in
set_option maxHeartbeats 1600000 in
theorem insKey (B : Nat) (v : Value) (ks : List IDd) (a : IDd) (i vb : Nat) (w : World) (hv : KeysV B w v ks) (hB : B ≤ w.heap.size) (hi : i ≤ ks.length) (hn : ks.length ≤ 1000000)
    (hvb : w.heap[vb]? = some (.cells #[.string a.kind, .string a.name] 157 (0, 0))) (hne : some vb ≠ v.ownBlock) :
    Calls Tryz.prog 92 #[v, .int .i64 i, .slice (some ⟨vb, 0, none⟩) 1 1] w (InsIs B w (insL ks i a)) := by
  have hlen := ins_len (a := a) hi
  by_cases hin : i = ks.length
  · subst hin
    obtain ⟨i0, hi0, hz0, hz1, hz2⟩ := info_of infoRow
    obtain ⟨pa, cap, rfl⟩ := ownsRow_form hv
    have hcap : ks.length ≤ cap := by
      rcases hv.2 with ⟨h, h'⟩ | ⟨g, c, cur, h, _, _, h', _⟩
      · omega
      · cases h; exact h'
    have hc0 : w.cell? ⟨vb, 0, none⟩ = some (.string a.kind) := by simp [World.cell?, hvb]
    have hc1 : w.cell? ⟨vb, 1, none⟩ = some (.string a.name) := by simp [World.cell?, hvb]
    have hE : Hid (cellsI ks ++ [Value.string a.kind, Value.string a.name] = cellsI (insL ks ks.length a)) := by
      show _ = _
      simp [cellsI, insL, cI]
    have hlen' : Hid ((insL ks ks.length a).length = ks.length + 1) := hlen
    clear hlen
    replace hv := hide hv; replace hi0 := hide hi0; replace hvb := hide hvb; replace hne := hide hne
    go_enter Tryz.func92, Tryz.ntmps92
    go_wp2_with (at_builtin; go_must (refine wpList_append_lies _ rfl _ _ 149 rfl B 157 i0 (.agg #[.string ⟨#[]⟩, .string ⟨#[]⟩]) 2 40 Tryz.underlying149 hi0.out hz0 hz1 hz2 rfl (by omega) _ ks.length (cellsI ks) rfl hv.out ⟨vb, 0, none⟩ 1 1 [Value.string a.kind, Value.string a.name] rfl rfl ?_ (by simp [Value.oneCell']) (by omega) (by unfold maxLen; omega) (by omega) hB w.heap.size rfl ?_; (intro j u hu; rw [add_eq]; (match j, hu with | 0, hu => (simp at hu; subst hu; exact hc0) | 1, hu => (simp at hu; subst hu; exact hc1) | _ + 2, hu => (simp at hu))); intro g1 cap1 w1 hown1 hgrow1 hat1 hlt1))
    all_goals
      go_ret
      refine ⟨_, _, _, rfl, hlen'.out.symm, ?_, ?_⟩
      · show World.ownsRow _ _ _ _ _ _ _
        rw [hlen'.out, ← hE.out]; exact hown1
      · exact (Wrote.refl B _ w).grown hv.out rfl hgrow1
  · have hlt : i < ks.length := by omega
    rcases hv.2 with ⟨rfl, h0⟩ | ⟨g, cap, cur, rfl, hbg, hg, hcap, hcm, hcs, hcur⟩
    · omega
    have hne' : vb ≠ g := fun e => hne (by simp [Value.ownBlock, e])
    by_cases hroom : ks.length + 1 ≤ cap
    · refine (insShift g ks.length cap i vb cur (cellsI ks) a w hlt hroom (by unfold maxLen at hcm; omega) hg hcs hcur (cellsI_one ks) hvb hne').mono ?_
      rintro e w1 ⟨row, rfl, hr1, hr2, hr3, hk⟩
      refine ⟨_, _, _, rfl, hlen.symm, ?_, Wrote.kept hk hg rfl hbg⟩
      rw [cellsI_ins] at hr3
      refine ⟨cellsI_len _, .inr ⟨g, cap, row, by rw [hlen], hbg, hr1, by omega, hcm, hr2, by rw [hlen]; exact hr3⟩⟩
    · refine (insGrow g ks.length cap i vb cur (cellsI ks) a w hlt hcap (by omega) (by omega) hg hcs hcur (cellsI_one ks) hvb).mono ?_
      rintro e w1 ⟨row, N, c, rfl, hr1, hr2, hr3, hr4, hr5, hx, hN⟩
      refine ⟨_, _, _, rfl, hlen.symm, ?_, Wrote.ext hx⟩
      rw [cellsI_ins] at hr5
      refine ⟨cellsI_len _, .inr ⟨N, c, row, by rw [hlen], by omega, hr1, by omega, hr4, hr2, by rw [hlen]; exact hr5⟩⟩
end Go.Proofs.YtkjjfdejfihpfaaGreat

namespace Go.Proofs.YtkjjfdejfihpfaaGreat
open Go.RowKit

theorem keys_in {B : Nat} {w : World} {el : TypeId} {pa : Option Addr} {n cap : Nat} {ks : List IDd} (h : w.ownsRow B el 2 (.slice pa n cap) ks.length (cellsI ks)) : n = ks.length ∧ n ≤ cap ∧ cap ≤ maxLen ∧ (ks = [] ∨ ∃ g, pa = some ⟨g, 0, none⟩ ∧ IDsIn w g 0 ks) := by
  rcases h.2 with ⟨h1, h2⟩ | ⟨g, c, cur, h1, _, hg, hc, hm, hs, ht⟩
  · cases h1
    exact ⟨h2.symm, Nat.le_refl _, by unfold maxLen; omega, .inl (List.eq_nil_of_length_eq_zero h2)⟩
  · cases h1
    refine ⟨rfl, hc, hm, .inr ⟨g, rfl, fun i x hx => ?_⟩⟩
    have hlt : i < ks.length := (List.getElem?_eq_some_iff.1 hx).1
    have key : ∀ r, r < 2 → w.cell? ⟨g, i * 2 + r, none⟩ = (cI x)[r]? := by
      intro r hr
      have h1 : (cellsI ks)[i * 2 + r]? = (cI x)[r]? := flat_get cI_len hx hr
      rw [← h1, ← ht, List.getElem?_take, if_pos (by omega)]
      simp [World.cell?, hg]
    refine ⟨?_, ?_⟩
    · rw [show 0 + i * 2 = i * 2 + 0 by omega]; exact key 0 (by omega)
    · rw [show 0 + i * 2 + 1 = i * 2 + 1 by omega]; exact key 1 (by omega)

set_option maxRecDepth 100000 in
set_option maxHeartbeats 800000 in
theorem findCmp (x a : IDd) (p t : Nat) (w : World) (hp : w.cell? ⟨p, 0, none⟩ = some (.pointer (some ⟨t, 0, none⟩))) (ht : w.cell? ⟨t, 0, none⟩ = some (.func (.func 76) #[] #[])) :
    Calls Tryz.prog 101 #[.agg #[.string x.kind, .string x.name], .agg #[.string a.kind, .string a.name], .pointer (some ⟨p, 0, none⟩)] w fun e w' => e = .returned (.int .i64 (cmpI x a)) ∧ Ext w w' := by
  have hpl : p < w.heap.size := World.block_lt_of_cell? w _ hp
  have htl : t < w.heap.size := World.block_lt_of_cell? w _ ht
  have g0 := World.cell?_alloc_past (w := w.alloc (.cells #[.string x.kind, .string x.name] 157)) (.cells #[.string a.kind, .string a.name] 37) p 0 (by simp; omega)
  have g1 := World.cell?_alloc_past (w := w.alloc (.cells #[.string x.kind, .string x.name] 157)) (.cells #[.string a.kind, .string a.name] 37) t 0 (by simp; omega)
  rw [World.cell?_alloc_past (w := w) _ p 0 hpl, hp] at g0
  rw [World.cell?_alloc_past (w := w) _ t 0 htl, ht] at g1
  replace hp := hide hp; replace ht := hide ht; replace hpl := hide hpl; replace htl := hide htl
  go_enter Tryz.func101, Tryz.ntmps101
  go_wp2_with fail
  go_region_held3 (fun w' => w'.cell? ⟨p, 0, none⟩ = some (.pointer (some ⟨t, 0, none⟩)) ∧ w'.cell? ⟨t, 0, none⟩ = some (.func (.func 76) #[] #[]) ∧ w'.cell? ⟨w.heap.size, 0, none⟩ = some (.string x.kind) ∧ w'.cell? ⟨w.heap.size, 1, none⟩ = some (.string x.name) ∧ w'.cell? ⟨w.heap.size + 1, 0, none⟩ = some (.string a.kind) ∧ w'.cell? ⟨w.heap.size + 1, 1, none⟩ = some (.string a.name)) (go_keep)
    ((go_at_call 76; refine (compareIDs x a _).mono ?_; rintro e w1 ⟨rfl, he1⟩; go_must (have q0 := he1.cells (p := ⟨p, 0, none⟩) (by simp [g0]; rfl); have q1 := he1.cells (p := ⟨t, 0, none⟩) (by simp [g1]; rfl); have q2 := he1.cells (p := ⟨w.heap.size, 0, none⟩) (v := .string x.kind) (by simp [go_sem]); have q3 := he1.cells (p := ⟨w.heap.size, 1, none⟩) (v := .string x.name) (by simp [go_sem]); have q4 := he1.cells (p := ⟨w.heap.size + 1, 0, none⟩) (v := .string a.kind) (by simp [go_sem]); have q5 := he1.cells (p := ⟨w.heap.size + 1, 1, none⟩) (v := .string a.name) (by simp [go_sem])); replace he1 := hide he1))
  go_wp2
  go_ret
  exact ⟨rfl, (((Ext.refl _).alloc _).alloc _).drew.trans he1.out⟩

theorem Up.stands {ks : List IDd} {a : IDd} {k : Nat} {x : IDd} (hu : Up ks) (hx : ks[k]? = some x) (h : cmpI x a < 0) : ∀ (j : Nat) y, j < k + 1 → ks[j]? = some y → cmpI y a < 0 := fun j y hj hy => by
  by_cases e : j = k
  · subst e; rw [hx] at hy; cases hy; exact h
  · exact cmpI_trans (hu.at hy hx (by omega)) h
theorem Up.stands' {ks : List IDd} {a : IDd} {k : Nat} {x : IDd} (hu : Up ks) (hx : ks[k]? = some x) (h : ¬ cmpI x a < 0) : ∀ (j : Nat) y, k ≤ j → ks[j]? = some y → 0 ≤ cmpI y a := fun j y hj hy => Int.not_lt.1 fun hn => by
  by_cases e : j = k
  · subst e; rw [hx] at hy; cases hy; exact h hn
  · exact h (cmpI_trans (hu.at hx hy (by omega)) hn)
/-- What the look for a key answers. -/
def SrcIs (w : World) (ks : List IDd) (a : IDd) (e : Ending) (w' : World) : Prop :=
  ∃ (i : Nat) (b : Bool), e = .returned (.tuple #[.int .i64 i, .bool b]) ∧ i ≤ ks.length ∧ Hid (Stands ks a i) ∧ Hid (b = true ↔ a ∈ ks) ∧ Hid (b = true → ks[i]? = some a) ∧ Hid (Ext w w')

set_option maxRecDepth 100000 in
set_option maxHeartbeats 1600000 in
theorem search (B : Nat) (v : Value) (ks : List IDd) (a : IDd) (p t : Nat) (w : World) (hv : KeysV B w v ks) (hu : Up ks) (hn : ks.length ≤ 1000000)
    (hp : w.cell? ⟨p, 0, none⟩ = some (.pointer (some ⟨t, 0, none⟩))) (ht : w.cell? ⟨t, 0, none⟩ = some (.func (.func 76) #[] #[])) :
    Calls Tryz.prog 100 #[v, .agg #[.string a.kind, .string a.name], .func (.func 101) #[] #[.pointer (some ⟨p, 0, none⟩)]] w (SrcIs w ks a) := by
  obtain ⟨pa, cap, rfl⟩ := ownsRow_form hv
  obtain ⟨-, hc1, hc2, hin⟩ := keys_in hv
  unfold maxLen at hc2
  replace hin := hide hin; replace hp := hide hp; replace ht := hide ht; replace hv := hide hv; replace hu := hide hu
  go_enter Tryz.func100, Tryz.ntmps100
  go_wp2_with fail
  go_loopw [9, 10] (fun i j wr => ∃ i' j' : Nat, i' ≤ j' ∧ j' ≤ ks.length ∧ i = .int .i64 i' ∧ j = .int .i64 j' ∧ Hid (∀ (k : Nat) x, k < i' → ks[k]? = some x → cmpI x a < 0) ∧ Hid (∀ (k : Nat) x, j' ≤ k → ks[k]? = some x → 0 ≤ cmpI x a) ∧ Hid (Ext (w.alloc (.cells #[.string a.kind, .string a.name] 37)) wr)) (fun i j _ => (intOf j).toNat - (intOf i).toNat)
  case atStart => exact ⟨0, ks.length, Nat.zero_le _, Nat.le_refl _, rfl, rfl, fun _ _ h => absurd h (by omega), fun k x h hx => absurd (List.getElem?_eq_some_iff.1 hx).1 (by omega), Ext.refl _⟩
  case round =>
    obtain ⟨i, j, hij, hj, rfl, rfl, hA, hB, hx⟩ := hrel
    have X0 := hide (((Ext.refl w).alloc _).trans hx.out)
    have m0 := hx.out.cells (p := ⟨w.heap.size, 0, none⟩) (v := .string a.kind) (by simp [go_sem])
    have m1 := hx.out.cells (p := ⟨w.heap.size, 1, none⟩) (v := .string a.name) (by simp [go_sem])
    have hp1 := hide (X0.out.drew.cells hp.out)
    have ht1 := hide (X0.out.drew.cells ht.out)
    by_cases hlt : i < j
    · obtain ⟨h, hh⟩ : ∃ h, h = (i + j) / 2 := ⟨_, rfl⟩
      have e1 : IntKind.u64.wrap ((i : Int) + (j : Int)) = ((i + j : Nat) : Int) := by rw [IntKind.wrap_u64]; omega
      obtain ⟨x, hxh⟩ := some_of_lt (show h < ks.length by omega)
      rcases hin.out with hnil | ⟨g, rfl, hI⟩
      · rw [hnil] at hj; simp at hj; omega
      obtain ⟨k0, k1⟩ := (hI.ext X0.out) h x hxh
      have h2 : (h : Int) < (ks.length : Int) := by omega
      have h3 : (0 : Int) ≤ (h : Int) := by omega
      have h4 : ((i : Int) + (j : Int)) / 2 = (h : Int) := by omega
      have hlo : i ≤ h := by omega
      have hhi : h < j := by omega
      rw [Nat.zero_add] at k0 k1
      replace hI := hide hI; replace hxh := hide hxh; replace hh := hide hh
      go_wp2_with fail
      go_region_held3 (fun w' => w'.cell? ⟨g, h * 2, none⟩ = some (.string x.kind) ∧ w'.cell? ⟨g, h * 2 + 1, none⟩ = some (.string x.name) ∧ w'.cell? ⟨w.heap.size, 0, none⟩ = some (.string a.kind) ∧ w'.cell? ⟨w.heap.size, 1, none⟩ = some (.string a.name)) (go_keep)
        ((go_at_call 101; refine (findCmp x a p t wr.drew hp1.out ht1.out).mono ?_; rintro e w1 ⟨rfl, he1⟩; go_must (have q0 := he1.cells (p := ⟨g, h * 2, none⟩) (v := .string x.kind) (by simpa using k0); have q1 := he1.cells (p := ⟨g, h * 2 + 1, none⟩) (v := .string x.name) (by simpa using k1); have q2 := he1.cells (p := ⟨w.heap.size, 0, none⟩) (v := .string a.kind) (by simpa using m0); have q3 := he1.cells (p := ⟨w.heap.size, 1, none⟩) (v := .string a.name) (by simpa using m1)); replace he1 := hide he1))
      by_cases hb : cmpI x a < 0
      · go_wp2_with fail
        go_roundw
        case rel => exact ⟨h + 1, j, by omega, hj, by go_num, rfl, hu.out.stands hxh.out hb, hB, hx.out.drew.trans he1.out⟩
        case measure => simp [intOf]; omega
      · have hb' : ¬ cmpI x a < 0 := hb
        replace hb' := hide hb'
        go_wp2_with fail
        go_roundw
        case rel => exact ⟨i, h, by omega, by omega, rfl, rfl, hA, hu.out.stands' hxh.out hb'.out, hx.out.drew.trans he1.out⟩
        case measure => simp [intOf]; omega
    · obtain rfl : i = j := by omega
      have hst : Hid (Stands ks a i) := ⟨hj, hA.out, fun k x hk hx => Int.not_lt.2 (hB.out k x hk hx)⟩
      by_cases hend : i < ks.length
      · obtain ⟨x, hxh⟩ := some_of_lt hend
        rcases hin.out with hnil | ⟨g, rfl, hI⟩
        · rw [hnil] at hend; simp at hend
        obtain ⟨k0, k1⟩ := (hI.ext X0.out) i x hxh
        have h2 : (i : Int) < (ks.length : Int) := by omega
        have h3 : (0 : Int) ≤ (i : Int) := by omega
        rw [Nat.zero_add] at k0 k1
        replace hI := hide hI; replace hxh := hide hxh
        go_wp2_with fail
        go_region_held3 (fun w' => w'.cell? ⟨g, i * 2, none⟩ = some (.string x.kind) ∧ w'.cell? ⟨g, i * 2 + 1, none⟩ = some (.string x.name) ∧ w'.cell? ⟨w.heap.size, 0, none⟩ = some (.string a.kind) ∧ w'.cell? ⟨w.heap.size, 1, none⟩ = some (.string a.name)) (go_keep)
          ((go_at_call 101; refine (findCmp x a p t wr.drew hp1.out ht1.out).mono ?_; rintro e w1 ⟨rfl, he1⟩; go_must (have q0 := he1.cells (p := ⟨g, i * 2, none⟩) (v := .string x.kind) (by simpa using k0); have q1 := he1.cells (p := ⟨g, i * 2 + 1, none⟩) (v := .string x.name) (by simpa using k1); have q2 := he1.cells (p := ⟨w.heap.size, 0, none⟩) (v := .string a.kind) (by simpa using m0); have q3 := he1.cells (p := ⟨w.heap.size, 1, none⟩) (v := .string a.name) (by simpa using m1)); replace he1 := hide he1))
        go_wp2
        go_ret2
        refine ⟨i, cmpI x a == 0, rfl, hj, hst, ?_, ?_, X0.out.drew.trans he1.out⟩
        · show _ ↔ _
          constructor
          · intro h; exact Stands.there hxh.out (by simpa using h)
          · intro h
            by_cases e : cmpI x a = 0
            · simpa using e
            · exact absurd h (hst.out.gone hu.out fun y hy => by rw [hxh.out] at hy; cases hy; exact e)
        · intro h
          have e : x = a := cmpI_zero.1 (by simpa using h)
          rw [← e]; exact hxh.out
      · have h2 : ¬ (i : Int) < (ks.length : Int) := by omega
        go_wp2_with fail
        go_quiet (fail)
        go_wp2
        go_ret2
        refine ⟨i, false, rfl, hj, hst, ?_, ?_, X0.out.drewN _⟩
        · show _ ↔ _
          constructor
          · intro h; cases h
          · intro h
            exact absurd h (hst.out.gone hu.out fun y hy => absurd (List.getElem?_eq_some_iff.1 hy).1 (by omega))
        · intro h; cases h
end Go.Proofs.YtkjjfdejfihpfaaGreat
