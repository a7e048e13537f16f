/-
  A key is put into its place among the others: one law for all cases.
-/
/-
  A key is looked for among the rows (table A).
-/
/-
  The table A: what its methods answer.
-/
/-
  The table A: what a key that is put into it leaves.
-/
/-
  A key is looked for among the rows (table E).
-/
import Derived.Test.YtfmcgdglalljgaaGreatDoorJ18
import Derived.Test.YtfmcgdglalljgaaGreatDoorJ10
import Derived.Laws.BitsAllLaws
namespace Go.Proofs.YtfmcgdglalljgaaGreatDoor
open Go.RowKit

theorem cellsI_take : ∀ (l : List IDd) (i : Nat), (cellsI l).take (i * 2) = cellsI (l.take i)
  | [], i => by simp [cellsI]
  | _ :: _, 0 => by simp [cellsI]
  | x :: l, i + 1 => by
    have := cellsI_take l i
    rw [show (i + 1) * 2 = i * 2 + 2 by omega]
    simp only [cellsI, List.flatMap_cons, cI, List.take_succ_cons, List.cons_append, List.nil_append] at this ⊢
    rw [this]
theorem cellsI_drop : ∀ (l : List IDd) (i : Nat), (cellsI l).drop (i * 2) = cellsI (l.drop i)
  | [], i => by simp [cellsI]
  | _ :: _, 0 => by simp [cellsI]
  | x :: l, i + 1 => by
    have := cellsI_drop l i
    rw [show (i + 1) * 2 = i * 2 + 2 by omega]
    simp only [cellsI, List.flatMap_cons, cI, List.drop_succ_cons, List.cons_append, List.nil_append] at this ⊢
    rw [this]
theorem cellsI_ins (l : List IDd) (i : Nat) (a : IDd) : (cellsI l).take (i * 2) ++ [Value.string a.kind, Value.string a.name] ++ (cellsI l).drop (i * 2) = cellsI (insL l i a) := by
  rw [cellsI_take, cellsI_drop]; simp [cellsI, insL, List.flatMap_append, cI]
/-- Only rows of keys from B on have turned. -/
abbrev WroteK (B : Nat) (w w' : World) : Prop := Wrote B (· = 218) w w'
/-- The rows of a table: keys in a row of our own. -/
abbrev KeysV (B : Nat) (w : World) (v : Value) (ks : List IDd) : Prop := w.ownsRow B 218 2 v ks.length (cellsI ks)
/-- What is answered when a key was put into its place. -/
def InsIs (B : Nat) (w : World) (ks : List IDd) (e : Ending) (w' : World) : Prop :=
  ∃ (pa : Option Addr) (cap n : Nat), e = .returned (.slice pa n cap) ∧ Hid (n = ks.length) ∧ Hid (KeysV B w' (.slice pa n cap) ks) ∧ Hid (WroteK B w w')
theorem Wrote.kept {g B : Nat} {T : TypeId → Prop} {w w' : World} {c : Array Value} {t : TypeId} {fz : Nat × Nat} (h : Kept (· = g) w w') (hg : w.heap[g]? = some (.cells c t fz)) (ht : T t) (hb : B ≤ g) : Wrote B T w w' :=
  ⟨h.os, h.tape, h.output, h.size, fun k hk hd => h.block k hk (fun e => by
    subst e
    rcases hd with hd | hd
    · omega
    · exact hd _ _ _ hg ht)⟩

set_option maxRecDepth 100000 in
set_option maxHeartbeats 1600000 in
theorem insKey (B : Nat) (v : Value) (ks : List IDd) (a : IDd) (i vb : Nat) (w : World) (hv : KeysV B w v ks) (hB : B ≤ w.heap.size) (hi : i ≤ ks.length) (hn : ks.length ≤ 1000000)
    (hvb : w.heap[vb]? = some (.cells #[.string a.kind, .string a.name] 218 (0, 0))) (hne : some vb ≠ v.ownBlock) :
    Calls Tryz.prog 150 #[v, .int .i64 i, .slice (some ⟨vb, 0, none⟩) 1 1] w (InsIs B w (insL ks i a)) := by
  have hlen := ins_len (a := a) hi
  by_cases hin : i = ks.length
  · subst hin
    obtain ⟨i0, hi0, hz0, hz1, hz2⟩ := info_of infoRow
    obtain ⟨pa, cap, rfl⟩ := ownsRow_form hv
    have hcap : ks.length ≤ cap := by
      rcases hv.2 with ⟨h, h'⟩ | ⟨g, c, cur, h, _, _, h', _⟩
      · omega
      · cases h; exact h'
    have hc0 : w.cell? ⟨vb, 0, none⟩ = some (.string a.kind) := by simp [World.cell?, hvb]
    have hc1 : w.cell? ⟨vb, 1, none⟩ = some (.string a.name) := by simp [World.cell?, hvb]
    have hE : Hid (cellsI ks ++ [Value.string a.kind, Value.string a.name] = cellsI (insL ks ks.length a)) := by
      show _ = _
      simp [cellsI, insL, cI]
    have hlen' : Hid ((insL ks ks.length a).length = ks.length + 1) := hlen
    clear hlen
    replace hv := hide hv; replace hi0 := hide hi0; replace hvb := hide hvb; replace hne := hide hne
    go_enter Tryz.func150, Tryz.ntmps150
    go_wp2_with (at_builtin; go_must (refine wpList_append_lies _ rfl _ _ 214 rfl B 218 i0 (.agg #[.string ⟨#[]⟩, .string ⟨#[]⟩]) 2 40 Tryz.underlying214 hi0.out hz0 hz1 hz2 rfl (by omega) _ ks.length (cellsI ks) rfl hv.out ⟨vb, 0, none⟩ 1 1 [Value.string a.kind, Value.string a.name] rfl rfl ?_ (by simp [Value.oneCell']) (by omega) (by unfold maxLen; omega) (by omega) hB w.heap.size rfl ?_; (intro j u hu; rw [add_eq]; (match j, hu with | 0, hu => (simp at hu; subst hu; exact hc0) | 1, hu => (simp at hu; subst hu; exact hc1) | _ + 2, hu => (simp at hu))); intro g1 cap1 w1 hown1 hgrow1 hat1 hlt1))
    all_goals
      go_ret
      refine ⟨_, _, _, rfl, hlen'.out.symm, ?_, ?_⟩
      · show World.ownsRow _ _ _ _ _ _ _
        rw [hlen'.out, ← hE.out]; exact hown1
      · exact (Wrote.refl B _ w).grown hv.out rfl hgrow1
  · have hlt : i < ks.length := by omega
    rcases hv.2 with ⟨rfl, h0⟩ | ⟨g, cap, cur, rfl, hbg, hg, hcap, hcm, hcs, hcur⟩
    · omega
    have hne' : vb ≠ g := fun e => hne (by simp [Value.ownBlock, e])
    by_cases hroom : ks.length + 1 ≤ cap
    · refine (insShift g ks.length cap i vb cur (cellsI ks) a w hlt hroom (by unfold maxLen at hcm; omega) hg hcs hcur (cellsI_one ks) hvb hne').mono ?_
      rintro e w1 ⟨row, rfl, hr1, hr2, hr3, hk⟩
      refine ⟨_, _, _, rfl, hlen.symm, ?_, Wrote.kept hk hg rfl hbg⟩
      rw [cellsI_ins] at hr3
      refine ⟨cellsI_len _, .inr ⟨g, cap, row, by rw [hlen], hbg, hr1, by omega, hcm, hr2, by rw [hlen]; exact hr3⟩⟩
    · refine (insGrow g ks.length cap i vb cur (cellsI ks) a w hlt hcap (by omega) (by omega) hg hcs hcur (cellsI_one ks) hvb).mono ?_
      rintro e w1 ⟨row, N, c, rfl, hr1, hr2, hr3, hr4, hr5, hx, hN⟩
      refine ⟨_, _, _, rfl, hlen.symm, ?_, Wrote.ext hx⟩
      rw [cellsI_ins] at hr5
      refine ⟨cellsI_len _, .inr ⟨N, c, row, by rw [hlen], by omega, hr1, by omega, hr4, hr2, by rw [hlen]; exact hr5⟩⟩
end Go.Proofs.YtfmcgdglalljgaaGreatDoor

namespace Go.Proofs.YtfmcgdglalljgaaGreatDoor
open Go.RowKit

theorem rowsA_in {B : Nat} {w : World} {pa : Option Addr} {n cap : Nat} {rs : List RowA} (h : RowsA B w (.slice pa n cap) rs) : n = rs.length ∧ n ≤ cap ∧ cap ≤ maxLen ∧ (rs = [] ∨ ∃ g, pa = some ⟨g, 0, none⟩ ∧ ∀ (i : Nat) x, rs[i]? = some x → ∀ r u, (cRowA x)[r]? = some u → w.cell? ⟨g, i * 5 + r, none⟩ = some u) := by
  rcases h.2 with ⟨h1, h2⟩ | ⟨g, c, cur, h1, _, hg, hc, hm, hs, ht⟩
  · cases h1
    exact ⟨h2.symm, Nat.le_refl _, by unfold maxLen; omega, .inl (List.eq_nil_of_length_eq_zero h2)⟩
  · cases h1
    refine ⟨rfl, hc, hm, .inr ⟨g, rfl, fun i x hx r u hu => ?_⟩⟩
    have hlt : i < rs.length := (List.getElem?_eq_some_iff.1 hx).1
    have hr : r < 5 := (List.getElem?_eq_some_iff.1 hu).1
    have h1 : (cellsG cRowA rs)[i * 5 + r]? = (cRowA x)[r]? := flat_get cRowA_len hx hr
    rw [← hu, ← h1, ← ht, List.getElem?_take, if_pos (by omega)]
    simp [World.cell?, hg]

set_option maxRecDepth 100000 in
set_option maxHeartbeats 800000 in
theorem findCmpA (x : RowA) (a : ByteArray) (p t : Nat) (w : World) (hp : w.cell? ⟨p, 0, none⟩ = some (.pointer (some ⟨t, 0, none⟩))) (ht : w.cell? ⟨t, 0, none⟩ = some (.func (.func 103) #[] #[])) :
    Calls Tryz.prog 181 #[.agg #[.string x.key, .string x.val.name, .bool x.val.isText, .string x.val.text, .int .i64 x.val.number], .string a, .pointer (some ⟨p, 0, none⟩)] w fun e w' => e = .returned (.int .i64 (cmpS x.key a)) ∧ Ext w w' := by
  have hpl : p < w.heap.size := World.block_lt_of_cell? w _ hp
  have htl : t < w.heap.size := World.block_lt_of_cell? w _ ht
  have g0 := World.cell?_alloc_past (w := w) (.cells #[.string x.key, .string x.val.name, .bool x.val.isText, .string x.val.text, .int .i64 x.val.number] 212) p 0 hpl
  have g1 := World.cell?_alloc_past (w := w) (.cells #[.string x.key, .string x.val.name, .bool x.val.isText, .string x.val.text, .int .i64 x.val.number] 212) t 0 htl
  rw [hp] at g0
  rw [ht] at g1
  replace hp := hide hp; replace ht := hide ht; replace hpl := hide hpl; replace htl := hide htl
  go_enter Tryz.func181, Tryz.ntmps181
  go_wp2_with fail
  go_region_held3 (fun w' => w'.cell? ⟨p, 0, none⟩ = some (.pointer (some ⟨t, 0, none⟩)) ∧ w'.cell? ⟨t, 0, none⟩ = some (.func (.func 103) #[] #[]) ∧ w'.cell? ⟨w.heap.size, 0, none⟩ = some (.string x.key)) (go_keep)
    ((go_at_call 103; refine (Tryz.strings_Compare _ _ _).mono ?_; rintro e w1 ⟨rfl, rfl⟩))
  go_wp2
  go_ret
  exact ⟨rfl, ((Ext.refl _).alloc _).drew⟩

/-- What the look for a key answers. -/
def SrcIsA (w : World) (rs : List RowA) (a : ByteArray) (e : Ending) (w' : World) : Prop :=
  ∃ (i : Nat) (b : Bool), e = .returned (.tuple #[.int .i64 i, .bool b]) ∧ i ≤ rs.length ∧ Hid (StandsG cmpS RowA.key rs a i) ∧ Hid (b = true ↔ HasK RowA.key rs a) ∧ Hid (b = true → ∃ x, rs[i]? = some x ∧ x.key = a) ∧ Hid (Ext w w')

set_option maxRecDepth 100000 in
set_option maxHeartbeats 3200000 in
theorem searchA (B : Nat) (v : Value) (rs : List RowA) (a : ByteArray) (p t : Nat) (w : World) (hv : RowsA B w v rs) (hu : UpG cmpS RowA.key rs) (hn : rs.length ≤ 1000000)
    (hp : w.cell? ⟨p, 0, none⟩ = some (.pointer (some ⟨t, 0, none⟩))) (ht : w.cell? ⟨t, 0, none⟩ = some (.func (.func 103) #[] #[])) :
    Calls Tryz.prog 180 #[v, .string a, .func (.func 181) #[] #[.pointer (some ⟨p, 0, none⟩)]] w (SrcIsA w rs a) := by
  obtain ⟨pa, cap, rfl⟩ := ownsRow_form hv
  obtain ⟨-, hc1, hc2, hin⟩ := rowsA_in hv
  unfold maxLen at hc2
  replace hin := hide hin; replace hp := hide hp; replace ht := hide ht; replace hv := hide hv; replace hu := hide hu
  go_enter Tryz.func180, Tryz.ntmps180
  go_wp2_with fail
  go_loopw [9, 10] (fun i j wr => ∃ i' j' : Nat, i' ≤ j' ∧ j' ≤ rs.length ∧ i = .int .i64 i' ∧ j = .int .i64 j' ∧ Hid (∀ (k : Nat) x, k < i' → rs[k]? = some x → cmpS x.key a < 0) ∧ Hid (∀ (k : Nat) x, j' ≤ k → rs[k]? = some x → 0 ≤ cmpS x.key a) ∧ Hid (Ext w wr)) (fun i j _ => (intOf j).toNat - (intOf i).toNat)
  case atStart => exact ⟨0, rs.length, Nat.zero_le _, Nat.le_refl _, rfl, rfl, fun _ _ h => absurd h (by omega), fun k x h hx => absurd (List.getElem?_eq_some_iff.1 hx).1 (by omega), Ext.refl _⟩
  case round =>
    obtain ⟨i, j, hij, hj, rfl, rfl, hA, hB, hx⟩ := hrel
    have X0 := hx
    have hp1 := hide (X0.out.cells hp.out)
    have ht1 := hide (X0.out.cells ht.out)
    by_cases hlt : i < j
    · obtain ⟨h, hh⟩ : ∃ h, h = (i + j) / 2 := ⟨_, rfl⟩
      have e1 : IntKind.u64.wrap ((i : Int) + (j : Int)) = ((i + j : Nat) : Int) := by rw [IntKind.wrap_u64]; omega
      obtain ⟨x, hxh⟩ := some_of_lt (show h < rs.length by omega)
      rcases hin.out with hnil | ⟨g, rfl, hI⟩
      · rw [hnil] at hj; simp at hj; omega
      replace hI := hI h x hxh
      have k0 := X0.out.cells (hI 0 _ rfl)
      have k1 := X0.out.cells (hI 1 _ rfl)
      have k2 := X0.out.cells (hI 2 _ rfl)
      have k3 := X0.out.cells (hI 3 _ rfl)
      have k4 := X0.out.cells (hI 4 _ rfl)
      rw [Nat.add_zero] at k0
      have h2 : (h : Int) < (rs.length : Int) := by omega
      have h3 : (0 : Int) ≤ (h : Int) := by omega
      have h4 : ((i : Int) + (j : Int)) / 2 = (h : Int) := by omega
      have hlo : i ≤ h := by omega
      have hhi : h < j := by omega
      replace hI := hide hI; replace hxh := hide hxh; replace hh := hide hh
      go_wp2_with fail
      refine (findCmpA x a p t wr hp1.out ht1.out).mono ?_
      rintro e w1 ⟨rfl, he1⟩
      replace he1 := hide he1
      by_cases hb : cmpS x.key a < 0
      · go_wp2_with fail
        go_roundw
        case rel => exact ⟨h + 1, j, by omega, hj, by go_num, rfl, hu.out.stands ordS hxh.out hb, hB, hx.out.trans he1.out⟩
        case measure => simp [intOf]; omega
      · have hb' : ¬ cmpS x.key a < 0 := hb
        replace hb' := hide hb'
        go_wp2_with fail
        go_roundw
        case rel => exact ⟨i, h, by omega, by omega, rfl, rfl, hA, hu.out.stands' ordS hxh.out (by first | exact hb'.out | exact Int.not_lt.2 hb'.out), hx.out.trans he1.out⟩
        case measure => simp [intOf]; omega
    · obtain rfl : i = j := by omega
      have hst : Hid (StandsG cmpS RowA.key rs a i) := ⟨hj, hA.out, fun k x hk hx => Int.not_lt.2 (hB.out k x hk hx)⟩
      by_cases hend : i < rs.length
      · obtain ⟨x, hxh⟩ := some_of_lt hend
        rcases hin.out with hnil | ⟨g, rfl, hI⟩
        · rw [hnil] at hend; simp at hend
        replace hI := hI i x hxh
        have k0 := X0.out.cells (hI 0 _ rfl)
        have k1 := X0.out.cells (hI 1 _ rfl)
        have k2 := X0.out.cells (hI 2 _ rfl)
        have k3 := X0.out.cells (hI 3 _ rfl)
        have k4 := X0.out.cells (hI 4 _ rfl)
        rw [Nat.add_zero] at k0
        have h2 : (i : Int) < (rs.length : Int) := by omega
        have h3 : (0 : Int) ≤ (i : Int) := by omega
        replace hI := hide hI; replace hxh := hide hxh
        go_wp2_with fail
        refine (findCmpA x a p t wr hp1.out ht1.out).mono ?_
        rintro e w1 ⟨rfl, he1⟩
        replace he1 := hide he1
        go_wp2
        go_ret2
        refine ⟨i, cmpS x.key a == 0, rfl, hj, hst, ?_, ?_, X0.out.trans he1.out⟩
        · show _ ↔ _
          constructor
          · intro h; exact StandsG.there ordS hxh.out (by simpa using h)
          · intro h
            by_cases e : cmpS x.key a = 0
            · simpa using e
            · exact absurd h (hst.out.gone ordS hu.out fun y hy => by rw [hxh.out] at hy; cases hy; exact e)
        · intro h
          exact ⟨x, hxh.out, ordS.zero.1 (by simpa using h)⟩
      · have h2 : ¬ (i : Int) < (rs.length : Int) := by omega
        go_wp2
        go_ret2
        refine ⟨i, false, rfl, hj, hst, ?_, ?_, X0.out⟩
        · show _ ↔ _
          constructor
          · intro h; cases h
          · intro h
            exact absurd h (hst.out.gone ordS hu.out fun y hy => absurd (List.getElem?_eq_some_iff.1 hy).1 (by omega))
        · intro h; cases h
end Go.Proofs.YtfmcgdglalljgaaGreatDoor

namespace Go.Proofs.YtfmcgdglalljgaaGreatDoor
open Go.RowKit

/-- A table lies in memory. -/
structure TabAtA (B : Nat) (w : World) (t : Nat) (v : Value) (rs : List RowA) : Prop where
  at_ : w.heap[t]? = some (.cells #[.func (.func 103) #[] #[], v] 210 (0, 0))
  rows : RowsA B w v rs
  up : UpG cmpS RowA.key rs
  few : rs.length ≤ 1000000
  base : B ≤ t
theorem tabA_c0 {w : World} {k : Nat} {a b : Value} {t : TypeId} {fz : Nat × Nat} (hk : w.heap[k]? = some (.cells #[a, b] t fz)) : w.cell? ⟨k, 0, none⟩ = some a := by simp [World.cell?, hk]
theorem tabA_c1 {w : World} {k : Nat} {a b : Value} {t : TypeId} {fz : Nat × Nat} (hk : w.heap[k]? = some (.cells #[a, b] t fz)) : w.cell? ⟨k, 1, none⟩ = some b := by simp [World.cell?, hk]
theorem tabA_set {w : World} {k : Nat} {a b : Value} {t : TypeId} {fz : Nat × Nat} (hk : w.heap[k]? = some (.cells #[a, b] t fz)) (v : Value) : (w.setCell ⟨k, 1, none⟩ v).heap[k]? = some (.cells #[a, v] t fz) := by
  simp [World.setCell, Array.getElem?_modify, hk]
theorem TabAtA.ext {B : Nat} {w w' : World} {t : Nat} {v : Value} {rs : List RowA} (h : TabAtA B w t v rs) (e : Ext w w') : TabAtA B w' t v rs :=
  ⟨ext_heap e h.at_, ownsRow_wrote h.rows (Wrote.ext (B := 0) (T := fun _ => False) e) id rfl, h.up, h.few, h.base⟩
theorem TabAtA.low {B B' : Nat} {w : World} {t : Nat} {v : Value} {rs : List RowA} (h : TabAtA B w t v rs) (hb : B' ≤ B) : TabAtA B' w t v rs := ⟨h.at_, ownsRow_low h.rows hb, h.up, h.few, Nat.le_trans hb h.base⟩
theorem TabAtA.wrote {B B' : Nat} {T : TypeId → Prop} {w w' : World} {t : Nat} {v : Value} {rs : List RowA} (h : TabAtA B w t v rs) (k : Wrote B' T w w') (hT : ¬ T 212 ∧ ¬ T 210) : TabAtA B w' t v rs :=
  ⟨k.keeps h.at_ hT.2, ownsRow_wrote h.rows k hT.1 rfl, h.up, h.few, h.base⟩

set_option maxRecDepth 100000 in
set_option maxHeartbeats 800000 in
theorem tabFindA (B : Nat) (v : Value) (rs : List RowA) (a : ByteArray) (t : Nat) (w : World) (ht : TabAtA B w t v rs) :
    Calls Tryz.prog 169 #[.pointer (some ⟨t, 0, none⟩), .string a] w (SrcIsA w rs a) := by
  obtain ⟨pa, cap, rfl⟩ := ownsRow_form ht.rows
  have hw : t < w.heap.size := (Array.getElem?_eq_some_iff.1 ht.at_).1
  have X2 := hide ((Ext.refl w).alloc (.cells #[.pointer (some ⟨t, 0, none⟩)] 141))
  have ht2 := hide (ht.ext X2.out)
  have c1 := X2.out.cells (tabA_c1 ht.at_)
  have c0 := hide (X2.out.cells (tabA_c0 ht.at_))
  replace ht := hide ht
  go_enter Tryz.func169, Tryz.ntmps169
  go_wp2_with fail
  refine (searchA B _ rs a w.heap.size t _ ht2.out.rows ht2.out.up ht2.out.few (by simp [go_sem]) c0.out).mono ?_
  rintro e w1 ⟨i, b, rfl, hi, hs1, hs2, hs3, he1⟩
  go_wp2
  go_ret2
  exact ⟨i, b, rfl, hi, hs1, hs2, hs3, X2.out.trans he1.out⟩

set_option maxRecDepth 100000 in
set_option maxHeartbeats 800000 in
theorem tabHasA (B : Nat) (v : Value) (rs : List RowA) (a : ByteArray) (t : Nat) (w : World) (ht : TabAtA B w t v rs) :
    Calls Tryz.prog 157 #[.pointer (some ⟨t, 0, none⟩), .string a] w fun e w' => ∃ b : Bool, e = .returned (.bool b) ∧ Hid (b = true ↔ HasK RowA.key rs a) ∧ Hid (Ext w w') := by
  have hf := hide (tabFindA B v rs a t _ (ht.ext (Ext.refl w)))
  replace ht := hide ht
  go_enter Tryz.func157, Tryz.ntmps157
  go_wp2_with fail
  refine hf.out.mono ?_
  rintro e w1 ⟨i, b, rfl, hi, hs1, hs2, hs3, he1⟩
  go_wp2
  go_ret
  exact ⟨b, rfl, hs2, (Ext.refl w).trans he1.out⟩

set_option maxRecDepth 100000 in
set_option maxHeartbeats 800000 in
theorem tabLenA (B : Nat) (v : Value) (rs : List RowA) (t : Nat) (w : World) (ht : TabAtA B w t v rs) :
    Calls Tryz.prog 156 #[.pointer (some ⟨t, 0, none⟩)] w fun e w' => e = .returned (.int .i64 rs.length) ∧ w' = w := by
  obtain ⟨pa, cap, rfl⟩ := ownsRow_form ht.rows
  have c1 := tabA_c1 ht.at_
  replace ht := hide ht
  go_enter Tryz.func156, Tryz.ntmps156
  go_wp2
  go_ret
  exact ⟨rfl, rfl⟩

set_option maxRecDepth 100000 in
set_option maxHeartbeats 800000 in
theorem tabNewA (w : World) :
    Calls Tryz.prog 154 #[.func (.func 103) #[] #[]] w fun e w' => e = .returned (.pointer (some ⟨w.heap.size, 0, none⟩)) ∧ Hid (TabAtA w.heap.size w' w.heap.size (.slice none 0 0) []) ∧ Hid (w' = w.alloc (.cells #[.func (.func 103) #[] #[], .slice none 0 0] 210)) := by
  go_enter Tryz.func154, Tryz.ntmps154
  go_wp2
  go_ret
  exact ⟨rfl, ⟨heap_alloc_new _ _, World.ownsRow_nil _ _ _ _, List.Pairwise.nil, Nat.zero_le _, Nat.le_refl _⟩, rfl⟩
end Go.Proofs.YtfmcgdglalljgaaGreatDoor

namespace Go.Proofs.YtfmcgdglalljgaaGreatDoor
open Go.RowKit

attribute [local go_sem] Go.World.cell?_alloc_some
/-- Only rows and tables from B on have turned. -/
abbrev WroteTA (B : Nat) (w w' : World) : Prop := Wrote B (fun t => t = 212 ∨ t = 210) w w'
/-- What a key put into a table leaves. -/
def PutIsA (B : Nat) (w : World) (t : Nat) (rs : List RowA) (x : RowA) (e : Ending) (w' : World) : Prop :=
  ∃ (i : Nat) (pa : Option Addr) (cap n : Nat), e = .returned (.tuple #[]) ∧ Hid (StandsG cmpS RowA.key rs x.key i) ∧ Hid (TabAtA B w' t (.slice pa n cap) (insG rs i x)) ∧ Hid (WroteTA B w w')

set_option maxRecDepth 100000 in
set_option maxHeartbeats 3200000 in
theorem tabPutA (B : Nat) (u : Value) (rs : List RowA) (a : ByteArray) (v : Attrd) (t : Nat) (w : World) (ht : TabAtA B w t u rs) (ha : ¬ HasK RowA.key rs a) (hB : B ≤ w.heap.size) (hfew : rs.length + 1 ≤ 1000000) :
    Calls Tryz.prog 159 #[.pointer (some ⟨t, 0, none⟩), .string a, .agg #[.string v.name, .bool v.isText, .string v.text, .int .i64 v.number]] w (PutIsA B w t rs ⟨a, v⟩) := by
  obtain ⟨pa, cap, rfl⟩ := ownsRow_form ht.rows
  have XP := hide ((Ext.refl w).alloc (.cells #[.string v.name, .bool v.isText, .string v.text, .int .i64 v.number] 66))
  have ht3 := hide (ht.ext XP.out)
  have hf := hide (tabFindA B _ rs a t _ ht3.out)
  replace ht := hide ht
  go_enter Tryz.func159, Tryz.ntmps159
  go_wp2_with fail
  refine hf.out.mono ?_
  rintro e w1 ⟨i, b, rfl, hi, hs1, hs2, hs3, he1⟩
  obtain rfl : b = false := by
    cases b
    · rfl
    · exact absurd (hs2.out.1 rfl) ha
  have hk1 := ht3.out.ext he1.out
  have c1 := tabA_c1 hk1.at_
  have f1 := row_frozen hk1.at_
  have k4 := ext_heap he1.out (heap_alloc_new w _)
  have b00 := block_cell' k4 0
  have b01 := block_cell' k4 1
  have b02 := block_cell' k4 2
  have b03 := block_cell' k4 3
  simp only [List.getElem?_toArray, List.getElem?_cons_zero, List.getElem?_cons_succ] at b00 b01 b02 b03
  replace k4 := hide k4
  have hin := hide (insRowA B _ rs ⟨a, v⟩ i w1.heap.size (w1.drew.alloc (.cells #[.string a, .string v.name, .bool v.isText, .string v.text, .int .i64 v.number] 212)) ((hk1.ext ((Ext.refl w1).drew.alloc _)).rows) (by have := Ext.size XP.out; have := Ext.size he1.out; simp at *; omega) hi (by omega) (heap_alloc_new w1.drew _) (by
    intro e
    rcases hk1.rows.2 with ⟨h, _⟩ | ⟨g, c, cur, h, _, hg, _⟩
    · rw [h] at e; simp [Value.ownBlock] at e
    · rw [h] at e; simp [Value.ownBlock] at e
      have := (Array.getElem?_eq_some_iff.1 hg).1
      omega))
  replace hk1 := hide hk1
  go_wp2_with fail
  go_region_with (go_at_call 171; refine hin.out.mono ?_; rintro e w2 ⟨pa2, cap2, n2, rfl, hn2, hK2, hW2⟩; go_must (have ht2 := Wrote.keeps (hW2.out) (ext_heap ((Ext.refl w1).drew.alloc _) hk1.out.at_) (by decide); have f2 := row_frozen ht2; have d1 := tabA_c1 ht2; replace ht2 := hide ht2))
  all_goals go_wp2
  all_goals
    refine ⟨rfl, .tuple #[], by simp [results, Tryz.results159], ?_⟩
    have hup := ht.out.up
    refine ⟨i, pa2, cap2, n2, rfl, hs1, ⟨tabA_set ht2.out _, ownsRow_set hK2.out ht2.out (by decide) _, hup.insert ordS hs1.out ha, by rw [insG_len hi]; exact hfew, ht.out.base⟩, ?_⟩
    refine Wrote.setCell (p := ⟨t, 1, none⟩) ?_ ht.out.base ht2.out (.inr rfl) _
    exact (((Wrote.ext XP.out).then he1.out).then ((Ext.refl w1).drew.alloc _)).trans (hW2.out.mono (Nat.le_refl _) fun _ h => .inl h)
end Go.Proofs.YtfmcgdglalljgaaGreatDoor

namespace Go.Proofs.YtfmcgdglalljgaaGreatDoor
open Go.RowKit

theorem rowsE_in {B : Nat} {w : World} {pa : Option Addr} {n cap : Nat} {rs : List RowE} (h : RowsE B w (.slice pa n cap) rs) : n = rs.length ∧ n ≤ cap ∧ cap ≤ maxLen ∧ (rs = [] ∨ ∃ g, pa = some ⟨g, 0, none⟩ ∧ ∀ (i : Nat) x, rs[i]? = some x → ∀ r u, (cRowE x)[r]? = some u → w.cell? ⟨g, i * 3 + r, none⟩ = some u) := by
  rcases h.2 with ⟨h1, h2⟩ | ⟨g, c, cur, h1, _, hg, hc, hm, hs, ht⟩
  · cases h1
    exact ⟨h2.symm, Nat.le_refl _, by unfold maxLen; omega, .inl (List.eq_nil_of_length_eq_zero h2)⟩
  · cases h1
    refine ⟨rfl, hc, hm, .inr ⟨g, rfl, fun i x hx r u hu => ?_⟩⟩
    have hlt : i < rs.length := (List.getElem?_eq_some_iff.1 hx).1
    have hr : r < 3 := (List.getElem?_eq_some_iff.1 hu).1
    have h1 : (cellsG cRowE rs)[i * 3 + r]? = (cRowE x)[r]? := flat_get cRowE_len hx hr
    rw [← hu, ← h1, ← ht, List.getElem?_take, if_pos (by omega)]
    simp [World.cell?, hg]

set_option maxRecDepth 100000 in
set_option maxHeartbeats 800000 in
theorem findCmpE (x : RowE) (a : IDd) (p t : Nat) (w : World) (hp : w.cell? ⟨p, 0, none⟩ = some (.pointer (some ⟨t, 0, none⟩))) (ht : w.cell? ⟨t, 0, none⟩ = some (.func (.func 68) #[] #[])) :
    Calls Tryz.prog 139 #[.agg #[.string x.key.kind, .string x.key.name, .pointer (some ⟨x.val, 0, none⟩)], .agg #[.string a.kind, .string a.name], .pointer (some ⟨p, 0, none⟩)] w fun e w' => e = .returned (.int .i64 (cmpI x.key a)) ∧ Ext w w' := by
  have hpl : p < w.heap.size := World.block_lt_of_cell? w _ hp
  have htl : t < w.heap.size := World.block_lt_of_cell? w _ ht
  have g0 := World.cell?_alloc_past (w := w.alloc (.cells #[.string x.key.kind, .string x.key.name, .pointer (some ⟨x.val, 0, none⟩)] 180)) (.cells #[.string a.kind, .string a.name] 25) p 0 (by simp; omega)
  have g1 := World.cell?_alloc_past (w := w.alloc (.cells #[.string x.key.kind, .string x.key.name, .pointer (some ⟨x.val, 0, none⟩)] 180)) (.cells #[.string a.kind, .string a.name] 25) t 0 (by simp; omega)
  rw [World.cell?_alloc_past (w := w) _ p 0 hpl, hp] at g0
  rw [World.cell?_alloc_past (w := w) _ t 0 htl, ht] at g1
  replace hp := hide hp; replace ht := hide ht; replace hpl := hide hpl; replace htl := hide htl
  go_enter Tryz.func139, Tryz.ntmps139
  go_wp2_with fail
  go_region_held3 (fun w' => w'.cell? ⟨p, 0, none⟩ = some (.pointer (some ⟨t, 0, none⟩)) ∧ w'.cell? ⟨t, 0, none⟩ = some (.func (.func 68) #[] #[]) ∧ w'.cell? ⟨w.heap.size, 0, none⟩ = some (.string x.key.kind) ∧ w'.cell? ⟨w.heap.size, 1, none⟩ = some (.string x.key.name) ∧ w'.cell? ⟨w.heap.size + 1, 0, none⟩ = some (.string a.kind) ∧ w'.cell? ⟨w.heap.size + 1, 1, none⟩ = some (.string a.name)) (go_keep)
    ((go_at_call 68; refine (compareIDs x.key a _).mono ?_; rintro e w1 ⟨rfl, he1⟩; go_must (have q0 := he1.cells (p := ⟨p, 0, none⟩) (by simp [g0]; rfl); have q1 := he1.cells (p := ⟨t, 0, none⟩) (by simp [g1]; rfl); have qa0 := he1.cells (p := ⟨w.heap.size, 0, none⟩) (v := .string x.key.kind) (by simp [go_sem]); have qa1 := he1.cells (p := ⟨w.heap.size, 1, none⟩) (v := .string x.key.name) (by simp [go_sem]); have qb0 := he1.cells (p := ⟨w.heap.size + 1, 0, none⟩) (v := .string a.kind) (by simp [go_sem]); have qb1 := he1.cells (p := ⟨w.heap.size + 1, 1, none⟩) (v := .string a.name) (by simp [go_sem])); replace he1 := hide he1))
  go_wp2
  go_ret
  exact ⟨rfl, (((Ext.refl _).alloc _).alloc _).drew.trans he1.out⟩

/-- What the look for a key answers. -/
def SrcIsE (w : World) (rs : List RowE) (a : IDd) (e : Ending) (w' : World) : Prop :=
  ∃ (i : Nat) (b : Bool), e = .returned (.tuple #[.int .i64 i, .bool b]) ∧ i ≤ rs.length ∧ Hid (StandsG cmpI RowE.key rs a i) ∧ Hid (b = true ↔ HasK RowE.key rs a) ∧ Hid (b = true → ∃ x, rs[i]? = some x ∧ x.key = a) ∧ Hid (Ext w w')

set_option maxRecDepth 100000 in
set_option maxHeartbeats 3200000 in
theorem searchE (B : Nat) (v : Value) (rs : List RowE) (a : IDd) (p t : Nat) (w : World) (hv : RowsE B w v rs) (hu : UpG cmpI RowE.key rs) (hn : rs.length ≤ 1000000)
    (hp : w.cell? ⟨p, 0, none⟩ = some (.pointer (some ⟨t, 0, none⟩))) (ht : w.cell? ⟨t, 0, none⟩ = some (.func (.func 68) #[] #[])) :
    Calls Tryz.prog 138 #[v, .agg #[.string a.kind, .string a.name], .func (.func 139) #[] #[.pointer (some ⟨p, 0, none⟩)]] w (SrcIsE w rs a) := by
  obtain ⟨pa, cap, rfl⟩ := ownsRow_form hv
  obtain ⟨-, hc1, hc2, hin⟩ := rowsE_in hv
  unfold maxLen at hc2
  replace hin := hide hin; replace hp := hide hp; replace ht := hide ht; replace hv := hide hv; replace hu := hide hu
  go_enter Tryz.func138, Tryz.ntmps138
  go_wp2_with fail
  go_loopw [9, 10] (fun i j wr => ∃ i' j' : Nat, i' ≤ j' ∧ j' ≤ rs.length ∧ i = .int .i64 i' ∧ j = .int .i64 j' ∧ Hid (∀ (k : Nat) x, k < i' → rs[k]? = some x → cmpI x.key a < 0) ∧ Hid (∀ (k : Nat) x, j' ≤ k → rs[k]? = some x → 0 ≤ cmpI x.key a) ∧ Hid (Ext (w.alloc (.cells #[.string a.kind, .string a.name] 25)) wr)) (fun i j _ => (intOf j).toNat - (intOf i).toNat)
  case atStart => exact ⟨0, rs.length, Nat.zero_le _, Nat.le_refl _, rfl, rfl, fun _ _ h => absurd h (by omega), fun k x h hx => absurd (List.getElem?_eq_some_iff.1 hx).1 (by omega), Ext.refl _⟩
  case round =>
    obtain ⟨i, j, hij, hj, rfl, rfl, hA, hB, hx⟩ := hrel
    have X0 := hide (((Ext.refl w).alloc _).trans hx.out)
    have m0 := hx.out.cells (p := ⟨w.heap.size, 0, none⟩) (v := .string a.kind) (by simp [go_sem])
    have m1 := hx.out.cells (p := ⟨w.heap.size, 1, none⟩) (v := .string a.name) (by simp [go_sem])
    have hp1 := hide (X0.out.drew.cells hp.out)
    have ht1 := hide (X0.out.drew.cells ht.out)
    by_cases hlt : i < j
    · obtain ⟨h, hh⟩ : ∃ h, h = (i + j) / 2 := ⟨_, rfl⟩
      have e1 : IntKind.u64.wrap ((i : Int) + (j : Int)) = ((i + j : Nat) : Int) := by rw [IntKind.wrap_u64]; omega
      obtain ⟨x, hxh⟩ := some_of_lt (show h < rs.length by omega)
      rcases hin.out with hnil | ⟨g, rfl, hI⟩
      · rw [hnil] at hj; simp at hj; omega
      replace hI := hI h x hxh
      have k0 := X0.out.cells (hI 0 _ rfl)
      have k1 := X0.out.cells (hI 1 _ rfl)
      have k2 := X0.out.cells (hI 2 _ rfl)
      rw [Nat.add_zero] at k0
      have h2 : (h : Int) < (rs.length : Int) := by omega
      have h3 : (0 : Int) ≤ (h : Int) := by omega
      have h4 : ((i : Int) + (j : Int)) / 2 = (h : Int) := by omega
      have hlo : i ≤ h := by omega
      have hhi : h < j := by omega
      replace hI := hide hI; replace hxh := hide hxh; replace hh := hide hh
      go_wp2_with fail
      go_region_held3 (fun w' => w'.cell? ⟨g, h * 3, none⟩ = some (.string x.key.kind) ∧ w'.cell? ⟨g, h * 3 + 1, none⟩ = some (.string x.key.name) ∧ w'.cell? ⟨g, h * 3 + 2, none⟩ = some (.pointer (some ⟨x.val, 0, none⟩)) ∧ w'.cell? ⟨w.heap.size, 0, none⟩ = some (.string a.kind) ∧ w'.cell? ⟨w.heap.size, 1, none⟩ = some (.string a.name)) (go_keep)
        ((go_at_call 139; refine (findCmpE x a p t wr.drew hp1.out ht1.out).mono ?_; rintro e w1 ⟨rfl, he1⟩; go_must (have qr0 := he1.cells (p := ⟨g, h * 3, none⟩) (v := .string x.key.kind) (by simpa using k0); have qr1 := he1.cells (p := ⟨g, h * 3 + 1, none⟩) (v := .string x.key.name) (by simpa using k1); have qr2 := he1.cells (p := ⟨g, h * 3 + 2, none⟩) (v := .pointer (some ⟨x.val, 0, none⟩)) (by simpa using k2); have qk0 := he1.cells (p := ⟨w.heap.size, 0, none⟩) (v := .string a.kind) (by simpa using m0); have qk1 := he1.cells (p := ⟨w.heap.size, 1, none⟩) (v := .string a.name) (by simpa using m1)); replace he1 := hide he1))
      by_cases hb : cmpI x.key a < 0
      · go_wp2_with fail
        go_roundw
        case rel => exact ⟨h + 1, j, by omega, hj, by go_num, rfl, hu.out.stands ordI hxh.out hb, hB, hx.out.drew.trans he1.out⟩
        case measure => simp [intOf]; omega
      · have hb' : ¬ cmpI x.key a < 0 := hb
        replace hb' := hide hb'
        go_wp2_with fail
        go_roundw
        case rel => exact ⟨i, h, by omega, by omega, rfl, rfl, hA, hu.out.stands' ordI hxh.out (by first | exact hb'.out | exact Int.not_lt.2 hb'.out), hx.out.drew.trans he1.out⟩
        case measure => simp [intOf]; omega
    · obtain rfl : i = j := by omega
      have hst : Hid (StandsG cmpI RowE.key rs a i) := ⟨hj, hA.out, fun k x hk hx => Int.not_lt.2 (hB.out k x hk hx)⟩
      by_cases hend : i < rs.length
      · obtain ⟨x, hxh⟩ := some_of_lt hend
        rcases hin.out with hnil | ⟨g, rfl, hI⟩
        · rw [hnil] at hend; simp at hend
        replace hI := hI i x hxh
        have k0 := X0.out.cells (hI 0 _ rfl)
        have k1 := X0.out.cells (hI 1 _ rfl)
        have k2 := X0.out.cells (hI 2 _ rfl)
        rw [Nat.add_zero] at k0
        have h2 : (i : Int) < (rs.length : Int) := by omega
        have h3 : (0 : Int) ≤ (i : Int) := by omega
        replace hI := hide hI; replace hxh := hide hxh
        go_wp2_with fail
        go_region_held3 (fun w' => w'.cell? ⟨g, i * 3, none⟩ = some (.string x.key.kind) ∧ w'.cell? ⟨g, i * 3 + 1, none⟩ = some (.string x.key.name) ∧ w'.cell? ⟨g, i * 3 + 2, none⟩ = some (.pointer (some ⟨x.val, 0, none⟩)) ∧ w'.cell? ⟨w.heap.size, 0, none⟩ = some (.string a.kind) ∧ w'.cell? ⟨w.heap.size, 1, none⟩ = some (.string a.name)) (go_keep)
          ((go_at_call 139; refine (findCmpE x a p t wr.drew hp1.out ht1.out).mono ?_; rintro e w1 ⟨rfl, he1⟩; go_must (have qr0 := he1.cells (p := ⟨g, i * 3, none⟩) (v := .string x.key.kind) (by simpa using k0); have qr1 := he1.cells (p := ⟨g, i * 3 + 1, none⟩) (v := .string x.key.name) (by simpa using k1); have qr2 := he1.cells (p := ⟨g, i * 3 + 2, none⟩) (v := .pointer (some ⟨x.val, 0, none⟩)) (by simpa using k2); have qk0 := he1.cells (p := ⟨w.heap.size, 0, none⟩) (v := .string a.kind) (by simpa using m0); have qk1 := he1.cells (p := ⟨w.heap.size, 1, none⟩) (v := .string a.name) (by simpa using m1)); replace he1 := hide he1))
        go_wp2
        go_ret2
        refine ⟨i, cmpI x.key a == 0, rfl, hj, hst, ?_, ?_, X0.out.drew.trans he1.out⟩
        · show _ ↔ _
          constructor
          · intro h; exact StandsG.there ordI hxh.out (by simpa using h)
          · intro h
            by_cases e : cmpI x.key a = 0
            · simpa using e
            · exact absurd h (hst.out.gone ordI hu.out fun y hy => by rw [hxh.out] at hy; cases hy; exact e)
        · intro h
          exact ⟨x, hxh.out, ordI.zero.1 (by simpa using h)⟩
      · have h2 : ¬ (i : Int) < (rs.length : Int) := by omega
        go_wp2_with fail
        go_quiet (fail)
        go_wp2
        go_ret2
        refine ⟨i, false, rfl, hj, hst, ?_, ?_, X0.out.drewN _⟩
        · show _ ↔ _
          constructor
          · intro h; cases h
          · intro h
            exact absurd h (hst.out.gone ordI hu.out fun y hy => absurd (List.getElem?_eq_some_iff.1 hy).1 (by omega))
        · intro h; cases h
end Go.Proofs.YtfmcgdglalljgaaGreatDoor
