/-
  What is kept by the IDs: resources, and steps that are still to come.
-/
/-
  A row is taken out of a table of steps.
-/
/-
  A step is taken out of the table of those that are to come.
-/
import Derived.Test.YtodhhjlemmmjcaaGreatJ21
import Derived.Test.YtodhhjlemmmjcaaGreatJ22
import Derived.Test.YtodhhjlemmmjcaaGreatCopyP
import Derived.Test.YtodhhjlemmmjcaaGreatWhole
import Derived.Test.YtodhhjlemmmjcaaGreatJ10
import Derived.Test.YtodhhjlemmmjcaaGreatDelG
import Derived.Deep.RegionLaw
import Derived.Deep.RegionHeld3
import Derived.ArgAppend
namespace Go.Proofs.YtodhhjlemmmjcaaGreat
open Go.RowKit

theorem word_short {l : List UInt8} (h : wordB l = true) : l.length ≤ 12 := by
  by_cases hl : 12 < l.length
  · rw [wordB_long hl] at h; cases h
  · omega
theorem may_okS {x : Resd} (h : mayB x = true) : okS x := by
  simp only [mayB, Bool.and_eq_true, decide_eq_true_eq, List.all_eq_true] at h
  obtain ⟨⟨⟨⟨⟨⟨h1, h2⟩, h3⟩, h4⟩, -⟩, h6⟩, -⟩ := h
  have hid : ∀ a : IDd, idB a = true → shI a := fun a ha => by
    simp only [idB, Bool.and_eq_true] at ha
    have k1 := word_short ha.1
    have k2 := word_short ha.2
    rw [ba_len] at k1 k2
    exact ⟨by omega, by omega⟩
  refine ⟨hid _ h3, fun a ha => ?_, fun a ha => hid a (h6 a ha), by omega, by omega⟩
  have ha := h4 a ha
  simp only [attrB, Bool.and_eq_true] at ha
  obtain ⟨⟨h7, -⟩, h8⟩ := ha
  have k1 := word_short h7
  rw [ba_len] at k1
  cases ht : a.isText
  · rw [ht] at h8
    simp at h8
    have : a.text.data.toList.length = 0 := by simp [h8.1]
    rw [ba_len] at this
    exact ⟨⟨by omega, by omega⟩, by omega, by omega⟩
  · rw [ht] at h8
    simp [stringB] at h8
    have h9 : a.text.data.toList.length ≤ 20 := by simpa using h8.1.1
    rw [ba_len] at h9
    exact ⟨⟨by omega, by omega⟩, by omega, by omega⟩
theorem OwnR.put {B B' : Nat} {T : TypeId → Prop} {w w' : World} {c2 c3 : Value} {x : Resd} (h : OwnR B w c2 c3 x) (k : Wrote B' T w w') (h2 : ¬ T 62) (h3 : ¬ T 52) : OwnR B w' c2 c3 x :=
  ⟨h.f2, h.f3, ownsRow_wrote h.attrs k h2 rfl, ownsRow_wrote h.after k h3 rfl⟩
def rowR (q : ResC) : RowRs := ⟨q.x.id, q⟩
def rowS (s : StepC) : RowSt := ⟨s.r.x.id, s⟩
/-- No list lies in two resources. -/
def ApartC (p q : ResC) : Prop := (∀ g, p.c2.ownBlock = some g → q.c2.ownBlock ≠ some g) ∧ (∀ g, p.c3.ownBlock = some g → q.c3.ownBlock ≠ some g)
/-- A table of resources, whose lists are our own. -/
structure HaveAt (B : Nat) (w : World) (t : Nat) (qs : List ResC) : Prop where
  tab : ∃ v, TabAtRs B w t v (qs.map rowR)
  each : ∀ q ∈ qs, OwnR B w q.c2 q.c3 q.x ∧ okS q.x
theorem HaveAt.ext {B : Nat} {w w' : World} {t : Nat} {qs : List ResC} (h : HaveAt B w t qs) (e : Ext w w') : HaveAt B w' t qs :=
  ⟨h.tab.imp fun _ k => k.ext e, fun q hq => ⟨(h.each q hq).1.ext e, (h.each q hq).2⟩⟩
theorem HaveAt.wrote {B B' : Nat} {T : TypeId → Prop} {w w' : World} {t : Nat} {qs : List ResC} (h : HaveAt B w t qs) (k : Wrote B' T w w') (hT : (¬ T 135 ∧ ¬ T 138) ∧ ¬ T 62 ∧ ¬ T 52) : HaveAt B w' t qs :=
  ⟨h.tab.imp fun _ j => j.wrote k hT.1, fun q hq => ⟨(h.each q hq).1.put k hT.2.1 hT.2.2, (h.each q hq).2⟩⟩
theorem HaveAt.low {B B' : Nat} {w : World} {t : Nat} {qs : List ResC} (h : HaveAt B w t qs) (hb : B' ≤ B) : HaveAt B' w t qs :=
  ⟨h.tab.imp fun _ j => j.low hb, fun q hq => ⟨(h.each q hq).1.low hb, (h.each q hq).2⟩⟩
/-- A table of steps, whose lists are our own. -/
structure TodoAt (B : Nat) (w : World) (t : Nat) (ss : List StepC) : Prop where
  tab : ∃ v, TabAtSt B w t v (ss.map rowS)
  each : ∀ s ∈ ss, OwnR B w s.r.c2 s.r.c3 s.r.x ∧ okS s.r.x
  apart : ss.Pairwise fun p q => ApartC p.r q.r
theorem TodoAt.ext {B : Nat} {w w' : World} {t : Nat} {ss : List StepC} (h : TodoAt B w t ss) (e : Ext w w') : TodoAt B w' t ss :=
  ⟨h.tab.imp fun _ k => k.ext e, fun q hq => ⟨(h.each q hq).1.ext e, (h.each q hq).2⟩, h.apart⟩
theorem TodoAt.wrote {B B' : Nat} {T : TypeId → Prop} {w w' : World} {t : Nat} {ss : List StepC} (h : TodoAt B w t ss) (k : Wrote B' T w w') (hT : (¬ T 140 ∧ ¬ T 143) ∧ ¬ T 62 ∧ ¬ T 52) : TodoAt B w' t ss :=
  ⟨h.tab.imp fun _ j => j.wrote k hT.1, fun q hq => ⟨(h.each q hq).1.put k hT.2.1 hT.2.2, (h.each q hq).2⟩, h.apart⟩
theorem TodoAt.low {B B' : Nat} {w : World} {t : Nat} {ss : List StepC} (h : TodoAt B w t ss) (hb : B' ≤ B) : TodoAt B' w t ss :=
  ⟨h.tab.imp fun _ j => j.low hb, fun q hq => ⟨(h.each q hq).1.low hb, (h.each q hq).2⟩, h.apart⟩
/-- A table of steps and its row lie below a block. -/
def TabLow (C : Nat) (w : World) (t : Nat) : Prop := t < C ∧ ∃ v, w.heap[t]? = some (.cells #[.func (.func 53) #[] #[], v] 143 (0, 0)) ∧ ∀ g, v.ownBlock = some g → g < C
/-- From a block on, all that was there is as it was. -/
def Upper (C : Nat) (w w' : World) : Prop := w.heap.size ≤ w'.heap.size ∧ ∀ k, C ≤ k → k < w.heap.size → w'.heap[k]? = w.heap[k]?
theorem Upper.refl (C : Nat) (w : World) : Upper C w w := ⟨Nat.le_refl _, fun _ _ _ => rfl⟩
theorem Upper.trans {C : Nat} {a b c : World} (h : Upper C a b) (k : Upper C b c) : Upper C a c := ⟨Nat.le_trans h.1 k.1, fun j h1 h2 => (k.2 j h1 (Nat.lt_of_lt_of_le h2 h.1)).trans (h.2 j h1 h2)⟩
theorem Upper.ext {C : Nat} {w w' : World} (h : Ext w w') : Upper C w w' := ⟨Ext.size h, fun k _ hk => Below.block h k hk⟩
theorem TabLow.ext {C t : Nat} {w w' : World} (h : TabLow C w t) (e : Ext w w') : TabLow C w' t := ⟨h.1, h.2.imp fun _ k => ⟨ext_at e k.1, k.2⟩⟩
theorem TabLow.wrote {B C t : Nat} {T : TypeId → Prop} {w w' : World} (h : TabLow C w t) (k : Wrote B T w w') (hT : ¬ T 143) : TabLow C w' t := ⟨h.1, h.2.imp fun _ j => ⟨k.keeps j.1 hT, j.2⟩⟩
theorem TodoAt.tabLow {B t : Nat} {w : World} {ss : List StepC} (h : TodoAt B w t ss) : TabLow w.heap.size w t := by
  obtain ⟨v, hv⟩ := h.tab
  exact ⟨(Array.getElem?_eq_some_iff.1 hv.at_).1, v, hv.at_, fun g hg => (hv.rows.lt g hg).2⟩
theorem ownsRow_upper {C : Nat} {w w' : World} {e : TypeId} {size : Nat} {v : Value} {n : Nat} {xs : List Value} (h : w.ownsRow C e size v n xs) (k : Upper C w w') : w'.ownsRow C e size v n xs := by
  obtain ⟨h1, h2⟩ := h
  refine ⟨h1, ?_⟩
  rcases h2 with h2 | ⟨g, cap, cur, h3, h4, h5, h6⟩
  · exact .inl h2
  · exact .inr ⟨g, cap, cur, h3, h4, (k.2 g h4 (Array.getElem?_eq_some_iff.1 h5).1).trans h5, h6⟩
theorem TodoAt.upper {C t : Nat} {w w' : World} {ss : List StepC} (h : TodoAt C w t ss) (k : Upper C w w') : TodoAt C w' t ss := by
  obtain ⟨⟨v, hv⟩, h2, h3⟩ := h
  refine ⟨⟨v, (k.2 t hv.base (Array.getElem?_eq_some_iff.1 hv.at_).1).trans hv.at_, ownsRow_upper hv.rows k, hv.up, hv.few, hv.base⟩, fun s hs => ?_, h3⟩
  obtain ⟨⟨f2, f3, a, b⟩, ok⟩ := h2 s hs
  exact ⟨⟨f2, f3, ownsRow_upper a k, ownsRow_upper b k⟩, ok⟩
/-- A key that is greater than all stands behind all. -/
theorem stands_end {κ ρ : Type} {cmp : κ → κ → Int} {key : ρ → κ} {rs : List ρ} {a : κ} {i : Nat} (h : StandsG cmp key rs a i) (hall : ∀ x ∈ rs, cmp (key x) a < 0) : i = rs.length := by
  have := h.le
  by_cases e : i = rs.length
  · exact e
  · have hlt : i < rs.length := by omega
    exact absurd (hall _ (List.getElem_mem hlt)) (h.behind i _ (Nat.le_refl _) (List.getElem?_eq_getElem hlt))
theorem insG_end {ρ : Type} (rs : List ρ) (x : ρ) : insG rs rs.length x = rs ++ [x] := by simp [insG]
theorem hasK_iff {qs : List ResC} {a : IDd} : HasK RowRs.key (qs.map rowR) a ↔ ∃ q ∈ qs, q.x.id = a := by
  constructor
  · rintro ⟨x, hx, rfl⟩
    obtain ⟨q, hq, rfl⟩ := List.mem_map.1 hx
    exact ⟨q, hq, rfl⟩
  · rintro ⟨q, hq, rfl⟩; exact ⟨rowR q, List.mem_map.2 ⟨q, hq, rfl⟩, rfl⟩
theorem hasS_iff {ss : List StepC} {a : IDd} : HasK RowSt.key (ss.map rowS) a ↔ ∃ s ∈ ss, s.r.x.id = a := by
  constructor
  · rintro ⟨x, hx, rfl⟩
    obtain ⟨q, hq, rfl⟩ := List.mem_map.1 hx
    exact ⟨q, hq, rfl⟩
  · rintro ⟨q, hq, rfl⟩; exact ⟨rowS q, List.mem_map.2 ⟨q, hq, rfl⟩, rfl⟩
theorem not_less_self {a : IDd} : ¬ cmpI a a < 0 := by rw [cmpI_zero.2 rfl]; omega
/-- A row of our own, and blocks that were not there. -/
theorem ApartC.new {B w0} {w : World} {p : ResC} {a2 a3 : Option Addr} {n2 n3 p2 p3 : Nat} {x : Resd} {w' : World} (hp : OwnR B w p.c2 p.c3 p.x) (hq : OwnR w0 w' (.slice a2 n2 p2) (.slice a3 n3 p3) x) (hw : w.heap.size ≤ w0) : ApartC p ⟨x, a2, n2, p2, a3, n3, p3⟩ := by
  constructor
  · intro g hg hg'
    have k1 := (hp.attrs.lt g hg).2
    have k2 := (hq.attrs.lt g hg').1
    omega
  · intro g hg hg'
    have k1 := (hp.after.lt g hg).2
    have k2 := (hq.after.lt g hg').1
    omega
end Go.Proofs.YtodhhjlemmmjcaaGreat

namespace Go.Proofs.YtodhhjlemmmjcaaGreat
open Go.RowKit

/-- What is left when a row was taken out. -/
def Shrunk (w : World) (g n c i : Nat) (xs : List Value) (e : Ending) (w' : World) : Prop :=
  ∃ row : Array Value, e = .returned (.slice (some ⟨g, 0, none⟩) n c) ∧ w'.heap[g]? = some (.cells row 140 (0, 0)) ∧ row.size = c * 7 ∧ row.toList.take (n * 7) = xs.take (i * 7) ++ xs.drop ((i + 1) * 7) ∧ Kept (· = g) w w'

set_option maxRecDepth 100000 in
set_option maxHeartbeats 3200000 in
theorem delSt (g n c i : Nat) (cur : Array Value) (xs : List Value) (w : World) (hi : i < n + 1) (hnc : n + 1 ≤ c) (hc : c ≤ 9223372036854775807)
    (hg : w.heap[g]? = some (.cells cur 140 (0, 0))) (hcs : cur.size = c * 7) (hxs : cur.toList.take ((n + 1) * 7) = xs) (h1 : ∀ v ∈ xs, v.oneCell' = true) :
    Calls Tryz.prog 83 #[.slice (some ⟨g, 0, none⟩) (n + 1) c, .int .i64 i, .int .i64 ((i : Int) + 1)] w (Shrunk w g n c i xs) := by
  obtain ⟨i0, hi0, hz0, hz1, hz2⟩ := info_of infoRowSt
  have hlx : xs.length = (n + 1) * 7 := by rw [← hxs]; simp; omega
  obtain ⟨news, hnews⟩ : ∃ news, news = xs.drop ((i + 1) * 7) := ⟨_, rfl⟩
  have hnl : news.length = (n - i) * 7 := by rw [hnews, List.length_drop, hlx]; omega
  obtain ⟨W1, hW1⟩ : ∃ W1, W1 = w.drew.setCells g (i * 7) news := ⟨_, rfl⟩
  have hg' : w.drew.heap[g]? = some (.cells cur 140 (0, 0)) := hg
  have hr1 := setCells_row g 140 (0, 0) news (i * 7) cur w.drew hg' (by rw [hcs, hnl]; omega)
  rw [← hW1] at hr1
  obtain ⟨r1, hr1e⟩ : ∃ r1 : Array Value, r1 = (cur.toList.take (i * 7) ++ news ++ cur.toList.drop (i * 7 + news.length)).toArray := ⟨_, rfl⟩
  rw [← hr1e] at hr1
  have hs1 : r1.size = c * 7 := by rw [hr1e]; simp; omega
  have hK1 : Kept (· = g) w W1 := by rw [hW1]; exact ((Ext.refl w).drew.kept _).trans (setCells_kept g news _ w.drew) (fun _ _ h => h)
  have hcell : ∀ j v, xs[j]? = some v → w.drew.cell? ⟨g, j, none⟩ = some v := fun j v hj => by
    rw [← hxs, List.getElem?_take] at hj
    split at hj
    · simp only [World.cell?, hg']; simpa using hj
    · cases hj
  have happ : ∀ ty (ad : Addr) m k, m = n - i → (m ≠ 0 → ad = ⟨g, (i + 1) * 7, none⟩) → (Builtin.append_ #[141, 141] ty #[.slice (some ⟨g, 0, none⟩) i c, .slice (some ad) m k]).run Tryz.prog w.drew = .ok (.slice (some ⟨g, 0, none⟩) n c) W1 := by
    rintro ty ad m k rfl hm
    by_cases h0 : n - i = 0
    · have hn0 : news = [] := List.eq_nil_of_length_eq_zero (by rw [hnl, h0])
      have hin : i = n := by omega
      rw [h0, hW1, hn0]
      subst hin
      exact run_append_nothing w.drew 141 141 ty 140 i0 Tryz.underlying141 hi0 _ i c (by omega) _ (Src.ofSlice w.drew Tryz.underlying141 ad 0 k [] (by simp) (fun j u hu => by simp at hu) (fun u hu => by cases hu))
    · rw [hm h0]
      have := run_append_room_cells (P := Tryz.prog) w.drew 141 ty 140 i0 Tryz.underlying141 hi0 g 0 i c ⟨g, (i + 1) * 7, none⟩ (n - i) k news (by rw [hz1]; exact hnl) (fun j u hu => by
        rw [add_eq]
        rw [hnews, List.getElem?_drop] at hu
        exact hcell _ _ hu) (fun u hu => h1 u (by rw [hnews] at hu; exact List.mem_of_mem_drop hu)) (by omega) (fun j hj => by
        rw [hz1]
        simp only [World.cell?, hg']
        simp
        rw [hnl] at hj
        omega) (fun j hj => row_frozen hg' _)
      rw [this, hz1, hW1, Nat.zero_add]
      congr 2
      omega
  obtain ⟨zc, hzc⟩ : ∃ zc : List Value, zc = [.string ⟨#[]⟩, .string ⟨#[]⟩, .int .i64 0, .string ⟨#[]⟩, .string ⟨#[]⟩, .slice none 0 0, .slice none 0 0] := ⟨_, rfl⟩
  have hclr : ∀ W : World, W.heap = W1.heap → ∀ ty k, (Builtin.clear_ #[141] ty #[.slice (some ⟨g, n * 7, none⟩) 1 k]).run Tryz.prog W = .ok (.tuple #[]) (W.setCells g (n * 7) zc) := fun W hW ty k => by
    have hgW : W.heap[g]? = some (.cells r1 140 (0, 0)) := by rw [hW]; exact hr1
    rw [hzc]
    exact run_clear_one (P := Tryz.prog) W 141 140 ty (.agg #[.string ⟨#[]⟩, .string ⟨#[]⟩, .int .i64 0, .string ⟨#[]⟩, .string ⟨#[]⟩, .slice none 0 0, .slice none 0 0]) Tryz.underlying141 (fun w => by simp [zeroValue, typeInfo, hi0, hz0]) (by simp [Value.cells]; decide) g (n * 7) k (fun j hj => by
      simp only [World.cell?, hgW]
      simp [Value.cells] at hj ⊢
      omega) (fun j hj => row_frozen hgW _)
  have hfin : ∀ W : World, W.heap = W1.heap → W.os = W1.os → W.tape = W1.tape → W.output = W1.output → Shrunk w g n c i xs (.returned (.slice (some ⟨g, 0, none⟩) n c)) (W.setCells g (n * 7) zc) := fun W e1 e2 e3 e4 => by
    have hgW : W.heap[g]? = some (.cells r1 140 (0, 0)) := by rw [e1]; exact hr1
    have hzl : zc.length = 7 := by rw [hzc]; rfl
    have h2 := setCells_row g 140 (0, 0) zc (n * 7) r1 W hgW (by rw [hs1, hzl]; omega)
    have hKW : Kept (· = g) w W := ⟨e2.trans hK1.os, e3.trans hK1.tape, e4.trans hK1.output, by rw [e1]; exact hK1.size, fun k hk hn => by rw [e1]; exact hK1.block k hk hn⟩
    refine ⟨_, rfl, h2, by simp [hzl, hs1]; omega, ?_, hKW.trans (setCells_kept g zc _ W) (fun _ _ h => h)⟩
    have e5 : (r1.toList.take (n * 7)) = xs.take (i * 7) ++ news := by
      rw [hr1e]
      simp only
      have e6 : cur.toList.take (i * 7) = xs.take (i * 7) := by
        rw [← hxs, List.take_take]; congr 1; omega
      rw [e6]
      exact List.take_left' (by rw [List.length_append, List.length_take, hlx, hnl]; omega)
    simp only
    rw [List.append_assoc, List.take_left' (by rw [List.length_take, Array.length_toList, hs1]; omega), e5, hnews]
  have i2 : (i : Int) ≤ (i : Int) + 1 := by omega
  have i3 : (i : Int) + 1 ≤ (n : Int) + 1 := by omega
  have i4 : ((i : Int) == (i : Int) + 1) = false := by simp; omega
  have i5 : (0 : Int) ≤ (i : Int) := by omega
  have i6 : (n : Int) + 1 ≤ (c : Int) := by omega
  have i7 : (i : Int) ≤ (c : Int) := by omega
  have i8 : (0 : Int) ≤ (i : Int) + 1 := by omega
  have i9 : ((i : Int) + 1).toNat = i + 1 := by omega
  have mixed : Tryz.prog.follows Departure.mixedOrders = true := by kernel_rfl
  have hcn : ¬ (c = n) := by omega
  clear hr1 hW1 hs1 hK1 hcell hz0 hz1 hz2 hi0 hlx hnl hnews hr1e hzc
  replace hg := hide hg; replace hcs := hide hcs; replace hxs := hide hxs; replace hg' := hide hg'
  go_enter Tryz.func83, Tryz.ntmps83
  go_wp2_with fail
  by_cases hb2 : c = i + 1
  · obtain rfl : n = i := by omega
    subst hb2
    go_region_law_o (refine step_append_run rfl _ _ 141 141 rfl (.slice (some ⟨g, 0, none⟩) n (n + 1)) (.slice (some ⟨g, 0, none⟩) 0 0) (by simp [Act.eval, Act.put]) (by simp [Act.eval, Act.put]) _ _ (happ _ ⟨g, 0, none⟩ 0 0 (by omega) (fun h => absurd rfl h)) ?_)
    go_wp2_with (at_builtin; refine wpList_clear_run _ rfl _ 141 rfl (.slice (some ⟨g, n * 7, none⟩) 1 _) rfl _ _ (hclr _ rfl _ _) ?_)
    go_ret
    exact hfin _ rfl rfl rfl rfl
  · go_region_law_o (refine step_append_run rfl _ _ 141 141 rfl (.slice (some ⟨g, 0, none⟩) i c) (.slice (some ⟨g, (i + 1) * 7, none⟩) (n - i) (c - (i + 1))) (by simp [Act.eval, Act.put]) (by simp [Act.eval, Act.put]) _ _ (happ _ _ _ _ rfl (fun _ => rfl)) ?_)
    go_wp2_with (at_builtin; refine wpList_clear_run _ rfl _ 141 rfl (.slice (some ⟨g, n * 7, none⟩) 1 _) rfl _ _ (hclr _ rfl _ _) ?_)
    go_ret
    exact hfin _ rfl rfl rfl rfl
end Go.Proofs.YtodhhjlemmmjcaaGreat

namespace Go.Proofs.YtodhhjlemmmjcaaGreat
open Go.RowKit

attribute [local go_sem] Go.World.cell?_alloc_some
theorem five_at {w : World} {k : Nat} {a b c d f : Value} {t : TypeId} {fz : Nat × Nat} (hk : w.heap[k]? = some (.cells #[a, b, c, d, f] t fz)) :
    w.cell? ⟨k, 0, none⟩ = some a ∧ w.cell? ⟨k, 1, none⟩ = some b ∧ w.cell? ⟨k, 2, none⟩ = some c ∧ w.cell? ⟨k, 3, none⟩ = some d ∧ w.cell? ⟨k, 4, none⟩ = some f := by
  refine ⟨?_, ?_, ?_, ?_, ?_⟩ <;> simp [World.cell?, hk]
theorem five_sets {B k : Nat} {w : World} {c : Array Value} {t : TypeId} {fz : Nat × Nat} (hk : w.heap[k]? = some (.cells c t fz)) (hb : B ≤ k) (v0 v1 v2 v3 v4 : Value) : Wrote B (· = t) w (((((w.setCell ⟨k, 0, none⟩ v0).setCell ⟨k, 1, none⟩ v1).setCell ⟨k, 2, none⟩ v2).setCell ⟨k, 3, none⟩ v3).setCell ⟨k, 4, none⟩ v4) :=
  (((((Wrote.refl B (· = t) w).setCell (p := ⟨k, 0, none⟩) hb hk rfl v0).setCell (p := ⟨k, 1, none⟩) hb (set_atC hk v0) rfl v1).setCell (p := ⟨k, 2, none⟩) hb (set_atC (set_atC hk v0) v1) rfl v2).setCell (p := ⟨k, 3, none⟩) hb (set_atC (set_atC (set_atC hk v0) v1) v2) rfl v3).setCell (p := ⟨k, 4, none⟩) hb (set_atC (set_atC (set_atC (set_atC hk v0) v1) v2) v3) rfl v4
theorem eraseIdx_td {α : Type} (l : List α) (i : Nat) : l.eraseIdx i = l.take i ++ l.drop (i + 1) := List.eraseIdx_eq_take_drop_succ l i
theorem heap_set_far {w : World} {C i b : Nat} {u : Value} (h : ¬ b = C) : (w.setCell ⟨C, i, none⟩ u).heap[b]? = w.heap[b]? := by
  simp [World.setCell, Array.getElem?_modify, show ¬ C = b from fun e => h e.symm]
/-- What is left when a step was taken. -/
def TakeIsS (B C : Nat) (w : World) (t : Nat) (ss : List StepC) (i : Nat) (s : StepC) (e : Ending) (w' : World) : Prop :=
  e = .returned (.tuple #[.agg #[.int .i64 s.op, .string s.r.x.id.kind, .string s.r.x.id.name, .slice s.r.a2 s.r.n2 s.r.p2, .slice s.r.a3 s.r.n3 s.r.p3], .bool true]) ∧ Hid (TodoAt B w' t (ss.eraseIdx i)) ∧ Hid (OwnR B w' s.r.c2 s.r.c3 s.r.x) ∧ Hid (WroteTSt B w w') ∧ Hid (TabLow C w' t) ∧ Hid (Upper C w w')

set_option maxRecDepth 100000 in
set_option maxHeartbeats 3200000 in
theorem takeSt (B C : Nat) (ss : List StepC) (i : Nat) (s : StepC) (t : Nat) (w : World) (hT : TodoAt B w t ss) (hi : ss[i]? = some s) (hC : TabLow C w t) :
    Calls Tryz.prog 51 #[.pointer (some ⟨t, 0, none⟩), .agg #[.string s.r.x.id.kind, .string s.r.x.id.name]] w (TakeIsS B C w t ss i s) := by
  obtain ⟨v, hTb⟩ := hT.tab
  obtain ⟨pa, cap, rfl⟩ := ownsRow_form hTb.rows
  have E0 := hide (((Ext.refl w).alloc (.cells #[.string s.r.x.id.kind, .string s.r.x.id.name] 52)).alloc (.cells #[.int .i64 0, .string ⟨#[]⟩, .string ⟨#[]⟩, .slice none 0 0, .slice none 0 0] 60))
  have B0 := hide (two_new w (.cells #[.string s.r.x.id.kind, .string s.r.x.id.name] 52) (.cells #[.int .i64 0, .string ⟨#[]⟩, .string ⟨#[]⟩, .slice none 0 0, .slice none 0 0] 60))
  have hf := hide (tabFindSt B _ (ss.map rowS) s.r.x.id t _ (hTb.ext E0.out))
  replace hTb := hide hTb; replace hT := hide hT; replace hC := hide hC
  go_enter Tryz.func51, Tryz.ntmps51
  go_wp2_with fail
  refine hf.out.mono ?_
  rintro e1 w1 ⟨j, b, rfl, hj, hs1, hs2, hs3, he1⟩
  obtain rfl : b = true := hs2.out.2 (hasS_iff.2 ⟨s, List.mem_of_getElem? hi, rfl⟩)
  have hyi : (ss.map rowS)[i]? = some (rowS s) := by rw [List.getElem?_map, hi]; rfl
  obtain rfl : j = i := by
    obtain ⟨y, hy, hk⟩ := hs3.out rfl
    exact hTb.out.up.one ordI hy hyi hk
  have EX := hide (E0.out.trans he1.out)
  have hlt : j < ss.length := (List.getElem?_eq_some_iff.1 hi).1
  obtain ⟨n, hnn⟩ : ∃ n, ss.length = n + 1 := ⟨ss.length - 1, by omega⟩
  have hml : (ss.map rowS).length = n + 1 := by rw [List.length_map, hnn]
  have hT1 := hTb.out.ext EX.out
  have c1 := tabSt_c1 hT1.at_
  rw [hml] at c1
  obtain ⟨-, hc1, hc2, hin⟩ := rowsSt_in hT1.rows
  rw [hml] at hc1
  have hrows := hT1.rows
  rcases hrows.2 with ⟨hv, h0⟩ | ⟨g, cap', cur, hv, hbg, hgg, hcc, hcm, hcs, hcur⟩
  · rw [hml] at h0; cases h0
  obtain ⟨rfl, rfl⟩ : pa = some ⟨g, 0, none⟩ ∧ cap = cap' := by simpa using hv
  rw [hml] at hcc hcur
  rcases hin with hnil | ⟨g', hg', hI⟩
  · rw [hnil] at hml; cases hml
  obtain rfl : g = g' := by simpa using hg'
  have hI := hI j (rowS s) hyi
  have k2 := hI 2 _ rfl; have k3 := hI 3 _ rfl; have k4 := hI 4 _ rfl; have k5 := hI 5 _ rfl; have k6 := hI 6 _ rfl
  unfold maxLen at hc2
  have i2 : (j : Int) < (n : Int) + 1 := by omega
  have i4 : (0 : Int) ≤ (j : Int) := by omega
  have w1s : Hid (w.heap.size + 2 ≤ w1.heap.size) := by have := Ext.size he1.out; simp at this; exact this
  have Bx := hide (heap_alloc_new w1 (.cells #[.int .i64 s.op, .string s.r.x.id.kind, .string s.r.x.id.name, .slice s.r.a2 s.r.n2 s.r.p2, .slice s.r.a3 s.r.n3 s.r.p3] 60))
  have Eb := hide ((Ext.refl w1).alloc (.cells #[.int .i64 s.op, .string s.r.x.id.kind, .string s.r.x.id.name, .slice s.r.a2 s.r.n2 s.r.p2, .slice s.r.a3 s.r.n3 s.r.p3] 60))
  have B1 := hide (ext_at (he1.out.trans Eb.out) B0.out)
  have At := hide (ext_at Eb.out hT1.at_)
  have hdel := hide (delSt g n cap j cur (cellsG cRowSt (ss.map rowS)) _ (by omega) hcc (by unfold maxLen at hcm; omega) (ext_at Eb.out hgg) hcs hcur (cellsRowSt_one _))
  have c1b := tabSt_c1 At.out
  rw [hml] at c1b
  replace hml := hide hml; replace hnn := hide hnn
  dsimp only [rowS] at k2 k3 k4 k5 k6
  replace hT1 := hide hT1; replace hgg := hide hgg; replace hI := hide hI; replace hyi := hide hyi; replace hi := hide hi; replace hrows := hide hrows; replace hcur := hide hcur
  clear hf hv
  go_wp2_with fail
  refine hdel.out.mono ?_
  rintro e2 w2 ⟨row, rfl, hr1, hr2, hr3, hk⟩
  have hgl : g < w1.heap.size := (Array.getElem?_eq_some_iff.1 hgg.out).1
  have tg : ¬ t = g := by
    rintro rfl
    have h1 := hT1.out.at_
    rw [hgg.out] at h1
    simp only [Option.some.injEq, Obj.cells.injEq] at h1
    exact absurd h1.2.1 (by decide)
  have htl : t < w1.heap.size := (Array.getElem?_eq_some_iff.1 hT1.out.at_).1
  have At2 := hk.heap At.out tg
  have Bx2 := hk.heap Bx.out (show ¬ w1.heap.size = g by omega)
  have rg : ¬ w.heap.size + 1 = g := by
    rintro rfl
    have h1 := ext_at he1.out B0.out
    rw [hgg.out] at h1
    simp only [Option.some.injEq, Obj.cells.injEq] at h1
    exact absurd h1.2.1 (by decide)
  have rt : ¬ w.heap.size + 1 = t := by
    rintro rfl
    have h1 := ext_at he1.out B0.out
    rw [hT1.out.at_] at h1
    simp only [Option.some.injEq, Obj.cells.injEq] at h1
    exact absurd h1.2.1 (by decide)
  have B2 := hk.heap B1.out rg
  have f2 := row_frozen At2
  have d1 := tabSt_c1 At2
  have Bx3 := (heap_set_far (i := 1) (u := .slice (some ⟨g, 0, none⟩) n cap) (show ¬ w1.heap.size = t by omega)).trans Bx2
  have B3 := (heap_set_far (i := 1) (u := .slice (some ⟨g, 0, none⟩) n cap) rt).trans B2
  obtain ⟨x0, x1, x2, x3, x4⟩ := five_at Bx3
  obtain ⟨r0, r1, r2, r3, r4⟩ := five_at B3
  have f3 := row_frozen B3
  replace Bx3 := hide Bx3; replace B3 := hide B3; replace At2 := hide At2; replace Bx2 := hide Bx2; replace B2 := hide B2; replace hr1 := hide hr1; replace hk := hide hk; replace rg := hide rg; replace rt := hide rt; replace tg := hide tg; replace hr2 := hide hr2; replace hr3 := hide hr3
  clear k2 k3 k4 k5 k6 c1 c1b
  go_wp2_with fail
  have hnw : w.heap.size ≤ w.heap.size + 1 := by omega
  have hgC : Hid (g < C) := by
    obtain ⟨v', hv', hlow⟩ := hC.out.2
    have := hTb.out.at_
    rw [hv'] at this
    obtain rfl : v' = _ := by simpa using this
    exact hlow g (by simp [Value.ownBlock])
  have WR2 : WroteTSt B w w2 := (((Wrote.ext EX.out).then Eb.out).trans ((Wrote.keptG (T := (· = 140)) hk.out (ext_at Eb.out hgg.out) rfl hbg).mono (Nat.le_refl _) fun _ h => .inl h))
  have WR3 := WR2.setCell (p := ⟨t, 1, none⟩) hT1.out.base At2.out (.inr rfl) (.slice (some ⟨g, 0, none⟩) n cap)
  have WR := hide (((((WR3.setNew (p := ⟨w.heap.size + 1, 0, none⟩) hnw (.int .i64 s.op)).setNew (p := ⟨w.heap.size + 1, 1, none⟩) hnw (.string s.r.x.id.kind)).setNew (p := ⟨w.heap.size + 1, 2, none⟩) hnw (.string s.r.x.id.name)).setNew (p := ⟨w.heap.size + 1, 3, none⟩) hnw (.slice s.r.a2 s.r.n2 s.r.p2)).setNew (p := ⟨w.heap.size + 1, 4, none⟩) hnw (.slice s.r.a3 s.r.n3 s.r.p3))
  have hfar : ∀ b, ¬ b = w.heap.size + 1 → ((((((w2.setCell ⟨t, 1, none⟩ (.slice (some ⟨g, 0, none⟩) n cap)).setCell ⟨w.heap.size + 1, 0, none⟩ (.int .i64 s.op)).setCell ⟨w.heap.size + 1, 1, none⟩ (.string s.r.x.id.kind)).setCell ⟨w.heap.size + 1, 2, none⟩ (.string s.r.x.id.name)).setCell ⟨w.heap.size + 1, 3, none⟩ (.slice s.r.a2 s.r.n2 s.r.p2)).setCell ⟨w.heap.size + 1, 4, none⟩ (.slice s.r.a3 s.r.n3 s.r.p3)).heap[b]? = (w2.setCell ⟨t, 1, none⟩ (.slice (some ⟨g, 0, none⟩) n cap)).heap[b]? := fun b hb => by
    rw [heap_set_far hb, heap_set_far hb, heap_set_far hb, heap_set_far hb, heap_set_far hb]
  replace hfar := hide hfar
  have hmap : (ss.eraseIdx j).map rowS = (ss.map rowS).take j ++ (ss.map rowS).drop (j + 1) := by rw [eraseIdx_td, List.map_append, List.map_take, List.map_drop]
  have hel : ((ss.eraseIdx j).map rowS).length = n := by rw [List.length_map, List.length_eraseIdx, if_pos (by rw [hnn.out]; omega), hnn.out]; omega
  have hcel : Hid (row.toList.take (n * 7) = cellsG cRowSt ((ss.eraseIdx j).map rowS)) := by
    show _ = _
    rw [hr3.out, cellsG_take cRowSt_len, cellsG_drop cRowSt_len, hmap]
    simp [cellsG, List.flatMap_append]
  refine bodyPost_ret (v := .tuple #[.agg #[.int .i64 s.op, .string s.r.x.id.kind, .string s.r.x.id.name, .slice s.r.a2 s.r.n2 s.r.p2, .slice s.r.a3 s.r.n3 s.r.p3], .bool true]) (by simp [results, Tryz.results51, go_sem, r0, r1, r2, r3, r4]) rfl ⟨rfl, ⟨⟨.slice (some ⟨g, 0, none⟩) n cap, ⟨?_, ⟨?_, .inr ⟨g, cap, row, by rw [hel], hbg, ?_, by rw [hel]; omega, hcm, hr2.out, by rw [hel]; exact hcel.out⟩⟩, ?_, by rw [hel]; have := hT1.out.few; rw [hml.out] at this; omega, hT1.out.base⟩⟩, ?_, ?_⟩, (hT.out.each s (List.mem_of_getElem? hi.out)).1.put WR.out (by decide) (by decide), WR, ⟨hC.out.1, .slice (some ⟨g, 0, none⟩) n cap, ?_, ?_⟩, ?_⟩
  · rw [hfar.out t (fun e => rt.out e.symm)]; exact tabSt_set At2.out _
  · exact cellsG_len cRowSt_len _
  · rw [hfar.out g (fun e => rg.out e.symm), heap_set_far (fun e => tg.out e.symm)]; exact hr1.out
  · rw [show (ss.eraseIdx j).map rowS = (ss.map rowS).eraseIdx j by rw [hmap, ← eraseIdx_td]]
    exact List.Pairwise.sublist (List.eraseIdx_sublist _ _) hT1.out.up
  · intro q hq
    have hq' := (List.eraseIdx_sublist _ _).subset hq
    exact ⟨(hT.out.each q hq').1.put WR.out (by decide) (by decide), (hT.out.each q hq').2⟩
  · exact List.Pairwise.sublist (List.eraseIdx_sublist _ _) hT.out.apart
  · rw [hfar.out t (fun e => rt.out e.symm)]; exact tabSt_set At2.out _
  · intro g' hg'
    obtain rfl : g = g' := by simpa [Value.ownBlock] using hg'
    exact hgC.out
  · refine ⟨WR.out.size, fun b hb hbw => ?_⟩
    have hbt : ¬ b = t := by have := hC.out.1; omega
    have hbg' : ¬ b = g := by have := hgC.out; omega
    rw [hfar.out b (by omega), heap_set_far hbt, hk.out.block b (by have := Ext.size (EX.out.trans Eb.out); omega) hbg', Below.block (EX.out.trans Eb.out) b hbw]
end Go.Proofs.YtodhhjlemmmjcaaGreat
