/-
  A key is looked for among the rows (table F).
-/
/-
  The table F: what its methods answer.
-/
/-
  The reference's disk in memory; which act breaks off; the file of a name.
-/
import Derived.Test.YtpkhmgonkbpjjaaInsF
import Derived.Test.YtpkhmgonkbpjjaaJ4
import Derived.Laws.BitsAllLaws
import Derived.Test.YtpkhmgonkbpjjaaJ9
namespace Go.Proofs.Ytpkhmgonkbpjjaa
open Go.RowKit

theorem rowsF_in {B : Nat} {w : World} {pa : Option Addr} {n cap : Nat} {rs : List RowF} (h : RowsF B w (.slice pa n cap) rs) : n = rs.length ∧ n ≤ cap ∧ cap ≤ maxLen ∧ (rs = [] ∨ ∃ g, pa = some ⟨g, 0, none⟩ ∧ ∀ (i : Nat) x, rs[i]? = some x → ∀ r u, (cRowF x)[r]? = some u → w.cell? ⟨g, i * 2 + r, none⟩ = some u) := by
  rcases h.2 with ⟨h1, h2⟩ | ⟨g, c, cur, h1, _, hg, hc, hm, hs, ht⟩
  · cases h1
    exact ⟨h2.symm, Nat.le_refl _, by unfold maxLen; omega, .inl (List.eq_nil_of_length_eq_zero h2)⟩
  · cases h1
    refine ⟨rfl, hc, hm, .inr ⟨g, rfl, fun i x hx r u hu => ?_⟩⟩
    have hlt : i < rs.length := (List.getElem?_eq_some_iff.1 hx).1
    have hr : r < 2 := (List.getElem?_eq_some_iff.1 hu).1
    have h1 : (cellsG cRowF rs)[i * 2 + r]? = (cRowF x)[r]? := flat_get cRowF_len hx hr
    rw [← hu, ← h1, ← ht, List.getElem?_take, if_pos (by omega)]
    simp [World.cell?, hg]

set_option maxRecDepth 100000 in
set_option maxHeartbeats 800000 in
theorem findCmpF (x : RowF) (a : ByteArray) (p t : Nat) (w : World) (hp : w.cell? ⟨p, 0, none⟩ = some (.pointer (some ⟨t, 0, none⟩))) (ht : w.cell? ⟨t, 0, none⟩ = some (.func (.func 36) #[] #[])) :
    Calls Try.prog 94 #[.agg #[.string x.key, .pointer (some ⟨x.val, 0, none⟩)], .string a, .pointer (some ⟨p, 0, none⟩)] w fun e w' => e = .returned (.int .i64 (cmpS x.key a)) ∧ Ext w w' := by
  have hpl : p < w.heap.size := World.block_lt_of_cell? w _ hp
  have htl : t < w.heap.size := World.block_lt_of_cell? w _ ht
  have g0 := World.cell?_alloc_past (w := w) (.cells #[.string x.key, .pointer (some ⟨x.val, 0, none⟩)] 140) p 0 hpl
  have g1 := World.cell?_alloc_past (w := w) (.cells #[.string x.key, .pointer (some ⟨x.val, 0, none⟩)] 140) t 0 htl
  rw [hp] at g0
  rw [ht] at g1
  replace hp := hide hp; replace ht := hide ht; replace hpl := hide hpl; replace htl := hide htl
  go_enter Try.func94, Try.ntmps94
  go_wp2_with fail
  go_region_held3 (fun w' => w'.cell? ⟨p, 0, none⟩ = some (.pointer (some ⟨t, 0, none⟩)) ∧ w'.cell? ⟨t, 0, none⟩ = some (.func (.func 36) #[] #[]) ∧ w'.cell? ⟨w.heap.size, 0, none⟩ = some (.string x.key)) (go_keep)
    ((go_at_call 36; refine (Try.strings_Compare _ _ _).mono ?_; rintro e w1 ⟨rfl, rfl⟩))
  go_wp2
  go_ret
  exact ⟨rfl, ((Ext.refl _).alloc _).drew⟩

/-- What the look for a key answers. -/
def SrcIsF (w : World) (rs : List RowF) (a : ByteArray) (e : Ending) (w' : World) : Prop :=
  ∃ (i : Nat) (b : Bool), e = .returned (.tuple #[.int .i64 i, .bool b]) ∧ i ≤ rs.length ∧ Hid (StandsG cmpS RowF.key rs a i) ∧ Hid (b = true ↔ HasK RowF.key rs a) ∧ Hid (b = true → ∃ x, rs[i]? = some x ∧ x.key = a) ∧ Hid (Ext w w')

set_option maxRecDepth 100000 in
set_option maxHeartbeats 3200000 in
theorem searchF (B : Nat) (v : Value) (rs : List RowF) (a : ByteArray) (p t : Nat) (w : World) (hv : RowsF B w v rs) (hu : UpG cmpS RowF.key rs) (hn : rs.length ≤ 2000000000000)
    (hp : w.cell? ⟨p, 0, none⟩ = some (.pointer (some ⟨t, 0, none⟩))) (ht : w.cell? ⟨t, 0, none⟩ = some (.func (.func 36) #[] #[])) :
    Calls Try.prog 93 #[v, .string a, .func (.func 94) #[] #[.pointer (some ⟨p, 0, none⟩)]] w (SrcIsF w rs a) := by
  obtain ⟨pa, cap, rfl⟩ := ownsRow_form hv
  obtain ⟨-, hc1, hc2, hin⟩ := rowsF_in hv
  unfold maxLen at hc2
  replace hin := hide hin; replace hp := hide hp; replace ht := hide ht; replace hv := hide hv; replace hu := hide hu
  go_enter Try.func93, Try.ntmps93
  go_wp2_with fail
  go_loopw [9, 10] (fun i j wr => ∃ i' j' : Nat, i' ≤ j' ∧ j' ≤ rs.length ∧ i = .int .i64 i' ∧ j = .int .i64 j' ∧ Hid (∀ (k : Nat) x, k < i' → rs[k]? = some x → cmpS x.key a < 0) ∧ Hid (∀ (k : Nat) x, j' ≤ k → rs[k]? = some x → 0 ≤ cmpS x.key a) ∧ Hid (Ext w wr)) (fun i j _ => (intOf j).toNat - (intOf i).toNat)
  case atStart => exact ⟨0, rs.length, Nat.zero_le _, Nat.le_refl _, rfl, rfl, fun _ _ h => absurd h (by omega), fun k x h hx => absurd (List.getElem?_eq_some_iff.1 hx).1 (by omega), Ext.refl _⟩
  case round =>
    obtain ⟨i, j, hij, hj, rfl, rfl, hA, hB, hx⟩ := hrel
    have X0 := hx
    have hp1 := hide (X0.out.cells hp.out)
    have ht1 := hide (X0.out.cells ht.out)
    by_cases hlt : i < j
    · obtain ⟨h, hh⟩ : ∃ h, h = (i + j) / 2 := ⟨_, rfl⟩
      have e1 : IntKind.u64.wrap ((i : Int) + (j : Int)) = ((i + j : Nat) : Int) := by rw [IntKind.wrap_u64]; omega
      obtain ⟨x, hxh⟩ := some_of_lt (show h < rs.length by omega)
      rcases hin.out with hnil | ⟨g, rfl, hI⟩
      · rw [hnil] at hj; simp at hj; omega
      replace hI := hI h x hxh
      have k0 := X0.out.cells (hI 0 _ rfl)
      have k1 := X0.out.cells (hI 1 _ rfl)
      rw [Nat.add_zero] at k0
      have h2 : (h : Int) < (rs.length : Int) := by omega
      have h3 : (0 : Int) ≤ (h : Int) := by omega
      have h4 : ((i : Int) + (j : Int)) / 2 = (h : Int) := by omega
      have hlo : i ≤ h := by omega
      have hhi : h < j := by omega
      replace hI := hide hI; replace hxh := hide hxh; replace hh := hide hh
      go_wp2_with fail
      refine (findCmpF x a p t wr hp1.out ht1.out).mono ?_
      rintro e w1 ⟨rfl, he1⟩
      replace he1 := hide he1
      by_cases hb : cmpS x.key a < 0
      · go_wp2_with fail
        go_roundw
        case rel => exact ⟨h + 1, j, by omega, hj, by go_num, rfl, hu.out.stands ordS hxh.out hb, hB, hx.out.trans he1.out⟩
        case measure => simp [intOf]; omega
      · have hb' : ¬ cmpS x.key a < 0 := hb
        replace hb' := hide hb'
        go_wp2_with fail
        go_roundw
        case rel => exact ⟨i, h, by omega, by omega, rfl, rfl, hA, hu.out.stands' ordS hxh.out (by first | exact hb'.out | exact Int.not_lt.2 hb'.out), hx.out.trans he1.out⟩
        case measure => simp [intOf]; omega
    · obtain rfl : i = j := by omega
      have hst : Hid (StandsG cmpS RowF.key rs a i) := ⟨hj, hA.out, fun k x hk hx => Int.not_lt.2 (hB.out k x hk hx)⟩
      by_cases hend : i < rs.length
      · obtain ⟨x, hxh⟩ := some_of_lt hend
        rcases hin.out with hnil | ⟨g, rfl, hI⟩
        · rw [hnil] at hend; simp at hend
        replace hI := hI i x hxh
        have k0 := X0.out.cells (hI 0 _ rfl)
        have k1 := X0.out.cells (hI 1 _ rfl)
        rw [Nat.add_zero] at k0
        have h2 : (i : Int) < (rs.length : Int) := by omega
        have h3 : (0 : Int) ≤ (i : Int) := by omega
        replace hI := hide hI; replace hxh := hide hxh
        go_wp2_with fail
        refine (findCmpF x a p t wr hp1.out ht1.out).mono ?_
        rintro e w1 ⟨rfl, he1⟩
        replace he1 := hide he1
        go_wp2
        go_ret2
        refine ⟨i, cmpS x.key a == 0, rfl, hj, hst, ?_, ?_, X0.out.trans he1.out⟩
        · show _ ↔ _
          constructor
          · intro h; exact StandsG.there ordS hxh.out (by simpa using h)
          · intro h
            by_cases e : cmpS x.key a = 0
            · simpa using e
            · exact absurd h (hst.out.gone ordS hu.out fun y hy => by rw [hxh.out] at hy; cases hy; exact e)
        · intro h
          exact ⟨x, hxh.out, ordS.zero.1 (by simpa using h)⟩
      · have h2 : ¬ (i : Int) < (rs.length : Int) := by omega
        go_wp2
        go_ret2
        refine ⟨i, false, rfl, hj, hst, ?_, ?_, X0.out⟩
        · show _ ↔ _
          constructor
          · intro h; cases h
          · intro h
            exact absurd h (hst.out.gone ordS hu.out fun y hy => absurd (List.getElem?_eq_some_iff.1 hy).1 (by omega))
        · intro h; cases h
end Go.Proofs.Ytpkhmgonkbpjjaa

namespace Go.Proofs.Ytpkhmgonkbpjjaa
open Go.RowKit

/-- A table lies in memory. -/
structure TabAtF (B : Nat) (w : World) (t : Nat) (v : Value) (rs : List RowF) : Prop where
  at_ : w.heap[t]? = some (.cells #[.func (.func 36) #[] #[], v] 137 (0, 0))
  rows : RowsF B w v rs
  up : UpG cmpS RowF.key rs
  few : rs.length ≤ 2000000000000
  base : B ≤ t
theorem tabF_c0 {w : World} {k : Nat} {a b : Value} {t : TypeId} {fz : Nat × Nat} (hk : w.heap[k]? = some (.cells #[a, b] t fz)) : w.cell? ⟨k, 0, none⟩ = some a := by simp [World.cell?, hk]
theorem tabF_c1 {w : World} {k : Nat} {a b : Value} {t : TypeId} {fz : Nat × Nat} (hk : w.heap[k]? = some (.cells #[a, b] t fz)) : w.cell? ⟨k, 1, none⟩ = some b := by simp [World.cell?, hk]
theorem tabF_set {w : World} {k : Nat} {a b : Value} {t : TypeId} {fz : Nat × Nat} (hk : w.heap[k]? = some (.cells #[a, b] t fz)) (v : Value) : (w.setCell ⟨k, 1, none⟩ v).heap[k]? = some (.cells #[a, v] t fz) := by
  simp [World.setCell, Array.getElem?_modify, hk]
theorem TabAtF.ext {B : Nat} {w w' : World} {t : Nat} {v : Value} {rs : List RowF} (h : TabAtF B w t v rs) (e : Ext w w') : TabAtF B w' t v rs :=
  ⟨ext_heap e h.at_, ownsRow_wrote h.rows (Wrote.ext (B := 0) (T := fun _ => False) e) id rfl, h.up, h.few, h.base⟩
theorem TabAtF.kept {B : Nat} {D : Nat → Prop} {w w' : World} {t : Nat} {v : Value} {rs : List RowF} (h : TabAtF B w t v rs) (k : Kept D w w') (h1 : ¬ D t) (h2 : ∀ g, v.ownBlock = some g → ¬ D g) : TabAtF B w' t v rs := by
  refine ⟨k.heap h.at_ h1, ⟨h.rows.1, ?_⟩, h.up, h.few, h.base⟩
  rcases h.rows.2 with h3 | ⟨g, cap, cur, rfl, h4, h5, h6⟩
  · exact .inl h3
  · exact .inr ⟨g, cap, cur, rfl, h4, k.heap h5 (h2 g rfl), h6⟩
theorem TabAtF.ne {B : Nat} {w : World} {t : Nat} {v : Value} {rs : List RowF} (h : TabAtF B w t v rs) {g : Nat} (hg : v.ownBlock = some g) : t ≠ g := by
  rintro rfl
  rcases h.rows.2 with ⟨rfl, _⟩ | ⟨g', cap, cur, rfl, _, h5, _⟩
  · simp [Value.ownBlock] at hg
  · obtain rfl : g' = t := by simpa [Value.ownBlock] using hg
    have h1 := h.at_
    rw [h5] at h1
    simp only [Option.some.injEq, Obj.cells.injEq] at h1
    exact absurd h1.2.1 (by decide)
theorem TabAtF.lt {B : Nat} {w : World} {t : Nat} {v : Value} {rs : List RowF} (h : TabAtF B w t v rs) : t < w.heap.size ∧ ∀ g, v.ownBlock = some g → g < w.heap.size := by
  refine ⟨(Array.getElem?_eq_some_iff.1 h.at_).1, fun g hg => ?_⟩
  rcases h.rows.2 with ⟨rfl, _⟩ | ⟨g', cap, cur, rfl, _, h5, _⟩
  · simp [Value.ownBlock] at hg
  · obtain rfl : g' = g := by simpa [Value.ownBlock] using hg
    exact (Array.getElem?_eq_some_iff.1 h5).1
theorem TabAtF.low {B B' : Nat} {w : World} {t : Nat} {v : Value} {rs : List RowF} (h : TabAtF B w t v rs) (hb : B' ≤ B) : TabAtF B' w t v rs := ⟨h.at_, ownsRow_low h.rows hb, h.up, h.few, Nat.le_trans hb h.base⟩
theorem TabAtF.wrote {B B' : Nat} {T : TypeId → Prop} {w w' : World} {t : Nat} {v : Value} {rs : List RowF} (h : TabAtF B w t v rs) (k : Wrote B' T w w') (hT : ¬ T 140 ∧ ¬ T 137) : TabAtF B w' t v rs :=
  ⟨k.keeps h.at_ hT.2, ownsRow_wrote h.rows k hT.1 rfl, h.up, h.few, h.base⟩

set_option maxRecDepth 100000 in
set_option maxHeartbeats 800000 in
theorem tabFindF (B : Nat) (v : Value) (rs : List RowF) (a : ByteArray) (t : Nat) (w : World) (ht : TabAtF B w t v rs) :
    Calls Try.prog 87 #[.pointer (some ⟨t, 0, none⟩), .string a] w (SrcIsF w rs a) := by
  obtain ⟨pa, cap, rfl⟩ := ownsRow_form ht.rows
  have hw : t < w.heap.size := (Array.getElem?_eq_some_iff.1 ht.at_).1
  have X2 := hide ((Ext.refl w).alloc (.cells #[.pointer (some ⟨t, 0, none⟩)] 93))
  have ht2 := hide (ht.ext X2.out)
  have c1 := X2.out.cells (tabF_c1 ht.at_)
  have c0 := hide (X2.out.cells (tabF_c0 ht.at_))
  replace ht := hide ht
  go_enter Try.func87, Try.ntmps87
  go_wp2_with fail
  refine (searchF B _ rs a w.heap.size t _ ht2.out.rows ht2.out.up ht2.out.few (by simp [go_sem]) c0.out).mono ?_
  rintro e w1 ⟨i, b, rfl, hi, hs1, hs2, hs3, he1⟩
  go_wp2
  go_ret2
  exact ⟨i, b, rfl, hi, hs1, hs2, hs3, X2.out.trans he1.out⟩

set_option maxRecDepth 100000 in
set_option maxHeartbeats 800000 in
theorem tabNewF (w : World) :
    Calls Try.prog 35 #[.func (.func 36) #[] #[]] w fun e w' => e = .returned (.pointer (some ⟨w.heap.size, 0, none⟩)) ∧ Hid (TabAtF w.heap.size w' w.heap.size (.slice none 0 0) []) ∧ Hid (w' = w.alloc (.cells #[.func (.func 36) #[] #[], .slice none 0 0] 137)) := by
  go_enter Try.func35, Try.ntmps35
  go_wp2
  go_ret
  exact ⟨rfl, ⟨heap_alloc_new _ _, World.ownsRow_nil _ _ _ _, List.Pairwise.nil, Nat.zero_le _, Nat.le_refl _⟩, rfl⟩
end Go.Proofs.Ytpkhmgonkbpjjaa

namespace Go.Proofs.Ytpkhmgonkbpjjaa
open Go.RowKit

attribute [local go_sem] Go.World.cell?_alloc_some
/-- The reference's disk lies in memory. -/
structure RefIn (w : World) (y : Nat) (vF vC : Value) (kc sc : Int) (D : DskS) : Prop where
  box : w.heap[y]? = some (.cells #[.int .i64 (D.room : Int), vF, vC, .int .i64 (D.last : Int), .int .i64 (D.due : Int), .int .i64 kc, .int .i64 sc] 58 (0, 0))
  files : w.ownsRow 0 105 2 vF D.files.length (cellsG cFl D.files)
  chs : w.ownsRow 0 107 3 vC D.chs.length (cellsG cRC D.chs)
  ok : D.Ok
  due : D.due ≤ 9223372036854775807
  brk : D.due ≠ 0 → kc = D.keep ∧ sc = D.stay
  st : sc ≤ 9223372036854775807
theorem seven_at {w : World} {k : Nat} {a b c d e f g : Value} {t : TypeId} {fz : Nat × Nat} (hk : w.heap[k]? = some (.cells #[a, b, c, d, e, f, g] t fz)) :
    w.cell? ⟨k, 0, none⟩ = some a ∧ w.cell? ⟨k, 1, none⟩ = some b ∧ w.cell? ⟨k, 2, none⟩ = some c ∧ w.cell? ⟨k, 3, none⟩ = some d ∧ w.cell? ⟨k, 4, none⟩ = some e ∧ w.cell? ⟨k, 5, none⟩ = some f ∧ w.cell? ⟨k, 6, none⟩ = some g := by
  refine ⟨?_, ?_, ?_, ?_, ?_, ?_, ?_⟩ <;> simp [World.cell?, hk]
theorem RefIn.ext {w w' : World} {y : Nat} {vF vC : Value} {kc sc : Int} {D : DskS} (h : RefIn w y vF vC kc sc D) (e : Ext w w') : RefIn w' y vF vC kc sc D :=
  ⟨ext_heap e h.box, ownsRow_wrote h.files (Wrote.ext (B := 0) (T := fun _ => False) e) id rfl, ownsRow_wrote h.chs (Wrote.ext (B := 0) (T := fun _ => False) e) id rfl, h.ok, h.due, h.brk, h.st⟩
/-- The number of a name's file: -1, if there is none. -/
noncomputable def fileN (D : DskS) (name : ByteArray) : Int := match lookN name D.names with
  | some i => (i : Int)
  | none => -1

set_option maxRecDepth 100000 in
set_option maxHeartbeats 1600000 in
theorem refFile (w : World) (y : Nat) (vF vC : Value) (kc sc : Int) (D : DskS) (name : ByteArray) (h : RefIn w y vF vC kc sc D) (hfew : D.chs.length ≤ 2000000000000) :
    Calls Try.prog 48 #[.pointer (some ⟨y, 0, none⟩), .string name] w fun e w' => e = .returned (.int .i64 (fileN D name)) ∧ Hid (Ext w w') := by
  have c2 := (seven_at h.box).2.2.1
  have hpl := hide (playedP w vC D.chs D.files.length h.chs h.ok.chs hfew)
  have hL1 := play_len D.chs
  replace h := hide h
  go_enter Try.func48, Try.ntmps48
  go_wp2_with fail
  refine hpl.out.mono ?_
  rintro e1 w1 ⟨pa, cap, rfl, hr, X1⟩
  obtain ⟨-, hm1, hm2, hat⟩ := rowG_at cNm_len hr.out
  obtain ⟨L, hL⟩ : ∃ L, L = playN D.chs := ⟨_, rfl⟩
  rw [← hL] at hat hL1 hm1
  rw [← hL]
  replace hat := hide hat; replace hL := hide hL; replace hr := hide hr.out
  go_wp2_with fail
  go_loopw [6] (fun kv wr => ∃ k : Nat, k ≤ L.length ∧ kv = .int .i64 k ∧ Hid (Ext w1 wr) ∧ Hid (¬ HasK Prod.fst (L.take k) name)) (fun k _ => L.length - (intOf k).toNat)
  case atStart => exact ⟨0, Nat.zero_le _, rfl, Ext.refl _, fun ⟨x, hx, _⟩ => by simp at hx⟩
  case round =>
    obtain ⟨k, hk, rfl, hXr, hno⟩ := hrel
    by_cases hlt : k < L.length
    · obtain ⟨x, hx⟩ : ∃ x, L[k]? = some x := ⟨_, List.getElem?_eq_getElem hlt⟩
      obtain ⟨g, rfl, hg⟩ := hat.out k x hx
      have x0 := hg 0 (by omega)
      have x1 := hg 1 (by omega)
      rw [Nat.add_zero] at x0
      simp only [cNm, List.getElem?_cons_zero, List.getElem?_cons_succ] at x0 x1
      replace x0 := hXr.out.cells x0
      replace x1 := hXr.out.cells x1
      have k1 : (k : Int) < (L.length : Int) := by omega
      have k2 : (0 : Int) ≤ (k : Int) := by omega
      replace hx := hide hx; replace hg := hide hg
      by_cases hn : x.1 = name
      · have z1 : x.1.toList = name.toList := by rw [hn]
        replace hn := hide hn
        go_wp2_with fail
        go_ret
        have e : lookN name D.names = some x.2 := by
          unfold lookN DskS.names
          rw [← hL.out, lookK_of (by rw [hL.out]; exact play_nodup D.chs) (List.mem_of_getElem? hx.out) hn.out]
          rfl
        exact ⟨by unfold fileN; rw [e]; rfl, X1.out.trans hXr.out⟩
      · have z1 : ¬ x.1.toList = name.toList := fun e => hn (by simpa [ByteArray.toList_eq, ByteArray.ext_iff] using e)
        have z2 : (x.1.toList == name.toList) = false := by simpa using z1
        replace hn := hide hn
        go_wp2_with fail
        go_roundw
        case rel =>
          refine ⟨k + 1, by omega, by go_num, hXr, fun ⟨q, hq, e⟩ => ?_⟩
          rw [List.take_add_one, hx.out, Option.toList_some] at hq
          rcases List.mem_append.1 hq with h1 | h1
          · exact hno.out ⟨q, h1, e⟩
          · obtain rfl : q = x := by simpa using h1
            exact hn.out e
        case measure => simp [intOf]; omega
    · obtain rfl : k = L.length := by omega
      go_wp2_with fail
      go_ret
      have e : lookN name D.names = none := by
        have h1 := hno.out
        rw [List.take_length] at h1
        unfold lookN DskS.names
        rw [← hL.out, lookK_none.2 h1]; rfl
      exact ⟨by unfold fileN; rw [e]; rfl, X1.out.trans hXr.out⟩
end Go.Proofs.Ytpkhmgonkbpjjaa
