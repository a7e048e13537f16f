/-
  What is looked for in a list by its ID.
-/
import Derived.Test.YtkjjfdejfihpfaaGreatKeys
import Derived.Test.YtkjjfdejfihpfaaGreatRefFind
import Derived.Test.YtkjjfdejfihpfaaGreatJ8
namespace Go.Proofs.YtkjjfdejfihpfaaGreat
open Go.RowKit

theorem ba_iff {a b : ByteArray} : a.toList = b.toList ↔ a = b := ⟨fun h => by by_cases e : a = b; exact e; exact absurd h (ba_ne e), fun h => by rw [h]⟩
def hitK (x a : IDd) : Bool := decide (x.kind = a.kind ∧ x.name = a.name)
theorem hitK_iff {x a : IDd} : hitK x a = true ↔ x = a := by
  unfold hitK
  rw [decide_eq_true_eq]
  constructor
  · rintro ⟨h1, h2⟩; cases x; cases a; simp_all
  · rintro rfl; exact ⟨rfl, rfl⟩

set_option maxRecDepth 100000 in
set_option maxHeartbeats 800000 in
theorem hitA (a x : IDd) (a2 a3 : Option Addr) (n2 n3 p2 p3 p : Nat) (w : World) (h0 : w.cell? ⟨p, 0, none⟩ = some (.string a.kind)) (h1 : w.cell? ⟨p, 1, none⟩ = some (.string a.name)) :
    Calls Tryz.prog 90 #[.agg #[.string x.kind, .string x.name, .slice a2 n2 p2, .slice a3 n3 p3], .pointer (some ⟨p, 0, none⟩)] w fun e w' => e = .returned (.bool (hitK x a)) ∧ Ext w w' := by
  have hp := World.block_lt_of_cell? w _ h0
  have g0 := World.cell?_alloc_past (w := w) (.cells #[.string x.kind, .string x.name, .slice a2 n2 p2, .slice a3 n3 p3] 40) p 0 hp
  have g1 := World.cell?_alloc_past (w := w) (.cells #[.string x.kind, .string x.name, .slice a2 n2 p2, .slice a3 n3 p3] 40) p 1 hp
  rw [h0] at g0; rw [h1] at g1
  replace h0 := hide h0; replace h1 := hide h1; replace hp := hide hp
  go_enter Tryz.func90, Tryz.ntmps90
  go_wp2_with fail
  all_goals go_ret
  all_goals refine ⟨retB ?_, (Ext.refl _).alloc _⟩
  all_goals simp_all [hitK, ba_iff]

set_option maxRecDepth 100000 in
set_option maxHeartbeats 800000 in
theorem hitB (a x : IDd) (a2 a3 : Option Addr) (n2 n3 p2 p3 p : Nat) (w : World) (h0 : w.cell? ⟨p, 0, none⟩ = some (.string a.kind)) (h1 : w.cell? ⟨p, 1, none⟩ = some (.string a.name)) :
    Calls Tryz.prog 58 #[.agg #[.string x.kind, .string x.name, .slice a2 n2 p2, .slice a3 n3 p3], .pointer (some ⟨p, 0, none⟩)] w fun e w' => e = .returned (.bool (hitK x a)) ∧ Ext w w' := by
  have hp := World.block_lt_of_cell? w _ h0
  have g0 := World.cell?_alloc_past (w := w) (.cells #[.string x.kind, .string x.name, .slice a2 n2 p2, .slice a3 n3 p3] 40) p 0 hp
  have g1 := World.cell?_alloc_past (w := w) (.cells #[.string x.kind, .string x.name, .slice a2 n2 p2, .slice a3 n3 p3] 40) p 1 hp
  rw [h0] at g0; rw [h1] at g1
  replace h0 := hide h0; replace h1 := hide h1; replace hp := hide hp
  go_enter Tryz.func58, Tryz.ntmps58
  go_wp2_with fail
  all_goals go_ret
  all_goals refine ⟨retB ?_, (Ext.refl _).alloc _⟩
  all_goals simp_all [hitK, ba_iff]

set_option maxRecDepth 100000 in
set_option maxHeartbeats 800000 in
theorem hitW (a x : IDd) (p : Nat) (w : World) (h0 : w.cell? ⟨p, 0, none⟩ = some (.string a.kind)) (h1 : w.cell? ⟨p, 1, none⟩ = some (.string a.name)) :
    Calls Tryz.prog 60 #[.agg #[.string x.kind, .string x.name], .pointer (some ⟨p, 0, none⟩)] w fun e w' => e = .returned (.bool (hitK x a)) ∧ Ext w w' := by
  have hp := World.block_lt_of_cell? w _ h0
  have g0 := World.cell?_alloc_past (w := w) (.cells #[.string x.kind, .string x.name] 37) p 0 hp
  have g1 := World.cell?_alloc_past (w := w) (.cells #[.string x.kind, .string x.name] 37) p 1 hp
  rw [h0] at g0; rw [h1] at g1
  replace h0 := hide h0; replace h1 := hide h1; replace hp := hide hp
  go_enter Tryz.func60, Tryz.ntmps60
  go_wp2_with fail
  all_goals go_ret
  all_goals refine ⟨retB ?_, (Ext.refl _).alloc _⟩
  all_goals simp_all [hitK, ba_iff]

/-- The list of what the resource of an ID waits for, as a value. -/
def AfterIs (w0 w : World) (l : List Resd) (a : IDd) (e : Ending) (w' : World) : Prop :=
  ∃ (k n : ByteArray) (c2 : Value) (pa : Option Addr) (cap : Nat) (b : Bool), e = .returned (.tuple #[.agg #[.string k, .string n, c2, .slice pa (afterL l a).length cap], .bool b]) ∧ (∃ pa2 n2 cap2, c2 = .slice pa2 n2 cap2) ∧ Hid (IDsV w0 (.slice pa (afterL l a).length cap) (afterL l a)) ∧ Hid (Ext w w')
theorem IDsV.zero (w : World) : IDsV w (.slice none 0 0) [] := ⟨⟨none, 0, rfl, Nat.le_refl _, by decide, .inl rfl⟩, Nat.zero_le _, fun x h => (by cases h)⟩
theorem after_none {l : List Resd} {a : IDd} (h : ∀ (i : Nat) y, l[i]? = some y → hitK y.id a = false) : afterL l a = [] := by
  have : placeL l a = none := List.findIdx?_eq_none_iff.2 fun y hy => by
    obtain ⟨i, hi, rfl⟩ := List.getElem_of_mem hy
    exact h i _ (List.getElem?_eq_getElem hi)
  unfold afterL; rw [this]
theorem after_some {l : List Resd} {a : IDd} {j : Nat} {x : Resd} (h : ∀ i y, i < j → l[i]? = some y → hitK y.id a = false) (hx : l[j]? = some x) (hh : hitK x.id a = true) : afterL l a = x.after := by
  obtain ⟨hj, hxj⟩ := List.getElem?_eq_some_iff.1 hx
  have : placeL l a = some j := List.findIdx?_eq_some_iff_getElem.2 ⟨hj, by rw [hxj]; exact hh, fun i hi => by
    have := h i l[i] hi (List.getElem?_eq_getElem (by omega))
    simpa [hitK] using this⟩
  unfold afterL; rw [this]; simp only [hx]
theorem newRes_cells (w : World) (o : Obj) (c : Array Value) (t : TypeId) (w1 : World) (h : Ext (w.alloc o) w1) (ho : o = .cells c t (0, 0)) : w1.heap[w.heap.size]? = some (.cells c t (0, 0)) := by
  subst ho
  exact ext_heap h (heap_alloc_new w _)

set_option maxRecDepth 100000 in
set_option maxHeartbeats 1600000 in
theorem findA (v : Value) (l : List Resd) (a : IDd) (p : Nat) (w0 w : World) (hv : RessV w0 v l) (hE : Ext w0 w) (h0 : w.cell? ⟨p, 0, none⟩ = some (.string a.kind)) (h1 : w.cell? ⟨p, 1, none⟩ = some (.string a.name)) :
    Calls Tryz.prog 89 #[v, .func (.func 90) #[] #[.pointer (some ⟨p, 0, none⟩)]] w (AfterIs w0 w l a) := by
  obtain ⟨⟨pa, cap, rfl, hc1, hc2, hin⟩, hfew⟩ := hv
  replace hin := hide hin; replace h0 := hide h0; replace h1 := hide h1; replace hE := hide hE
  go_enter Tryz.func89, Tryz.ntmps89
  go_wp2_with fail
  go_loopw [11] (fun i wr => ∃ j : Nat, j ≤ l.length ∧ i = .int .i64 j ∧ Hid (∀ i y, i < j → l[i]? = some y → hitK y.id a = false) ∧ Hid (Ext (w.alloc (.cells #[.string ⟨#[]⟩, .string ⟨#[]⟩, .slice none 0 0, .slice none 0 0] 40)) wr)) (fun i _ => l.length - (intOf i).toNat)
  case atStart => exact ⟨0, Nat.zero_le _, rfl, fun _ _ h => absurd h (by omega), Ext.refl _⟩
  case round =>
    obtain ⟨j, hj, rfl, hno, hx⟩ := hrel
    have X0 := hide (((Ext.refl w).alloc _).trans hx.out)
    have hO := newRes_cells w _ _ _ _ hx.out rfl
    by_cases hlt : j < l.length
    · obtain ⟨x, hxj⟩ := some_of_lt hlt
      rcases hin.out with h | ⟨b, off, rfl, h⟩
      · rw [h] at hlt; simp at hlt
      obtain ⟨k0, k1, c2, c3, k2, k3, hR⟩ := h j x hxj
      replace k0 := (hE.out.trans X0.out).cells k0
      replace k1 := (hE.out.trans X0.out).cells k1
      replace k2 := (hE.out.trans X0.out).cells k2
      replace k3 := (hE.out.trans X0.out).cells k3
      obtain ⟨a2, p2, rfl⟩ := hR.attrs.form
      obtain ⟨a3, p3, rfl⟩ := hR.after.form
      have j2 : (j : Int) < (l.length : Int) := by omega
      have j4 : (0 : Int) ≤ (j : Int) := by omega
      replace h := hide h; replace hxj := hide hxj; replace hR := hide hR; replace hO := hide hO
      go_wp2_with fail
      refine (hitA a x.id _ _ _ _ _ _ p _ (X0.out.alloc _ |>.cells h0.out) (X0.out.alloc _ |>.cells h1.out)).mono ?_
      rintro e w1 ⟨rfl, he1⟩
      have X1 := hide ((X0.out.alloc _).trans he1)
      have hx1 := hide ((hx.out.alloc _).trans he1)
      have hE := ext_heap he1 (heap_alloc_new _ _)
      replace he1 := hide he1
      cases hb : hitK x.id a
      · replace hE := hide hE
        go_wp2_with fail
        go_roundw
        case rel =>
          refine ⟨j + 1, by omega, by go_num, fun i y hi hy => ?_, hx1.out⟩
          by_cases hij : i = j
          · subst hij
            obtain rfl : x = y := by simpa [hxj.out] using hy
            exact hb
          · exact hno.out i y (by omega) hy
        case measure => simp [intOf]; omega
      · have hO1 := newRes_cells w _ _ _ _ hx1.out rfl
        obtain ⟨q0, q1, q2, q3⟩ := four_cells hE
        obtain ⟨o0, o1, o2, o3⟩ := four_cells hO1
        have fO := row_frozen hO1
        have hA := hide (after_some hno.out hxj.out hb)
        replace hE := hide hE; replace hO1 := hide hO1
        go_wp2
        refine bodyPost_ret (v := .tuple #[.agg #[.string x.id.kind, .string x.id.name, .slice a2 x.attrs.length p2, .slice a3 x.after.length p3], .bool true]) (by simp [results, Tryz.results89, go_sem, o0, o1, o2, o3]) rfl ⟨_, _, _, a3, p3, true, by rw [hA.out], ⟨_, _, _, rfl⟩, by rw [hA.out]; exact hR.out.after, ?_⟩
        exact (((X1.out.setCell (p := ⟨w.heap.size, 0, none⟩) (Nat.le_refl _) _).setCell (p := ⟨w.heap.size, 1, none⟩) (Nat.le_refl _) _).setCell (p := ⟨w.heap.size, 2, none⟩) (Nat.le_refl _) _).setCell (p := ⟨w.heap.size, 3, none⟩) (Nat.le_refl _) _
    · have hA := hide (after_none (l := l) (a := a) fun i y hy => hno.out i y (by have := (List.getElem?_eq_some_iff.1 hy).1; omega) hy)
      have hO2 := ext_heap ((Ext.refl wr).alloc (.cells #[.string ⟨#[]⟩, .string ⟨#[]⟩, .slice none 0 0, .slice none 0 0] 40)) hO
      have fO := row_frozen hO2
      obtain ⟨o0, o1, o2, o3⟩ := four_cells hO2
      replace hO := hide hO; replace hO2 := hide hO2
      go_wp2
      refine bodyPost_ret (v := .tuple #[.agg #[.string ⟨#[]⟩, .string ⟨#[]⟩, .slice none 0 0, .slice none 0 0], .bool false]) (by simp [results, Tryz.results89, go_sem, o0, o1, o2, o3]) rfl ⟨_, _, _, none, 0, false, by rw [hA.out]; rfl, ⟨_, _, _, rfl⟩, by rw [hA.out]; exact IDsV.zero w0, ?_⟩
      exact ((((X0.out.alloc _).setCell (p := ⟨w.heap.size, 0, none⟩) (Nat.le_refl _) _).setCell (p := ⟨w.heap.size, 1, none⟩) (Nat.le_refl _) _).setCell (p := ⟨w.heap.size, 2, none⟩) (Nat.le_refl _) _).setCell (p := ⟨w.heap.size, 3, none⟩) (Nat.le_refl _) _

set_option maxRecDepth 100000 in
set_option maxHeartbeats 1600000 in
theorem afterOf (v : Value) (l : List Resd) (a : IDd) (w0 w : World) (hv : RessV w0 v l) (hE : Ext w0 w) :
    Calls Tryz.prog 79 #[v, .agg #[.string a.kind, .string a.name]] w fun e w' => ∃ pa cap, e = .returned (.slice pa (afterL l a).length cap) ∧ Hid (IDsV w0 (.slice pa (afterL l a).length cap) (afterL l a)) ∧ Hid (Ext w w') := by
  obtain ⟨va, vc, rfl, -, -, -⟩ := hv.shape
  replace hv := hide hv; replace hE := hide hE
  have c0 : (w.alloc (.cells #[.string a.kind, .string a.name] 37)).cell? ⟨w.heap.size, 0, none⟩ = some (.string a.kind) := by simp [go_sem]
  have c1 : (w.alloc (.cells #[.string a.kind, .string a.name] 37)).cell? ⟨w.heap.size, 1, none⟩ = some (.string a.name) := by simp [go_sem]
  go_enter Tryz.func79, Tryz.ntmps79
  go_wp2_with fail
  refine (findA _ l a w.heap.size w0 _ hv.out (hE.out.alloc _) c0 c1).mono ?_
  rintro e w1 ⟨k, n, c2, pa, cap, b, rfl, ⟨pa2, n2, cap2, rfl⟩, hI, hX⟩
  clear c0 c1
  generalize hgl : (afterL l a).length = gl at *
  replace hgl := hide hgl
  go_wp2_with fail
  go_ret
  obtain rfl := hgl.out
  exact ⟨pa, cap, rfl, hI, ((Ext.refl w).alloc _).trans (hX.out.alloc _)⟩
end Go.Proofs.YtkjjfdejfihpfaaGreat
