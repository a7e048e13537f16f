/-
  What is looked for in a list by its ID.
-/
/-
  The book of lists that came out: words and plain facts.
-/
import Derived.Test.YtodhhjlemmmjcaaGreatJ7
import Derived.Test.YtodhhjlemmmjcaaGreatJ5
import Derived.Test.YtodhhjlemmmjcaaGreatJ15
import Derived.Test.YtodhhjlemmmjcaaGreatJ6
namespace Go.Proofs.YtodhhjlemmmjcaaGreat
open Go.RowKit

theorem ba_iff {a b : ByteArray} : a.toList = b.toList ↔ a = b := ⟨fun h => by by_cases e : a = b; exact e; exact absurd h (ba_ne e), fun h => by rw [h]⟩
def hitK (x a : IDd) : Bool := decide (x.kind = a.kind ∧ x.name = a.name)
theorem hitK_iff {x a : IDd} : hitK x a = true ↔ x = a := by
  unfold hitK
  rw [decide_eq_true_eq]
  constructor
  · rintro ⟨h1, h2⟩; cases x; cases a; simp_all
  · rintro rfl; exact ⟨rfl, rfl⟩

set_option maxRecDepth 100000 in
set_option maxHeartbeats 800000 in
theorem hitA (a x : IDd) (a2 a3 : Option Addr) (n2 n3 p2 p3 p : Nat) (w : World) (h0 : w.cell? ⟨p, 0, none⟩ = some (.string a.kind)) (h1 : w.cell? ⟨p, 1, none⟩ = some (.string a.name)) :
    Calls Tryz.prog 87 #[.agg #[.string x.kind, .string x.name, .slice a2 n2 p2, .slice a3 n3 p3], .pointer (some ⟨p, 0, none⟩)] w fun e w' => e = .returned (.bool (hitK x a)) ∧ Ext w w' := by
  have hp := World.block_lt_of_cell? w _ h0
  have g0 := World.cell?_alloc_past (w := w) (.cells #[.string x.kind, .string x.name, .slice a2 n2 p2, .slice a3 n3 p3] 56) p 0 hp
  have g1 := World.cell?_alloc_past (w := w) (.cells #[.string x.kind, .string x.name, .slice a2 n2 p2, .slice a3 n3 p3] 56) p 1 hp
  rw [h0] at g0; rw [h1] at g1
  replace h0 := hide h0; replace h1 := hide h1; replace hp := hide hp
  go_enter Tryz.func87, Tryz.ntmps87
  go_wp2_with fail
  all_goals go_ret
  all_goals refine ⟨retB ?_, (Ext.refl _).alloc _⟩
  all_goals simp_all [hitK, ba_iff]

set_option maxRecDepth 100000 in
set_option maxHeartbeats 800000 in
theorem hitB (a x : IDd) (a2 a3 : Option Addr) (n2 n3 p2 p3 p : Nat) (w : World) (h0 : w.cell? ⟨p, 0, none⟩ = some (.string a.kind)) (h1 : w.cell? ⟨p, 1, none⟩ = some (.string a.name)) :
    Calls Tryz.prog 71 #[.agg #[.string x.kind, .string x.name, .slice a2 n2 p2, .slice a3 n3 p3], .pointer (some ⟨p, 0, none⟩)] w fun e w' => e = .returned (.bool (hitK x a)) ∧ Ext w w' := by
  have hp := World.block_lt_of_cell? w _ h0
  have g0 := World.cell?_alloc_past (w := w) (.cells #[.string x.kind, .string x.name, .slice a2 n2 p2, .slice a3 n3 p3] 56) p 0 hp
  have g1 := World.cell?_alloc_past (w := w) (.cells #[.string x.kind, .string x.name, .slice a2 n2 p2, .slice a3 n3 p3] 56) p 1 hp
  rw [h0] at g0; rw [h1] at g1
  replace h0 := hide h0; replace h1 := hide h1; replace hp := hide hp
  go_enter Tryz.func71, Tryz.ntmps71
  go_wp2_with fail
  all_goals go_ret
  all_goals refine ⟨retB ?_, (Ext.refl _).alloc _⟩
  all_goals simp_all [hitK, ba_iff]

set_option maxRecDepth 100000 in
set_option maxHeartbeats 800000 in
theorem hitW (a x : IDd) (p : Nat) (w : World) (h0 : w.cell? ⟨p, 0, none⟩ = some (.string a.kind)) (h1 : w.cell? ⟨p, 1, none⟩ = some (.string a.name)) :
    Calls Tryz.prog 72 #[.agg #[.string x.kind, .string x.name], .pointer (some ⟨p, 0, none⟩)] w fun e w' => e = .returned (.bool (hitK x a)) ∧ Ext w w' := by
  have hp := World.block_lt_of_cell? w _ h0
  have g0 := World.cell?_alloc_past (w := w) (.cells #[.string x.kind, .string x.name] 52) p 0 hp
  have g1 := World.cell?_alloc_past (w := w) (.cells #[.string x.kind, .string x.name] 52) p 1 hp
  rw [h0] at g0; rw [h1] at g1
  replace h0 := hide h0; replace h1 := hide h1; replace hp := hide hp
  go_enter Tryz.func72, Tryz.ntmps72
  go_wp2_with fail
  all_goals go_ret
  all_goals refine ⟨retB ?_, (Ext.refl _).alloc _⟩
  all_goals simp_all [hitK, ba_iff]

/-- The list of what the resource of an ID waits for, as a value. -/
def AfterIs (w0 w : World) (l : List Resd) (a : IDd) (e : Ending) (w' : World) : Prop :=
  ∃ (k n : ByteArray) (c2 : Value) (pa : Option Addr) (cap : Nat) (b : Bool), e = .returned (.tuple #[.agg #[.string k, .string n, c2, .slice pa (afterL l a).length cap], .bool b]) ∧ (∃ pa2 n2 cap2, c2 = .slice pa2 n2 cap2) ∧ Hid (IDsV w0 (.slice pa (afterL l a).length cap) (afterL l a)) ∧ Hid (Ext w w')
theorem IDsV.zero (w : World) : IDsV w (.slice none 0 0) [] := ⟨⟨none, 0, rfl, Nat.le_refl _, by decide, .inl rfl⟩, Nat.zero_le _, fun x h => (by cases h)⟩
theorem after_none {l : List Resd} {a : IDd} (h : ∀ (i : Nat) y, l[i]? = some y → hitK y.id a = false) : afterL l a = [] := by
  have : placeL l a = none := List.findIdx?_eq_none_iff.2 fun y hy => by
    obtain ⟨i, hi, rfl⟩ := List.getElem_of_mem hy
    exact h i _ (List.getElem?_eq_getElem hi)
  unfold afterL; rw [this]
theorem after_some {l : List Resd} {a : IDd} {j : Nat} {x : Resd} (h : ∀ i y, i < j → l[i]? = some y → hitK y.id a = false) (hx : l[j]? = some x) (hh : hitK x.id a = true) : afterL l a = x.after := by
  obtain ⟨hj, hxj⟩ := List.getElem?_eq_some_iff.1 hx
  have : placeL l a = some j := List.findIdx?_eq_some_iff_getElem.2 ⟨hj, by rw [hxj]; exact hh, fun i hi => by
    have := h i l[i] hi (List.getElem?_eq_getElem (by omega))
    simpa [hitK] using this⟩
  unfold afterL; rw [this]; simp only [hx]
theorem newRes_cells (w : World) (o : Obj) (c : Array Value) (t : TypeId) (w1 : World) (h : Ext (w.alloc o) w1) (ho : o = .cells c t (0, 0)) : w1.heap[w.heap.size]? = some (.cells c t (0, 0)) := by
  subst ho
  exact ext_heap h (heap_alloc_new w _)

set_option maxRecDepth 100000 in
set_option maxHeartbeats 1600000 in
theorem findA (v : Value) (l : List Resd) (a : IDd) (p : Nat) (w0 w : World) (hv : RessV w0 v l) (hE : Ext w0 w) (h0 : w.cell? ⟨p, 0, none⟩ = some (.string a.kind)) (h1 : w.cell? ⟨p, 1, none⟩ = some (.string a.name)) :
    Calls Tryz.prog 86 #[v, .func (.func 87) #[] #[.pointer (some ⟨p, 0, none⟩)]] w (AfterIs w0 w l a) := by
  obtain ⟨⟨pa, cap, rfl, hc1, hc2, hin⟩, hfew⟩ := hv
  replace hin := hide hin; replace h0 := hide h0; replace h1 := hide h1; replace hE := hide hE
  go_enter Tryz.func86, Tryz.ntmps86
  go_wp2_with fail
  go_loopw [11] (fun i wr => ∃ j : Nat, j ≤ l.length ∧ i = .int .i64 j ∧ Hid (∀ i y, i < j → l[i]? = some y → hitK y.id a = false) ∧ Hid (Ext (w.alloc (.cells #[.string ⟨#[]⟩, .string ⟨#[]⟩, .slice none 0 0, .slice none 0 0] 56)) wr)) (fun i _ => l.length - (intOf i).toNat)
  case atStart => exact ⟨0, Nat.zero_le _, rfl, fun _ _ h => absurd h (by omega), Ext.refl _⟩
  case round =>
    obtain ⟨j, hj, rfl, hno, hx⟩ := hrel
    have X0 := hide (((Ext.refl w).alloc _).trans hx.out)
    have hO := newRes_cells w _ _ _ _ hx.out rfl
    by_cases hlt : j < l.length
    · obtain ⟨x, hxj⟩ := some_of_lt hlt
      rcases hin.out with h | ⟨b, off, rfl, h⟩
      · rw [h] at hlt; simp at hlt
      obtain ⟨k0, k1, c2, c3, k2, k3, hR⟩ := h j x hxj
      replace k0 := (hE.out.trans X0.out).cells k0
      replace k1 := (hE.out.trans X0.out).cells k1
      replace k2 := (hE.out.trans X0.out).cells k2
      replace k3 := (hE.out.trans X0.out).cells k3
      obtain ⟨a2, p2, rfl⟩ := hR.attrs.form
      obtain ⟨a3, p3, rfl⟩ := hR.after.form
      have j2 : (j : Int) < (l.length : Int) := by omega
      have j4 : (0 : Int) ≤ (j : Int) := by omega
      replace h := hide h; replace hxj := hide hxj; replace hR := hide hR; replace hO := hide hO
      go_wp2_with fail
      refine (hitA a x.id _ _ _ _ _ _ p _ (X0.out.alloc _ |>.cells h0.out) (X0.out.alloc _ |>.cells h1.out)).mono ?_
      rintro e w1 ⟨rfl, he1⟩
      have X1 := hide ((X0.out.alloc _).trans he1)
      have hx1 := hide ((hx.out.alloc _).trans he1)
      have hE := ext_heap he1 (heap_alloc_new _ _)
      replace he1 := hide he1
      cases hb : hitK x.id a
      · replace hE := hide hE
        go_wp2_with fail
        go_roundw
        case rel =>
          refine ⟨j + 1, by omega, by go_num, fun i y hi hy => ?_, hx1.out⟩
          by_cases hij : i = j
          · subst hij
            obtain rfl : x = y := by simpa [hxj.out] using hy
            exact hb
          · exact hno.out i y (by omega) hy
        case measure => simp [intOf]; omega
      · have hO1 := newRes_cells w _ _ _ _ hx1.out rfl
        obtain ⟨q0, q1, q2, q3⟩ := four_cells hE
        obtain ⟨o0, o1, o2, o3⟩ := four_cells hO1
        have fO := row_frozen hO1
        have hA := hide (after_some hno.out hxj.out hb)
        replace hE := hide hE; replace hO1 := hide hO1
        go_wp2
        refine bodyPost_ret (v := .tuple #[.agg #[.string x.id.kind, .string x.id.name, .slice a2 x.attrs.length p2, .slice a3 x.after.length p3], .bool true]) (by simp [results, Tryz.results86, go_sem, o0, o1, o2, o3]) rfl ⟨_, _, _, a3, p3, true, by rw [hA.out], ⟨_, _, _, rfl⟩, by rw [hA.out]; exact hR.out.after, ?_⟩
        exact (((X1.out.setCell (p := ⟨w.heap.size, 0, none⟩) (Nat.le_refl _) _).setCell (p := ⟨w.heap.size, 1, none⟩) (Nat.le_refl _) _).setCell (p := ⟨w.heap.size, 2, none⟩) (Nat.le_refl _) _).setCell (p := ⟨w.heap.size, 3, none⟩) (Nat.le_refl _) _
    · have hA := hide (after_none (l := l) (a := a) fun i y hy => hno.out i y (by have := (List.getElem?_eq_some_iff.1 hy).1; omega) hy)
      have hO2 := ext_heap ((Ext.refl wr).alloc (.cells #[.string ⟨#[]⟩, .string ⟨#[]⟩, .slice none 0 0, .slice none 0 0] 56)) hO
      have fO := row_frozen hO2
      obtain ⟨o0, o1, o2, o3⟩ := four_cells hO2
      replace hO := hide hO; replace hO2 := hide hO2
      go_wp2
      refine bodyPost_ret (v := .tuple #[.agg #[.string ⟨#[]⟩, .string ⟨#[]⟩, .slice none 0 0, .slice none 0 0], .bool false]) (by simp [results, Tryz.results86, go_sem, o0, o1, o2, o3]) rfl ⟨_, _, _, none, 0, false, by rw [hA.out]; rfl, ⟨_, _, _, rfl⟩, by rw [hA.out]; exact IDsV.zero w0, ?_⟩
      exact ((((X0.out.alloc _).setCell (p := ⟨w.heap.size, 0, none⟩) (Nat.le_refl _) _).setCell (p := ⟨w.heap.size, 1, none⟩) (Nat.le_refl _) _).setCell (p := ⟨w.heap.size, 2, none⟩) (Nat.le_refl _) _).setCell (p := ⟨w.heap.size, 3, none⟩) (Nat.le_refl _) _

set_option maxRecDepth 100000 in
set_option maxHeartbeats 1600000 in
theorem afterOf (v : Value) (l : List Resd) (a : IDd) (w0 w : World) (hv : RessV w0 v l) (hE : Ext w0 w) :
    Calls Tryz.prog 54 #[v, .agg #[.string a.kind, .string a.name]] w fun e w' => ∃ pa cap, e = .returned (.slice pa (afterL l a).length cap) ∧ Hid (IDsV w0 (.slice pa (afterL l a).length cap) (afterL l a)) ∧ Hid (Ext w w') := by
  obtain ⟨va, vc, rfl, -, -, -⟩ := hv.shape
  replace hv := hide hv; replace hE := hide hE
  have c0 : (w.alloc (.cells #[.string a.kind, .string a.name] 52)).cell? ⟨w.heap.size, 0, none⟩ = some (.string a.kind) := by simp [go_sem]
  have c1 : (w.alloc (.cells #[.string a.kind, .string a.name] 52)).cell? ⟨w.heap.size, 1, none⟩ = some (.string a.name) := by simp [go_sem]
  go_enter Tryz.func54, Tryz.ntmps54
  go_wp2_with fail
  refine (findA _ l a w.heap.size w0 _ hv.out (hE.out.alloc _) c0 c1).mono ?_
  rintro e w1 ⟨k, n, c2, pa, cap, b, rfl, ⟨pa2, n2, cap2, rfl⟩, hI, hX⟩
  clear c0 c1
  generalize hgl : (afterL l a).length = gl at *
  replace hgl := hide hgl
  go_wp2_with fail
  go_ret
  obtain rfl := hgl.out
  exact ⟨pa, cap, rfl, hI, ((Ext.refl w).alloc _).trans (hX.out.alloc _)⟩
end Go.Proofs.YtodhhjlemmmjcaaGreat

namespace Go.Proofs.YtodhhjlemmmjcaaGreat
open Go.RowKit

/-- An entry: a list, and its mark. -/
def cE (e : Value × Nat) : List Value := [e.1, .int .i64 e.2]
theorem cE_len (e : Value × Nat) : (cE e).length = 2 := rfl
def cellsE (l : List (Value × Nat)) : List Value := l.flatMap cE
theorem cellsE_app (l : List (Value × Nat)) (x : Value × Nat) : cellsE (l ++ [x]) = cellsE l ++ cE x := by simp [cellsE]
theorem cE_one {pa : Option Addr} {n cap k : Nat} : ∀ u ∈ cE (.slice pa n cap, k), u.oneCell' = true := by
  intro u hu
  simp [cE] at hu
  rcases hu with rfl | rfl <;> rfl
/-- The same again and again. -/
def rep (n : Nat) (m : List Value) : List Value := (List.replicate n m).flatten
theorem rep_zero (m : List Value) : rep 0 m = [] := rfl
theorem rep_succ (n : Nat) (m : List Value) : rep (n + 1) m = rep n m ++ m := by
  unfold rep; rw [List.replicate_succ', List.flatten_append]; simp
theorem rep_len (n : Nat) (m : List Value) : (rep n m).length = n * m.length := by unfold rep; simp
theorem rep_take {m : List Value} {sz : Nat} (hm : m.length = sz) : ∀ {n k : Nat}, k ≤ n → (rep n m).take (k * sz) = rep k m
  | 0, k, h => by obtain rfl : k = 0 := by omega
                  simp [rep]
  | n + 1, k, h => by
    rw [rep_succ]
    by_cases hk : k = n + 1
    · subst hk
      rw [List.take_of_length_le (by rw [List.length_append, rep_len, hm, Nat.succ_mul]; omega), ← rep_succ]
    · rw [List.take_append_of_le_length (by rw [rep_len, hm]; exact Nat.mul_le_mul_right _ (by omega)), rep_take hm (by omega)]
theorem rep_get {m : List Value} {sz : Nat} (hm : m.length = sz) {n i r : Nat} (hi : i < n) (hr : r < sz) : (rep n m)[i * sz + r]? = m[r]? := by
  have h1 := rep_take (m := m) hm (n := n) (k := i + 1) (by omega)
  have h2 : (rep (i + 1) m)[i * sz + r]? = m[r]? := by
    rw [rep_succ, List.getElem?_append_right (by rw [rep_len, hm]; omega), rep_len, hm]
    congr 1; omega
  rw [← h2, ← h1, List.getElem?_take_of_lt (by rw [Nat.succ_mul]; omega)]
def elen (e : Value × Nat) : Nat := match e.1 with
  | .slice _ n _ => n
  | _ => 0
/-- A list reads as it was marked. -/
def MarkG (T : TypeId) (sz : Nat) (mk : Nat → List Value) (w : World) (e : Value × Nat) : Prop :=
  e.2 ≤ 10000000 ∧ ∃ pa n cap, e.1 = .slice pa n cap ∧ n ≤ cap ∧ cap ≤ 9223372036854775807 ∧ n ≤ 10000000 ∧ (n = 0 ∨ ∃ g c, pa = some ⟨g, 0, none⟩ ∧ w.heap[g]? = some (.cells c T (0, 0)) ∧ c.toList.take (n * sz) = rep n (mk e.2))
theorem MarkG.of {T : TypeId} {sz : Nat} {mk : Nat → List Value} {w : World} {B : Nat} {v : Value} {n k : Nat} (h : w.ownsRow B T sz v n (rep n (mk k))) (hn : n ≤ 10000000) (hk : k ≤ 10000000) : MarkG T sz mk w (v, k) := by
  refine ⟨hk, ?_⟩
  rcases h.2 with ⟨rfl, rfl⟩ | ⟨g, cap, cur, rfl, _, hh, hc, hm, _, ht⟩
  · exact ⟨none, 0, 0, rfl, Nat.le_refl _, by omega, by omega, .inl rfl⟩
  · exact ⟨some ⟨g, 0, none⟩, n, cap, rfl, hc, by unfold maxLen at hm; omega, hn, .inr ⟨g, cur, rfl, hh, ht⟩⟩
theorem MarkG.kept {T : TypeId} {sz : Nat} {mk : Nat → List Value} {w w' : World} {e : Value × Nat} (h : MarkG T sz mk w e) (hk : ∀ g c, e.1.ownBlock = some g → w.heap[g]? = some (.cells c T (0, 0)) → w'.heap[g]? = some (.cells c T (0, 0))) : MarkG T sz mk w' e := by
  obtain ⟨h1, pa, n, cap, h2, h3, h4, h5, h6⟩ := h
  refine ⟨h1, pa, n, cap, h2, h3, h4, h5, h6.imp id ?_⟩
  rintro ⟨g, c, rfl, hg, ht⟩
  exact ⟨g, c, rfl, hk g c (by rw [h2]; rfl) hg, ht⟩
theorem MarkG.ext {T : TypeId} {sz : Nat} {mk : Nat → List Value} {w w' : World} {e : Value × Nat} (h : MarkG T sz mk w e) (x : Ext w w') : MarkG T sz mk w' e := h.kept fun _ _ _ hg => ext_heap x hg
theorem MarkG.app {T : TypeId} {sz : Nat} {mk : Nat → List Value} {w w' : World} {e : Value × Nat} {B n g' cap' : Nat} {v : Value} {o : Obj} (h : MarkG T sz mk w e) (hle : elen e ≤ n) (hsz : (mk e.2).length = sz)
    (hown' : w'.ownsRow B T sz (.slice (some ⟨g', 0, none⟩) (n + 1) cap') (n + 1) (rep n (mk e.2) ++ mk e.2)) (hg : (w.alloc o).grownBy w' v.ownBlock)
    (ht : v.ownBlock = some g' ∨ ((w.alloc o).heap.size ≤ g' ∧ ∀ k, k < (w.alloc o).heap.size → w'.heap[k]? = (w.alloc o).heap[k]?)) : MarkG T sz mk w' e := by
  obtain ⟨h1, pa, m, cap, h2, h3, h4, h5, h6⟩ := h
  refine ⟨h1, pa, m, cap, h2, h3, h4, h5, h6.imp id ?_⟩
  rintro ⟨g, c, rfl, hgc, htk⟩
  have hlt : g < w.heap.size := (Array.getElem?_eq_some_iff.1 hgc).1
  have hlt' : g < (w.alloc o).heap.size := by simp; omega
  have hal : (w.alloc o).heap[g]? = some (.cells c T (0, 0)) := by rw [Below.heap_alloc _ _ _ hlt]; exact hgc
  by_cases hv : v.ownBlock = some g
  · rcases ht with ht | ⟨_, ht⟩
    · obtain rfl : g = g' := Option.some.inj (hv.symm.trans ht)
      rcases hown'.2 with ⟨hh, _⟩ | ⟨g2, cap2, cur, hh, _, hc, _, _, _, hk2⟩
      · cases hh
      · obtain ⟨rfl, rfl⟩ : g = g2 ∧ cap' = cap2 := by simpa using hh
        refine ⟨g, cur, rfl, hc, ?_⟩
        have hm : m ≤ n + 1 := by have := hle; rw [elen, h2] at this; dsimp only at this; omega
        rw [← rep_succ] at hk2
        have : cur.toList.take (m * sz) = (cur.toList.take ((n + 1) * sz)).take (m * sz) := by
          rw [List.take_take, Nat.min_eq_left (Nat.mul_le_mul_right _ hm)]
        rw [this, hk2, rep_take hsz hm]
    · exact ⟨g, c, rfl, (ht g hlt').trans hal, htk⟩
  · exact ⟨g, c, rfl, (hg.block g hlt' (fun h => hv h.symm)).trans hal, htk⟩
def mkA (k : Nat) : List Value := [.string ⟨#[]⟩, .bool false, .string ⟨#[]⟩, .int .i64 (-9 - (k : Int))]
def mkI (k : Nat) : List Value := [.string (textD k), .string ⟨#[]⟩]
theorem mkA_one (k : Nat) : ∀ u ∈ mkA k, u.oneCell' = true := by
  intro u hu
  simp [mkA] at hu
  rcases hu with rfl | rfl | rfl | rfl <;> rfl
theorem mkI_one (k : Nat) : ∀ u ∈ mkI k, u.oneCell' = true := by
  intro u hu
  simp [mkI] at hu
  rcases hu with rfl | rfl <;> rfl
/-- The book. -/
structure BkAt (B : Nat) (w : World) (O : Nat) (va vi vn vr vs vc : Value) (ea ei : List (Value × Nat)) : Prop where
  o : w.heap[O]? = some (.cells #[va, vi, vn, vr, vs, vc] 37 (0, 0))
  a : w.ownsRow B 120 2 va ea.length (cellsE ea)
  i : w.ownsRow B 122 2 vi ei.length (cellsE ei)
  low : B ≤ O
theorem six_celB {w : World} {k : Nat} {a b c d e f : Value} {t : TypeId} {fz : Nat × Nat} (hk : w.heap[k]? = some (.cells #[a, b, c, d, e, f] t fz)) :
    w.cell? ⟨k, 0, none⟩ = some a ∧ w.cell? ⟨k, 1, none⟩ = some b ∧ w.cell? ⟨k, 2, none⟩ = some c ∧ w.cell? ⟨k, 3, none⟩ = some d ∧ w.cell? ⟨k, 4, none⟩ = some e ∧ w.cell? ⟨k, 5, none⟩ = some f := by simp [World.cell?, hk]
theorem six_set0 {w : World} {k : Nat} {a b c d e f : Value} {t : TypeId} {fz : Nat × Nat} (hk : w.heap[k]? = some (.cells #[a, b, c, d, e, f] t fz)) (v : Value) : (w.setCell ⟨k, 0, none⟩ v).heap[k]? = some (.cells #[v, b, c, d, e, f] t fz) := by
  have := row_set hk 0 v; simpa using this
theorem six_set1 {w : World} {k : Nat} {a b c d e f : Value} {t : TypeId} {fz : Nat × Nat} (hk : w.heap[k]? = some (.cells #[a, b, c, d, e, f] t fz)) (v : Value) : (w.setCell ⟨k, 1, none⟩ v).heap[k]? = some (.cells #[a, v, c, d, e, f] t fz) := by
  have := row_set hk 1 v; simpa using this
theorem infoAO : (Tryz.prog.info? 120).map (fun i => (i.zero, i.size, i.bytes)) = some (some (.agg #[.slice none 0 0, .int .i64 0]), 2, 32) := by kernel_rfl
theorem infoIO : (Tryz.prog.info? 122).map (fun i => (i.zero, i.size, i.bytes)) = some (some (.agg #[.slice none 0 0, .int .i64 0]), 2, 32) := by kernel_rfl
theorem drop4 {xs : List Value} {o : Nat} (h : o + 4 ≤ xs.length) : ∃ z0 z1 z2 z3, xs.drop o = z0 :: z1 :: z2 :: z3 :: xs.drop (o + 4) := by
  refine ⟨xs[o], xs[o + 1], xs[o + 2], xs[o + 3], ?_⟩
  rw [List.drop_eq_getElem_cons (by omega), List.drop_eq_getElem_cons (by omega), List.drop_eq_getElem_cons (by omega), List.drop_eq_getElem_cons (by omega)]
theorem drop2 {xs : List Value} {o : Nat} (h : o + 2 ≤ xs.length) : ∃ z0 z1, xs.drop o = z0 :: z1 :: xs.drop (o + 2) := by
  refine ⟨xs[o], xs[o + 1], ?_⟩
  rw [List.drop_eq_getElem_cons (by omega), List.drop_eq_getElem_cons (by omega)]
theorem own_set4 {w : World} {B g n cap o : Nat} {T : TypeId} {pre post : List Value} {z0 z1 z2 z3 : Value} (h : w.ownsRow B T 4 (.slice (some ⟨g, 0, none⟩) n cap) n (pre ++ z0 :: z1 :: z2 :: z3 :: post)) (ho : pre.length = o) (v0 v1 v2 v3 : Value) :
    ((((w.setCell ⟨g, o, none⟩ v0).setCell ⟨g, o + 1, none⟩ v1).setCell ⟨g, o + 2, none⟩ v2).setCell ⟨g, o + 3, none⟩ v3).ownsRow B T 4 (.slice (some ⟨g, 0, none⟩) n cap) n (pre ++ v0 :: v1 :: v2 :: v3 :: post) := by
  subst ho
  have h1 := (h.stored pre.length v0).1
  have h2 := (h1.stored (pre.length + 1) v1).1
  have h3 := (h2.stored (pre.length + 2) v2).1
  have h4 := (h3.stored (pre.length + 3) v3).1
  have e : ((((pre ++ z0 :: z1 :: z2 :: z3 :: post).set pre.length v0).set (pre.length + 1) v1).set (pre.length + 2) v2).set (pre.length + 3) v3 = pre ++ v0 :: v1 :: v2 :: v3 :: post := by simp [List.set_append_right]
  rw [e] at h4; exact h4
theorem own_set2 {w : World} {B g n cap o : Nat} {T : TypeId} {pre post : List Value} {z0 z1 : Value} (h : w.ownsRow B T 2 (.slice (some ⟨g, 0, none⟩) n cap) n (pre ++ z0 :: z1 :: post)) (ho : pre.length = o) (v0 v1 : Value) :
    ((w.setCell ⟨g, o, none⟩ v0).setCell ⟨g, o + 1, none⟩ v1).ownsRow B T 2 (.slice (some ⟨g, 0, none⟩) n cap) n (pre ++ v0 :: v1 :: post) := by
  subst ho
  have h1 := (h.stored pre.length v0).1
  have h2 := (h1.stored (pre.length + 1) v1).1
  have e : ((pre ++ z0 :: z1 :: post).set pre.length v0).set (pre.length + 1) v1 = pre ++ v0 :: v1 :: post := by simp [List.set_append_right]
  rw [e] at h2; exact h2
theorem own_celB {w : World} {B g n cap o r sz : Nat} {T : TypeId} {pre post : List Value} {z : Value} (h : w.ownsRow B T sz (.slice (some ⟨g, 0, none⟩) n cap) n (pre ++ post)) (ho : pre.length = o) (hr : post[r]? = some z) : w.cell? ⟨g, o + r, none⟩ = some z := by
  have hlen := h.1
  have hlt : r < post.length := (List.getElem?_eq_some_iff.1 hr).1
  rw [List.length_append] at hlen
  rw [h.cellAt (o + r) (by omega), List.getElem?_append_right (by omega), ← hr]
  congr 1; omega
theorem ownsRow_keptR {D : Nat → Prop} {w w' : World} {base : Nat} {e : TypeId} {size : Nat} {v : Value} {n : Nat} {xs : List Value} (h : w.ownsRow base e size v n xs) (k : Kept D w w') (hd : ∀ g, v.ownBlock = some g → ¬ D g) : w'.ownsRow base e size v n xs := by
  obtain ⟨h1, h2⟩ := h
  refine ⟨h1, ?_⟩
  rcases h2 with h2 | ⟨g, cap, cur, hv, hg, hh, r⟩
  · exact .inl h2
  · exact .inr ⟨g, cap, cur, hv, hg, k.heap hh (hd g (by rw [hv]; rfl)), r⟩
end Go.Proofs.YtodhhjlemmmjcaaGreat
