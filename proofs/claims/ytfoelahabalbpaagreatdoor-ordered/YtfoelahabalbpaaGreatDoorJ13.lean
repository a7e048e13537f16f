/-
  Lists out of bytes: what the program's functions that read them answer.
-/
/-
  Resources out of bytes: what the program's function that reads them answers.
-/
/-
  What is looked for in a list by its ID.
-/
/-
  Tokens: a text is cut.
-/
/-
  Resources whose lists are our own: plain facts.
-/
/-
  A list of resources of our own, and theirs.
-/
/-
  A resource and a step whose lists lie in memory.
-/
/-
  The book of lists that came out: words and plain facts.
-/
import Derived.Test.YtfoelahabalbpaaGreatDoorJ11
import Derived.Test.YtfoelahabalbpaaGreatDoorJ7
import Derived.Test.YtfoelahabalbpaaGreatDoorJ3
import Derived.Test.YtfoelahabalbpaaGreatDoorJ4
import Derived.Test.YtfoelahabalbpaaGreatDoorJ1
namespace Go.Proofs.YtfoelahabalbpaaGreatDoor
open Go.RowKit

def okN (x : Attrd) : Prop := shA x ∧ -2147483648 ≤ x.number ∧ x.number < 2147483648
theorem Wrote.grownNew {B : Nat} {T : TypeId → Prop} {w w1 w2 : World} {e : TypeId} {size : Nat} {v : Value} {n : Nat} {xs : List Value} (h : Wrote B T w w1) (hown : w1.ownsRow w.heap.size e size v n xs) {o : Obj} (hg : (w1.alloc o).grownBy w2 v.ownBlock) : Wrote B T w w2 := by
  have h' := h.alloc o
  refine ⟨hg.os.trans h'.os, hg.tape.trans h'.tape, hg.output.trans h'.output, Nat.le_trans h'.size hg.size, fun k hk hd => ?_⟩
  rw [← h'.heap k hk hd]
  refine hg.block k (Nat.lt_of_lt_of_le hk h'.size) ?_
  intro hv
  rcases hown.2 with ⟨rfl, _⟩ | ⟨g, cap, cur, rfl, hb, _⟩
  · simp [Value.ownBlock] at hv
  · simp [Value.ownBlock] at hv; omega
theorem cA_one (x : Attrd) : ∀ u ∈ cA x, u.oneCell' = true := by
  intro u hu
  simp [cA] at hu
  rcases hu with rfl | rfl | rfl | rfl <;> rfl
theorem cI_one (x : IDd) : ∀ u ∈ cI x, u.oneCell' = true := by
  intro u hu
  simp [cI] at hu
  rcases hu with rfl | rfl <;> rfl
theorem cellsI_app (l : List IDd) (x : IDd) : cellsI (l ++ [x]) = cellsI l ++ cI x := by simp [cellsI]

end Go.Proofs.YtfoelahabalbpaaGreatDoor

namespace Go.Proofs.YtfoelahabalbpaaGreatDoor
open Go.RowKit

/-- A resource that was read: it is short. -/
def okS (x : Resd) : Prop := shI x.id ∧ (∀ a ∈ x.attrs, okN a) ∧ (∀ a ∈ x.after, shI a) ∧ x.attrs.length ≤ 255 ∧ x.after.length ≤ 255
/-- Its lists are our own. -/
structure OwnR (B : Nat) (w : World) (c2 c3 : Value) (x : Resd) : Prop where
  f2 : ∃ pa cap, c2 = .slice pa x.attrs.length cap
  f3 : ∃ pa cap, c3 = .slice pa x.after.length cap
  attrs : w.ownsRow B 56 4 c2 x.attrs.length (cellsA x.attrs)
  after : w.ownsRow B 31 2 c3 x.after.length (cellsI x.after)
theorem ownsRow_low {w : World} {base base' : Nat} {e : TypeId} {size : Nat} {v : Value} {n : Nat} {xs : List Value} (h : w.ownsRow base e size v n xs) (hb : base' ≤ base) : w.ownsRow base' e size v n xs := by
  obtain ⟨h1, h2⟩ := h
  refine ⟨h1, h2.imp id ?_⟩
  rintro ⟨g, cap, cur, hv, hg, r⟩
  exact ⟨g, cap, cur, hv, Nat.le_trans hb hg, r⟩
theorem ownsRow_set {w : World} {I j : Nat} {c : Array Value} {t : TypeId} {fz : Nat × Nat} {base : Nat} {e : TypeId} {size : Nat} {v : Value} {n : Nat} {xs : List Value} (h : w.ownsRow base e size v n xs) (hI : w.heap[I]? = some (.cells c t fz)) (hne : t ≠ e) (u : Value) : (w.setCell ⟨I, j, none⟩ u).ownsRow base e size v n xs :=
  ownsRow_wrote h ((Wrote.refl 0 (· = t) w).setCell (p := ⟨I, j, none⟩) (Nat.zero_le _) hI rfl u) (fun h => hne h.symm) rfl

end Go.Proofs.YtfoelahabalbpaaGreatDoor

namespace Go.Proofs.YtfoelahabalbpaaGreatDoor
open Go.RowKit

theorem ba_iff {a b : ByteArray} : a.toList = b.toList ↔ a = b := ⟨fun h => by by_cases e : a = b; exact e; exact absurd h (ba_ne e), fun h => by rw [h]⟩
def hitK (x a : IDd) : Bool := decide (x.kind = a.kind ∧ x.name = a.name)
theorem hitK_iff {x a : IDd} : hitK x a = true ↔ x = a := by
  unfold hitK
  rw [decide_eq_true_eq]
  constructor
  · rintro ⟨h1, h2⟩; cases x; cases a; simp_all
  · rintro rfl; exact ⟨rfl, rfl⟩

set_option maxRecDepth 100000 in
set_option maxHeartbeats 800000 in
theorem hitA (a x : IDd) (a2 a3 : Option Addr) (n2 n3 p2 p3 p : Nat) (w : World) (h0 : w.cell? ⟨p, 0, none⟩ = some (.string a.kind)) (h1 : w.cell? ⟨p, 1, none⟩ = some (.string a.name)) :
    Calls Tryz.prog 106 #[.agg #[.string x.kind, .string x.name, .slice a2 n2 p2, .slice a3 n3 p3], .pointer (some ⟨p, 0, none⟩)] w fun e w' => e = .returned (.bool (hitK x a)) ∧ Ext w w' := by
  have hp := World.block_lt_of_cell? w _ h0
  have g0 := World.cell?_alloc_past (w := w) (.cells #[.string x.kind, .string x.name, .slice a2 n2 p2, .slice a3 n3 p3] 35) p 0 hp
  have g1 := World.cell?_alloc_past (w := w) (.cells #[.string x.kind, .string x.name, .slice a2 n2 p2, .slice a3 n3 p3] 35) p 1 hp
  rw [h0] at g0; rw [h1] at g1
  replace h0 := hide h0; replace h1 := hide h1; replace hp := hide hp
  go_enter Tryz.func106, Tryz.ntmps106
  go_wp2_with fail
  all_goals go_ret
  all_goals refine ⟨retB ?_, (Ext.refl _).alloc _⟩
  all_goals simp_all [hitK, ba_iff]

set_option maxRecDepth 100000 in
set_option maxHeartbeats 800000 in
theorem hitB (a x : IDd) (a2 a3 : Option Addr) (n2 n3 p2 p3 p : Nat) (w : World) (h0 : w.cell? ⟨p, 0, none⟩ = some (.string a.kind)) (h1 : w.cell? ⟨p, 1, none⟩ = some (.string a.name)) :
    Calls Tryz.prog 90 #[.agg #[.string x.kind, .string x.name, .slice a2 n2 p2, .slice a3 n3 p3], .pointer (some ⟨p, 0, none⟩)] w fun e w' => e = .returned (.bool (hitK x a)) ∧ Ext w w' := by
  have hp := World.block_lt_of_cell? w _ h0
  have g0 := World.cell?_alloc_past (w := w) (.cells #[.string x.kind, .string x.name, .slice a2 n2 p2, .slice a3 n3 p3] 35) p 0 hp
  have g1 := World.cell?_alloc_past (w := w) (.cells #[.string x.kind, .string x.name, .slice a2 n2 p2, .slice a3 n3 p3] 35) p 1 hp
  rw [h0] at g0; rw [h1] at g1
  replace h0 := hide h0; replace h1 := hide h1; replace hp := hide hp
  go_enter Tryz.func90, Tryz.ntmps90
  go_wp2_with fail
  all_goals go_ret
  all_goals refine ⟨retB ?_, (Ext.refl _).alloc _⟩
  all_goals simp_all [hitK, ba_iff]

set_option maxRecDepth 100000 in
set_option maxHeartbeats 800000 in
theorem hitW (a x : IDd) (p : Nat) (w : World) (h0 : w.cell? ⟨p, 0, none⟩ = some (.string a.kind)) (h1 : w.cell? ⟨p, 1, none⟩ = some (.string a.name)) :
    Calls Tryz.prog 91 #[.agg #[.string x.kind, .string x.name], .pointer (some ⟨p, 0, none⟩)] w fun e w' => e = .returned (.bool (hitK x a)) ∧ Ext w w' := by
  have hp := World.block_lt_of_cell? w _ h0
  have g0 := World.cell?_alloc_past (w := w) (.cells #[.string x.kind, .string x.name] 31) p 0 hp
  have g1 := World.cell?_alloc_past (w := w) (.cells #[.string x.kind, .string x.name] 31) p 1 hp
  rw [h0] at g0; rw [h1] at g1
  replace h0 := hide h0; replace h1 := hide h1; replace hp := hide hp
  go_enter Tryz.func91, Tryz.ntmps91
  go_wp2_with fail
  all_goals go_ret
  all_goals refine ⟨retB ?_, (Ext.refl _).alloc _⟩
  all_goals simp_all [hitK, ba_iff]

/-- The list of what the resource of an ID waits for, as a value. -/
def AfterIs (w0 w : World) (l : List Resd) (a : IDd) (e : Ending) (w' : World) : Prop :=
  ∃ (k n : ByteArray) (c2 : Value) (pa : Option Addr) (cap : Nat) (b : Bool), e = .returned (.tuple #[.agg #[.string k, .string n, c2, .slice pa (afterL l a).length cap], .bool b]) ∧ (∃ pa2 n2 cap2, c2 = .slice pa2 n2 cap2) ∧ Hid (IDsV w0 (.slice pa (afterL l a).length cap) (afterL l a)) ∧ Hid (Ext w w')
theorem IDsV.zero (w : World) : IDsV w (.slice none 0 0) [] := ⟨⟨none, 0, rfl, Nat.le_refl _, by decide, .inl rfl⟩, Nat.zero_le _, fun x h => (by cases h)⟩
theorem after_none {l : List Resd} {a : IDd} (h : ∀ (i : Nat) y, l[i]? = some y → hitK y.id a = false) : afterL l a = [] := by
  have : placeL l a = none := List.findIdx?_eq_none_iff.2 fun y hy => by
    obtain ⟨i, hi, rfl⟩ := List.getElem_of_mem hy
    exact h i _ (List.getElem?_eq_getElem hi)
  unfold afterL; rw [this]
theorem after_some {l : List Resd} {a : IDd} {j : Nat} {x : Resd} (h : ∀ i y, i < j → l[i]? = some y → hitK y.id a = false) (hx : l[j]? = some x) (hh : hitK x.id a = true) : afterL l a = x.after := by
  obtain ⟨hj, hxj⟩ := List.getElem?_eq_some_iff.1 hx
  have : placeL l a = some j := List.findIdx?_eq_some_iff_getElem.2 ⟨hj, by rw [hxj]; exact hh, fun i hi => by
    have := h i l[i] hi (List.getElem?_eq_getElem (by omega))
    simpa [hitK] using this⟩
  unfold afterL; rw [this]; simp only [hx]
theorem newRes_cells (w : World) (o : Obj) (c : Array Value) (t : TypeId) (w1 : World) (h : Ext (w.alloc o) w1) (ho : o = .cells c t (0, 0)) : w1.heap[w.heap.size]? = some (.cells c t (0, 0)) := by
  subst ho
  exact ext_heap h (heap_alloc_new w _)

set_option maxRecDepth 100000 in
set_option maxHeartbeats 1600000 in
theorem findA (v : Value) (l : List Resd) (a : IDd) (p : Nat) (w0 w : World) (hv : RessV w0 v l) (hE : Ext w0 w) (h0 : w.cell? ⟨p, 0, none⟩ = some (.string a.kind)) (h1 : w.cell? ⟨p, 1, none⟩ = some (.string a.name)) :
    Calls Tryz.prog 105 #[v, .func (.func 106) #[] #[.pointer (some ⟨p, 0, none⟩)]] w (AfterIs w0 w l a) := by
  obtain ⟨⟨pa, cap, rfl, hc1, hc2, hin⟩, hfew⟩ := hv
  replace hin := hide hin; replace h0 := hide h0; replace h1 := hide h1; replace hE := hide hE
  go_enter Tryz.func105, Tryz.ntmps105
  go_wp2_with fail
  go_loopw [11] (fun i wr => ∃ j : Nat, j ≤ l.length ∧ i = .int .i64 j ∧ Hid (∀ i y, i < j → l[i]? = some y → hitK y.id a = false) ∧ Hid (Ext (w.alloc (.cells #[.string ⟨#[]⟩, .string ⟨#[]⟩, .slice none 0 0, .slice none 0 0] 35)) wr)) (fun i _ => l.length - (intOf i).toNat)
  case atStart => exact ⟨0, Nat.zero_le _, rfl, fun _ _ h => absurd h (by omega), Ext.refl _⟩
  case round =>
    obtain ⟨j, hj, rfl, hno, hx⟩ := hrel
    have X0 := hide (((Ext.refl w).alloc _).trans hx.out)
    have hO := newRes_cells w _ _ _ _ hx.out rfl
    by_cases hlt : j < l.length
    · obtain ⟨x, hxj⟩ := some_of_lt hlt
      rcases hin.out with h | ⟨b, off, rfl, h⟩
      · rw [h] at hlt; simp at hlt
      obtain ⟨k0, k1, c2, c3, k2, k3, hR⟩ := h j x hxj
      replace k0 := (hE.out.trans X0.out).cells k0
      replace k1 := (hE.out.trans X0.out).cells k1
      replace k2 := (hE.out.trans X0.out).cells k2
      replace k3 := (hE.out.trans X0.out).cells k3
      obtain ⟨a2, p2, rfl⟩ := hR.attrs.form
      obtain ⟨a3, p3, rfl⟩ := hR.after.form
      have j2 : (j : Int) < (l.length : Int) := by omega
      have j4 : (0 : Int) ≤ (j : Int) := by omega
      replace h := hide h; replace hxj := hide hxj; replace hR := hide hR; replace hO := hide hO
      go_wp2_with fail
      refine (hitA a x.id _ _ _ _ _ _ p _ (X0.out.alloc _ |>.cells h0.out) (X0.out.alloc _ |>.cells h1.out)).mono ?_
      rintro e w1 ⟨rfl, he1⟩
      have X1 := hide ((X0.out.alloc _).trans he1)
      have hx1 := hide ((hx.out.alloc _).trans he1)
      have hE := ext_heap he1 (heap_alloc_new _ _)
      replace he1 := hide he1
      cases hb : hitK x.id a
      · replace hE := hide hE
        go_wp2_with fail
        go_roundw
        case rel =>
          refine ⟨j + 1, by omega, by go_num, fun i y hi hy => ?_, hx1.out⟩
          by_cases hij : i = j
          · subst hij
            obtain rfl : x = y := by simpa [hxj.out] using hy
            exact hb
          · exact hno.out i y (by omega) hy
        case measure => simp [intOf]; omega
      · have hO1 := newRes_cells w _ _ _ _ hx1.out rfl
        obtain ⟨q0, q1, q2, q3⟩ := four_cells hE
        obtain ⟨o0, o1, o2, o3⟩ := four_cells hO1
        have fO := row_frozen hO1
        have hA := hide (after_some hno.out hxj.out hb)
        replace hE := hide hE; replace hO1 := hide hO1
        go_wp2
        refine bodyPost_ret (v := .tuple #[.agg #[.string x.id.kind, .string x.id.name, .slice a2 x.attrs.length p2, .slice a3 x.after.length p3], .bool true]) (by simp [results, Tryz.results105, go_sem, o0, o1, o2, o3]) rfl ⟨_, _, _, a3, p3, true, by rw [hA.out], ⟨_, _, _, rfl⟩, by rw [hA.out]; exact hR.out.after, ?_⟩
        exact (((X1.out.setCell (p := ⟨w.heap.size, 0, none⟩) (Nat.le_refl _) _).setCell (p := ⟨w.heap.size, 1, none⟩) (Nat.le_refl _) _).setCell (p := ⟨w.heap.size, 2, none⟩) (Nat.le_refl _) _).setCell (p := ⟨w.heap.size, 3, none⟩) (Nat.le_refl _) _
    · have hA := hide (after_none (l := l) (a := a) fun i y hy => hno.out i y (by have := (List.getElem?_eq_some_iff.1 hy).1; omega) hy)
      have hO2 := ext_heap ((Ext.refl wr).alloc (.cells #[.string ⟨#[]⟩, .string ⟨#[]⟩, .slice none 0 0, .slice none 0 0] 35)) hO
      have fO := row_frozen hO2
      obtain ⟨o0, o1, o2, o3⟩ := four_cells hO2
      replace hO := hide hO; replace hO2 := hide hO2
      go_wp2
      refine bodyPost_ret (v := .tuple #[.agg #[.string ⟨#[]⟩, .string ⟨#[]⟩, .slice none 0 0, .slice none 0 0], .bool false]) (by simp [results, Tryz.results105, go_sem, o0, o1, o2, o3]) rfl ⟨_, _, _, none, 0, false, by rw [hA.out]; rfl, ⟨_, _, _, rfl⟩, by rw [hA.out]; exact IDsV.zero w0, ?_⟩
      exact ((((X0.out.alloc _).setCell (p := ⟨w.heap.size, 0, none⟩) (Nat.le_refl _) _).setCell (p := ⟨w.heap.size, 1, none⟩) (Nat.le_refl _) _).setCell (p := ⟨w.heap.size, 2, none⟩) (Nat.le_refl _) _).setCell (p := ⟨w.heap.size, 3, none⟩) (Nat.le_refl _) _

set_option maxRecDepth 100000 in
set_option maxHeartbeats 1600000 in
theorem afterOf (v : Value) (l : List Resd) (a : IDd) (w0 w : World) (hv : RessV w0 v l) (hE : Ext w0 w) :
    Calls Tryz.prog 60 #[v, .agg #[.string a.kind, .string a.name]] w fun e w' => ∃ pa cap, e = .returned (.slice pa (afterL l a).length cap) ∧ Hid (IDsV w0 (.slice pa (afterL l a).length cap) (afterL l a)) ∧ Hid (Ext w w') := by
  obtain ⟨va, vc, rfl, -, -, -⟩ := hv.shape
  replace hv := hide hv; replace hE := hide hE
  have c0 : (w.alloc (.cells #[.string a.kind, .string a.name] 31)).cell? ⟨w.heap.size, 0, none⟩ = some (.string a.kind) := by simp [go_sem]
  have c1 : (w.alloc (.cells #[.string a.kind, .string a.name] 31)).cell? ⟨w.heap.size, 1, none⟩ = some (.string a.name) := by simp [go_sem]
  go_enter Tryz.func60, Tryz.ntmps60
  go_wp2_with fail
  refine (findA _ l a w.heap.size w0 _ hv.out (hE.out.alloc _) c0 c1).mono ?_
  rintro e w1 ⟨k, n, c2, pa, cap, b, rfl, ⟨pa2, n2, cap2, rfl⟩, hI, hX⟩
  clear c0 c1
  generalize hgl : (afterL l a).length = gl at *
  replace hgl := hide hgl
  go_wp2_with fail
  go_ret
  obtain rfl := hgl.out
  exact ⟨pa, cap, rfl, hI, ((Ext.refl w).alloc _).trans (hX.out.alloc _)⟩
end Go.Proofs.YtfoelahabalbpaaGreatDoor

namespace Go.Proofs.YtfoelahabalbpaaGreatDoor
open Go.RowKit

def cTk (t : Tok) : List Value := [.int .i64 t.kind, .int .i64 t.place, .string t.text, .int .i64 t.value]
theorem cTk_len (t : Tok) : (cTk t).length = 4 := rfl
def cellsT (l : List Tok) : List Value := l.flatMap cTk
theorem cellsT_app (l : List Tok) (x : Tok) : cellsT (l ++ [x]) = cellsT l ++ cTk x := by simp [cellsT]
theorem cTk_one {x : Tok} : ∀ u ∈ cTk x, u.oneCell' = true := by
  intro u hu
  simp [cTk] at hu
  rcases hu with rfl | rfl | rfl | rfl <;> rfl
theorem infoTok : (Tryz.prog.info? 114).map (fun i => (i.zero, i.size, i.bytes)) = some (some (.agg #[.int .i64 0, .int .i64 0, .string ⟨#[]⟩, .int .i64 0]), 4, 40) := by kernel_rfl

/-- What the cutting answers. -/
def CutIs (w : World) (r : List Tok × (Int × Nat)) (e : Ending) (w' : World) : Prop :=
  Hid (Ext w w') ∧ ∃ (pa : Option Addr) (cap : Nat), e = .returned (.tuple #[.slice pa r.1.length cap, .agg #[.int .i64 r.2.1, .int .i64 r.2.2]]) ∧ Hid (w'.ownsRow w.heap.size 114 4 (.slice pa r.1.length cap) r.1.length (cellsT r.1))

theorem cell_of {w : World} {k : Nat} {cs : Array Value} {t : TypeId} {fz : Nat × Nat} (h : w.heap[k]? = some (.cells cs t fz)) (j : Nat) : w.cell? ⟨k, j, none⟩ = cs[j]? := by simp [World.cell?, h]
theorem ownsRow_other {w : World} {base g n cap m size : Nat} {e : TypeId} {xs : List Value} {base' : Nat} (h : w.ownsRow base e size (.slice (some ⟨g, 0, none⟩) n cap) m xs) {p : Addr} (hne : g ≠ p.block) (hb : base' ≤ base) (u : Value) : (w.setCell p u).ownsRow base' e size (.slice (some ⟨g, 0, none⟩) n cap) m xs := by
  obtain ⟨h1, h2⟩ := h
  refine ⟨h1, ?_⟩
  rcases h2 with ⟨hv, _⟩ | ⟨g', cap', cur, hv, hg, hh, r⟩
  · cases hv
  · cases hv
    exact .inr ⟨_, _, cur, rfl, by omega, by rw [Below.heap_setCell _ _ _ _ hne]; exact hh, r⟩
theorem tk_ok {w w' : World} {r : (Tok × Nat) ⊕ Int} {e : Ending} {t : Tok} {b : Nat} (h : TkIs w r e w') (hr : r = .inl (t, b)) : Hid (Ext w w') ∧ e = .returned (.tuple #[.agg #[.int .i64 t.kind, .int .i64 0, .string t.text, .int .i64 t.value], .int .i64 b, .int .i64 0]) := by
  subst hr
  obtain ⟨hx, ⟨t', b', h1, h2⟩ | ⟨en, h1, _⟩⟩ := h
  · have := h1.out; cases this; exact ⟨hx, h2⟩
  · have := h1.out; cases this
theorem tk_bad {w w' : World} {r : (Tok × Nat) ⊕ Int} {e : Ending} {en : Int} (h : TkIs w r e w') (hr : r = .inr en) : Hid (Ext w w') ∧ e = .returned (.tuple #[.agg #[.int .i64 0, .int .i64 0, .string ⟨#[]⟩, .int .i64 0], .int .i64 0, .int .i64 en]) := by
  subst hr
  obtain ⟨hx, ⟨t', b', h1, h2⟩ | ⟨en, h1, _, h3⟩⟩ := h
  · have := h1.out; cases this
  · have := h1.out; cases this; exact ⟨hx, h3⟩

set_option maxRecDepth 100000 in
set_option maxHeartbeats 3200000 in
theorem cutP (s : ByteArray) (w : World) (hs : s.size ≤ 1000000) :
    Calls Tryz.prog 32 #[.string s] w (CutIs w (cutL s.data.toList)) := by
  have hlen : s.data.toList.length = s.size := Array.length_toList
  obtain ⟨i0, hi, hz0, hz1, hz2⟩ := info_of infoTok
  replace hi := hide hi
  have hsk := hide (skipP s 0 (w.alloc (.cells #[.int .i64 0, .int .i64 0] 72)) hs (by omega))
  rw [show ((0 : Nat) : Int) = 0 from rfl] at hsk
  go_enter Tryz.func32, Tryz.ntmps32
  go_wp2_with fail
  refine hsk.out.mono ?_
  rintro e w' ⟨rfl, rfl⟩
  go_wp2_with fail
  generalize hWx : w.alloc (.cells #[.int .i64 0, .int .i64 0] 72) = wx
  have hxx : Hid (Ext w wx) := by subst hWx; exact (Ext.refl w).alloc _
  have hx2 : Hid (wx.heap[w.heap.size]? = some (.cells #[.int .i64 0, .int .i64 0] 72)) := by subst hWx; exact heap_alloc_new w _
  replace hWx := hide hWx; replace hsk := hide hsk
  go_loopw [4, 5] (fun v at_ wr => ∃ (f b : Nat) (acc : List Tok) (pa : Option Addr) (cap : Nat), b ≤ s.size ∧ s.size + 1 ≤ f + b ∧ acc.length ≤ b ∧ at_ = .int .i64 (skipL s.data.toList b) ∧ v = .slice pa acc.length cap ∧ Hid (cutL s.data.toList = comb acc (cutF s.data.toList f b)) ∧ Hid (wr.ownsRow wx.heap.size 114 4 (.slice pa acc.length cap) acc.length (cellsT acc)) ∧ Hid (Ext wx wr)) (fun _ at_ _ => s.size - (intOf at_).toNat)
  case atStart =>
    exact ⟨s.size + 1, 0, [], none, 0, by omega, by omega, by simp, rfl, rfl, by show _ = _; rw [comb_nil]; unfold cutL; rw [hlen], World.ownsRow_nil _ _ _ _, Ext.refl _⟩
  case round =>
    obtain ⟨f, b, acc, pa, cap, hb, hf, hab, rfl, rfl, hcut, hown, hx⟩ := hrel
    have hsl := skip_le (l := s.data.toList) (a := b) (by omega)
    rw [hlen] at hsl
    generalize hk : skipL s.data.toList b = k at *
    obtain ⟨k1, k2⟩ := hsl
    by_cases hlt : k < s.size
    · obtain ⟨c, hc1, hc2⟩ := byteAt hlt
      have hrd := hide (readP s k c wr hs hlt hc1)
      have fx : wr.heap[w.heap.size]? = some (.cells #[.int .i64 0, .int .i64 0] 72) := by
        rw [← hx2.out]; exact Below.block hx.out _ (Array.getElem?_eq_some_iff.1 hx2.out).1
      replace fx := hide fx
      cases htk : tokL s.data.toList k c with
      | inr en =>
        have hne := tok_bad htk
        have hrd2 := hide (hrd.out.mono fun e w' hh => tk_bad hh htk)
        have hfin : Hid (cutL s.data.toList = ([], (en, k))) := by
          show _ = _
          obtain ⟨f', rfl⟩ : ∃ f', f = f' + 1 := ⟨f - 1, by omega⟩
          rw [hcut.out, comb_bad (c := c) (e := en) (by rw [hk]; exact hc1) (by rw [hk]; exact htk) hne, hk]
        have hne' : (en != 0) = true := by simpa using hne
        replace hc1 := hide hc1; replace hk := hide hk; replace hc2 := hide hc2; replace hlen := hide hlen; replace htk := hide htk; replace hne := hide hne
        go_wp2_with (go_at_call 69; refine hrd2.out.mono ?_; rintro e w1 ⟨he1, rfl⟩; go_must (have F2 := ext_heap ((Ext.refl w1).alloc (.cells #[.int .i64 0, .int .i64 0, .string ⟨#[]⟩, .int .i64 0] 114)) (ext_heap he1.out fx.out); have o0 := cell_of F2 0; have o1 := cell_of F2 1; simp at o0 o1; have fO := row_frozen F2; replace F2 := hide F2))
        refine bodyPost_ret (v := .tuple #[.slice none 0 0, .agg #[.int .i64 en, .int .i64 k]]) (by simp [results, Tryz.results32, go_sem, o0, o1]) rfl ?_
        rw [hfin.out]
        have hX : Ext w w1 := hxx.out.trans (hx.out.trans he1.out)
        refine ⟨((hX.alloc _).setCell (p := ⟨w.heap.size, 0, none⟩) (Nat.le_refl _) _).setCell (p := ⟨w.heap.size, 1, none⟩) (Nat.le_refl _) _, none, 0, rfl, World.ownsRow_nil _ _ _ _⟩
      | inl r =>
        obtain ⟨t, b'⟩ := r
        obtain ⟨hpl, hb1, hb2, hk1, hk2⟩ := tok_at hc1 htk
        obtain ⟨kd, pl, tx, vl⟩ := t
        simp only at hpl hk1 hk2
        subst hpl
        rw [hlen] at hb2
        have hrd2 := hide (hrd.out.mono fun e w' hh => tk_ok hh htk)
        have hstep : Hid (cutL s.data.toList = comb (acc ++ [⟨kd, pl, tx, vl⟩]) (cutF s.data.toList (f - 1) b')) := by
          show _ = _
          obtain ⟨f', rfl⟩ : ∃ f', f = f' + 1 := ⟨f - 1, by omega⟩
          rw [hcut.out, comb_step (c := c) (b := b') (t := ⟨kd, pl, tx, vl⟩) (by rw [hk]; exact hc1) (by rw [hk]; exact htk)]
          rfl
        have hsz := hide (Ext.size hx.out)
        replace hc1 := hide hc1; replace hk := hide hk; replace hc2 := hide hc2; replace hlen := hide hlen; replace htk := hide htk
        go_wp2_with (first
          | (go_at_call 69; refine hrd2.out.mono ?_; rintro e w1 ⟨he1, rfl⟩; go_must (have hown1 := hide (ownsRow_wrote hown.out (Wrote.ext (B := 0) (T := fun _ => False) he1.out) id rfl); have hsz1 := hide (Nat.le_trans hsz.out (Ext.size he1.out))))
          | (at_builtin; go_must (refine wpList_append_lies _ rfl _ _ 70 rfl wx.heap.size 114 i0 (.agg #[.int .i64 0, .int .i64 0, .string ⟨#[]⟩, .int .i64 0]) 4 40 Tryz.underlying70 hi.out hz0 hz1 hz2 rfl (by omega) _ acc.length (cellsT acc) rfl ((hown1.out.alloc _).alloc _) ⟨w1.heap.size + 1, 0, none⟩ 1 1 (cTk ⟨kd, pl, tx, vl⟩) rfl rfl ?_ cTk_one (by omega) (by unfold maxLen; omega) (by omega) (by have := hsz1.out; simp; omega) (w1.heap.size + 2) (by simp) ?_; (intro j u hu; rw [add_eq]; (match j, hu with | 0, hu => (simp [cTk] at hu; subst hu; simp [go_sem]) | 1, hu => (simp [cTk] at hu; subst hu; simp [go_sem]) | 2, hu => (simp [cTk] at hu; subst hu; simp [go_sem]) | 3, hu => (simp [cTk] at hu; subst hu; simp [go_sem]) | _ + 4, hu => (simp [cTk] at hu))); intro g1 cap1 w3 hown3 hgrow3 hat3 hlt3))
          | (go_at_call 68; refine (skipP s b' _ hs hb2).mono ?_; rintro e w' ⟨rfl, rfl⟩))
        replace hgrow3 : ((w1.alloc (.cells (cTk ⟨kd, pl, tx, vl⟩).toArray 114)).alloc (.cells (cTk ⟨kd, pl, tx, vl⟩).toArray 114)).grownBy w' (Value.slice pa acc.length cap).ownBlock := hgrow3
        have hl : (acc ++ [(⟨kd, pl, tx, vl⟩ : Tok)]).length = acc.length + 1 := by simp
        have hx3 : Ext wx w' := ((Wrote.ext (B := wx.heap.size) (T := (· = 114)) ((hx.out.trans he1.out).alloc _)).grownAt (hown1.out.alloc _) rfl hgrow3).toExt
        go_roundw
        case rel =>
          refine ⟨f - 1, b', acc ++ [⟨kd, pl, tx, vl⟩], some ⟨g1, 0, none⟩, cap1, hb2, by omega, by rw [hl]; omega, rfl, by rw [hl], hstep, ?_, hx3⟩
          show World.ownsRow _ _ _ _ _ _ _
          rw [hl, cellsT_app]; exact hown3
        case measure =>
          have := skip_le (l := s.data.toList) (a := b') (by rw [hlen.out]; omega)
          simp [intOf]; omega
    · have heq : k = s.size := by omega
      have hfin : Hid (cutL s.data.toList = (acc ++ [endTok s.size], (0, 0))) := by
        show _ = _
        obtain ⟨f', rfl⟩ : ∃ f', f = f' + 1 := ⟨f - 1, by omega⟩
        rw [hcut.out, comb_end (by rw [hk, hlen]; omega), hlen]
      subst heq
      have hO := ext_heap hx.out hx2.out
      have o0 := cell_of hO 0; have o1 := cell_of hO 1; have fO := row_frozen hO
      simp at o0 o1
      have hsz := hide (Ext.size hx.out)
      replace hO := hide hO; replace hk := hide hk; replace hlen := hide hlen
      go_wp2_with (at_builtin; go_must (refine wpList_append_lies _ rfl _ _ 70 rfl wx.heap.size 114 i0 (.agg #[.int .i64 0, .int .i64 0, .string ⟨#[]⟩, .int .i64 0]) 4 40 Tryz.underlying70 hi.out hz0 hz1 hz2 rfl (by omega) _ acc.length (cellsT acc) rfl (hown.out.alloc _) ⟨wr.heap.size, 0, none⟩ 1 1 (cTk (endTok s.size)) rfl rfl ?_ cTk_one (by omega) (by unfold maxLen; omega) (by omega) (by have := hsz.out; simp; omega) (wr.heap.size + 1) (by simp) ?_; (intro j u hu; rw [add_eq]; (match j, hu with | 0, hu => (simp [cTk, endTok] at hu; subst hu; simp [go_sem]) | 1, hu => (simp [cTk, endTok] at hu; subst hu; simp [go_sem]) | 2, hu => (simp [cTk, endTok] at hu; subst hu; simp [go_sem]) | 3, hu => (simp [cTk, endTok] at hu; subst hu; simp [go_sem]) | _ + 4, hu => (simp [cTk] at hu))); intro g1 cap1 w3 hown3 hgrow3 hat3 hlt3; have hgr : (wr.alloc (.cells (cTk (endTok s.size)).toArray 114)).grownBy w3 (Value.slice pa acc.length cap).ownBlock := hgrow3; have hX3 : Ext wx w3 := ((Wrote.ext (B := wx.heap.size) (T := (· = 114)) hx.out).grownAt hown.out rfl hgr).toExt; clear hgrow3 hat3; have hO3 := ext_heap hX3 hx2.out; have p0 := cell_of hO3 0; have p1 := cell_of hO3 1; have pO := row_frozen hO3; simp at p0 p1; replace hO3 := hide hO3; replace hX3 := hide hX3; replace hgr := hide hgr))
      refine bodyPost_ret (v := .tuple #[.slice (some ⟨g1, 0, none⟩) (acc.length + 1) cap1, .agg #[.int .i64 0, .int .i64 0]]) (by simp [results, Tryz.results32, go_sem, p0, p1]) rfl ?_
      rw [hfin.out]
      have hl : (acc ++ [endTok s.size]).length = acc.length + 1 := by simp
      have hsx := Ext.size hxx.out
      refine ⟨((hxx.out.trans hX3.out).setCell (p := ⟨w.heap.size, 0, none⟩) (Nat.le_refl _) _).setCell (p := ⟨w.heap.size, 1, none⟩) (Nat.le_refl _) _, some ⟨g1, 0, none⟩, cap1, by rw [hl]; rfl, ?_⟩
      show World.ownsRow _ _ _ _ _ _ _
      rw [hl, cellsT_app]
      have hne : g1 ≠ w.heap.size := by
        have k1 := (hown3.lt g1 (by simp [Value.ownBlock])).1
        have k2 := (Array.getElem?_eq_some_iff.1 hx2.out).1
        omega
      exact ownsRow_other (ownsRow_other hown3 hne hsx _) hne (Nat.le_refl _) _
end Go.Proofs.YtfoelahabalbpaaGreatDoor

namespace Go.Proofs.YtfoelahabalbpaaGreatDoor
open Go.RowKit

theorem take_split {cur : Array Value} {k : Nat} {xs : List Value} (h : cur.toList.take k = xs) : cur = (xs ++ cur.toList.drop k).toArray := by
  apply Array.toList_inj.1; rw [← h]; simp
theorem OwnR.resV {B : Nat} {w : World} {c2 c3 : Value} {x : Resd} (h : OwnR B w c2 c3 x) (hs : okS x) : ResV w c2 c3 x := by
  obtain ⟨_, _, h2, h3⟩ := h
  obtain ⟨s1, s2, s3, s4, s5⟩ := hs
  refine ⟨⟨by have := s1.1; omega, by have := s1.2; omega⟩, ⟨?_, by omega, fun a ha => ?_⟩, ⟨?_, by omega, fun a ha => ?_⟩⟩
  · rcases h2.2 with ⟨rfl, h0⟩ | ⟨g, cap, cur, rfl, _, hh, hc, hm, _, ht⟩
    · rw [List.eq_nil_of_length_eq_zero h0]; exact ⟨none, 0, rfl, Nat.le_refl _, by omega, .inl rfl⟩
    · rw [take_split ht] at hh
      exact ⟨some ⟨g, 0, none⟩, cap, rfl, hc, by unfold maxLen at hm; omega, .inr ⟨g, 0, rfl, attrsIn_of hh⟩⟩
  · obtain ⟨⟨k1, k2⟩, k3, k4⟩ := s2 a ha
    exact ⟨by omega, by omega, by omega, by omega⟩
  · rcases h3.2 with ⟨rfl, h0⟩ | ⟨g, cap, cur, rfl, _, hh, hc, hm, _, ht⟩
    · rw [List.eq_nil_of_length_eq_zero h0]; exact ⟨none, 0, rfl, Nat.le_refl _, by omega, .inl rfl⟩
    · rw [take_split ht] at hh
      exact ⟨some ⟨g, 0, none⟩, cap, rfl, hc, by unfold maxLen at hm; omega, .inr ⟨g, 0, rfl, idsIn_of hh⟩⟩
  · obtain ⟨k1, k2⟩ := s3 a ha
    exact ⟨by omega, by omega⟩
theorem OwnR.ext {B : Nat} {w w' : World} {c2 c3 : Value} {x : Resd} (h : OwnR B w c2 c3 x) (e : Ext w w') : OwnR B w' c2 c3 x :=
  ⟨h.f2, h.f3, ownsRow_wrote h.attrs (Wrote.ext (B := 0) (T := fun _ => False) e) id rfl, ownsRow_wrote h.after (Wrote.ext (B := 0) (T := fun _ => False) e) id rfl⟩
theorem OwnR.low {B B' : Nat} {w : World} {c2 c3 : Value} {x : Resd} (h : OwnR B w c2 c3 x) (hb : B' ≤ B) : OwnR B' w c2 c3 x := ⟨h.f2, h.f3, ownsRow_low h.attrs hb, ownsRow_low h.after hb⟩
def noRes : Resd := ⟨⟨⟨#[]⟩, ⟨#[]⟩⟩, [], []⟩
theorem OwnR.nil (B : Nat) (w : World) : OwnR B w (.slice none 0 0) (.slice none 0 0) noRes := ⟨⟨_, _, rfl⟩, ⟨_, _, rfl⟩, World.ownsRow_nil _ _ _ _, World.ownsRow_nil _ _ _ _⟩
end Go.Proofs.YtfoelahabalbpaaGreatDoor

namespace Go.Proofs.YtfoelahabalbpaaGreatDoor
open Go.RowKit

/-- A resource in memory. -/
structure ResP where
  x : Resd
  c2 : Value
  c3 : Value
def cRs (p : ResP) : List Value := [.string p.x.id.kind, .string p.x.id.name, p.c2, p.c3]
theorem cRs_len (p : ResP) : (cRs p).length = 4 := rfl
def cellsP (l : List ResP) : List Value := l.flatMap cRs
theorem cellsP_app (l : List ResP) (x : ResP) : cellsP (l ++ [x]) = cellsP l ++ cRs x := by simp [cellsP]
theorem cRs_one {x : Resd} {pa2 pa3 : Option Addr} {n2 n3 cap2 cap3 : Nat} : ∀ u ∈ cRs ⟨x, .slice pa2 n2 cap2, .slice pa3 n3 cap3⟩, u.oneCell' = true := by
  intro u hu
  simp [cRs] at hu
  rcases hu with rfl | rfl | rfl | rfl <;> rfl
/-- No list lies in two resources. -/
def ApartQ (p q : ResP) : Prop := (∀ g, p.c2.ownBlock = some g → q.c2.ownBlock ≠ some g) ∧ (∀ g, p.c3.ownBlock = some g → q.c3.ownBlock ≠ some g)
/-- A list of resources of our own, and theirs. -/
structure RessAt (B : Nat) (w : World) (v : Value) (ps : List ResP) : Prop where
  row : w.ownsRow B 35 4 v ps.length (cellsP ps)
  each : ∀ p ∈ ps, OwnR B w p.c2 p.c3 p.x ∧ okS p.x
  apart : ps.Pairwise ApartQ
theorem RessAt.ext {B : Nat} {w w' : World} {v : Value} {ps : List ResP} (h : RessAt B w v ps) (e : Ext w w') : RessAt B w' v ps :=
  ⟨ownsRow_wrote h.row (Wrote.ext (B := 0) (T := fun _ => False) e) id rfl, fun p hp => ⟨(h.each p hp).1.ext e, (h.each p hp).2⟩, h.apart⟩
theorem RessAt.low {B B' : Nat} {w : World} {v : Value} {ps : List ResP} (h : RessAt B w v ps) (hb : B' ≤ B) : RessAt B' w v ps :=
  ⟨ownsRow_low h.row hb, fun p hp => ⟨(h.each p hp).1.low hb, (h.each p hp).2⟩, h.apart⟩
theorem RessAt.nil (B : Nat) (w : World) : RessAt B w (.slice none 0 0) [] := ⟨World.ownsRow_nil _ _ _ _, fun p hp => (by cases hp), List.Pairwise.nil⟩
theorem RessAt.ressV {B : Nat} {w : World} {v : Value} {ps : List ResP} (h : RessAt B w v ps) (hn : ps.length ≤ 1000) : RessV w v (ps.map ResP.x) := by
  have hl : (ps.map ResP.x).length = ps.length := List.length_map ..
  refine ⟨?_, by rw [hl]; omega⟩
  rcases h.row.2 with ⟨rfl, h0⟩ | ⟨g, cap, cur, rfl, _, hg, hc, hm, hs, ht⟩
  · have : ps = [] := List.eq_nil_of_length_eq_zero h0
    subst this
    exact ⟨none, 0, rfl, Nat.le_refl _, by decide, .inl rfl⟩
  · refine ⟨some ⟨g, 0, none⟩, cap, by rw [hl], by rw [hl]; exact hc, by unfold maxLen at hm; omega, .inr ⟨g, 0, rfl, ?_⟩⟩
    intro i x hx
    rw [List.getElem?_map] at hx
    obtain ⟨p, hp, rfl⟩ := Option.map_eq_some_iff.1 hx
    have hlt : i < ps.length := (List.getElem?_eq_some_iff.1 hp).1
    have key : ∀ r, r < 4 → w.cell? ⟨g, 0 + i * 4 + r, none⟩ = (cRs p)[r]? := by
      intro r hr
      have h1 : (cellsP ps)[i * 4 + r]? = (cRs p)[r]? := flat_get cRs_len hp hr
      rw [← h1, ← ht, List.getElem?_take, if_pos (by omega), Nat.zero_add]
      simp [World.cell?, hg]
    obtain ⟨ho, hok⟩ := h.each p (List.mem_of_getElem? hp)
    exact ⟨key 0 (by omega), key 1 (by omega), p.c2, p.c3, key 2 (by omega), key 3 (by omega), ho.resV hok⟩
/-- One more. -/
theorem RessAt.snoc {B g3 c3 : Nat} {w1 w3 : World} {v : Value} {ps : List ResP} {x : Resd} {d2 d3 : Value} (h : RessAt B w1 v ps) (ho : OwnR B w1 d2 d3 x) (hok : okS x) (hnew : ∀ p ∈ ps, ApartQ p ⟨x, d2, d3⟩)
    {o : Obj} (hgrow : (w1.alloc o).grownBy w3 v.ownBlock) (hown : w3.ownsRow B 35 4 (.slice (some ⟨g3, 0, none⟩) (ps.length + 1) c3) (ps.length + 1) (cellsP ps ++ cRs ⟨x, d2, d3⟩)) :
    RessAt B w3 (.slice (some ⟨g3, 0, none⟩) (ps.length + 1) c3) (ps ++ [⟨x, d2, d3⟩]) := by
  have hl : (ps ++ [(⟨x, d2, d3⟩ : ResP)]).length = ps.length + 1 := by simp
  have keep : ∀ {e : TypeId} {size n : Nat} {u : Value} {xs : List Value}, e ≠ 35 → w1.ownsRow B e size u n xs → w3.ownsRow B e size u n xs := fun hne hh =>
    ownsRow_keep hh (grown_kept hgrow) fun g c hg => ownsRow_ne h.row hg hne
  refine ⟨by rw [hl, cellsP_app]; exact hown, ?_, ?_⟩
  · intro p hp
    rcases List.mem_append.1 hp with hp | hp
    · obtain ⟨h1, h2⟩ := h.each p hp
      exact ⟨⟨h1.f2, h1.f3, keep (by decide) h1.attrs, keep (by decide) h1.after⟩, h2⟩
    · obtain rfl : p = _ := by simpa using hp
      exact ⟨⟨ho.f2, ho.f3, keep (by decide) ho.attrs, keep (by decide) ho.after⟩, hok⟩
  · refine List.pairwise_append.2 ⟨h.apart, List.pairwise_singleton _ _, fun p hp p' hp' => ?_⟩
    obtain rfl : p' = _ := by simpa using hp'
    exact hnew p hp
/-- What is new lies apart. -/
theorem RessAt.fresh {B : Nat} {w w1 : World} {v : Value} {ps : List ResP} {x : Resd} {d2 d3 : Value} (h : RessAt B w v ps) (ho : OwnR w.heap.size w1 d2 d3 x) : ∀ p ∈ ps, ApartQ p ⟨x, d2, d3⟩ := fun p hp => by
  obtain ⟨h1, _⟩ := h.each p hp
  constructor
  · intro g hg hg'
    have k1 := (h1.attrs.lt g hg).2
    have k2 := (ho.attrs.lt g hg').1
    omega
  · intro g hg hg'
    have k1 := (h1.after.lt g hg).2
    have k2 := (ho.after.lt g hg').1
    omega
theorem OwnR.wrote {B B' : Nat} {T : TypeId → Prop} {w w' : World} {c2 c3 : Value} {x : Resd} (h : OwnR B w c2 c3 x) (k : Wrote B' T w w') (h2 : ¬ T 56) (h3 : ¬ T 31) : OwnR B w' c2 c3 x :=
  ⟨h.f2, h.f3, ownsRow_wrote h.attrs k h2 rfl, ownsRow_wrote h.after k h3 rfl⟩
theorem RessAt.wrote {B B' : Nat} {T : TypeId → Prop} {w w' : World} {v : Value} {ps : List ResP} (h : RessAt B w v ps) (k : Wrote B' T w w') (h1 : ¬ T 35) (h2 : ¬ T 56) (h3 : ¬ T 31) : RessAt B w' v ps :=
  ⟨ownsRow_wrote h.row k h1 rfl, fun p hp => ⟨(h.each p hp).1.wrote k h2 h3, (h.each p hp).2⟩, h.apart⟩
end Go.Proofs.YtfoelahabalbpaaGreatDoor

namespace Go.Proofs.YtfoelahabalbpaaGreatDoor
open Go.RowKit

/-- A resource, and where its lists are. -/
structure ResC where
  x : Resd
  a2 : Option Addr
  n2 : Nat
  p2 : Nat
  a3 : Option Addr
  n3 : Nat
  p3 : Nat
structure StepC where
  op : Nat
  r : ResC
def ResC.c2 (r : ResC) : Value := .slice r.a2 r.n2 r.p2
def ResC.c3 (r : ResC) : Value := .slice r.a3 r.n3 r.p3
def ResC.In (w : World) (r : ResC) : Prop := ResV w r.c2 r.c3 r.x
theorem ResC.In.ext {w w' : World} {r : ResC} (h : r.In w) (e : Ext w w') : r.In w' := ResV.ext h e
def StepC.d (s : StepC) : StepD := ⟨s.op, s.r.x⟩
def StepC.p (s : StepC) : StepP := ⟨s.op, s.r.x, s.r.c2, s.r.c3⟩
end Go.Proofs.YtfoelahabalbpaaGreatDoor

namespace Go.Proofs.YtfoelahabalbpaaGreatDoor
open Go.RowKit

/-- The same again and again. -/
def rep (n : Nat) (m : List Value) : List Value := (List.replicate n m).flatten
/-- A list reads as it was marked. -/
def MarkG (T : TypeId) (sz : Nat) (mk : Nat → List Value) (w : World) (e : Value × Nat) : Prop :=
  e.2 ≤ 10000000 ∧ ∃ pa n cap, e.1 = .slice pa n cap ∧ n ≤ cap ∧ cap ≤ 9223372036854775807 ∧ n ≤ 10000000 ∧ (n = 0 ∨ ∃ g c, pa = some ⟨g, 0, none⟩ ∧ w.heap[g]? = some (.cells c T (0, 0)) ∧ c.toList.take (n * sz) = rep n (mk e.2))
theorem MarkG.of {T : TypeId} {sz : Nat} {mk : Nat → List Value} {w : World} {B : Nat} {v : Value} {n k : Nat} (h : w.ownsRow B T sz v n (rep n (mk k))) (hn : n ≤ 10000000) (hk : k ≤ 10000000) : MarkG T sz mk w (v, k) := by
  refine ⟨hk, ?_⟩
  rcases h.2 with ⟨rfl, rfl⟩ | ⟨g, cap, cur, rfl, _, hh, hc, hm, _, ht⟩
  · exact ⟨none, 0, 0, rfl, Nat.le_refl _, by omega, by omega, .inl rfl⟩
  · exact ⟨some ⟨g, 0, none⟩, n, cap, rfl, hc, by unfold maxLen at hm; omega, hn, .inr ⟨g, cur, rfl, hh, ht⟩⟩
theorem MarkG.kept {T : TypeId} {sz : Nat} {mk : Nat → List Value} {w w' : World} {e : Value × Nat} (h : MarkG T sz mk w e) (hk : ∀ g c, e.1.ownBlock = some g → w.heap[g]? = some (.cells c T (0, 0)) → w'.heap[g]? = some (.cells c T (0, 0))) : MarkG T sz mk w' e := by
  obtain ⟨h1, pa, n, cap, h2, h3, h4, h5, h6⟩ := h
  refine ⟨h1, pa, n, cap, h2, h3, h4, h5, h6.imp id ?_⟩
  rintro ⟨g, c, rfl, hg, ht⟩
  exact ⟨g, c, rfl, hk g c (by rw [h2]; rfl) hg, ht⟩
theorem MarkG.ext {T : TypeId} {sz : Nat} {mk : Nat → List Value} {w w' : World} {e : Value × Nat} (h : MarkG T sz mk w e) (x : Ext w w') : MarkG T sz mk w' e := h.kept fun _ _ _ hg => ext_heap x hg
theorem ownsRow_keptR {D : Nat → Prop} {w w' : World} {base : Nat} {e : TypeId} {size : Nat} {v : Value} {n : Nat} {xs : List Value} (h : w.ownsRow base e size v n xs) (k : Kept D w w') (hd : ∀ g, v.ownBlock = some g → ¬ D g) : w'.ownsRow base e size v n xs := by
  obtain ⟨h1, h2⟩ := h
  refine ⟨h1, ?_⟩
  rcases h2 with h2 | ⟨g, cap, cur, hv, hg, hh, r⟩
  · exact .inl h2
  · exact .inr ⟨g, cap, cur, hv, hg, k.heap hh (hd g (by rw [hv]; rfl)), r⟩
end Go.Proofs.YtfoelahabalbpaaGreatDoor
