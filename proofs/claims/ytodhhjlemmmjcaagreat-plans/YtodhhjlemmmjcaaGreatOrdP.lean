/-
  The steps in their order: who may be next, and what is taken.
-/
import Derived.Test.YtodhhjlemmmjcaaGreatNeedP
import Derived.Test.YtodhhjlemmmjcaaGreatJ25
import Derived.Deep.AppendLies
namespace Go.Proofs.YtodhhjlemmmjcaaGreat
open Go.RowKit

theorem pick_at {α : Type} {p : α → Prop} : ∀ {l : List α} {i : Nat} {x : α}, l[i]? = some x → p x → (∀ (j : Nat) y, j < i → l[j]? = some y → ¬ p y) → pickF p l = some (x, l.eraseIdx i)
  | [], i, x, h, _, _ => by simp at h
  | y :: l, 0, x, h, hp, _ => by
    simp at h
    subst h
    simp only [pickF]
    rw [if_pos hp]; rfl
  | y :: l, i + 1, x, h, hp, hn => by
    have ih := pick_at (p := p) (l := l) (i := i) (x := x) (by simpa using h) hp (fun j z hj hz => hn (j + 1) z (by omega) (by simpa using hz))
    simp only [pickF]
    rw [if_neg (hn 0 y (by omega) rfl), ih]; rfl
theorem idsT_in (ss : List StepC) : (fun a => a ∈ idsT (ss.map StepC.d)) = InT ss := by
  funext a
  apply propext
  simp only [idsT, List.mem_map, InT]
  constructor
  · rintro ⟨s, ⟨c, hc, rfl⟩, rfl⟩; exact ⟨c, hc, rfl⟩
  · rintro ⟨c, hc, rfl⟩; exact ⟨c.d, ⟨c, hc, rfl⟩, rfl⟩
def FreeM (l : List Resd) (ss : List StepC) (a : IDd) : Prop := ¬ WaitsTo l a (InT ss)
def FreeD (ss : List StepC) (a : IDd) : Prop := ¬ ∃ o ∈ ss, a ∈ o.r.x.after
theorem make_iff (l : List Resd) (ss : List StepC) (s : StepC) : mayMake l (ss.map StepC.d) s.d ↔ FreeM l ss s.r.x.id := by
  unfold mayMake FreeM
  rw [idsT_in]; rfl
theorem del_iff (ss : List StepC) (s : StepC) : mayDel (ss.map StepC.d) s.d ↔ FreeD ss s.r.x.id := by
  unfold mayDel FreeD
  constructor
  · rintro h ⟨o, ho, hm⟩; exact h ⟨o.d, List.mem_map.2 ⟨o, ho, rfl⟩, hm⟩
  · rintro h ⟨o, ho, hm⟩
    obtain ⟨c, hc, rfl⟩ := List.mem_map.1 ho
    exact h ⟨c, hc, hm⟩
/-- What the look for the first that may be next answers. -/
def FindIs (w : World) (ids : List IDd) (P : IDd → Prop) (e : Ending) (w' : World) : Prop :=
  ((∃ (i : Nat) (a : IDd), ids[i]? = some a ∧ P a ∧ (∀ (j : Nat) b, j < i → ids[j]? = some b → ¬ P b) ∧ e = .returned (.tuple #[.agg #[.string a.kind, .string a.name], .bool true])) ∨ ((∀ a ∈ ids, ¬ P a) ∧ e = .returned (.tuple #[.agg #[.string ⟨#[]⟩, .string ⟨#[]⟩], .bool false]))) ∧ Hid (Ext w w')
/-- Steps of our own, and their lists. -/
structure StpsAt (B : Nat) (w : World) (v : Value) (ss : List StepC) : Prop where
  row : w.ownsRow B 60 5 v ss.length (cellsV ss)
  each : ∀ s ∈ ss, OwnR B w s.r.c2 s.r.c3 s.r.x ∧ okS s.r.x
  apart : ss.Pairwise fun p q => ApartC p.r q.r
/-- In the midst of it: what was taken, and what is still to come. -/
structure MidO (B C : Nat) (may : List StepD → StepD → Prop) (ss : List StepC) (w : World) (t : Nat) (wr : World) (v : Value) (dn td : List StepC) : Prop where
  row : wr.ownsRow w.heap.size 60 5 v dn.length (cellsV dn)
  each : ∀ s ∈ dn, OwnR B wr s.r.c2 s.r.c3 s.r.x ∧ okS s.r.x
  todo : TodoAt B wr t td
  apart : (dn ++ td).Pairwise fun p q => ApartC p.r q.r
  out : dn.map StepC.d ++ ordF may td.length (td.map StepC.d) = ordF may ss.length (ss.map StepC.d)
  sum : dn.length + td.length = ss.length
  frame : WroteTSt B w wr
  low : TabLow C wr t
  upper : Upper C w wr
  sub : ∀ s ∈ dn ++ td, s ∈ ss
theorem two_at {w : World} {k : Nat} {a b : Value} {t : TypeId} {fz : Nat × Nat} (hk : w.heap[k]? = some (.cells #[a, b] t fz)) : w.cell? ⟨k, 0, none⟩ = some a ∧ w.cell? ⟨k, 1, none⟩ = some b := ⟨by simp [World.cell?, hk], by simp [World.cell?, hk]⟩

set_option maxRecDepth 100000 in
set_option maxHeartbeats 800000 in
theorem nextM (a : IDd) (pw pm : Nat) (v : Value) (l : List Resd) (B t : Nat) (ss : List StepC) (w0 w : World) (hv : RessV w0 v l) (hE0 : Ext w0 w) (hT : TodoAt B w t ss) (hpw : w.heap[pw]? = some (.cells #[v] 22 (0, 0))) (hpm : w.heap[pm]? = some (.cells #[.pointer (some ⟨t, 0, none⟩)] 64 (0, 0))) (hU : (allAfter l).length ≤ 1000) :
    Calls Tryz.prog 21 #[.agg #[.string a.kind, .string a.name], .pointer (some ⟨pw, 0, none⟩), .pointer (some ⟨pm, 0, none⟩)] w fun e w' => ∃ b : Bool, e = .returned (.bool b) ∧ Hid (b = true ↔ FreeM l ss a) ∧ Hid (Ext w w') := by
  have E0 := hide ((Ext.refl w).alloc (.cells #[.string a.kind, .string a.name] 52))
  have q0 := E0.out.cells (p := ⟨pw, 0, none⟩) (v := v) (by simp [World.cell?, hpw])
  have q1 := E0.out.cells (p := ⟨pm, 0, none⟩) (v := .pointer (some ⟨t, 0, none⟩)) (by simp [World.cell?, hpm])
  obtain ⟨pa, cap, rfl, -, -, -⟩ := hv.shape
  have hw := hide (waitsHas _ l a B t ss _ (hv.ext (hE0.trans E0.out)) (hT.ext E0.out) hU)
  clear hpw hpm hT hv hE0
  go_enter Tryz.func21, Tryz.ntmps21
  go_wp2_with fail
  refine hw.out.mono ?_
  rintro e1 w1 ⟨b, rfl, hb, he1⟩
  go_wp2_with fail
  go_ret
  refine ⟨!b, rfl, ?_, E0.out.trans he1.out⟩
  show _ ↔ ¬ _
  rw [← hb.out]
  cases b <;> simp

set_option maxRecDepth 100000 in
set_option maxHeartbeats 1600000 in
theorem findM (C : Nat) (pa : Option Addr) (n cap : Nat) (ids : List IDd) (pw pm : Nat) (v : Value) (l : List Resd) (B t : Nat) (ss : List StepC) (w0 w : World) (hr : w.ownsRow C 52 2 (.slice pa n cap) ids.length (cellsI ids)) (hv : RessV w0 v l) (hE0 : Ext w0 w) (hT : TodoAt B w t ss) (hpw : w.heap[pw]? = some (.cells #[v] 22 (0, 0))) (hpm : w.heap[pm]? = some (.cells #[.pointer (some ⟨t, 0, none⟩)] 64 (0, 0))) (hU : (allAfter l).length ≤ 1000) :
    Calls Tryz.prog 49 #[.slice pa n cap, .func (.func 21) #[] #[.pointer (some ⟨pw, 0, none⟩), .pointer (some ⟨pm, 0, none⟩)]] w (FindIs w ids (FreeM l ss)) := by
  obtain ⟨rfl, c1, c2, hin⟩ := own_cells cI_len hr
  replace hr := hide hr; replace hin := hide hin; replace hv := hide hv; replace hE0 := hide hE0; replace hT := hide hT; replace hpw := hide hpw; replace hpm := hide hpm
  go_enter Tryz.func49, Tryz.ntmps49
  go_wp2_with fail
  go_loopw [11] (fun kv wr => ∃ k : Nat, k ≤ ids.length ∧ kv = .int .i64 k ∧ Hid (∀ (j : Nat) b, j < k → ids[j]? = some b → ¬ (FreeM l ss) b) ∧ Hid (Ext (w.alloc (.cells #[.string ⟨#[]⟩, .string ⟨#[]⟩] 52)) wr)) (fun kv _ => ids.length - (intOf kv).toNat)
  case atStart => exact ⟨0, Nat.zero_le _, rfl, fun _ _ h => absurd h (by omega), Ext.refl _⟩
  case round =>
    obtain ⟨k, hk, rfl, hno, hxr⟩ := hrel
    have X := hide (((Ext.refl w).alloc (.cells #[.string ⟨#[]⟩, .string ⟨#[]⟩] 52)).trans hxr.out)
    have hO := hide (ext_at hxr.out (heap_alloc_new w _))
    by_cases hlt : k < ids.length
    · obtain ⟨a, ha⟩ := some_of_lt hlt
      rcases hin.out with hh | ⟨g, rfl, hI⟩
      · rw [hh] at hlt; simp at hlt
      replace hI := hI k a ha
      have k0 := X.out.cells (hI 0 _ rfl); have k1 := X.out.cells (hI 1 _ rfl)
      rw [Nat.add_zero] at k0
      have i2 : (k : Int) < (ids.length : Int) := by omega
      have i4 : (0 : Int) ≤ (k : Int) := by omega
      have X4 := hide (X.out.alloc (.cells #[.string a.kind, .string a.name] 52))
      have Bx := hide (heap_alloc_new wr (.cells #[.string a.kind, .string a.name] 52))
      have hone := hide (nextM a pw pm v l B t ss w0 _ hv.out (hE0.out.trans X4.out) (hT.out.ext X4.out) (ext_at X4.out hpw.out) (ext_at X4.out hpm.out) hU)
      replace ha := hide ha; replace hI := hide hI
      go_wp2_with fail
      refine hone.out.mono ?_
      rintro e1 w1 ⟨b, rfl, hb, he1⟩
      have Bx1 := ext_at he1.out Bx.out
      have hO1 := ext_at (((Ext.refl wr).alloc _).trans he1.out) hO.out
      obtain ⟨b0, b1⟩ := two_at Bx1
      obtain ⟨o0, o1⟩ := two_at hO1
      have fO := row_frozen hO1
      have EX := hide (X4.out.trans he1.out)
      replace Bx1 := hide Bx1; replace hO1 := hide hO1
      clear k0 k1
      cases b with
      | true =>
        have hP : Hid ((FreeM l ss) a) := hb.out.1 rfl
        go_wp2_with fail
        refine bodyPost_ret (v := .tuple #[.agg #[.string a.kind, .string a.name], .bool true]) (by simp [results, Tryz.results49, go_sem, o0, o1]) rfl ⟨.inl ⟨k, a, ha.out, hP.out, hno.out, rfl⟩, ?_⟩
        exact (EX.out.setCell (p := ⟨w.heap.size, 0, none⟩) (Nat.le_refl _) _).setCell (p := ⟨w.heap.size, 1, none⟩) (Nat.le_refl _) _
      | false =>
        have hP : Hid (¬ (FreeM l ss) a) := fun h => by have := hb.out.2 h; cases this
        go_wp2_with fail
        go_roundw
        case rel =>
          refine ⟨k + 1, by omega, by go_num, fun j c hj hc => ?_, hxr.out.trans (((Ext.refl wr).alloc _).trans he1.out)⟩
          by_cases e : j = k
          · subst e
            obtain rfl : a = c := by simpa [ha.out] using hc
            exact hP.out
          · exact hno.out j c (by omega) hc
        case measure => simp [intOf]; omega
    · obtain rfl : k = ids.length := by omega
      have hall : Hid (∀ a ∈ ids, ¬ (FreeM l ss) a) := fun a ha => by
        obtain ⟨j, hj⟩ := List.mem_iff_getElem?.1 ha
        exact hno.out j a (List.getElem?_eq_some_iff.1 hj).1 hj
      have hO1 := ext_at ((Ext.refl wr).alloc (.cells #[.string ⟨#[]⟩, .string ⟨#[]⟩] 52)) hO.out
      obtain ⟨o0, o1⟩ := two_at hO1
      have fO := row_frozen hO1
      replace hO1 := hide hO1
      go_wp2_with fail
      refine bodyPost_ret (v := .tuple #[.agg #[.string ⟨#[]⟩, .string ⟨#[]⟩], .bool false]) (by simp [results, Tryz.results49, go_sem, o0, o1]) rfl ⟨.inr ⟨hall.out, rfl⟩, ?_⟩
      exact ((X.out.alloc _).setCell (p := ⟨w.heap.size, 0, none⟩) (Nat.le_refl _) _).setCell (p := ⟨w.heap.size, 1, none⟩) (Nat.le_refl _) _

set_option maxRecDepth 100000 in
set_option maxHeartbeats 800000 in
theorem nextD (a : IDd) (pm : Nat) (B t : Nat) (ss : List StepC) (w : World) (hT : TodoAt B w t ss) (hpm : w.heap[pm]? = some (.cells #[.pointer (some ⟨t, 0, none⟩)] 64 (0, 0))) (hU : ss.length ≤ 1000) :
    Calls Tryz.prog 24 #[.agg #[.string a.kind, .string a.name], .pointer (some ⟨pm, 0, none⟩)] w fun e w' => ∃ b : Bool, e = .returned (.bool b) ∧ Hid (b = true ↔ FreeD ss a) ∧ Hid (Ext w w') := by
  have E0 := hide ((Ext.refl w).alloc (.cells #[.string a.kind, .string a.name] 52))
  have q1 := E0.out.cells (p := ⟨pm, 0, none⟩) (v := .pointer (some ⟨t, 0, none⟩)) (by simp [World.cell?, hpm])
  have hw := hide (isNeeded B ss a t _ (hT.ext E0.out) hU)
  clear hpm hT
  go_enter Tryz.func24, Tryz.ntmps24
  go_wp2_with fail
  refine hw.out.mono ?_
  rintro e1 w1 ⟨b, rfl, hb, he1⟩
  go_wp2_with fail
  go_ret
  refine ⟨!b, rfl, ?_, E0.out.trans he1.out⟩
  show _ ↔ ¬ _
  rw [← hb.out]
  cases b <;> simp

set_option maxRecDepth 100000 in
set_option maxHeartbeats 1600000 in
theorem findD (C : Nat) (pa : Option Addr) (n cap : Nat) (ids : List IDd) (pm : Nat) (B t : Nat) (ss : List StepC) (w : World) (hr : w.ownsRow C 52 2 (.slice pa n cap) ids.length (cellsI ids)) (hT : TodoAt B w t ss) (hpm : w.heap[pm]? = some (.cells #[.pointer (some ⟨t, 0, none⟩)] 64 (0, 0))) (hU : ss.length ≤ 1000) :
    Calls Tryz.prog 49 #[.slice pa n cap, .func (.func 24) #[] #[.pointer (some ⟨pm, 0, none⟩)]] w (FindIs w ids (FreeD ss)) := by
  obtain ⟨rfl, c1, c2, hin⟩ := own_cells cI_len hr
  replace hr := hide hr; replace hin := hide hin; replace hT := hide hT; replace hpm := hide hpm
  go_enter Tryz.func49, Tryz.ntmps49
  go_wp2_with fail
  go_loopw [11] (fun kv wr => ∃ k : Nat, k ≤ ids.length ∧ kv = .int .i64 k ∧ Hid (∀ (j : Nat) b, j < k → ids[j]? = some b → ¬ (FreeD ss) b) ∧ Hid (Ext (w.alloc (.cells #[.string ⟨#[]⟩, .string ⟨#[]⟩] 52)) wr)) (fun kv _ => ids.length - (intOf kv).toNat)
  case atStart => exact ⟨0, Nat.zero_le _, rfl, fun _ _ h => absurd h (by omega), Ext.refl _⟩
  case round =>
    obtain ⟨k, hk, rfl, hno, hxr⟩ := hrel
    have X := hide (((Ext.refl w).alloc (.cells #[.string ⟨#[]⟩, .string ⟨#[]⟩] 52)).trans hxr.out)
    have hO := hide (ext_at hxr.out (heap_alloc_new w _))
    by_cases hlt : k < ids.length
    · obtain ⟨a, ha⟩ := some_of_lt hlt
      rcases hin.out with hh | ⟨g, rfl, hI⟩
      · rw [hh] at hlt; simp at hlt
      replace hI := hI k a ha
      have k0 := X.out.cells (hI 0 _ rfl); have k1 := X.out.cells (hI 1 _ rfl)
      rw [Nat.add_zero] at k0
      have i2 : (k : Int) < (ids.length : Int) := by omega
      have i4 : (0 : Int) ≤ (k : Int) := by omega
      have X4 := hide (X.out.alloc (.cells #[.string a.kind, .string a.name] 52))
      have Bx := hide (heap_alloc_new wr (.cells #[.string a.kind, .string a.name] 52))
      have hone := hide (nextD a pm B t ss _ (hT.out.ext X4.out) (ext_at X4.out hpm.out) hU)
      replace ha := hide ha; replace hI := hide hI
      go_wp2_with fail
      refine hone.out.mono ?_
      rintro e1 w1 ⟨b, rfl, hb, he1⟩
      have Bx1 := ext_at he1.out Bx.out
      have hO1 := ext_at (((Ext.refl wr).alloc _).trans he1.out) hO.out
      obtain ⟨b0, b1⟩ := two_at Bx1
      obtain ⟨o0, o1⟩ := two_at hO1
      have fO := row_frozen hO1
      have EX := hide (X4.out.trans he1.out)
      replace Bx1 := hide Bx1; replace hO1 := hide hO1
      clear k0 k1
      cases b with
      | true =>
        have hP : Hid ((FreeD ss) a) := hb.out.1 rfl
        go_wp2_with fail
        refine bodyPost_ret (v := .tuple #[.agg #[.string a.kind, .string a.name], .bool true]) (by simp [results, Tryz.results49, go_sem, o0, o1]) rfl ⟨.inl ⟨k, a, ha.out, hP.out, hno.out, rfl⟩, ?_⟩
        exact (EX.out.setCell (p := ⟨w.heap.size, 0, none⟩) (Nat.le_refl _) _).setCell (p := ⟨w.heap.size, 1, none⟩) (Nat.le_refl _) _
      | false =>
        have hP : Hid (¬ (FreeD ss) a) := fun h => by have := hb.out.2 h; cases this
        go_wp2_with fail
        go_roundw
        case rel =>
          refine ⟨k + 1, by omega, by go_num, fun j c hj hc => ?_, hxr.out.trans (((Ext.refl wr).alloc _).trans he1.out)⟩
          by_cases e : j = k
          · subst e
            obtain rfl : a = c := by simpa [ha.out] using hc
            exact hP.out
          · exact hno.out j c (by omega) hc
        case measure => simp [intOf]; omega
    · obtain rfl : k = ids.length := by omega
      have hall : Hid (∀ a ∈ ids, ¬ (FreeD ss) a) := fun a ha => by
        obtain ⟨j, hj⟩ := List.mem_iff_getElem?.1 ha
        exact hno.out j a (List.getElem?_eq_some_iff.1 hj).1 hj
      have hO1 := ext_at ((Ext.refl wr).alloc (.cells #[.string ⟨#[]⟩, .string ⟨#[]⟩] 52)) hO.out
      obtain ⟨o0, o1⟩ := two_at hO1
      have fO := row_frozen hO1
      replace hO1 := hide hO1
      go_wp2_with fail
      refine bodyPost_ret (v := .tuple #[.agg #[.string ⟨#[]⟩, .string ⟨#[]⟩], .bool false]) (by simp [results, Tryz.results49, go_sem, o0, o1]) rfl ⟨.inr ⟨hall.out, rfl⟩, ?_⟩
      exact ((X.out.alloc _).setCell (p := ⟨w.heap.size, 0, none⟩) (Nat.le_refl _) _).setCell (p := ⟨w.heap.size, 1, none⟩) (Nat.le_refl _) _
end Go.Proofs.YtodhhjlemmmjcaaGreat
