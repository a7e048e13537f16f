/-
  Is an ID needed by one of the steps that are to come?
-/
/-
  The steps in their order: who may be next, and what is taken.
-/
/-
  inOrder: again and again the step of the least ID that may be next.
-/
import Derived.Test.YtfoelahabalbpaaGreatDoorRngSt
import Derived.Test.YtfoelahabalbpaaGreatDoorJ8
import Derived.BigQuiet
import Derived.Test.YtfoelahabalbpaaGreatDoorJ24
import Derived.Deep.AppendLies
namespace Go.Proofs.YtfoelahabalbpaaGreatDoor
open Go.RowKit

theorem id_eq {a b : IDd} (h1 : a.kind = b.kind) (h2 : a.name = b.name) : a = b := by cases a; cases b; simp only at h1 h2; rw [h1, h2]
theorem mem_step {α : Type} {l : List α} {k : Nat} {x a : α} (hx : l[k]? = some x) (hne : ¬ a = x) (h : a ∉ l.take k) : a ∉ l.take (k + 1) := by
  rw [List.take_add_one, hx]
  simp
  exact ⟨h, hne⟩
/-- The cells of a row of our own, element by element. -/
theorem own_cells {α : Type} {c : α → List Value} {m : Nat} (hc : ∀ x, (c x).length = m) {B : Nat} {w : World} {e : TypeId} {pa : Option Addr} {n cap : Nat} {l : List α} (h : w.ownsRow B e m (.slice pa n cap) l.length (l.flatMap c)) : n = l.length ∧ n ≤ cap ∧ cap ≤ 9223372036854775807 ∧ (l = [] ∨ ∃ g, pa = some ⟨g, 0, none⟩ ∧ ∀ (i : Nat) x, l[i]? = some x → ∀ r u, (c x)[r]? = some u → w.cell? ⟨g, i * m + r, none⟩ = some u) := by
  rcases h.2 with ⟨h1, h2⟩ | ⟨g, cap', cur, h1, _, hg, hcc, hm, hs, ht⟩
  · cases h1
    exact ⟨h2.symm, Nat.le_refl _, by omega, .inl (List.eq_nil_of_length_eq_zero h2)⟩
  · cases h1
    unfold maxLen at hm
    refine ⟨rfl, hcc, by omega, .inr ⟨g, rfl, fun i x hx r u hu => ?_⟩⟩
    have hlt : i < l.length := (List.getElem?_eq_some_iff.1 hx).1
    have hr : r < m := by have := (List.getElem?_eq_some_iff.1 hu).1; rw [hc] at this; exact this
    have h1 : (l.flatMap c)[i * m + r]? = (c x)[r]? := flat_get hc hx hr
    have hb : i * m + r < l.length * m := by
      have : (i + 1) * m ≤ l.length * m := Nat.mul_le_mul_right _ hlt
      rw [Nat.succ_mul] at this
      omega
    rw [← hu, ← h1, ← ht, List.getElem?_take, if_pos hb]
    simp [World.cell?, hg]
theorem cV_len (s : StepC) : (cV s).length = 5 := rfl

set_option maxRecDepth 100000 in
set_option maxHeartbeats 1600000 in
theorem indexID (v : Value) (l : List IDd) (a : IDd) (w : World) (hv : IDsV w v l) :
    Calls Tryz.prog 112 #[v, .agg #[.string a.kind, .string a.name]] w fun e w' => ∃ z : Int, e = .returned (.int .i64 z) ∧ Hid (decide (0 ≤ z) = true ↔ a ∈ l) ∧ Hid (Ext w w') := by
  obtain ⟨pa, cap, rfl, c1, c2, hin⟩ := hv.shape
  have hfew := hv.few
  replace hv := hide hv; replace hin := hide hin
  go_enter Tryz.func112, Tryz.ntmps112
  go_wp2_with fail
  go_loopw [8] (fun kv wr => ∃ k : Nat, k ≤ l.length ∧ kv = .int .i64 k ∧ Hid (a ∉ l.take k) ∧ Hid (Ext (w.alloc (.cells #[.string a.kind, .string a.name] 31)) wr)) (fun kv _ => l.length - (intOf kv).toNat)
  case atStart => exact ⟨0, Nat.zero_le _, rfl, by simp [Hid], Ext.refl _⟩
  case round =>
    obtain ⟨k, hk, rfl, hno, hxr⟩ := hrel
    have X := hide (((Ext.refl w).alloc (.cells #[.string a.kind, .string a.name] 31)).trans hxr.out)
    have bb := ext_at hxr.out (heap_alloc_new w _)
    have q0 := tabSt_c0 bb
    have q1 := tabSt_c1 bb
    replace bb := hide bb
    by_cases hlt : k < l.length
    · obtain ⟨x, hx⟩ := some_of_lt hlt
      rcases hin.out with hh | ⟨bx, ox, rfl, hxi⟩
      · rw [hh] at hlt; simp at hlt
      obtain ⟨p0, p1⟩ := hxi k x hx
      replace p0 := X.out.cells p0; replace p1 := X.out.cells p1
      have k2 : (k : Int) < (l.length : Int) := by omega
      have k4 : (0 : Int) ≤ (k : Int) := by omega
      replace hx := hide hx; replace hxi := hide hxi
      by_cases h0 : a.kind = x.kind
      · by_cases h1 : a.name = x.name
        · have m0 : a.kind.toList = x.kind.toList := by rw [h0]
          have m1 : a.name.toList = x.name.toList := by rw [h1]
          have hmem : Hid (a ∈ l) := by show a ∈ l; rw [id_eq h0 h1]; exact List.mem_of_getElem? hx.out
          replace h0 := hide h0; replace h1 := hide h1
          go_wp2_with fail
          go_quiet (fail)
          go_wp2_with fail
          go_ret
          exact ⟨k, rfl, by show _ ↔ _; simp [hmem.out], X.out.drewN _⟩
        · have m0 : a.kind.toList = x.kind.toList := by rw [h0]
          have n1 : ¬ a.name.toList = x.name.toList := fun h => h1 (ba_inj h)
          have n2 : (a.name.toList == x.name.toList) = false := by simpa using n1
          have hne : Hid (¬ a = x) := fun h => h1 (by rw [h])
          replace h0 := hide h0; replace h1 := hide h1
          go_wp2_with fail
          go_quiet (fail)
          go_wp2_with fail
          go_roundw
          case rel => exact ⟨k + 1, by omega, by go_num, mem_step hx.out hne.out hno.out, hxr.out.drewN _⟩
          case measure => simp [intOf]; omega
      · have n1 : ¬ a.kind.toList = x.kind.toList := fun h => h0 (ba_inj h)
        have n2 : (a.kind.toList == x.kind.toList) = false := by simpa using n1
        have hne : Hid (¬ a = x) := fun h => h0 (by rw [h])
        replace h0 := hide h0
        go_wp2_with fail
        go_quiet (fail)
        go_wp2_with fail
        go_roundw
        case rel => exact ⟨k + 1, by omega, by go_num, mem_step hx.out hne.out hno.out, hxr.out.drewN _⟩
        case measure => simp [intOf]; omega
    · obtain rfl : k = l.length := by omega
      have hno' : Hid (a ∉ l) := fun h => hno.out (by rw [List.take_length]; exact h)
      go_wp2_with fail
      go_ret
      exact ⟨-1, rfl, by show _ ↔ _; simp [hno'.out], X⟩

set_option maxRecDepth 100000 in
set_option maxHeartbeats 800000 in
theorem containsID (v : Value) (l : List IDd) (a : IDd) (w : World) (hv : IDsV w v l) :
    Calls Tryz.prog 67 #[v, .agg #[.string a.kind, .string a.name]] w fun e w' => ∃ b : Bool, e = .returned (.bool b) ∧ Hid (b = true ↔ a ∈ l) ∧ Hid (Ext w w') := by
  have hf := hide (indexID v l a _ (hv.ext ((Ext.refl w).alloc (.cells #[.string a.kind, .string a.name] 31))))
  replace hv := hide hv
  go_enter Tryz.func67, Tryz.ntmps67
  go_wp2_with fail
  refine hf.out.mono ?_
  rintro e1 w1 ⟨z, rfl, hz, he1⟩
  go_wp2_with fail
  go_ret
  exact ⟨_, rfl, hz, ((Ext.refl w).alloc _).trans he1.out⟩

set_option maxRecDepth 100000 in
set_option maxHeartbeats 800000 in
theorem needOne (s : StepC) (a : IDd) (p : Nat) (w : World) (hs : s.r.In w) (h0 : w.cell? ⟨p, 0, none⟩ = some (.string a.kind)) (h1 : w.cell? ⟨p, 1, none⟩ = some (.string a.name)) :
    Calls Tryz.prog 66 #[.agg #[.int .i64 s.op, .string s.r.x.id.kind, .string s.r.x.id.name, .slice s.r.a2 s.r.n2 s.r.p2, .slice s.r.a3 s.r.n3 s.r.p3], .pointer (some ⟨p, 0, none⟩)] w fun e w' => ∃ b : Bool, e = .returned (.bool b) ∧ Hid (b = true ↔ a ∈ s.r.x.after) ∧ Hid (Ext w w') := by
  have E0 := hide ((Ext.refl w).alloc (.cells #[.int .i64 s.op, .string s.r.x.id.kind, .string s.r.x.id.name, .slice s.r.a2 s.r.n2 s.r.p2, .slice s.r.a3 s.r.n3 s.r.p3] 38))
  have Bx := heap_alloc_new w (.cells #[.int .i64 s.op, .string s.r.x.id.kind, .string s.r.x.id.name, .slice s.r.a2 s.r.n2 s.r.p2, .slice s.r.a3 s.r.n3 s.r.p3] 38)
  have b4 := (five_at Bx).2.2.2.2
  replace h0 := E0.out.cells h0; replace h1 := E0.out.cells h1
  replace Bx := hide Bx; replace hs := hide hs
  go_enter Tryz.func66, Tryz.ntmps66
  go_wp2_with fail
  refine (containsID (.slice s.r.a3 s.r.n3 s.r.p3) s.r.x.after a _ (ResV.after (hs.out.ext E0.out))).mono ?_
  rintro e1 w1 ⟨b, rfl, hb, he1⟩
  go_wp2_with fail
  go_ret
  exact ⟨b, rfl, hb, E0.out.trans he1.out⟩

set_option maxRecDepth 100000 in
set_option maxHeartbeats 1600000 in
theorem indexNeed (B : Nat) (pa : Option Addr) (n cap : Nat) (ss : List StepC) (a : IDd) (p : Nat) (w : World) (hr : w.ownsRow B 38 5 (.slice pa n cap) ss.length (cellsV ss)) (he : ∀ s ∈ ss, s.r.In w) (h0 : w.cell? ⟨p, 0, none⟩ = some (.string a.kind)) (h1 : w.cell? ⟨p, 1, none⟩ = some (.string a.name)) :
    Calls Tryz.prog 111 #[.slice pa n cap, .func (.func 66) #[] #[.pointer (some ⟨p, 0, none⟩)]] w fun e w' => ∃ z : Int, e = .returned (.int .i64 z) ∧ Hid (decide (0 ≤ z) = true ↔ ∃ s ∈ ss, a ∈ s.r.x.after) ∧ Hid (Ext w w') := by
  obtain ⟨rfl, c1, c2, hin⟩ := own_cells cV_len hr
  replace hr := hide hr; replace hin := hide hin; replace he := hide he; replace h0 := hide h0; replace h1 := hide h1
  go_enter Tryz.func111, Tryz.ntmps111
  go_wp2_with fail
  go_loopw [8] (fun kv wr => ∃ k : Nat, k ≤ ss.length ∧ kv = .int .i64 k ∧ Hid (∀ s ∈ ss.take k, a ∉ s.r.x.after) ∧ Hid (Ext w wr)) (fun kv _ => ss.length - (intOf kv).toNat)
  case atStart => exact ⟨0, Nat.zero_le _, rfl, fun s hs => by simp at hs, Ext.refl _⟩
  case round =>
    obtain ⟨k, hk, rfl, hno, hxr⟩ := hrel
    by_cases hlt : k < ss.length
    · obtain ⟨s, hs⟩ := some_of_lt hlt
      rcases hin.out with hh | ⟨g, rfl, hI⟩
      · rw [hh] at hlt; simp at hlt
      replace hI := hI k s hs
      have k0 := hxr.out.cells (hI 0 _ rfl); have k1 := hxr.out.cells (hI 1 _ rfl); have k2 := hxr.out.cells (hI 2 _ rfl); have k3 := hxr.out.cells (hI 3 _ rfl); have k4 := hxr.out.cells (hI 4 _ rfl)
      rw [Nat.add_zero] at k0
      have i2 : (k : Int) < (ss.length : Int) := by omega
      have i4 : (0 : Int) ≤ (k : Int) := by omega
      have hone := hide (needOne s a p wr ((he.out s (List.mem_of_getElem? hs)).ext hxr.out) (hxr.out.cells h0.out) (hxr.out.cells h1.out))
      replace hs := hide hs; replace hI := hide hI
      go_wp2_with fail
      refine hone.out.mono ?_
      rintro e1 w1 ⟨b, rfl, hb, he1⟩
      cases b with
      | true =>
        have hmem : Hid (∃ s ∈ ss, a ∈ s.r.x.after) := ⟨s, List.mem_of_getElem? hs.out, hb.out.1 rfl⟩
        go_wp2_with fail
        go_ret
        exact ⟨k, rfl, ⟨fun _ => hmem.out, fun _ => by simp⟩, hxr.out.trans he1.out⟩
      | false =>
        have hne : Hid (a ∉ s.r.x.after) := fun h => by have := hb.out.2 h; cases this
        go_wp2_with fail
        go_roundw
        case rel =>
          refine ⟨k + 1, by omega, by go_num, fun s' hs' => ?_, hxr.out.trans he1.out⟩
          rw [List.take_add_one, hs.out] at hs'
          rcases List.mem_append.1 hs' with h | h
          · exact hno.out s' h
          · obtain rfl : s' = s := by simpa using h
            exact hne.out
        case measure => simp [intOf]; omega
    · obtain rfl : k = ss.length := by omega
      have hno' : Hid (¬ ∃ s ∈ ss, a ∈ s.r.x.after) := by
        rintro ⟨s, hs, h⟩
        exact hno.out s (by rw [List.take_length]; exact hs) h
      go_wp2_with fail
      go_ret
      exact ⟨-1, rfl, ⟨fun h => by simp at h, fun h => absurd h hno'.out⟩, hxr⟩

set_option maxRecDepth 100000 in
set_option maxHeartbeats 800000 in
theorem containsNeed (B : Nat) (pa : Option Addr) (n cap : Nat) (ss : List StepC) (a : IDd) (p : Nat) (w : World) (hr : w.ownsRow B 38 5 (.slice pa n cap) ss.length (cellsV ss)) (he : ∀ s ∈ ss, s.r.In w) (h0 : w.cell? ⟨p, 0, none⟩ = some (.string a.kind)) (h1 : w.cell? ⟨p, 1, none⟩ = some (.string a.name)) :
    Calls Tryz.prog 64 #[.slice pa n cap, .func (.func 66) #[] #[.pointer (some ⟨p, 0, none⟩)]] w fun e w' => ∃ b : Bool, e = .returned (.bool b) ∧ Hid (b = true ↔ ∃ s ∈ ss, a ∈ s.r.x.after) ∧ Hid (Ext w w') := by
  have hf := hide (indexNeed B pa n cap ss a p w hr he h0 h1)
  clear hr he h0 h1
  go_enter Tryz.func64, Tryz.ntmps64
  go_wp2_with fail
  refine hf.out.mono ?_
  rintro e1 w1 ⟨z, rfl, hz, he1⟩
  go_wp2_with fail
  go_ret
  exact ⟨_, rfl, hz, he1⟩

set_option maxRecDepth 100000 in
set_option maxHeartbeats 800000 in
theorem isNeeded (B : Nat) (ss : List StepC) (a : IDd) (t : Nat) (w : World) (hT : TodoAt B w t ss) (hn : ss.length ≤ 1000) :
    Calls Tryz.prog 27 #[.pointer (some ⟨t, 0, none⟩), .agg #[.string a.kind, .string a.name]] w fun e w' => ∃ b : Bool, e = .returned (.bool b) ∧ Hid (b = true ↔ ∃ s ∈ ss, a ∈ s.r.x.after) ∧ Hid (Ext w w') := by
  obtain ⟨v, hTb⟩ := hT.tab
  have E0 := hide ((Ext.refl w).alloc (.cells #[.string a.kind, .string a.name] 31))
  have Bx := hide (heap_alloc_new w (.cells #[.string a.kind, .string a.name] 31))
  have hval := hide (valuesSt B t v (ss.map rowS) _ (hTb.ext E0.out) (by rw [List.length_map]; exact hn))
  have hvs : valsSt (ss.map rowS) = ss := by simp [valsSt, rowS, Function.comp_def]
  rw [hvs, List.length_map] at hval
  replace hT := hide hT; replace hTb := hide hTb
  clear hvs
  go_enter Tryz.func27, Tryz.ntmps27
  go_wp2_with fail
  refine hval.out.mono ?_
  rintro e1 w1 ⟨pa, cap, rfl, hO, he1⟩
  have B1 := ext_at he1.out Bx.out
  go_wp2_with fail
  refine (containsNeed _ pa ss.length cap ss a w.heap.size w1 hO.out (fun s hs => OwnR.resV ((hT.out.each s hs).1.ext (E0.out.trans he1.out)) (hT.out.each s hs).2) (tabSt_c0 B1) (tabSt_c1 B1)).mono ?_
  rintro e2 w2 ⟨b, rfl, hb, he2⟩
  go_wp2_with fail
  go_ret
  exact ⟨b, rfl, hb, E0.out.trans (he1.out.trans he2.out)⟩
end Go.Proofs.YtfoelahabalbpaaGreatDoor

namespace Go.Proofs.YtfoelahabalbpaaGreatDoor
open Go.RowKit

theorem pick_at {α : Type} {p : α → Prop} : ∀ {l : List α} {i : Nat} {x : α}, l[i]? = some x → p x → (∀ (j : Nat) y, j < i → l[j]? = some y → ¬ p y) → pickF p l = some (x, l.eraseIdx i)
  | [], i, x, h, _, _ => by simp at h
  | y :: l, 0, x, h, hp, _ => by
    simp at h
    subst h
    simp only [pickF]
    rw [if_pos hp]; rfl
  | y :: l, i + 1, x, h, hp, hn => by
    have ih := pick_at (p := p) (l := l) (i := i) (x := x) (by simpa using h) hp (fun j z hj hz => hn (j + 1) z (by omega) (by simpa using hz))
    simp only [pickF]
    rw [if_neg (hn 0 y (by omega) rfl), ih]; rfl
theorem idsT_in (ss : List StepC) : (fun a => a ∈ idsT (ss.map StepC.d)) = InT ss := by
  funext a
  apply propext
  simp only [idsT, List.mem_map, InT]
  constructor
  · rintro ⟨s, ⟨c, hc, rfl⟩, rfl⟩; exact ⟨c, hc, rfl⟩
  · rintro ⟨c, hc, rfl⟩; exact ⟨c.d, ⟨c, hc, rfl⟩, rfl⟩
def FreeM (l : List Resd) (ss : List StepC) (a : IDd) : Prop := ¬ WaitsTo l a (InT ss)
def FreeD (ss : List StepC) (a : IDd) : Prop := ¬ ∃ o ∈ ss, a ∈ o.r.x.after
theorem make_iff (l : List Resd) (ss : List StepC) (s : StepC) : mayMake l (ss.map StepC.d) s.d ↔ FreeM l ss s.r.x.id := by
  unfold mayMake FreeM
  rw [idsT_in]; rfl
theorem del_iff (ss : List StepC) (s : StepC) : mayDel (ss.map StepC.d) s.d ↔ FreeD ss s.r.x.id := by
  unfold mayDel FreeD
  constructor
  · rintro h ⟨o, ho, hm⟩; exact h ⟨o.d, List.mem_map.2 ⟨o, ho, rfl⟩, hm⟩
  · rintro h ⟨o, ho, hm⟩
    obtain ⟨c, hc, rfl⟩ := List.mem_map.1 ho
    exact h ⟨c, hc, hm⟩
/-- What the look for the first that may be next answers. -/
def FindIs (w : World) (ids : List IDd) (P : IDd → Prop) (e : Ending) (w' : World) : Prop :=
  ((∃ (i : Nat) (a : IDd), ids[i]? = some a ∧ P a ∧ (∀ (j : Nat) b, j < i → ids[j]? = some b → ¬ P b) ∧ e = .returned (.tuple #[.agg #[.string a.kind, .string a.name], .bool true])) ∨ ((∀ a ∈ ids, ¬ P a) ∧ e = .returned (.tuple #[.agg #[.string ⟨#[]⟩, .string ⟨#[]⟩], .bool false]))) ∧ Hid (Ext w w')
/-- Steps of our own, and their lists. -/
structure StpsAt (B : Nat) (w : World) (v : Value) (ss : List StepC) : Prop where
  row : w.ownsRow B 38 5 v ss.length (cellsV ss)
  each : ∀ s ∈ ss, OwnR B w s.r.c2 s.r.c3 s.r.x ∧ okS s.r.x
  apart : ss.Pairwise fun p q => ApartC p.r q.r
/-- In the midst of it: what was taken, and what is still to come. -/
structure MidO (B C : Nat) (may : List StepD → StepD → Prop) (ss : List StepC) (w : World) (t : Nat) (wr : World) (v : Value) (dn td : List StepC) : Prop where
  row : wr.ownsRow w.heap.size 38 5 v dn.length (cellsV dn)
  each : ∀ s ∈ dn, OwnR B wr s.r.c2 s.r.c3 s.r.x ∧ okS s.r.x
  todo : TodoAt B wr t td
  apart : (dn ++ td).Pairwise fun p q => ApartC p.r q.r
  out : dn.map StepC.d ++ ordF may td.length (td.map StepC.d) = ordF may ss.length (ss.map StepC.d)
  sum : dn.length + td.length = ss.length
  frame : WroteTSt B w wr
  low : TabLow C wr t
  upper : Upper C w wr
  sub : ∀ s ∈ dn ++ td, s ∈ ss
theorem two_at {w : World} {k : Nat} {a b : Value} {t : TypeId} {fz : Nat × Nat} (hk : w.heap[k]? = some (.cells #[a, b] t fz)) : w.cell? ⟨k, 0, none⟩ = some a ∧ w.cell? ⟨k, 1, none⟩ = some b := ⟨by simp [World.cell?, hk], by simp [World.cell?, hk]⟩

set_option maxRecDepth 100000 in
set_option maxHeartbeats 800000 in
theorem nextM (a : IDd) (pw pm : Nat) (v : Value) (l : List Resd) (B t : Nat) (ss : List StepC) (w0 w : World) (hv : RessV w0 v l) (hE0 : Ext w0 w) (hT : TodoAt B w t ss) (hpw : w.heap[pw]? = some (.cells #[v] 24 (0, 0))) (hpm : w.heap[pm]? = some (.cells #[.pointer (some ⟨t, 0, none⟩)] 60 (0, 0))) (hU : (allAfter l).length ≤ 1000) :
    Calls Tryz.prog 23 #[.agg #[.string a.kind, .string a.name], .pointer (some ⟨pw, 0, none⟩), .pointer (some ⟨pm, 0, none⟩)] w fun e w' => ∃ b : Bool, e = .returned (.bool b) ∧ Hid (b = true ↔ FreeM l ss a) ∧ Hid (Ext w w') := by
  have E0 := hide ((Ext.refl w).alloc (.cells #[.string a.kind, .string a.name] 31))
  have q0 := E0.out.cells (p := ⟨pw, 0, none⟩) (v := v) (by simp [World.cell?, hpw])
  have q1 := E0.out.cells (p := ⟨pm, 0, none⟩) (v := .pointer (some ⟨t, 0, none⟩)) (by simp [World.cell?, hpm])
  obtain ⟨pa, cap, rfl, -, -, -⟩ := hv.shape
  have hw := hide (waitsHas _ l a B t ss _ (hv.ext (hE0.trans E0.out)) (hT.ext E0.out) hU)
  clear hpw hpm hT hv hE0
  go_enter Tryz.func23, Tryz.ntmps23
  go_wp2_with fail
  refine hw.out.mono ?_
  rintro e1 w1 ⟨b, rfl, hb, he1⟩
  go_wp2_with fail
  go_ret
  refine ⟨!b, rfl, ?_, E0.out.trans he1.out⟩
  show _ ↔ ¬ _
  rw [← hb.out]
  cases b <;> simp

set_option maxRecDepth 100000 in
set_option maxHeartbeats 1600000 in
theorem findM (C : Nat) (pa : Option Addr) (n cap : Nat) (ids : List IDd) (pw pm : Nat) (v : Value) (l : List Resd) (B t : Nat) (ss : List StepC) (w0 w : World) (hr : w.ownsRow C 31 2 (.slice pa n cap) ids.length (cellsI ids)) (hv : RessV w0 v l) (hE0 : Ext w0 w) (hT : TodoAt B w t ss) (hpw : w.heap[pw]? = some (.cells #[v] 24 (0, 0))) (hpm : w.heap[pm]? = some (.cells #[.pointer (some ⟨t, 0, none⟩)] 60 (0, 0))) (hU : (allAfter l).length ≤ 1000) :
    Calls Tryz.prog 55 #[.slice pa n cap, .func (.func 23) #[] #[.pointer (some ⟨pw, 0, none⟩), .pointer (some ⟨pm, 0, none⟩)]] w (FindIs w ids (FreeM l ss)) := by
  obtain ⟨rfl, c1, c2, hin⟩ := own_cells cI_len hr
  replace hr := hide hr; replace hin := hide hin; replace hv := hide hv; replace hE0 := hide hE0; replace hT := hide hT; replace hpw := hide hpw; replace hpm := hide hpm
  go_enter Tryz.func55, Tryz.ntmps55
  go_wp2_with fail
  go_loopw [11] (fun kv wr => ∃ k : Nat, k ≤ ids.length ∧ kv = .int .i64 k ∧ Hid (∀ (j : Nat) b, j < k → ids[j]? = some b → ¬ (FreeM l ss) b) ∧ Hid (Ext (w.alloc (.cells #[.string ⟨#[]⟩, .string ⟨#[]⟩] 31)) wr)) (fun kv _ => ids.length - (intOf kv).toNat)
  case atStart => exact ⟨0, Nat.zero_le _, rfl, fun _ _ h => absurd h (by omega), Ext.refl _⟩
  case round =>
    obtain ⟨k, hk, rfl, hno, hxr⟩ := hrel
    have X := hide (((Ext.refl w).alloc (.cells #[.string ⟨#[]⟩, .string ⟨#[]⟩] 31)).trans hxr.out)
    have hO := hide (ext_at hxr.out (heap_alloc_new w _))
    by_cases hlt : k < ids.length
    · obtain ⟨a, ha⟩ := some_of_lt hlt
      rcases hin.out with hh | ⟨g, rfl, hI⟩
      · rw [hh] at hlt; simp at hlt
      replace hI := hI k a ha
      have k0 := X.out.cells (hI 0 _ rfl); have k1 := X.out.cells (hI 1 _ rfl)
      rw [Nat.add_zero] at k0
      have i2 : (k : Int) < (ids.length : Int) := by omega
      have i4 : (0 : Int) ≤ (k : Int) := by omega
      have X4 := hide (X.out.alloc (.cells #[.string a.kind, .string a.name] 31))
      have Bx := hide (heap_alloc_new wr (.cells #[.string a.kind, .string a.name] 31))
      have hone := hide (nextM a pw pm v l B t ss w0 _ hv.out (hE0.out.trans X4.out) (hT.out.ext X4.out) (ext_at X4.out hpw.out) (ext_at X4.out hpm.out) hU)
      replace ha := hide ha; replace hI := hide hI
      go_wp2_with fail
      refine hone.out.mono ?_
      rintro e1 w1 ⟨b, rfl, hb, he1⟩
      have Bx1 := ext_at he1.out Bx.out
      have hO1 := ext_at (((Ext.refl wr).alloc _).trans he1.out) hO.out
      obtain ⟨b0, b1⟩ := two_at Bx1
      obtain ⟨o0, o1⟩ := two_at hO1
      have fO := row_frozen hO1
      have EX := hide (X4.out.trans he1.out)
      replace Bx1 := hide Bx1; replace hO1 := hide hO1
      clear k0 k1
      cases b with
      | true =>
        have hP : Hid ((FreeM l ss) a) := hb.out.1 rfl
        go_wp2_with fail
        refine bodyPost_ret (v := .tuple #[.agg #[.string a.kind, .string a.name], .bool true]) (by simp [results, Tryz.results55, go_sem, o0, o1]) rfl ⟨.inl ⟨k, a, ha.out, hP.out, hno.out, rfl⟩, ?_⟩
        exact (EX.out.setCell (p := ⟨w.heap.size, 0, none⟩) (Nat.le_refl _) _).setCell (p := ⟨w.heap.size, 1, none⟩) (Nat.le_refl _) _
      | false =>
        have hP : Hid (¬ (FreeM l ss) a) := fun h => by have := hb.out.2 h; cases this
        go_wp2_with fail
        go_roundw
        case rel =>
          refine ⟨k + 1, by omega, by go_num, fun j c hj hc => ?_, hxr.out.trans (((Ext.refl wr).alloc _).trans he1.out)⟩
          by_cases e : j = k
          · subst e
            obtain rfl : a = c := by simpa [ha.out] using hc
            exact hP.out
          · exact hno.out j c (by omega) hc
        case measure => simp [intOf]; omega
    · obtain rfl : k = ids.length := by omega
      have hall : Hid (∀ a ∈ ids, ¬ (FreeM l ss) a) := fun a ha => by
        obtain ⟨j, hj⟩ := List.mem_iff_getElem?.1 ha
        exact hno.out j a (List.getElem?_eq_some_iff.1 hj).1 hj
      have hO1 := ext_at ((Ext.refl wr).alloc (.cells #[.string ⟨#[]⟩, .string ⟨#[]⟩] 31)) hO.out
      obtain ⟨o0, o1⟩ := two_at hO1
      have fO := row_frozen hO1
      replace hO1 := hide hO1
      go_wp2_with fail
      refine bodyPost_ret (v := .tuple #[.agg #[.string ⟨#[]⟩, .string ⟨#[]⟩], .bool false]) (by simp [results, Tryz.results55, go_sem, o0, o1]) rfl ⟨.inr ⟨hall.out, rfl⟩, ?_⟩
      exact ((X.out.alloc _).setCell (p := ⟨w.heap.size, 0, none⟩) (Nat.le_refl _) _).setCell (p := ⟨w.heap.size, 1, none⟩) (Nat.le_refl _) _

set_option maxRecDepth 100000 in
set_option maxHeartbeats 800000 in
theorem nextD (a : IDd) (pm : Nat) (B t : Nat) (ss : List StepC) (w : World) (hT : TodoAt B w t ss) (hpm : w.heap[pm]? = some (.cells #[.pointer (some ⟨t, 0, none⟩)] 60 (0, 0))) (hU : ss.length ≤ 1000) :
    Calls Tryz.prog 26 #[.agg #[.string a.kind, .string a.name], .pointer (some ⟨pm, 0, none⟩)] w fun e w' => ∃ b : Bool, e = .returned (.bool b) ∧ Hid (b = true ↔ FreeD ss a) ∧ Hid (Ext w w') := by
  have E0 := hide ((Ext.refl w).alloc (.cells #[.string a.kind, .string a.name] 31))
  have q1 := E0.out.cells (p := ⟨pm, 0, none⟩) (v := .pointer (some ⟨t, 0, none⟩)) (by simp [World.cell?, hpm])
  have hw := hide (isNeeded B ss a t _ (hT.ext E0.out) hU)
  clear hpm hT
  go_enter Tryz.func26, Tryz.ntmps26
  go_wp2_with fail
  refine hw.out.mono ?_
  rintro e1 w1 ⟨b, rfl, hb, he1⟩
  go_wp2_with fail
  go_ret
  refine ⟨!b, rfl, ?_, E0.out.trans he1.out⟩
  show _ ↔ ¬ _
  rw [← hb.out]
  cases b <;> simp

set_option maxRecDepth 100000 in
set_option maxHeartbeats 1600000 in
theorem findD (C : Nat) (pa : Option Addr) (n cap : Nat) (ids : List IDd) (pm : Nat) (B t : Nat) (ss : List StepC) (w : World) (hr : w.ownsRow C 31 2 (.slice pa n cap) ids.length (cellsI ids)) (hT : TodoAt B w t ss) (hpm : w.heap[pm]? = some (.cells #[.pointer (some ⟨t, 0, none⟩)] 60 (0, 0))) (hU : ss.length ≤ 1000) :
    Calls Tryz.prog 55 #[.slice pa n cap, .func (.func 26) #[] #[.pointer (some ⟨pm, 0, none⟩)]] w (FindIs w ids (FreeD ss)) := by
  obtain ⟨rfl, c1, c2, hin⟩ := own_cells cI_len hr
  replace hr := hide hr; replace hin := hide hin; replace hT := hide hT; replace hpm := hide hpm
  go_enter Tryz.func55, Tryz.ntmps55
  go_wp2_with fail
  go_loopw [11] (fun kv wr => ∃ k : Nat, k ≤ ids.length ∧ kv = .int .i64 k ∧ Hid (∀ (j : Nat) b, j < k → ids[j]? = some b → ¬ (FreeD ss) b) ∧ Hid (Ext (w.alloc (.cells #[.string ⟨#[]⟩, .string ⟨#[]⟩] 31)) wr)) (fun kv _ => ids.length - (intOf kv).toNat)
  case atStart => exact ⟨0, Nat.zero_le _, rfl, fun _ _ h => absurd h (by omega), Ext.refl _⟩
  case round =>
    obtain ⟨k, hk, rfl, hno, hxr⟩ := hrel
    have X := hide (((Ext.refl w).alloc (.cells #[.string ⟨#[]⟩, .string ⟨#[]⟩] 31)).trans hxr.out)
    have hO := hide (ext_at hxr.out (heap_alloc_new w _))
    by_cases hlt : k < ids.length
    · obtain ⟨a, ha⟩ := some_of_lt hlt
      rcases hin.out with hh | ⟨g, rfl, hI⟩
      · rw [hh] at hlt; simp at hlt
      replace hI := hI k a ha
      have k0 := X.out.cells (hI 0 _ rfl); have k1 := X.out.cells (hI 1 _ rfl)
      rw [Nat.add_zero] at k0
      have i2 : (k : Int) < (ids.length : Int) := by omega
      have i4 : (0 : Int) ≤ (k : Int) := by omega
      have X4 := hide (X.out.alloc (.cells #[.string a.kind, .string a.name] 31))
      have Bx := hide (heap_alloc_new wr (.cells #[.string a.kind, .string a.name] 31))
      have hone := hide (nextD a pm B t ss _ (hT.out.ext X4.out) (ext_at X4.out hpm.out) hU)
      replace ha := hide ha; replace hI := hide hI
      go_wp2_with fail
      refine hone.out.mono ?_
      rintro e1 w1 ⟨b, rfl, hb, he1⟩
      have Bx1 := ext_at he1.out Bx.out
      have hO1 := ext_at (((Ext.refl wr).alloc _).trans he1.out) hO.out
      obtain ⟨b0, b1⟩ := two_at Bx1
      obtain ⟨o0, o1⟩ := two_at hO1
      have fO := row_frozen hO1
      have EX := hide (X4.out.trans he1.out)
      replace Bx1 := hide Bx1; replace hO1 := hide hO1
      clear k0 k1
      cases b with
      | true =>
        have hP : Hid ((FreeD ss) a) := hb.out.1 rfl
        go_wp2_with fail
        refine bodyPost_ret (v := .tuple #[.agg #[.string a.kind, .string a.name], .bool true]) (by simp [results, Tryz.results55, go_sem, o0, o1]) rfl ⟨.inl ⟨k, a, ha.out, hP.out, hno.out, rfl⟩, ?_⟩
        exact (EX.out.setCell (p := ⟨w.heap.size, 0, none⟩) (Nat.le_refl _) _).setCell (p := ⟨w.heap.size, 1, none⟩) (Nat.le_refl _) _
      | false =>
        have hP : Hid (¬ (FreeD ss) a) := fun h => by have := hb.out.2 h; cases this
        go_wp2_with fail
        go_roundw
        case rel =>
          refine ⟨k + 1, by omega, by go_num, fun j c hj hc => ?_, hxr.out.trans (((Ext.refl wr).alloc _).trans he1.out)⟩
          by_cases e : j = k
          · subst e
            obtain rfl : a = c := by simpa [ha.out] using hc
            exact hP.out
          · exact hno.out j c (by omega) hc
        case measure => simp [intOf]; omega
    · obtain rfl : k = ids.length := by omega
      have hall : Hid (∀ a ∈ ids, ¬ (FreeD ss) a) := fun a ha => by
        obtain ⟨j, hj⟩ := List.mem_iff_getElem?.1 ha
        exact hno.out j a (List.getElem?_eq_some_iff.1 hj).1 hj
      have hO1 := ext_at ((Ext.refl wr).alloc (.cells #[.string ⟨#[]⟩, .string ⟨#[]⟩] 31)) hO.out
      obtain ⟨o0, o1⟩ := two_at hO1
      have fO := row_frozen hO1
      replace hO1 := hide hO1
      go_wp2_with fail
      refine bodyPost_ret (v := .tuple #[.agg #[.string ⟨#[]⟩, .string ⟨#[]⟩], .bool false]) (by simp [results, Tryz.results55, go_sem, o0, o1]) rfl ⟨.inr ⟨hall.out, rfl⟩, ?_⟩
      exact ((X.out.alloc _).setCell (p := ⟨w.heap.size, 0, none⟩) (Nat.le_refl _) _).setCell (p := ⟨w.heap.size, 1, none⟩) (Nat.le_refl _) _
end Go.Proofs.YtfoelahabalbpaaGreatDoor

namespace Go.Proofs.YtfoelahabalbpaaGreatDoor
open Go.RowKit

attribute [local go_sem] Go.World.cell?_alloc_some
theorem ApartC.symm {p q : ResC} (h : ApartC p q) : ApartC q p := ⟨fun g h1 h2 => h.1 g h2 h1, fun g h1 h2 => h.2 g h2 h1⟩
theorem ApartC.far {B w0 : Nat} {w w' : World} {p q : ResC} (hp : OwnR B w p.c2 p.c3 p.x) (hq : OwnR w0 w' q.c2 q.c3 q.x) (hw : w.heap.size ≤ w0) : ApartC p q := by
  constructor
  · intro g hg hg'
    have k1 := (hp.attrs.lt g hg).2
    have k2 := (hq.attrs.lt g hg').1
    omega
  · intro g hg hg'
    have k1 := (hp.after.lt g hg).2
    have k2 := (hq.after.lt g hg').1
    omega
theorem apart_move {dn td : List StepC} {i : Nat} {s : StepC} (hs : td[i]? = some s) (h : (dn ++ td).Pairwise fun p q => ApartC p.r q.r) : ((dn ++ [s]) ++ td.eraseIdx i).Pairwise fun p q => ApartC p.r q.r := by
  obtain ⟨hi, rfl⟩ := List.getElem?_eq_some_iff.1 hs
  refine (List.Perm.pairwise_iff (fun h => h.symm) ?_).1 h
  rw [List.append_assoc]
  refine List.Perm.append_left dn ?_
  rw [eraseIdx_td]
  have h1 : td = td.take i ++ td[i] :: td.drop (i + 1) := by rw [List.getElem_cons_drop, List.take_append_drop]
  have h2 : (td.take i ++ td[i] :: td.drop (i + 1)).Perm (td[i] :: (td.take i ++ td.drop (i + 1))) := List.perm_middle
  rw [← h1] at h2
  exact h2
theorem ids_of (ss : List StepC) : (ss.map rowS).map RowSt.key = ss.map fun s => s.r.x.id := by simp [rowS, Function.comp_def]
theorem ord_step {may : List StepD → StepD → Prop} {ss dn td : List StepC} {i : Nat} {s : StepC} (hs : td[i]? = some s) (hm : may (td.map StepC.d) s.d) (hn : ∀ (j : Nat) c, j < i → td[j]? = some c → ¬ may (td.map StepC.d) c.d)
    (h : dn.map StepC.d ++ ordF may td.length (td.map StepC.d) = ordF may ss.length (ss.map StepC.d)) : (dn ++ [s]).map StepC.d ++ ordF may (td.eraseIdx i).length ((td.eraseIdx i).map StepC.d) = ordF may ss.length (ss.map StepC.d) := by
  have hi := (List.getElem?_eq_some_iff.1 hs).1
  have hp := pick_at (p := may (td.map StepC.d)) (l := td.map StepC.d) (i := i) (x := s.d) (by rw [List.getElem?_map, hs]; rfl) hm (fun j y hj hy => by
    rw [List.getElem?_map] at hy
    obtain ⟨c, hc, rfl⟩ := Option.map_eq_some_iff.1 hy
    exact hn j c hj hc)
  rw [← h, List.length_eraseIdx, if_pos hi]
  obtain ⟨n, hnn⟩ : ∃ n, td.length = n + 1 := ⟨td.length - 1, by omega⟩
  rw [hnn]
  simp only [ordF]
  rw [hp, eraseIdx_td, eraseIdx_td, List.map_append, List.map_append, List.map_take, List.map_drop]
  simp
theorem ord_end {may : List StepD → StepD → Prop} {ss dn td : List StepC} (hn : ∀ c ∈ td, ¬ may (td.map StepC.d) c.d)
    (h : dn.map StepC.d ++ ordF may td.length (td.map StepC.d) = ordF may ss.length (ss.map StepC.d)) : dn.map StepC.d = ordF may ss.length (ss.map StepC.d) := by
  rw [← h]
  have : ordF may td.length (td.map StepC.d) = [] := by
    cases td.length with
    | zero => rfl
    | succ n =>
      simp only [ordF]
      rw [pick_none (fun a ha => by
        obtain ⟨c, hc, rfl⟩ := List.mem_map.1 ha
        exact hn c hc)]
  rw [this, List.append_nil]
/-- What inOrder leaves. -/
def InOrdIs (B C : Nat) (ss : List StepC) (w : World) (res : List StepD) (e : Ending) (w' : World) : Prop :=
  ∃ (pa : Option Addr) (cap : Nat) (dn : List StepC), e = .returned (.slice pa dn.length cap) ∧ Hid (dn.map StepC.d = res) ∧ Hid (w'.ownsRow w.heap.size 38 5 (.slice pa dn.length cap) dn.length (cellsV dn)) ∧ Hid (∀ s ∈ dn, OwnR B w' s.r.c2 s.r.c3 s.r.x ∧ okS s.r.x) ∧ Hid (dn.Pairwise fun p q => ApartC p.r q.r) ∧ Hid (WroteTSt B w w') ∧ Hid (Upper C w w') ∧ Hid (∀ s ∈ dn, s ∈ ss)
theorem MidO.start {B C : Nat} {may : List StepD → StepD → Prop} {ss : List StepC} {w : World} {t : Nat} (h : TodoAt B w t ss) (hC : TabLow C w t) : MidO B C may ss w t w (.slice none 0 0) [] ss :=
  ⟨World.ownsRow_nil _ _ _ _, fun s hs => (by cases hs), h, h.apart, rfl, by simp, Wrote.refl _ _ _, hC, Upper.refl _ _, fun _ h => h⟩

set_option maxRecDepth 100000 in
set_option maxHeartbeats 3200000 in
theorem inOrderM (pw pm : Nat) (v : Value) (l : List Resd) (B C t : Nat) (ss : List StepC) (w0 w : World) (hB0 : w0.heap.size ≤ B) (hv : RessV w0 v l) (hE0 : Ext w0 w) (hT : TodoAt B w t ss) (hC : TabLow C w t) (hpw : w.heap[pw]? = some (.cells #[v] 24 (0, 0))) (hpm : w.heap[pm]? = some (.cells #[.pointer (some ⟨t, 0, none⟩)] 60 (0, 0))) (hU : (allAfter l).length ≤ 1000) (hn : ss.length ≤ 1000) :
    Calls Tryz.prog 22 #[.pointer (some ⟨t, 0, none⟩), .func (.func 23) #[] #[.pointer (some ⟨pw, 0, none⟩), .pointer (some ⟨pm, 0, none⟩)]] w (InOrdIs B C ss w (ordF (mayMake l) ss.length (ss.map StepC.d))) := by
  obtain ⟨i0, hi0, hz0, hz1, hz2⟩ := info_of infoStep
  have hM0 := hide (MidO.start (may := mayMake l) hT hC)
  replace hT := hide hT; replace hC := hide hC; replace hi0 := hide hi0; replace hv := hide hv; replace hE0 := hide hE0; replace hpw := hide hpw; replace hpm := hide hpm
  go_enter Tryz.func22, Tryz.ntmps22
  go_wp2_with fail
  go_loopw [5] (fun ov wr => ∃ (dn td : List StepC) (pa : Option Addr) (cap : Nat), ov = .slice pa dn.length cap ∧ Hid (MidO B C (mayMake l) ss w t wr (.slice pa dn.length cap) dn td)) (fun ov _ => ss.length - lenV ov)
  case atStart => exact ⟨[], ss, none, 0, rfl, hM0⟩
  case round =>
    clear hM0
    obtain ⟨dn, td, pa, cap, rfl, hM⟩ := hrel
    have hsum := hM.out.sum
    obtain ⟨vT, hTb⟩ := hM.out.todo.tab
    have hkeys := hide (keysSt B t vT (td.map rowS) wr hTb (by rw [List.length_map]; omega))
    rw [ids_of, List.length_map] at hkeys
    obtain ⟨wo, rfl⟩ : ∃ wo : World, wo = wr := ⟨_, rfl⟩
    replace hTb := hide hTb
    go_wp2_with fail
    refine hkeys.out.mono ?_
    rintro e1 w1 ⟨pa1, cap1, rfl, hK1, he1⟩
    have hK1 : Hid (w1.ownsRow wo.heap.size 31 2 (.slice pa1 td.length cap1) (td.map fun s => s.r.x.id).length (cellsI (td.map fun s => s.r.x.id))) := by
      show World.ownsRow _ _ _ _ _ _ _
      rw [List.length_map]; exact hK1.out
    have hfind := hide (findM _ pa1 _ cap1 (td.map fun s => s.r.x.id) pw pm v l B t td w0 w1 hK1.out hv.out ((hE0.out.wrote hM.out.frame hB0).trans he1.out) (hM.out.todo.ext he1.out) (ext_at he1.out (hM.out.frame.keeps hpw.out (by decide))) (ext_at he1.out (hM.out.frame.keeps hpm.out (by decide))) hU)
    clear hkeys
    go_wp2_with fail
    refine hfind.out.mono ?_
    rintro e2 w2 ⟨hcase, he2⟩
    clear hfind
    have E2 := hide (he1.out.trans he2.out)
    rcases hcase with ⟨i, a, hia, hPa, hno, rfl⟩ | ⟨hall, rfl⟩
    · obtain ⟨s, hs, rfl⟩ : ∃ s, td[i]? = some s ∧ s.r.x.id = a := by
        rw [List.getElem?_map] at hia
        obtain ⟨s, h1, h2⟩ := Option.map_eq_some_iff.1 hia
        exact ⟨s, h1, h2⟩
      have hlt : i < td.length := (List.getElem?_eq_some_iff.1 hs).1
      have hmay : Hid (mayMake l (td.map StepC.d) s.d) := (make_iff l td s).2 hPa
      have hnom : Hid (∀ (j : Nat) c, j < i → td[j]? = some c → ¬ mayMake l (td.map StepC.d) c.d) := fun j c hj hc hm => hno j c.r.x.id hj (by rw [List.getElem?_map, hc]; rfl) ((make_iff l td c).1 hm)
      clear hno hPa hia
      have Bk := hide (heap_alloc_new w2 (.cells #[.string s.r.x.id.kind, .string s.r.x.id.name] 31))
      have htake := hide (takeSt B C td i s t (w2.alloc (.cells #[.string s.r.x.id.kind, .string s.r.x.id.name] 31)) (hM.out.todo.ext (E2.out.alloc _)) hs (hM.out.low.ext (E2.out.alloc _)))
      replace hs := hide hs
      go_wp2_with fail
      refine htake.out.mono ?_
      rintro e3 w3 ⟨rfl, hT3, hO3, hW3, hL3, hU3⟩
      clear htake
      have W3 := hide ((Wrote.ext (B := B) (T := fun t => t = 159 ∨ t = 162) (E2.out.alloc (.cells #[.string s.r.x.id.kind, .string s.r.x.id.name] 31))).trans hW3.out)
      have R3 : Hid (w3.ownsRow w.heap.size 38 5 (.slice pa dn.length cap) dn.length (cellsV dn)) := ownsRow_wrote hM.out.row W3.out (by decide) rfl
      have hsz : Hid (w.heap.size ≤ w3.heap.size) := Nat.le_trans hM.out.frame.size W3.out.size
      go_wp2_with (at_builtin; go_must (refine wpList_append_lies _ rfl _ _ 26 rfl w.heap.size 38 i0 (.agg #[.int .i64 0, .string ⟨#[]⟩, .string ⟨#[]⟩, .slice none 0 0, .slice none 0 0]) 5 88 Tryz.underlying26 hi0.out hz0 hz1 hz2 rfl (by omega) _ dn.length (cellsV dn) rfl ((R3.out.alloc _).alloc _) ⟨w3.heap.size + 1, 0, none⟩ 1 1 (cV s) rfl rfl ?_ (cV_one s) (by omega) (by unfold maxLen; omega) (by omega) (by have := hsz.out; simp; omega) (w3.heap.size + 2) (by simp) ?_; (intro r u hu; rw [add_eq]; (match r, hu with | 0, hu => (simp [cV] at hu; subst hu; simp [go_sem]) | 1, hu => (simp [cV] at hu; subst hu; simp [go_sem]) | 2, hu => (simp [cV] at hu; subst hu; simp [go_sem]) | 3, hu => (simp [cV] at hu; subst hu; simp [go_sem]) | 4, hu => (simp [cV] at hu; subst hu; simp [go_sem]) | _ + 5, hu => (simp [cV] at hu))); intro g4 cap4 w4 hown4 hgrow4 hat4 hlt4))
      replace hgrow4 : ((w3.alloc (.cells #[.int .i64 s.op, .string s.r.x.id.kind, .string s.r.x.id.name, .slice s.r.a2 s.r.n2 s.r.p2, .slice s.r.a3 s.r.n3 s.r.p3] 38)).alloc (.cells #[.int .i64 s.op, .string s.r.x.id.kind, .string s.r.x.id.name, .slice s.r.a2 s.r.n2 s.r.p2, .slice s.r.a3 s.r.n3 s.r.p3] 38)).grownBy w4 (Value.slice pa dn.length cap).ownBlock := hgrow4
      go_roundw
      case rel =>
        have hl : (dn ++ [s]).length = dn.length + 1 := by simp
        have W4 : Wrote w.heap.size (· = 38) w3 w4 := ((Wrote.refl w.heap.size (· = 38) w3).alloc _).grownAt (R3.out.alloc _) rfl hgrow4
        refine ⟨dn ++ [s], td.eraseIdx i, some ⟨g4, 0, none⟩, cap4, by rw [hl], ⟨?_, ?_, hT3.out.wrote W4 (by decide), apart_move hs.out hM.out.apart, ord_step hs.out hmay.out hnom.out hM.out.out, ?_, ?_, hL3.out.wrote W4 (by decide), ?_, ?_⟩⟩
        · rw [hl]
          have : cellsV (dn ++ [s]) = cellsV dn ++ cV s := by simp [cellsV]
          rw [this]; exact hown4
        · intro c hc
          rcases List.mem_append.1 hc with hc | hc
          · exact ⟨((hM.out.each c hc).1.put W3.out (by decide) (by decide)).put W4 (by decide) (by decide), (hM.out.each c hc).2⟩
          · obtain rfl : c = s := by simpa using hc
            exact ⟨hO3.out.put W4 (by decide) (by decide), (hM.out.todo.each c (List.mem_of_getElem? hs.out)).2⟩
        · rw [hl, List.length_eraseIdx, if_pos hlt]; omega
        · exact ((hM.out.frame.trans W3.out).then ((Ext.refl w3).alloc _)).grownNew (R3.out.alloc _) hgrow4
        · have hU := hM.out.upper.trans ((Upper.ext (E2.out.alloc (.cells #[.string s.r.x.id.kind, .string s.r.x.id.name] 31))).trans hU3.out)
          exact ⟨Nat.le_trans hU.1 W4.size, fun k h1 h2 => (W4.heap k (Nat.lt_of_lt_of_le h2 hU.1) (.inl h2)).trans (hU.2 k h1 h2)⟩
        · intro c hc
          rcases List.mem_append.1 hc with hc | hc
          · rcases List.mem_append.1 hc with hc | hc
            · exact hM.out.sub c (List.mem_append.2 (.inl hc))
            · obtain rfl : c = s := by simpa using hc
              exact hM.out.sub c (List.mem_append.2 (.inr (List.mem_of_getElem? hs.out)))
          · exact hM.out.sub c (List.mem_append.2 (.inr ((List.eraseIdx_sublist _ _).subset hc)))
      case measure => simp [lenV]; omega
    · have hend : Hid (dn.map StepC.d = ordF (mayMake l) ss.length (ss.map StepC.d)) := ord_end (fun c hc hm => hall c.r.x.id (List.mem_map.2 ⟨c, hc, rfl⟩) ((make_iff l td c).1 hm)) hM.out.out
      clear hall
      go_wp2_with fail
      go_ret
      have E3 := E2.out.alloc (.cells #[.string ⟨#[]⟩, .string ⟨#[]⟩] 31)
      exact ⟨pa, cap, dn, rfl, hend, ownsRow_wrote hM.out.row (Wrote.ext (B := 0) (T := fun _ => False) E3) id rfl, fun s hs => ⟨(hM.out.each s hs).1.ext E3, (hM.out.each s hs).2⟩, List.Pairwise.sublist (List.sublist_append_left _ _) hM.out.apart, hM.out.frame.then E3, hM.out.upper.trans (Upper.ext E3), fun c hc => hM.out.sub c (List.mem_append.2 (.inl hc))⟩

set_option maxRecDepth 100000 in
set_option maxHeartbeats 3200000 in
theorem inOrderD (pm : Nat) (B C t : Nat) (ss : List StepC) (w : World) (hT : TodoAt B w t ss) (hC : TabLow C w t) (hpm : w.heap[pm]? = some (.cells #[.pointer (some ⟨t, 0, none⟩)] 60 (0, 0))) (hn : ss.length ≤ 1000) :
    Calls Tryz.prog 22 #[.pointer (some ⟨t, 0, none⟩), .func (.func 26) #[] #[.pointer (some ⟨pm, 0, none⟩)]] w (InOrdIs B C ss w (ordF (mayDel) ss.length (ss.map StepC.d))) := by
  obtain ⟨i0, hi0, hz0, hz1, hz2⟩ := info_of infoStep
  have hM0 := hide (MidO.start (may := mayDel) hT hC)
  replace hT := hide hT; replace hC := hide hC; replace hi0 := hide hi0; replace hpm := hide hpm
  go_enter Tryz.func22, Tryz.ntmps22
  go_wp2_with fail
  go_loopw [5] (fun ov wr => ∃ (dn td : List StepC) (pa : Option Addr) (cap : Nat), ov = .slice pa dn.length cap ∧ Hid (MidO B C (mayDel) ss w t wr (.slice pa dn.length cap) dn td)) (fun ov _ => ss.length - lenV ov)
  case atStart => exact ⟨[], ss, none, 0, rfl, hM0⟩
  case round =>
    clear hM0
    obtain ⟨dn, td, pa, cap, rfl, hM⟩ := hrel
    have hsum := hM.out.sum
    obtain ⟨vT, hTb⟩ := hM.out.todo.tab
    have hkeys := hide (keysSt B t vT (td.map rowS) wr hTb (by rw [List.length_map]; omega))
    rw [ids_of, List.length_map] at hkeys
    obtain ⟨wo, rfl⟩ : ∃ wo : World, wo = wr := ⟨_, rfl⟩
    replace hTb := hide hTb
    go_wp2_with fail
    refine hkeys.out.mono ?_
    rintro e1 w1 ⟨pa1, cap1, rfl, hK1, he1⟩
    have hK1 : Hid (w1.ownsRow wo.heap.size 31 2 (.slice pa1 td.length cap1) (td.map fun s => s.r.x.id).length (cellsI (td.map fun s => s.r.x.id))) := by
      show World.ownsRow _ _ _ _ _ _ _
      rw [List.length_map]; exact hK1.out
    have hfind := hide (findD _ pa1 _ cap1 (td.map fun s => s.r.x.id) pm B t td w1 hK1.out (hM.out.todo.ext he1.out) (ext_at he1.out (hM.out.frame.keeps hpm.out (by decide))) (by omega))
    clear hkeys
    go_wp2_with fail
    refine hfind.out.mono ?_
    rintro e2 w2 ⟨hcase, he2⟩
    clear hfind
    have E2 := hide (he1.out.trans he2.out)
    rcases hcase with ⟨i, a, hia, hPa, hno, rfl⟩ | ⟨hall, rfl⟩
    · obtain ⟨s, hs, rfl⟩ : ∃ s, td[i]? = some s ∧ s.r.x.id = a := by
        rw [List.getElem?_map] at hia
        obtain ⟨s, h1, h2⟩ := Option.map_eq_some_iff.1 hia
        exact ⟨s, h1, h2⟩
      have hlt : i < td.length := (List.getElem?_eq_some_iff.1 hs).1
      have hmay : Hid (mayDel (td.map StepC.d) s.d) := (del_iff td s).2 hPa
      have hnom : Hid (∀ (j : Nat) c, j < i → td[j]? = some c → ¬ mayDel (td.map StepC.d) c.d) := fun j c hj hc hm => hno j c.r.x.id hj (by rw [List.getElem?_map, hc]; rfl) ((del_iff td c).1 hm)
      clear hno hPa hia
      have Bk := hide (heap_alloc_new w2 (.cells #[.string s.r.x.id.kind, .string s.r.x.id.name] 31))
      have htake := hide (takeSt B C td i s t (w2.alloc (.cells #[.string s.r.x.id.kind, .string s.r.x.id.name] 31)) (hM.out.todo.ext (E2.out.alloc _)) hs (hM.out.low.ext (E2.out.alloc _)))
      replace hs := hide hs
      go_wp2_with fail
      refine htake.out.mono ?_
      rintro e3 w3 ⟨rfl, hT3, hO3, hW3, hL3, hU3⟩
      clear htake
      have W3 := hide ((Wrote.ext (B := B) (T := fun t => t = 159 ∨ t = 162) (E2.out.alloc (.cells #[.string s.r.x.id.kind, .string s.r.x.id.name] 31))).trans hW3.out)
      have R3 : Hid (w3.ownsRow w.heap.size 38 5 (.slice pa dn.length cap) dn.length (cellsV dn)) := ownsRow_wrote hM.out.row W3.out (by decide) rfl
      have hsz : Hid (w.heap.size ≤ w3.heap.size) := Nat.le_trans hM.out.frame.size W3.out.size
      go_wp2_with (at_builtin; go_must (refine wpList_append_lies _ rfl _ _ 26 rfl w.heap.size 38 i0 (.agg #[.int .i64 0, .string ⟨#[]⟩, .string ⟨#[]⟩, .slice none 0 0, .slice none 0 0]) 5 88 Tryz.underlying26 hi0.out hz0 hz1 hz2 rfl (by omega) _ dn.length (cellsV dn) rfl ((R3.out.alloc _).alloc _) ⟨w3.heap.size + 1, 0, none⟩ 1 1 (cV s) rfl rfl ?_ (cV_one s) (by omega) (by unfold maxLen; omega) (by omega) (by have := hsz.out; simp; omega) (w3.heap.size + 2) (by simp) ?_; (intro r u hu; rw [add_eq]; (match r, hu with | 0, hu => (simp [cV] at hu; subst hu; simp [go_sem]) | 1, hu => (simp [cV] at hu; subst hu; simp [go_sem]) | 2, hu => (simp [cV] at hu; subst hu; simp [go_sem]) | 3, hu => (simp [cV] at hu; subst hu; simp [go_sem]) | 4, hu => (simp [cV] at hu; subst hu; simp [go_sem]) | _ + 5, hu => (simp [cV] at hu))); intro g4 cap4 w4 hown4 hgrow4 hat4 hlt4))
      replace hgrow4 : ((w3.alloc (.cells #[.int .i64 s.op, .string s.r.x.id.kind, .string s.r.x.id.name, .slice s.r.a2 s.r.n2 s.r.p2, .slice s.r.a3 s.r.n3 s.r.p3] 38)).alloc (.cells #[.int .i64 s.op, .string s.r.x.id.kind, .string s.r.x.id.name, .slice s.r.a2 s.r.n2 s.r.p2, .slice s.r.a3 s.r.n3 s.r.p3] 38)).grownBy w4 (Value.slice pa dn.length cap).ownBlock := hgrow4
      go_roundw
      case rel =>
        have hl : (dn ++ [s]).length = dn.length + 1 := by simp
        have W4 : Wrote w.heap.size (· = 38) w3 w4 := ((Wrote.refl w.heap.size (· = 38) w3).alloc _).grownAt (R3.out.alloc _) rfl hgrow4
        refine ⟨dn ++ [s], td.eraseIdx i, some ⟨g4, 0, none⟩, cap4, by rw [hl], ⟨?_, ?_, hT3.out.wrote W4 (by decide), apart_move hs.out hM.out.apart, ord_step hs.out hmay.out hnom.out hM.out.out, ?_, ?_, hL3.out.wrote W4 (by decide), ?_, ?_⟩⟩
        · rw [hl]
          have : cellsV (dn ++ [s]) = cellsV dn ++ cV s := by simp [cellsV]
          rw [this]; exact hown4
        · intro c hc
          rcases List.mem_append.1 hc with hc | hc
          · exact ⟨((hM.out.each c hc).1.put W3.out (by decide) (by decide)).put W4 (by decide) (by decide), (hM.out.each c hc).2⟩
          · obtain rfl : c = s := by simpa using hc
            exact ⟨hO3.out.put W4 (by decide) (by decide), (hM.out.todo.each c (List.mem_of_getElem? hs.out)).2⟩
        · rw [hl, List.length_eraseIdx, if_pos hlt]; omega
        · exact ((hM.out.frame.trans W3.out).then ((Ext.refl w3).alloc _)).grownNew (R3.out.alloc _) hgrow4
        · have hU := hM.out.upper.trans ((Upper.ext (E2.out.alloc (.cells #[.string s.r.x.id.kind, .string s.r.x.id.name] 31))).trans hU3.out)
          exact ⟨Nat.le_trans hU.1 W4.size, fun k h1 h2 => (W4.heap k (Nat.lt_of_lt_of_le h2 hU.1) (.inl h2)).trans (hU.2 k h1 h2)⟩
        · intro c hc
          rcases List.mem_append.1 hc with hc | hc
          · rcases List.mem_append.1 hc with hc | hc
            · exact hM.out.sub c (List.mem_append.2 (.inl hc))
            · obtain rfl : c = s := by simpa using hc
              exact hM.out.sub c (List.mem_append.2 (.inr (List.mem_of_getElem? hs.out)))
          · exact hM.out.sub c (List.mem_append.2 (.inr ((List.eraseIdx_sublist _ _).subset hc)))
      case measure => simp [lenV]; omega
    · have hend : Hid (dn.map StepC.d = ordF (mayDel) ss.length (ss.map StepC.d)) := ord_end (fun c hc hm => hall c.r.x.id (List.mem_map.2 ⟨c, hc, rfl⟩) ((del_iff td c).1 hm)) hM.out.out
      clear hall
      go_wp2_with fail
      go_ret
      have E3 := E2.out.alloc (.cells #[.string ⟨#[]⟩, .string ⟨#[]⟩] 31)
      exact ⟨pa, cap, dn, rfl, hend, ownsRow_wrote hM.out.row (Wrote.ext (B := 0) (T := fun _ => False) E3) id rfl, fun s hs => ⟨(hM.out.each s hs).1.ext E3, (hM.out.each s hs).2⟩, List.Pairwise.sublist (List.sublist_append_left _ _) hM.out.apart, hM.out.frame.then E3, hM.out.upper.trans (Upper.ext E3), fun c hc => hM.out.sub c (List.mem_append.2 (.inl hc))⟩
end Go.Proofs.YtfoelahabalbpaaGreatDoor
