/-
  Is an ID needed by one of the steps that are to come?
-/
import Derived.Test.YtodhhjlemmmjcaaGreatRngSt
import Derived.Test.YtodhhjlemmmjcaaGreatRfSm
import Derived.BigQuiet
namespace Go.Proofs.YtodhhjlemmmjcaaGreat
open Go.RowKit

theorem id_eq {a b : IDd} (h1 : a.kind = b.kind) (h2 : a.name = b.name) : a = b := by cases a; cases b; simp only at h1 h2; rw [h1, h2]
theorem mem_step {α : Type} {l : List α} {k : Nat} {x a : α} (hx : l[k]? = some x) (hne : ¬ a = x) (h : a ∉ l.take k) : a ∉ l.take (k + 1) := by
  rw [List.take_add_one, hx]
  simp
  exact ⟨h, hne⟩
/-- The cells of a row of our own, element by element. -/
theorem own_cells {α : Type} {c : α → List Value} {m : Nat} (hc : ∀ x, (c x).length = m) {B : Nat} {w : World} {e : TypeId} {pa : Option Addr} {n cap : Nat} {l : List α} (h : w.ownsRow B e m (.slice pa n cap) l.length (l.flatMap c)) : n = l.length ∧ n ≤ cap ∧ cap ≤ 9223372036854775807 ∧ (l = [] ∨ ∃ g, pa = some ⟨g, 0, none⟩ ∧ ∀ (i : Nat) x, l[i]? = some x → ∀ r u, (c x)[r]? = some u → w.cell? ⟨g, i * m + r, none⟩ = some u) := by
  rcases h.2 with ⟨h1, h2⟩ | ⟨g, cap', cur, h1, _, hg, hcc, hm, hs, ht⟩
  · cases h1
    exact ⟨h2.symm, Nat.le_refl _, by omega, .inl (List.eq_nil_of_length_eq_zero h2)⟩
  · cases h1
    unfold maxLen at hm
    refine ⟨rfl, hcc, by omega, .inr ⟨g, rfl, fun i x hx r u hu => ?_⟩⟩
    have hlt : i < l.length := (List.getElem?_eq_some_iff.1 hx).1
    have hr : r < m := by have := (List.getElem?_eq_some_iff.1 hu).1; rw [hc] at this; exact this
    have h1 : (l.flatMap c)[i * m + r]? = (c x)[r]? := flat_get hc hx hr
    have hb : i * m + r < l.length * m := by
      have : (i + 1) * m ≤ l.length * m := Nat.mul_le_mul_right _ hlt
      rw [Nat.succ_mul] at this
      omega
    rw [← hu, ← h1, ← ht, List.getElem?_take, if_pos hb]
    simp [World.cell?, hg]
theorem cV_len (s : StepC) : (cV s).length = 5 := rfl

set_option maxRecDepth 100000 in
set_option maxHeartbeats 1600000 in
theorem indexID (v : Value) (l : List IDd) (a : IDd) (w : World) (hv : IDsV w v l) :
    Calls Tryz.prog 93 #[v, .agg #[.string a.kind, .string a.name]] w fun e w' => ∃ z : Int, e = .returned (.int .i64 z) ∧ Hid (decide (0 ≤ z) = true ↔ a ∈ l) ∧ Hid (Ext w w') := by
  obtain ⟨pa, cap, rfl, c1, c2, hin⟩ := hv.shape
  have hfew := hv.few
  replace hv := hide hv; replace hin := hide hin
  go_enter Tryz.func93, Tryz.ntmps93
  go_wp2_with fail
  go_loopw [8] (fun kv wr => ∃ k : Nat, k ≤ l.length ∧ kv = .int .i64 k ∧ Hid (a ∉ l.take k) ∧ Hid (Ext (w.alloc (.cells #[.string a.kind, .string a.name] 52)) wr)) (fun kv _ => l.length - (intOf kv).toNat)
  case atStart => exact ⟨0, Nat.zero_le _, rfl, by simp [Hid], Ext.refl _⟩
  case round =>
    obtain ⟨k, hk, rfl, hno, hxr⟩ := hrel
    have X := hide (((Ext.refl w).alloc (.cells #[.string a.kind, .string a.name] 52)).trans hxr.out)
    have bb := ext_at hxr.out (heap_alloc_new w _)
    have q0 := tabSt_c0 bb
    have q1 := tabSt_c1 bb
    replace bb := hide bb
    by_cases hlt : k < l.length
    · obtain ⟨x, hx⟩ := some_of_lt hlt
      rcases hin.out with hh | ⟨bx, ox, rfl, hxi⟩
      · rw [hh] at hlt; simp at hlt
      obtain ⟨p0, p1⟩ := hxi k x hx
      replace p0 := X.out.cells p0; replace p1 := X.out.cells p1
      have k2 : (k : Int) < (l.length : Int) := by omega
      have k4 : (0 : Int) ≤ (k : Int) := by omega
      replace hx := hide hx; replace hxi := hide hxi
      by_cases h0 : a.kind = x.kind
      · by_cases h1 : a.name = x.name
        · have m0 : a.kind.toList = x.kind.toList := by rw [h0]
          have m1 : a.name.toList = x.name.toList := by rw [h1]
          have hmem : Hid (a ∈ l) := by show a ∈ l; rw [id_eq h0 h1]; exact List.mem_of_getElem? hx.out
          replace h0 := hide h0; replace h1 := hide h1
          go_wp2_with fail
          go_quiet (fail)
          go_wp2_with fail
          go_ret
          exact ⟨k, rfl, by show _ ↔ _; simp [hmem.out], X.out.drewN _⟩
        · have m0 : a.kind.toList = x.kind.toList := by rw [h0]
          have n1 : ¬ a.name.toList = x.name.toList := fun h => h1 (ba_inj h)
          have n2 : (a.name.toList == x.name.toList) = false := by simpa using n1
          have hne : Hid (¬ a = x) := fun h => h1 (by rw [h])
          replace h0 := hide h0; replace h1 := hide h1
          go_wp2_with fail
          go_quiet (fail)
          go_wp2_with fail
          go_roundw
          case rel => exact ⟨k + 1, by omega, by go_num, mem_step hx.out hne.out hno.out, hxr.out.drewN _⟩
          case measure => simp [intOf]; omega
      · have n1 : ¬ a.kind.toList = x.kind.toList := fun h => h0 (ba_inj h)
        have n2 : (a.kind.toList == x.kind.toList) = false := by simpa using n1
        have hne : Hid (¬ a = x) := fun h => h0 (by rw [h])
        replace h0 := hide h0
        go_wp2_with fail
        go_quiet (fail)
        go_wp2_with fail
        go_roundw
        case rel => exact ⟨k + 1, by omega, by go_num, mem_step hx.out hne.out hno.out, hxr.out.drewN _⟩
        case measure => simp [intOf]; omega
    · obtain rfl : k = l.length := by omega
      have hno' : Hid (a ∉ l) := fun h => hno.out (by rw [List.take_length]; exact h)
      go_wp2_with fail
      go_ret
      exact ⟨-1, rfl, by show _ ↔ _; simp [hno'.out], X⟩

set_option maxRecDepth 100000 in
set_option maxHeartbeats 800000 in
theorem containsID (v : Value) (l : List IDd) (a : IDd) (w : World) (hv : IDsV w v l) :
    Calls Tryz.prog 61 #[v, .agg #[.string a.kind, .string a.name]] w fun e w' => ∃ b : Bool, e = .returned (.bool b) ∧ Hid (b = true ↔ a ∈ l) ∧ Hid (Ext w w') := by
  have hf := hide (indexID v l a _ (hv.ext ((Ext.refl w).alloc (.cells #[.string a.kind, .string a.name] 52))))
  replace hv := hide hv
  go_enter Tryz.func61, Tryz.ntmps61
  go_wp2_with fail
  refine hf.out.mono ?_
  rintro e1 w1 ⟨z, rfl, hz, he1⟩
  go_wp2_with fail
  go_ret
  exact ⟨_, rfl, hz, ((Ext.refl w).alloc _).trans he1.out⟩

set_option maxRecDepth 100000 in
set_option maxHeartbeats 800000 in
theorem needOne (s : StepC) (a : IDd) (p : Nat) (w : World) (hs : s.r.In w) (h0 : w.cell? ⟨p, 0, none⟩ = some (.string a.kind)) (h1 : w.cell? ⟨p, 1, none⟩ = some (.string a.name)) :
    Calls Tryz.prog 60 #[.agg #[.int .i64 s.op, .string s.r.x.id.kind, .string s.r.x.id.name, .slice s.r.a2 s.r.n2 s.r.p2, .slice s.r.a3 s.r.n3 s.r.p3], .pointer (some ⟨p, 0, none⟩)] w fun e w' => ∃ b : Bool, e = .returned (.bool b) ∧ Hid (b = true ↔ a ∈ s.r.x.after) ∧ Hid (Ext w w') := by
  have E0 := hide ((Ext.refl w).alloc (.cells #[.int .i64 s.op, .string s.r.x.id.kind, .string s.r.x.id.name, .slice s.r.a2 s.r.n2 s.r.p2, .slice s.r.a3 s.r.n3 s.r.p3] 60))
  have Bx := heap_alloc_new w (.cells #[.int .i64 s.op, .string s.r.x.id.kind, .string s.r.x.id.name, .slice s.r.a2 s.r.n2 s.r.p2, .slice s.r.a3 s.r.n3 s.r.p3] 60)
  have b4 := (five_at Bx).2.2.2.2
  replace h0 := E0.out.cells h0; replace h1 := E0.out.cells h1
  replace Bx := hide Bx; replace hs := hide hs
  go_enter Tryz.func60, Tryz.ntmps60
  go_wp2_with fail
  refine (containsID (.slice s.r.a3 s.r.n3 s.r.p3) s.r.x.after a _ (ResV.after (hs.out.ext E0.out))).mono ?_
  rintro e1 w1 ⟨b, rfl, hb, he1⟩
  go_wp2_with fail
  go_ret
  exact ⟨b, rfl, hb, E0.out.trans he1.out⟩

set_option maxRecDepth 100000 in
set_option maxHeartbeats 1600000 in
theorem indexNeed (B : Nat) (pa : Option Addr) (n cap : Nat) (ss : List StepC) (a : IDd) (p : Nat) (w : World) (hr : w.ownsRow B 60 5 (.slice pa n cap) ss.length (cellsV ss)) (he : ∀ s ∈ ss, s.r.In w) (h0 : w.cell? ⟨p, 0, none⟩ = some (.string a.kind)) (h1 : w.cell? ⟨p, 1, none⟩ = some (.string a.name)) :
    Calls Tryz.prog 92 #[.slice pa n cap, .func (.func 60) #[] #[.pointer (some ⟨p, 0, none⟩)]] w fun e w' => ∃ z : Int, e = .returned (.int .i64 z) ∧ Hid (decide (0 ≤ z) = true ↔ ∃ s ∈ ss, a ∈ s.r.x.after) ∧ Hid (Ext w w') := by
  obtain ⟨rfl, c1, c2, hin⟩ := own_cells cV_len hr
  replace hr := hide hr; replace hin := hide hin; replace he := hide he; replace h0 := hide h0; replace h1 := hide h1
  go_enter Tryz.func92, Tryz.ntmps92
  go_wp2_with fail
  go_loopw [8] (fun kv wr => ∃ k : Nat, k ≤ ss.length ∧ kv = .int .i64 k ∧ Hid (∀ s ∈ ss.take k, a ∉ s.r.x.after) ∧ Hid (Ext w wr)) (fun kv _ => ss.length - (intOf kv).toNat)
  case atStart => exact ⟨0, Nat.zero_le _, rfl, fun s hs => by simp at hs, Ext.refl _⟩
  case round =>
    obtain ⟨k, hk, rfl, hno, hxr⟩ := hrel
    by_cases hlt : k < ss.length
    · obtain ⟨s, hs⟩ := some_of_lt hlt
      rcases hin.out with hh | ⟨g, rfl, hI⟩
      · rw [hh] at hlt; simp at hlt
      replace hI := hI k s hs
      have k0 := hxr.out.cells (hI 0 _ rfl); have k1 := hxr.out.cells (hI 1 _ rfl); have k2 := hxr.out.cells (hI 2 _ rfl); have k3 := hxr.out.cells (hI 3 _ rfl); have k4 := hxr.out.cells (hI 4 _ rfl)
      rw [Nat.add_zero] at k0
      have i2 : (k : Int) < (ss.length : Int) := by omega
      have i4 : (0 : Int) ≤ (k : Int) := by omega
      have hone := hide (needOne s a p wr ((he.out s (List.mem_of_getElem? hs)).ext hxr.out) (hxr.out.cells h0.out) (hxr.out.cells h1.out))
      replace hs := hide hs; replace hI := hide hI
      go_wp2_with fail
      refine hone.out.mono ?_
      rintro e1 w1 ⟨b, rfl, hb, he1⟩
      cases b with
      | true =>
        have hmem : Hid (∃ s ∈ ss, a ∈ s.r.x.after) := ⟨s, List.mem_of_getElem? hs.out, hb.out.1 rfl⟩
        go_wp2_with fail
        go_ret
        exact ⟨k, rfl, ⟨fun _ => hmem.out, fun _ => by simp⟩, hxr.out.trans he1.out⟩
      | false =>
        have hne : Hid (a ∉ s.r.x.after) := fun h => by have := hb.out.2 h; cases this
        go_wp2_with fail
        go_roundw
        case rel =>
          refine ⟨k + 1, by omega, by go_num, fun s' hs' => ?_, hxr.out.trans he1.out⟩
          rw [List.take_add_one, hs.out] at hs'
          rcases List.mem_append.1 hs' with h | h
          · exact hno.out s' h
          · obtain rfl : s' = s := by simpa using h
            exact hne.out
        case measure => simp [intOf]; omega
    · obtain rfl : k = ss.length := by omega
      have hno' : Hid (¬ ∃ s ∈ ss, a ∈ s.r.x.after) := by
        rintro ⟨s, hs, h⟩
        exact hno.out s (by rw [List.take_length]; exact hs) h
      go_wp2_with fail
      go_ret
      exact ⟨-1, rfl, ⟨fun h => by simp at h, fun h => absurd h hno'.out⟩, hxr⟩

set_option maxRecDepth 100000 in
set_option maxHeartbeats 800000 in
theorem containsNeed (B : Nat) (pa : Option Addr) (n cap : Nat) (ss : List StepC) (a : IDd) (p : Nat) (w : World) (hr : w.ownsRow B 60 5 (.slice pa n cap) ss.length (cellsV ss)) (he : ∀ s ∈ ss, s.r.In w) (h0 : w.cell? ⟨p, 0, none⟩ = some (.string a.kind)) (h1 : w.cell? ⟨p, 1, none⟩ = some (.string a.name)) :
    Calls Tryz.prog 58 #[.slice pa n cap, .func (.func 60) #[] #[.pointer (some ⟨p, 0, none⟩)]] w fun e w' => ∃ b : Bool, e = .returned (.bool b) ∧ Hid (b = true ↔ ∃ s ∈ ss, a ∈ s.r.x.after) ∧ Hid (Ext w w') := by
  have hf := hide (indexNeed B pa n cap ss a p w hr he h0 h1)
  clear hr he h0 h1
  go_enter Tryz.func58, Tryz.ntmps58
  go_wp2_with fail
  refine hf.out.mono ?_
  rintro e1 w1 ⟨z, rfl, hz, he1⟩
  go_wp2_with fail
  go_ret
  exact ⟨_, rfl, hz, he1⟩

set_option maxRecDepth 100000 in
set_option maxHeartbeats 800000 in
theorem isNeeded (B : Nat) (ss : List StepC) (a : IDd) (t : Nat) (w : World) (hT : TodoAt B w t ss) (hn : ss.length ≤ 1000) :
    Calls Tryz.prog 25 #[.pointer (some ⟨t, 0, none⟩), .agg #[.string a.kind, .string a.name]] w fun e w' => ∃ b : Bool, e = .returned (.bool b) ∧ Hid (b = true ↔ ∃ s ∈ ss, a ∈ s.r.x.after) ∧ Hid (Ext w w') := by
  obtain ⟨v, hTb⟩ := hT.tab
  have E0 := hide ((Ext.refl w).alloc (.cells #[.string a.kind, .string a.name] 52))
  have Bx := hide (heap_alloc_new w (.cells #[.string a.kind, .string a.name] 52))
  have hval := hide (valuesSt B t v (ss.map rowS) _ (hTb.ext E0.out) (by rw [List.length_map]; exact hn))
  have hvs : valsSt (ss.map rowS) = ss := by simp [valsSt, rowS, Function.comp_def]
  rw [hvs, List.length_map] at hval
  replace hT := hide hT; replace hTb := hide hTb
  clear hvs
  go_enter Tryz.func25, Tryz.ntmps25
  go_wp2_with fail
  refine hval.out.mono ?_
  rintro e1 w1 ⟨pa, cap, rfl, hO, he1⟩
  have B1 := ext_at he1.out Bx.out
  go_wp2_with fail
  refine (containsNeed _ pa ss.length cap ss a w.heap.size w1 hO.out (fun s hs => OwnR.resV ((hT.out.each s hs).1.ext (E0.out.trans he1.out)) (hT.out.each s hs).2) (tabSt_c0 B1) (tabSt_c1 B1)).mono ?_
  rintro e2 w2 ⟨b, rfl, hb, he2⟩
  go_wp2_with fail
  go_ret
  exact ⟨b, rfl, hb, E0.out.trans (he1.out.trans he2.out)⟩
end Go.Proofs.YtodhhjlemmmjcaaGreat
