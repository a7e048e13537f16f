/-
  Resources without one, and whether one is there.
-/
import Derived.Test.YtfoelahabalbpaaGreatDoorTam4
namespace Go.Proofs.YtfoelahabalbpaaGreatDoor
open Go.RowKit

attribute [local go_sem] Go.World.cell?_alloc_some
theorem without_eq {x : Resd} {a : IDd} (h : x.id = a) (l : List Resd) : withoutS (x :: l) a = withoutS l a := by
  unfold withoutS
  rw [List.filter_cons_of_neg (by simp [h])]
theorem without_ne {x : Resd} {a : IDd} (h : ¬ x.id = a) (l : List Resd) : withoutS (x :: l) a = x :: withoutS l a := by
  unfold withoutS
  rw [List.filter_cons_of_pos (by simp [h])]
theorem without_le (l : List Resd) (a : IDd) : (withoutS l a).length ≤ l.length := List.length_filter_le ..
theorem has_iff (l : List Resd) (a : IDd) : HasR l a ↔ (withoutS l a).length < l.length := by
  induction l with
  | nil => constructor
           · rintro ⟨x, hx, _⟩; cases hx
           · intro h; simp [withoutS] at h
  | cons x l ih =>
    by_cases h : x.id = a
    · rw [without_eq h]
      have := without_le l a
      exact ⟨fun _ => by simp; omega, fun _ => ⟨x, List.mem_cons_self, h⟩⟩
    · rw [without_ne h, List.length_cons, List.length_cons, Nat.add_lt_add_iff_right, ← ih]
      constructor
      · rintro ⟨y, hy, e⟩
        rcases List.mem_cons.1 hy with rfl | hy
        · exact absurd e h
        · exact ⟨y, hy, e⟩
      · rintro ⟨y, hy, e⟩
        exact ⟨y, List.mem_cons_of_mem _ hy, e⟩

set_option maxRecDepth 100000 in
set_option maxHeartbeats 6400000 in
theorem withoutP (P : ResC → Prop) (v : Value) (l : List Resd) (a : IDd) (w : World) (hv : RessV w v l) (hl : l.length ≤ 500)
    (hPv : ∀ (bx ox n cap k : Nat) (q : ResC), v = .slice (some ⟨bx, ox, none⟩) n cap → l[k]? = some q.x → w.cell? ⟨bx, ox + k * 4 + 2, none⟩ = some q.c2 → w.cell? ⟨bx, ox + k * 4 + 3, none⟩ = some q.c3 → P q) :
    Calls Tryz.prog 29 #[v, .agg #[.string a.kind, .string a.name]] w (PutR w P (withoutS l a)) := by
  obtain ⟨pa, cap, rfl, c1, c2, hin⟩ := hv.shape
  obtain ⟨i0, hi0, hz0, hz1, hz2⟩ := info_of infoRes
  have Bx0 := hide (heap_alloc_new w (.cells #[.string a.kind, .string a.name] 31))
  have X0 := hide ((Ext.refl w).alloc (.cells #[.string a.kind, .string a.name] 31))
  replace hPv := hide hPv; replace hv := hide hv; replace hin := hide hin; replace hi0 := hide hi0
  go_enter Tryz.func29, Tryz.ntmps29
  go_wp2_with fail
  go_loopw [5, 6] (fun ov kv wr => ∃ (qs : List ResC) (po : Option Addr) (co k : Nat), ov = .slice po qs.length co ∧ kv = .int .i64 k ∧ k ≤ l.length ∧ qs.length ≤ k ∧ Hid (qs.map ResC.x ++ withoutS (l.drop k) a = withoutS l a) ∧ Hid (∀ q ∈ qs, q.In w ∧ P q) ∧ Hid (wr.ownsRow (w.heap.size + 1) 35 4 (.slice po qs.length co) qs.length (cellsQ qs)) ∧ Hid (wr.heap[w.heap.size]? = some (.cells #[.string a.kind, .string a.name] 31 (0, 0))) ∧ Hid (Ext w wr)) (fun _ kv _ => l.length - (intOf kv).toNat)
  case atStart => exact ⟨[], none, 0, 0, rfl, rfl, Nat.zero_le _, by simp, by simp [Hid], fun x hx => (by cases hx), World.ownsRow_nil _ _ _ _, Bx0, X0⟩
  case round =>
    obtain ⟨qs, po, co, k, rfl, rfl, hk, hqk, hgo, hok, hrow, hbx, hX⟩ := hrel
    by_cases hlt : k < l.length
    · obtain ⟨x, hx⟩ := some_of_lt hlt
      rcases hin.out with hh | ⟨bx, ox, rfl, hxi⟩
      · rw [hh] at hlt; simp at hlt
      obtain ⟨p0, p1, d2, d3, p2, p3, hR⟩ := hxi k x hx
      obtain ⟨e2, f2, rfl⟩ := hR.attrs.form
      obtain ⟨e3, f3, rfl⟩ := hR.after.form
      have PP := hide (And.intro p0 (And.intro p1 (And.intro p2 p3)))
      replace p0 := hX.out.cells p0; replace p1 := hX.out.cells p1
      clear p2 p3
      obtain ⟨q0, q1⟩ := twoAt hbx.out
      have k2 : (k : Int) < (l.length : Int) := by omega
      have k4 : (0 : Int) ≤ (k : Int) := by omega
      have hdrop : l.drop k = x :: l.drop (k + 1) := by
        obtain ⟨h1, h2⟩ := List.getElem?_eq_some_iff.1 hx
        rw [← h2]; exact List.drop_eq_getElem_cons h1
      rw [hdrop] at hgo
      obtain ⟨qx, hqx⟩ : ∃ qx : ResC, qx = ⟨x, e2, x.attrs.length, f2, e3, x.after.length, f3⟩ := ⟨_, rfl⟩
      have hqi : Hid (qx.In w ∧ P qx) := by rw [hqx]; exact ⟨hR, hPv.out _ _ _ _ k _ rfl hx PP.out.2.2.1 PP.out.2.2.2⟩
      replace hx := hide hx; replace hxi := hide hxi; replace hdrop := hide hdrop; replace hR := hide hR
      by_cases h0 : x.id.kind = a.kind
      · by_cases h1 : x.id.name = a.name
        · have m0 : x.id.kind.toList = a.kind.toList := by rw [h0]
          have m1 : x.id.name.toList = a.name.toList := by rw [h1]
          have hse : Hid (x.id = a) := idEq h0 h1
          replace h0 := hide h0; replace h1 := hide h1
          go_wp2_with fail
          go_quiet (fail)
          go_wp2_with fail
          go_roundw
          case rel =>
            refine ⟨qs, po, co, k + 1, rfl, by go_num, by omega, by omega, ?_, hok, ownsRow_wrote hrow.out (Wrote.ext (B := 0) (T := fun _ => False) ((Ext.refl wr).drewN _)) id rfl, hbx.out, hX.out.drewN _⟩
            show _ = _
            rw [← hgo.out, without_eq hse.out]
          case measure => simp [intOf]; omega
        · have m0 : x.id.kind.toList = a.kind.toList := by rw [h0]
          have n1 : ¬ x.id.name.toList = a.name.toList := fun h => h1 (ba_inj h)
          have n2 : (x.id.name.toList == a.name.toList) = false := by simpa using n1
          have hne : Hid (¬ x.id = a) := fun h => h1 (by rw [h])
          replace h0 := hide h0; replace h1 := hide h1
          go_wp2_with fail
          go_quiet (fail)
          have R3q := hide (ownsRow_wrote hrow.out (Wrote.ext (B := 0) (T := fun _ => False) ((Ext.refl wr).drewN nq)) id rfl)
          have B3q : Hid ((wr.drewN nq).heap[w.heap.size]? = _) := hbx.out
          have X3q := hide (hX.out.drewN nq)
          generalize hwq : wr.drewN nq = wq at *
          have u2 := X3q.out.cells PP.out.1; have u3 := X3q.out.cells PP.out.2.1; have u4 := X3q.out.cells PP.out.2.2.1; have u5 := X3q.out.cells PP.out.2.2.2
          have hsq : Hid (w.heap.size + 1 ≤ wq.heap.size) := (Array.getElem?_eq_some_iff.1 B3q.out).1
          replace hwq := hide hwq
          clear p0 p1 q0 q1
          go_wp2_with (at_builtin; go_loud (refine wpList_append_lies _ rfl (.tmp 20) (.tmp 25) 24 rfl (w.heap.size + 1) 35 i0 (.agg #[.string ⟨#[]⟩, .string ⟨#[]⟩, .slice none 0 0, .slice none 0 0]) 4 80 Tryz.underlying24 hi0.out hz0 hz1 hz2 rfl (by omega) _ qs.length (cellsQ qs) rfl (R3q.out.alloc _) ⟨wq.heap.size, 0, none⟩ 1 1 (cQ ⟨x, e2, x.attrs.length, f2, e3, x.after.length, f3⟩) rfl rfl ?_ (cQ_one _) (by omega) (by unfold maxLen; omega) (by omega) (by have := hsq.out; simp; omega) (wq.heap.size + 1) (by simp) ?_; (intro j u hu; rw [add_eq]; (match j, hu with | 0, hu => (simp [cQ] at hu; subst hu; simp [go_sem]) | 1, hu => (simp [cQ] at hu; subst hu; simp [go_sem]) | 2, hu => (simp [cQ] at hu; subst hu; simp [go_sem]) | 3, hu => (simp [cQ] at hu; subst hu; simp [go_sem]) | _ + 4, hu => (simp [cQ] at hu))); intro g5 c5 w5 hown5 hgrow5 hat_w5 hlt_w5))
          have WW : Wrote (w.heap.size + 1) (· = 35) wq w5 := (Wrote.refl (w.heap.size + 1) _ wq).grownAt R3q.out rfl hgrow5
          have BB := hide ((grown_kept hgrow5).heap B3q.out (notOwn R3q.out))
          go_roundw
          case rel =>
            have hl5 : (qs ++ [qx]).length = qs.length + 1 := by simp
            refine ⟨qs ++ [qx], some ⟨g5, 0, none⟩, c5, k + 1, by rw [hl5], by go_num, by omega, by rw [hl5]; omega, ?_, ?_, ?_, BB, X3q.out.wrote WW (Nat.le_succ _)⟩
            · show _ = _
              rw [← hgo.out, without_ne hne.out, hqx]; simp
            · intro z hz
              simp only [List.mem_append, List.mem_singleton] at hz
              rcases hz with hz | rfl
              · exact hok.out z hz
              · exact hqi.out
            · show World.ownsRow _ _ _ _ _ _ _
              rw [hl5, cellsQ_app]; exact (hqx ▸ hown5)
          case measure => simp [intOf]; omega
      · have n1 : ¬ x.id.kind.toList = a.kind.toList := fun h => h0 (ba_inj h)
        have n2 : (x.id.kind.toList == a.kind.toList) = false := by simpa using n1
        have hne : Hid (¬ x.id = a) := fun h => h0 (by rw [h])
        replace h0 := hide h0
        go_wp2_with fail
        go_quiet (fail)
        have R3q := hide (ownsRow_wrote hrow.out (Wrote.ext (B := 0) (T := fun _ => False) ((Ext.refl wr).drewN nq)) id rfl)
        have B3q : Hid ((wr.drewN nq).heap[w.heap.size]? = _) := hbx.out
        have X3q := hide (hX.out.drewN nq)
        generalize hwq : wr.drewN nq = wq at *
        have u2 := X3q.out.cells PP.out.1; have u3 := X3q.out.cells PP.out.2.1; have u4 := X3q.out.cells PP.out.2.2.1; have u5 := X3q.out.cells PP.out.2.2.2
        have hsq : Hid (w.heap.size + 1 ≤ wq.heap.size) := (Array.getElem?_eq_some_iff.1 B3q.out).1
        replace hwq := hide hwq
        clear p0 p1 q0 q1
        go_wp2_with (at_builtin; go_loud (refine wpList_append_lies _ rfl (.tmp 20) (.tmp 25) 24 rfl (w.heap.size + 1) 35 i0 (.agg #[.string ⟨#[]⟩, .string ⟨#[]⟩, .slice none 0 0, .slice none 0 0]) 4 80 Tryz.underlying24 hi0.out hz0 hz1 hz2 rfl (by omega) _ qs.length (cellsQ qs) rfl (R3q.out.alloc _) ⟨wq.heap.size, 0, none⟩ 1 1 (cQ ⟨x, e2, x.attrs.length, f2, e3, x.after.length, f3⟩) rfl rfl ?_ (cQ_one _) (by omega) (by unfold maxLen; omega) (by omega) (by have := hsq.out; simp; omega) (wq.heap.size + 1) (by simp) ?_; (intro j u hu; rw [add_eq]; (match j, hu with | 0, hu => (simp [cQ] at hu; subst hu; simp [go_sem]) | 1, hu => (simp [cQ] at hu; subst hu; simp [go_sem]) | 2, hu => (simp [cQ] at hu; subst hu; simp [go_sem]) | 3, hu => (simp [cQ] at hu; subst hu; simp [go_sem]) | _ + 4, hu => (simp [cQ] at hu))); intro g5 c5 w5 hown5 hgrow5 hat_w5 hlt_w5))
        have WW : Wrote (w.heap.size + 1) (· = 35) wq w5 := (Wrote.refl (w.heap.size + 1) _ wq).grownAt R3q.out rfl hgrow5
        have BB := hide ((grown_kept hgrow5).heap B3q.out (notOwn R3q.out))
        go_roundw
        case rel =>
          have hl5 : (qs ++ [qx]).length = qs.length + 1 := by simp
          refine ⟨qs ++ [qx], some ⟨g5, 0, none⟩, c5, k + 1, by rw [hl5], by go_num, by omega, by rw [hl5]; omega, ?_, ?_, ?_, BB, X3q.out.wrote WW (Nat.le_succ _)⟩
          · show _ = _
            rw [← hgo.out, without_ne hne.out, hqx]; simp
          · intro z hz
            simp only [List.mem_append, List.mem_singleton] at hz
            rcases hz with hz | rfl
            · exact hok.out z hz
            · exact hqi.out
          · show World.ownsRow _ _ _ _ _ _ _
            rw [hl5, cellsQ_app]; exact (hqx ▸ hown5)
        case measure => simp [intOf]; omega
    · obtain rfl : k = l.length := by omega
      have hc : Hid (qs.map ResC.x = withoutS l a) := by
        show _ = _
        have := hgo.out
        rw [List.drop_length] at this
        simpa [withoutS] using this
      go_wp2_with fail
      go_ret
      exact ⟨qs, po, co, rfl, hc, hok, hrow, by omega, hX⟩

theorem withoutL (v : Value) (l : List Resd) (a : IDd) (w : World) (hv : RessV w v l) (hl : l.length ≤ 500) :
    Calls Tryz.prog 29 #[v, .agg #[.string a.kind, .string a.name]] w fun e w' => ∃ pa cap, e = .returned (.slice pa (withoutS l a).length cap) ∧ Hid (RessV w' (.slice pa (withoutS l a).length cap) (withoutS l a)) ∧ Hid (Ext w w') := by
  refine (withoutP (fun _ => True) v l a w hv hl (fun _ _ _ _ _ _ _ _ _ _ => trivial)).mono ?_
  rintro e w' ⟨qs, pa, cap, rfl, hc, hin, hrow, hn, hX⟩
  have hq := ressV_own hrow.out (by omega) (fun q hq => (hin.out q hq).1.ext hX.out)
  refine ⟨pa, cap, by rw [← hc.out, List.length_map], ?_, hX⟩
  rw [← hc.out, List.length_map]; exact hq
theorem withoutQ (v : Value) (qs : List ResC) (a : IDd) (w : World) (B : Nat) (hrow : w.ownsRow B 35 4 v qs.length (cellsQ qs)) (hin : ∀ q ∈ qs, q.In w) (hl : qs.length ≤ 500) :
    Calls Tryz.prog 29 #[v, .agg #[.string a.kind, .string a.name]] w (PutR w (fun q => q ∈ qs) (withoutS (qs.map ResC.x) a)) := by
  refine withoutP (fun q => q ∈ qs) v _ a w (ressV_own hrow (by omega) hin) (by rw [List.length_map]; exact hl) ?_
  intro bx ox n cap k q hv hk h2 h3
  rw [List.getElem?_map] at hk
  obtain ⟨q', hq', hx⟩ := Option.map_eq_some_iff.1 hk
  have := cellsQ_at hrow hv hq' hx h2 h3
  subst this
  exact List.mem_of_getElem? hq'
set_option maxRecDepth 100000 in
theorem hasL (v : Value) (l : List Resd) (a : IDd) (w : World) (hv : RessV w v l) (hl : l.length ≤ 500) :
    Calls Tryz.prog 28 #[v, .agg #[.string a.kind, .string a.name]] w fun e w' => ∃ b, e = .returned (.bool b) ∧ Hid (b = true ↔ HasR l a) ∧ Hid (Ext w w') := by
  obtain ⟨pa, cap, rfl, c1, c2, hin⟩ := hv.shape
  have hv1 := hide (hv.ext ((Ext.refl w).alloc (.cells #[.string a.kind, .string a.name] 31)))
  have X0 := hide ((Ext.refl w).alloc (.cells #[.string a.kind, .string a.name] 31))
  replace hv := hide hv; replace hin := hide hin
  go_enter Tryz.func28, Tryz.ntmps28
  go_wp2_with fail
  refine (withoutL _ l a _ hv1.out hl).mono ?_
  rintro e1 w1 ⟨po, co, rfl, h1, h2⟩
  have hX := hide (X0.out.trans h2.out)
  replace h1 := hide h1.out; replace h2 := hide h2.out
  have hb := hide (has_iff l a)
  go_wp2_with fail
  go_ret
  refine ⟨decide ((withoutS l a).length < l.length), rfl, ?_, hX⟩
  show _ ↔ _
  rw [hb.out]; simp
end Go.Proofs.YtfoelahabalbpaaGreatDoor
