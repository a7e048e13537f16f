/-
  Resources with one more, or another one of its ID, in their order.
-/
import Derived.Test.YtfmcgdglalljgaaGreatDoorTam2
import Derived.Test.YtfmcgdglalljgaaGreatDoorJ15
import Derived.BigQuiet
namespace Go.Proofs.YtfmcgdglalljgaaGreatDoor
open Go.RowKit

attribute [local go_sem] Go.World.cell?_alloc_some
def cQ (q : ResC) : List Value := [.string q.x.id.kind, .string q.x.id.name, .slice q.a2 q.n2 q.p2, .slice q.a3 q.n3 q.p3]
def cellsQ (l : List ResC) : List Value := l.flatMap cQ
theorem cQ_len (q : ResC) : (cQ q).length = 4 := rfl
theorem cQ_one (q : ResC) : ∀ u ∈ cQ q, u.oneCell' = true := by
  intro u hu
  simp [cQ] at hu
  rcases hu with rfl | rfl | rfl | rfl <;> rfl
theorem cellsQ_app (l : List ResC) (q : ResC) : cellsQ (l ++ [q]) = cellsQ l ++ cQ q := by simp [cellsQ]
theorem ressV_own {B : Nat} {w : World} {v : Value} {qs : List ResC} (h : w.ownsRow B 29 4 v qs.length (cellsQ qs)) (hn : qs.length ≤ 1000) (he : ∀ q ∈ qs, q.In w) : RessV w v (qs.map ResC.x) := by
  have hl : (qs.map ResC.x).length = qs.length := List.length_map ..
  refine ⟨?_, by rw [hl]; omega⟩
  rcases h.2 with ⟨rfl, h0⟩ | ⟨g, cap, cur, rfl, _, hg, hc, hm, hs, ht⟩
  · have : qs = [] := List.eq_nil_of_length_eq_zero h0
    subst this
    exact ⟨none, 0, rfl, Nat.le_refl _, by decide, .inl rfl⟩
  · unfold maxLen at hm
    refine ⟨some ⟨g, 0, none⟩, cap, by rw [hl], by rw [hl]; exact hc, by omega, .inr ⟨g, 0, rfl, fun i x hx => ?_⟩⟩
    rw [List.getElem?_map] at hx
    obtain ⟨q, hq, rfl⟩ := Option.map_eq_some_iff.1 hx
    have hlt : i < qs.length := (List.getElem?_eq_some_iff.1 hq).1
    have key : ∀ r, r < 4 → w.cell? ⟨g, 0 + i * 4 + r, none⟩ = (cQ q)[r]? := fun r hr => by
      have h1 : (cellsQ qs)[i * 4 + r]? = (cQ q)[r]? := flat_get cQ_len hq hr
      rw [← h1, ← ht, List.getElem?_take, if_pos (by omega), Nat.zero_add]
      simp [World.cell?, hg]
    exact ⟨key 0 (by omega), key 1 (by omega), _, _, key 2 (by omega), key 3 (by omega), he q (List.mem_of_getElem? hq)⟩
open Classical in
theorem putGo_step (r x : Resd) (dn : Bool) (l : List Resd) : putGo r dn (x :: l) = (if lessI r.id x.id = true ∧ dn = false then [r] else []) ++ ((if x.id = r.id then [] else [x]) ++ putGo r (dn || lessI r.id x.id) l) := by cases dn <;> rfl
theorem putGo_len (r : Resd) : ∀ (dn : Bool) (l : List Resd), (putGo r dn l).length ≤ l.length + 1
  | true, [] => by simp [putGo]
  | false, [] => by simp [putGo]
  | true, x :: l => by
    have := putGo_len r true l
    rw [putGo_step]
    simp only [Bool.true_or, Bool.true_eq_false, and_false, if_false, List.nil_append, List.length_append, List.length_cons]
    split
    · simp; omega
    · simp; omega
  | false, x :: l => by
    rw [putGo_step]
    cases hb : lessI r.id x.id with
    | true =>
      have h1 : ∀ l : List Resd, (putGo r true l).length ≤ l.length := by
        intro l
        induction l with
        | nil => simp [putGo]
        | cons y l ih =>
          rw [putGo_step]
          simp only [Bool.true_or, Bool.true_eq_false, and_false, if_false, List.nil_append, List.length_append, List.length_cons]
          split
          · simp; omega
          · simp; omega
      have := h1 l
      simp only [Bool.false_or, and_self, if_true, List.length_append, List.length_cons, List.length_nil]
      split
      · simp; omega
      · simp; omega
    | false =>
      have := putGo_len r false l
      simp only [Bool.false_or, Bool.false_eq_true, false_and, if_false, List.nil_append, List.length_append, List.length_cons]
      split
      · simp; omega
      · simp; omega

/-- What put leaves: cells of resources that it was given. -/
def PutR (w : World) (P : ResC → Prop) (l' : List Resd) (e : Ending) (w' : World) : Prop :=
  ∃ (qs : List ResC) (pa : Option Addr) (cap : Nat), e = .returned (.slice pa qs.length cap) ∧ Hid (qs.map ResC.x = l') ∧ Hid (∀ q ∈ qs, q.In w ∧ P q) ∧ Hid (w'.ownsRow (w.heap.size + 1) 29 4 (.slice pa qs.length cap) qs.length (cellsQ qs)) ∧ qs.length ≤ 600 ∧ Hid (Ext w w')
set_option maxRecDepth 100000 in
set_option maxHeartbeats 6400000 in
theorem putP (P : ResC → Prop) (v : Value) (l : List Resd) (r : ResC) (w : World) (hv : RessV w v l) (hl : l.length ≤ 500) (hr : r.In w ∧ P r)
    (hPv : ∀ (bx ox n cap k : Nat) (q : ResC), v = .slice (some ⟨bx, ox, none⟩) n cap → l[k]? = some q.x → w.cell? ⟨bx, ox + k * 4 + 2, none⟩ = some q.c2 → w.cell? ⟨bx, ox + k * 4 + 3, none⟩ = some q.c3 → P q) :
    Calls Tryz.prog 23 #[v, .agg #[.string r.x.id.kind, .string r.x.id.name, .slice r.a2 r.n2 r.p2, .slice r.a3 r.n3 r.p3]] w (PutR w P (putS l r.x)) := by
  obtain ⟨pa, cap, rfl, c1, c2, hin⟩ := hv.shape
  obtain ⟨i0, hi0, hz0, hz1, hz2⟩ := info_of infoRes
  have Bx0 := hide (heap_alloc_new w (.cells #[.string r.x.id.kind, .string r.x.id.name, .slice r.a2 r.n2 r.p2, .slice r.a3 r.n3 r.p3] 29))
  have X0 := hide ((Ext.refl w).alloc (.cells #[.string r.x.id.kind, .string r.x.id.name, .slice r.a2 r.n2 r.p2, .slice r.a3 r.n3 r.p3] 29))
  replace hv := hide hv; replace hin := hide hin; replace hi0 := hide hi0; replace hr := hide hr; replace hPv := hide hPv
  go_enter Tryz.func23, Tryz.ntmps23
  go_wp2_with fail
  go_loopw [5, 6, 7] (fun ov dv kv wr => ∃ (qs : List ResC) (po : Option Addr) (co k : Nat) (dn : Bool), ov = .slice po qs.length co ∧ dv = .bool dn ∧ kv = .int .i64 k ∧ k ≤ l.length ∧ qs.length ≤ 600 ∧ Hid (qs.map ResC.x ++ putGo r.x dn (l.drop k) = putS l r.x) ∧ Hid (∀ q ∈ qs, q.In w ∧ P q) ∧ Hid (wr.ownsRow (w.heap.size + 1) 29 4 (.slice po qs.length co) qs.length (cellsQ qs)) ∧ Hid (wr.heap[w.heap.size]? = some (.cells #[.string r.x.id.kind, .string r.x.id.name, .slice r.a2 r.n2 r.p2, .slice r.a3 r.n3 r.p3] 29 (0, 0))) ∧ Hid (Ext w wr)) (fun _ _ kv _ => l.length - (intOf kv).toNat)
  case atStart => exact ⟨[], none, 0, 0, false, rfl, rfl, rfl, Nat.zero_le _, by simp, by simp [Hid, putS], fun x hx => (by cases hx), World.ownsRow_nil _ _ _ _, Bx0, X0⟩
  case round =>
    obtain ⟨qs, po, co, k, dn, rfl, rfl, rfl, hk, -, hgo, hok, hrow, hbx, hX⟩ := hrel
    have hqn : qs.length ≤ 501 := by
      have h1 := congrArg List.length hgo.out
      rw [List.length_append, List.length_map] at h1
      have h2 := putGo_len r.x false l
      unfold putS at h1
      omega
    by_cases hlt : k < l.length
    · obtain ⟨x, hx⟩ := some_of_lt hlt
      rcases hin.out with hh | ⟨bx, ox, rfl, hxi⟩
      · rw [hh] at hlt; simp at hlt
      obtain ⟨p0, p1, d2, d3, p2, p3, hR⟩ := hxi k x hx
      obtain ⟨e2, f2, rfl⟩ := hR.attrs.form
      obtain ⟨e3, f3, rfl⟩ := hR.after.form
      have PP := hide (And.intro p0 (And.intro p1 (And.intro p2 p3)))
      replace p0 := hX.out.cells p0; replace p1 := hX.out.cells p1
      clear p2 p3
      obtain ⟨q0, q1, -, -⟩ := boxIs hbx.out
      have k2 : (k : Int) < (l.length : Int) := by omega
      have k4 : (0 : Int) ≤ (k : Int) := by omega
      have hdrop : l.drop k = x :: l.drop (k + 1) := by
        obtain ⟨h1, h2⟩ := List.getElem?_eq_some_iff.1 hx
        rw [← h2]; exact List.drop_eq_getElem_cons h1
      rw [hdrop, putGo_step] at hgo
      obtain ⟨qx, hqx⟩ : ∃ qx : ResC, qx = ⟨x, e2, x.attrs.length, f2, e3, x.after.length, f3⟩ := ⟨_, rfl⟩
      have hqi : Hid (qx.In w ∧ P qx) := by rw [hqx]; exact ⟨hR, hPv.out _ _ _ _ k _ rfl hx PP.out.2.2.1 PP.out.2.2.2⟩
      replace hx := hide hx; replace hxi := hide hxi; replace hdrop := hide hdrop; replace hR := hide hR
      go_wp2_with fail
      go_region_held3 (fun w' => w'.cell? ⟨w.heap.size, 0, none⟩ = some (.string r.x.id.kind) ∧ w'.cell? ⟨w.heap.size, 1, none⟩ = some (.string r.x.id.name) ∧ w'.cell? ⟨bx, ox + k * 4, none⟩ = some (.string x.id.kind) ∧ w'.cell? ⟨bx, ox + k * 4 + 1, none⟩ = some (.string x.id.name)) (go_keep)
        ((go_at_call 48; refine (lessL r.x.id x.id _).mono ?_; rintro e3' w3 ⟨rfl, he3⟩; go_must (have E3 : Hid (Ext wr w3) := (Ext.refl wr).drew.trans he3; have B3 := hide (ext_at E3.out hbx.out); have X3 := hide (hX.out.trans E3.out); obtain ⟨y0, y1, y6, y7⟩ := boxIs B3.out; have y2 := X3.out.cells PP.out.1; have y3 := X3.out.cells PP.out.2.1; have y4 := X3.out.cells PP.out.2.2.1; have y5 := X3.out.cells PP.out.2.2.2; replace he3 := hide he3)))
      have R3 : Hid (w3.ownsRow (w.heap.size + 1) 29 4 (.slice po qs.length co) qs.length (cellsQ qs)) := ownsRow_wrote hrow.out (Wrote.ext (B := 0) (T := fun _ => False) E3.out) id rfl
      have hs3 : Hid (w.heap.size + 1 ≤ w3.heap.size) := (Array.getElem?_eq_some_iff.1 B3.out).1
      clear p0 p1 q0 q1
      cases hb : lessI r.x.id x.id with
      | false =>
        rw [hb] at hgo
        replace hb := hide hb
        by_cases h0 : x.id.kind = r.x.id.kind
        · by_cases h1 : x.id.name = r.x.id.name
          · have m0 : x.id.kind.toList = r.x.id.kind.toList := by rw [h0]
            have m1 : x.id.name.toList = r.x.id.name.toList := by rw [h1]
            have hse : Hid (x.id = r.x.id) := idEq h0 h1
            replace h0 := hide h0; replace h1 := hide h1
            go_wp2_with fail
            go_quiet (fail)
            go_wp2_with fail
            go_roundw
            case rel =>
              refine ⟨qs, po, co, k + 1, dn, rfl, rfl, by go_num, by omega, by omega, ?_, hok, ownsRow_wrote R3.out (Wrote.ext (B := 0) (T := fun _ => False) ((Ext.refl w3).drewN _)) id rfl, B3.out, X3.out.drewN _⟩
              show _ = _
              rw [← hgo.out]; simp [hse.out]
            case measure => simp [intOf]; omega
          · have m0 : x.id.kind.toList = r.x.id.kind.toList := by rw [h0]
            have n1 : ¬ x.id.name.toList = r.x.id.name.toList := fun h => h1 (ba_inj h)
            have n2 : (x.id.name.toList == r.x.id.name.toList) = false := by simpa using n1
            have hne : Hid (¬ x.id = r.x.id) := fun h => h1 (by rw [h])
            replace h0 := hide h0; replace h1 := hide h1
            go_wp2_with fail
            go_quiet (fail)
            have R3q := hide (ownsRow_wrote R3.out (Wrote.ext (B := 0) (T := fun _ => False) ((Ext.refl w3).drewN nq)) id rfl)
            have B3q : Hid ((w3.drewN nq).heap[w.heap.size]? = _) := B3.out
            have X3q := hide (X3.out.drewN nq)
            generalize hwq : w3.drewN nq = wq at *
            have u2 := X3q.out.cells PP.out.1; have u3 := X3q.out.cells PP.out.2.1; have u4 := X3q.out.cells PP.out.2.2.1; have u5 := X3q.out.cells PP.out.2.2.2
            have hsq : Hid (w.heap.size + 1 ≤ wq.heap.size) := (Array.getElem?_eq_some_iff.1 B3q.out).1
            replace hwq := hide hwq
            clear y0 y1 y2 y3 y4 y5 y6 y7
            go_wp2_with (at_builtin; go_loud (refine wpList_append_lies _ rfl (.tmp 40) (.tmp 45) 36 rfl (w.heap.size + 1) 29 i0 (.agg #[.string ⟨#[]⟩, .string ⟨#[]⟩, .slice none 0 0, .slice none 0 0]) 4 80 Tryz.underlying36 hi0.out hz0 hz1 hz2 rfl (by omega) _ qs.length (cellsQ qs) rfl (R3q.out.alloc _) ⟨wq.heap.size, 0, none⟩ 1 1 (cQ ⟨x, e2, x.attrs.length, f2, e3, x.after.length, f3⟩) rfl rfl ?_ (cQ_one _) (by omega) (by unfold maxLen; omega) (by omega) (by have := hsq.out; simp; omega) (wq.heap.size + 1) (by simp) ?_; (intro j u hu; rw [add_eq]; (match j, hu with | 0, hu => (simp [cQ] at hu; subst hu; simp [go_sem]) | 1, hu => (simp [cQ] at hu; subst hu; simp [go_sem]) | 2, hu => (simp [cQ] at hu; subst hu; simp [go_sem]) | 3, hu => (simp [cQ] at hu; subst hu; simp [go_sem]) | _ + 4, hu => (simp [cQ] at hu))); intro g5 c5 w5 hown5 hgrow5 hat_w5 hlt_w5))
            have WW : Wrote (w.heap.size + 1) (· = 29) wq w5 := (Wrote.refl (w.heap.size + 1) _ wq).grownAt R3q.out rfl hgrow5
            have BB := hide ((grown_kept hgrow5).heap B3q.out (notOwn R3q.out))
            go_roundw
            case rel =>
              have hl5 : (qs ++ [qx]).length = qs.length + 1 := by simp
              refine ⟨qs ++ [qx], some ⟨g5, 0, none⟩, c5, k + 1, dn, by rw [hl5], rfl, by go_num, by omega, by rw [hl5]; omega, ?_, ?_, ?_, BB, X3q.out.wrote WW (Nat.le_succ _)⟩
              · show _ = _
                rw [← hgo.out, hqx]; simp [hne.out]
              · intro z hz
                simp only [List.mem_append, List.mem_singleton] at hz
                first
                  | (rcases hz with hz | rfl
                     · exact hok.out z hz
                     · exact hqi.out)
                  | (rcases hz with (hz | rfl) | rfl
                     · exact hok.out z hz
                     · exact hr.out
                     · exact hqi.out)
              · show World.ownsRow _ _ _ _ _ _ _
                rw [hl5, cellsQ_app]; exact (hqx ▸ hown5)
            case measure => simp [intOf]; omega
        · have n1 : ¬ x.id.kind.toList = r.x.id.kind.toList := fun h => h0 (ba_inj h)
          have n2 : (x.id.kind.toList == r.x.id.kind.toList) = false := by simpa using n1
          have hne : Hid (¬ x.id = r.x.id) := fun h => h0 (by rw [h])
          replace h0 := hide h0
          go_wp2_with fail
          go_quiet (fail)
          have R3q := hide (ownsRow_wrote R3.out (Wrote.ext (B := 0) (T := fun _ => False) ((Ext.refl w3).drewN nq)) id rfl)
          have B3q : Hid ((w3.drewN nq).heap[w.heap.size]? = _) := B3.out
          have X3q := hide (X3.out.drewN nq)
          generalize hwq : w3.drewN nq = wq at *
          have u2 := X3q.out.cells PP.out.1; have u3 := X3q.out.cells PP.out.2.1; have u4 := X3q.out.cells PP.out.2.2.1; have u5 := X3q.out.cells PP.out.2.2.2
          have hsq : Hid (w.heap.size + 1 ≤ wq.heap.size) := (Array.getElem?_eq_some_iff.1 B3q.out).1
          replace hwq := hide hwq
          clear y0 y1 y2 y3 y4 y5 y6 y7
          go_wp2_with (at_builtin; go_loud (refine wpList_append_lies _ rfl (.tmp 40) (.tmp 45) 36 rfl (w.heap.size + 1) 29 i0 (.agg #[.string ⟨#[]⟩, .string ⟨#[]⟩, .slice none 0 0, .slice none 0 0]) 4 80 Tryz.underlying36 hi0.out hz0 hz1 hz2 rfl (by omega) _ qs.length (cellsQ qs) rfl (R3q.out.alloc _) ⟨wq.heap.size, 0, none⟩ 1 1 (cQ ⟨x, e2, x.attrs.length, f2, e3, x.after.length, f3⟩) rfl rfl ?_ (cQ_one _) (by omega) (by unfold maxLen; omega) (by omega) (by have := hsq.out; simp; omega) (wq.heap.size + 1) (by simp) ?_; (intro j u hu; rw [add_eq]; (match j, hu with | 0, hu => (simp [cQ] at hu; subst hu; simp [go_sem]) | 1, hu => (simp [cQ] at hu; subst hu; simp [go_sem]) | 2, hu => (simp [cQ] at hu; subst hu; simp [go_sem]) | 3, hu => (simp [cQ] at hu; subst hu; simp [go_sem]) | _ + 4, hu => (simp [cQ] at hu))); intro g5 c5 w5 hown5 hgrow5 hat_w5 hlt_w5))
          have WW : Wrote (w.heap.size + 1) (· = 29) wq w5 := (Wrote.refl (w.heap.size + 1) _ wq).grownAt R3q.out rfl hgrow5
          have BB := hide ((grown_kept hgrow5).heap B3q.out (notOwn R3q.out))
          go_roundw
          case rel =>
            have hl5 : (qs ++ [qx]).length = qs.length + 1 := by simp
            refine ⟨qs ++ [qx], some ⟨g5, 0, none⟩, c5, k + 1, dn, by rw [hl5], rfl, by go_num, by omega, by rw [hl5]; omega, ?_, ?_, ?_, BB, X3q.out.wrote WW (Nat.le_succ _)⟩
            · show _ = _
              rw [← hgo.out, hqx]; simp [hne.out]
            · intro z hz
              simp only [List.mem_append, List.mem_singleton] at hz
              first
                | (rcases hz with hz | rfl
                   · exact hok.out z hz
                   · exact hqi.out)
                | (rcases hz with (hz | rfl) | rfl
                   · exact hok.out z hz
                   · exact hr.out
                   · exact hqi.out)
            · show World.ownsRow _ _ _ _ _ _ _
              rw [hl5, cellsQ_app]; exact (hqx ▸ hown5)
          case measure => simp [intOf]; omega
      | true =>
        rw [hb] at hgo
        have hne' : ¬ x.id = r.x.id := fun e => by rw [e] at hb; simp [lessI, cmp_self] at hb
        replace hb := hide hb
        cases dn with
        | true =>
          by_cases h0 : x.id.kind = r.x.id.kind
          · by_cases h1 : x.id.name = r.x.id.name
            · have m0 : x.id.kind.toList = r.x.id.kind.toList := by rw [h0]
              have m1 : x.id.name.toList = r.x.id.name.toList := by rw [h1]
              have hse : Hid (x.id = r.x.id) := idEq h0 h1
              replace h0 := hide h0; replace h1 := hide h1
              go_wp2_with fail
              go_quiet (fail)
              go_wp2_with fail
              go_roundw
              case rel =>
                refine ⟨qs, po, co, k + 1, true, rfl, rfl, by go_num, by omega, by omega, ?_, hok, ownsRow_wrote R3.out (Wrote.ext (B := 0) (T := fun _ => False) ((Ext.refl w3).drewN _)) id rfl, B3.out, X3.out.drewN _⟩
                show _ = _
                rw [← hgo.out]; simp [hse.out]
              case measure => simp [intOf]; omega
            · have m0 : x.id.kind.toList = r.x.id.kind.toList := by rw [h0]
              have n1 : ¬ x.id.name.toList = r.x.id.name.toList := fun h => h1 (ba_inj h)
              have n2 : (x.id.name.toList == r.x.id.name.toList) = false := by simpa using n1
              have hne : Hid (¬ x.id = r.x.id) := fun h => h1 (by rw [h])
              replace h0 := hide h0; replace h1 := hide h1
              go_wp2_with fail
              go_quiet (fail)
              have R3q := hide (ownsRow_wrote R3.out (Wrote.ext (B := 0) (T := fun _ => False) ((Ext.refl w3).drewN nq)) id rfl)
              have B3q : Hid ((w3.drewN nq).heap[w.heap.size]? = _) := B3.out
              have X3q := hide (X3.out.drewN nq)
              generalize hwq : w3.drewN nq = wq at *
              have u2 := X3q.out.cells PP.out.1; have u3 := X3q.out.cells PP.out.2.1; have u4 := X3q.out.cells PP.out.2.2.1; have u5 := X3q.out.cells PP.out.2.2.2
              have hsq : Hid (w.heap.size + 1 ≤ wq.heap.size) := (Array.getElem?_eq_some_iff.1 B3q.out).1
              replace hwq := hide hwq
              clear y0 y1 y2 y3 y4 y5 y6 y7
              go_wp2_with (at_builtin; go_loud (refine wpList_append_lies _ rfl (.tmp 40) (.tmp 45) 36 rfl (w.heap.size + 1) 29 i0 (.agg #[.string ⟨#[]⟩, .string ⟨#[]⟩, .slice none 0 0, .slice none 0 0]) 4 80 Tryz.underlying36 hi0.out hz0 hz1 hz2 rfl (by omega) _ qs.length (cellsQ qs) rfl (R3q.out.alloc _) ⟨wq.heap.size, 0, none⟩ 1 1 (cQ ⟨x, e2, x.attrs.length, f2, e3, x.after.length, f3⟩) rfl rfl ?_ (cQ_one _) (by omega) (by unfold maxLen; omega) (by omega) (by have := hsq.out; simp; omega) (wq.heap.size + 1) (by simp) ?_; (intro j u hu; rw [add_eq]; (match j, hu with | 0, hu => (simp [cQ] at hu; subst hu; simp [go_sem]) | 1, hu => (simp [cQ] at hu; subst hu; simp [go_sem]) | 2, hu => (simp [cQ] at hu; subst hu; simp [go_sem]) | 3, hu => (simp [cQ] at hu; subst hu; simp [go_sem]) | _ + 4, hu => (simp [cQ] at hu))); intro g5 c5 w5 hown5 hgrow5 hat_w5 hlt_w5))
              have WW : Wrote (w.heap.size + 1) (· = 29) wq w5 := (Wrote.refl (w.heap.size + 1) _ wq).grownAt R3q.out rfl hgrow5
              have BB := hide ((grown_kept hgrow5).heap B3q.out (notOwn R3q.out))
              go_roundw
              case rel =>
                have hl5 : (qs ++ [qx]).length = qs.length + 1 := by simp
                refine ⟨qs ++ [qx], some ⟨g5, 0, none⟩, c5, k + 1, true, by rw [hl5], rfl, by go_num, by omega, by rw [hl5]; omega, ?_, ?_, ?_, BB, X3q.out.wrote WW (Nat.le_succ _)⟩
                · show _ = _
                  rw [← hgo.out, hqx]; simp [hne.out]
                · intro z hz
                  simp only [List.mem_append, List.mem_singleton] at hz
                  first
                    | (rcases hz with hz | rfl
                       · exact hok.out z hz
                       · exact hqi.out)
                    | (rcases hz with (hz | rfl) | rfl
                       · exact hok.out z hz
                       · exact hr.out
                       · exact hqi.out)
                · show World.ownsRow _ _ _ _ _ _ _
                  rw [hl5, cellsQ_app]; exact (hqx ▸ hown5)
              case measure => simp [intOf]; omega
          · have n1 : ¬ x.id.kind.toList = r.x.id.kind.toList := fun h => h0 (ba_inj h)
            have n2 : (x.id.kind.toList == r.x.id.kind.toList) = false := by simpa using n1
            have hne : Hid (¬ x.id = r.x.id) := fun h => h0 (by rw [h])
            replace h0 := hide h0
            go_wp2_with fail
            go_quiet (fail)
            have R3q := hide (ownsRow_wrote R3.out (Wrote.ext (B := 0) (T := fun _ => False) ((Ext.refl w3).drewN nq)) id rfl)
            have B3q : Hid ((w3.drewN nq).heap[w.heap.size]? = _) := B3.out
            have X3q := hide (X3.out.drewN nq)
            generalize hwq : w3.drewN nq = wq at *
            have u2 := X3q.out.cells PP.out.1; have u3 := X3q.out.cells PP.out.2.1; have u4 := X3q.out.cells PP.out.2.2.1; have u5 := X3q.out.cells PP.out.2.2.2
            have hsq : Hid (w.heap.size + 1 ≤ wq.heap.size) := (Array.getElem?_eq_some_iff.1 B3q.out).1
            replace hwq := hide hwq
            clear y0 y1 y2 y3 y4 y5 y6 y7
            go_wp2_with (at_builtin; go_loud (refine wpList_append_lies _ rfl (.tmp 40) (.tmp 45) 36 rfl (w.heap.size + 1) 29 i0 (.agg #[.string ⟨#[]⟩, .string ⟨#[]⟩, .slice none 0 0, .slice none 0 0]) 4 80 Tryz.underlying36 hi0.out hz0 hz1 hz2 rfl (by omega) _ qs.length (cellsQ qs) rfl (R3q.out.alloc _) ⟨wq.heap.size, 0, none⟩ 1 1 (cQ ⟨x, e2, x.attrs.length, f2, e3, x.after.length, f3⟩) rfl rfl ?_ (cQ_one _) (by omega) (by unfold maxLen; omega) (by omega) (by have := hsq.out; simp; omega) (wq.heap.size + 1) (by simp) ?_; (intro j u hu; rw [add_eq]; (match j, hu with | 0, hu => (simp [cQ] at hu; subst hu; simp [go_sem]) | 1, hu => (simp [cQ] at hu; subst hu; simp [go_sem]) | 2, hu => (simp [cQ] at hu; subst hu; simp [go_sem]) | 3, hu => (simp [cQ] at hu; subst hu; simp [go_sem]) | _ + 4, hu => (simp [cQ] at hu))); intro g5 c5 w5 hown5 hgrow5 hat_w5 hlt_w5))
            have WW : Wrote (w.heap.size + 1) (· = 29) wq w5 := (Wrote.refl (w.heap.size + 1) _ wq).grownAt R3q.out rfl hgrow5
            have BB := hide ((grown_kept hgrow5).heap B3q.out (notOwn R3q.out))
            go_roundw
            case rel =>
              have hl5 : (qs ++ [qx]).length = qs.length + 1 := by simp
              refine ⟨qs ++ [qx], some ⟨g5, 0, none⟩, c5, k + 1, true, by rw [hl5], rfl, by go_num, by omega, by rw [hl5]; omega, ?_, ?_, ?_, BB, X3q.out.wrote WW (Nat.le_succ _)⟩
              · show _ = _
                rw [← hgo.out, hqx]; simp [hne.out]
              · intro z hz
                simp only [List.mem_append, List.mem_singleton] at hz
                first
                  | (rcases hz with hz | rfl
                     · exact hok.out z hz
                     · exact hqi.out)
                  | (rcases hz with (hz | rfl) | rfl
                     · exact hok.out z hz
                     · exact hr.out
                     · exact hqi.out)
              · show World.ownsRow _ _ _ _ _ _ _
                rw [hl5, cellsQ_app]; exact (hqx ▸ hown5)
            case measure => simp [intOf]; omega
        | false =>
          go_wp2_with (at_builtin; go_loud (refine wpList_append_lies _ rfl (.tmp 28) (.tmp 30) 36 rfl (w.heap.size + 1) 29 i0 (.agg #[.string ⟨#[]⟩, .string ⟨#[]⟩, .slice none 0 0, .slice none 0 0]) 4 80 Tryz.underlying36 hi0.out hz0 hz1 hz2 rfl (by omega) _ qs.length (cellsQ qs) rfl (R3.out.alloc _) ⟨w3.heap.size, 0, none⟩ 1 1 (cQ r) rfl rfl ?_ (cQ_one _) (by omega) (by unfold maxLen; omega) (by omega) (by have := hs3.out; simp; omega) (w3.heap.size + 1) (by simp) ?_; (intro j u hu; rw [add_eq]; (match j, hu with | 0, hu => (simp [cQ] at hu; subst hu; simp [go_sem]) | 1, hu => (simp [cQ] at hu; subst hu; simp [go_sem]) | 2, hu => (simp [cQ] at hu; subst hu; simp [go_sem]) | 3, hu => (simp [cQ] at hu; subst hu; simp [go_sem]) | _ + 4, hu => (simp [cQ] at hu))); intro g4 c4 w4 hown4 hgrow4 hat_w4 hlt_w4; have W4 : Wrote (w.heap.size + 1) (· = 29) w3 w4 := (Wrote.refl (w.heap.size + 1) _ w3).grownAt R3.out rfl hgrow4; have X4 := hide (X3.out.wrote W4 (Nat.le_succ _)); have B4 := hide ((grown_kept hgrow4).heap B3.out (notOwn R3.out)); have R4 : Hid (w4.ownsRow (w.heap.size + 1) 29 4 (.slice (some ⟨g4, 0, none⟩) (qs.length + 1) c4) (qs.length + 1) (cellsQ (qs ++ [r]))) := cellsQ_app qs r ▸ hown4; clear y0 y1 y2 y3 y4 y5 y6 y7; have y2 := X4.out.cells PP.out.1; have y3 := X4.out.cells PP.out.2.1; obtain ⟨y0, y1, -, -⟩ := boxIs B4.out; replace W4 := hide W4; replace hown4 := hide hown4; replace hgrow4 := hide hgrow4))
          by_cases h0 : x.id.kind = r.x.id.kind
          · by_cases h1 : x.id.name = r.x.id.name
            · have m0 : x.id.kind.toList = r.x.id.kind.toList := by rw [h0]
              have m1 : x.id.name.toList = r.x.id.name.toList := by rw [h1]
              have hse : Hid (x.id = r.x.id) := idEq h0 h1
              replace h0 := hide h0; replace h1 := hide h1
              exact absurd hse.out hne'
            · have m0 : x.id.kind.toList = r.x.id.kind.toList := by rw [h0]
              have n1 : ¬ x.id.name.toList = r.x.id.name.toList := fun h => h1 (ba_inj h)
              have n2 : (x.id.name.toList == r.x.id.name.toList) = false := by simpa using n1
              have hne : Hid (¬ x.id = r.x.id) := fun h => h1 (by rw [h])
              replace h0 := hide h0; replace h1 := hide h1
              go_quiet (fail)
              have R4q := hide (ownsRow_wrote R4.out (Wrote.ext (B := 0) (T := fun _ => False) ((Ext.refl w4).drewN nq)) id rfl)
              have B4q : Hid ((w4.drewN nq).heap[w.heap.size]? = _) := B4.out
              have X4q := hide (X4.out.drewN nq)
              generalize hwq : w4.drewN nq = wq at *
              have u2 := X4q.out.cells PP.out.1; have u3 := X4q.out.cells PP.out.2.1; have u4 := X4q.out.cells PP.out.2.2.1; have u5 := X4q.out.cells PP.out.2.2.2
              have hsq : Hid (w.heap.size + 1 ≤ wq.heap.size) := (Array.getElem?_eq_some_iff.1 B4q.out).1
              replace hwq := hide hwq
              clear y0 y1 y2 y3
              go_wp2_with (at_builtin; go_loud (refine wpList_append_lies _ rfl (.tmp 40) (.tmp 45) 36 rfl (w.heap.size + 1) 29 i0 (.agg #[.string ⟨#[]⟩, .string ⟨#[]⟩, .slice none 0 0, .slice none 0 0]) 4 80 Tryz.underlying36 hi0.out hz0 hz1 hz2 rfl (by omega) _ (qs.length + 1) (cellsQ (qs ++ [r])) rfl (R4q.out.alloc _) ⟨wq.heap.size, 0, none⟩ 1 1 (cQ ⟨x, e2, x.attrs.length, f2, e3, x.after.length, f3⟩) rfl rfl ?_ (cQ_one _) (by omega) (by unfold maxLen; omega) (by omega) (by have := hsq.out; simp; omega) (wq.heap.size + 1) (by simp) ?_; (intro j u hu; rw [add_eq]; (match j, hu with | 0, hu => (simp [cQ] at hu; subst hu; simp [go_sem]) | 1, hu => (simp [cQ] at hu; subst hu; simp [go_sem]) | 2, hu => (simp [cQ] at hu; subst hu; simp [go_sem]) | 3, hu => (simp [cQ] at hu; subst hu; simp [go_sem]) | _ + 4, hu => (simp [cQ] at hu))); intro g5 c5 w5 hown5 hgrow5 hat_w5 hlt_w5))
              have WW : Wrote (w.heap.size + 1) (· = 29) wq w5 := (Wrote.refl (w.heap.size + 1) _ wq).grownAt R4q.out rfl hgrow5
              have BB := hide ((grown_kept hgrow5).heap B4q.out (notOwn R4q.out))
              go_roundw
              case rel =>
                have hl5 : ((qs ++ [r]) ++ [qx]).length = qs.length + 1 + 1 := by simp
                refine ⟨(qs ++ [r]) ++ [qx], some ⟨g5, 0, none⟩, c5, k + 1, true, by rw [hl5], rfl, by go_num, by omega, by rw [hl5]; omega, ?_, ?_, ?_, BB, X4q.out.wrote WW (Nat.le_succ _)⟩
                · show _ = _
                  rw [← hgo.out, hqx]; simp [hne.out]
                · intro z hz
                  simp only [List.mem_append, List.mem_singleton] at hz
                  first
                    | (rcases hz with hz | rfl
                       · exact hok.out z hz
                       · exact hqi.out)
                    | (rcases hz with (hz | rfl) | rfl
                       · exact hok.out z hz
                       · exact hr.out
                       · exact hqi.out)
                · show World.ownsRow _ _ _ _ _ _ _
                  rw [hl5, cellsQ_app]; exact (hqx ▸ hown5)
              case measure => simp [intOf]; omega
          · have n1 : ¬ x.id.kind.toList = r.x.id.kind.toList := fun h => h0 (ba_inj h)
            have n2 : (x.id.kind.toList == r.x.id.kind.toList) = false := by simpa using n1
            have hne : Hid (¬ x.id = r.x.id) := fun h => h0 (by rw [h])
            replace h0 := hide h0
            go_quiet (fail)
            have R4q := hide (ownsRow_wrote R4.out (Wrote.ext (B := 0) (T := fun _ => False) ((Ext.refl w4).drewN nq)) id rfl)
            have B4q : Hid ((w4.drewN nq).heap[w.heap.size]? = _) := B4.out
            have X4q := hide (X4.out.drewN nq)
            generalize hwq : w4.drewN nq = wq at *
            have u2 := X4q.out.cells PP.out.1; have u3 := X4q.out.cells PP.out.2.1; have u4 := X4q.out.cells PP.out.2.2.1; have u5 := X4q.out.cells PP.out.2.2.2
            have hsq : Hid (w.heap.size + 1 ≤ wq.heap.size) := (Array.getElem?_eq_some_iff.1 B4q.out).1
            replace hwq := hide hwq
            clear y0 y1 y2 y3
            go_wp2_with (at_builtin; go_loud (refine wpList_append_lies _ rfl (.tmp 40) (.tmp 45) 36 rfl (w.heap.size + 1) 29 i0 (.agg #[.string ⟨#[]⟩, .string ⟨#[]⟩, .slice none 0 0, .slice none 0 0]) 4 80 Tryz.underlying36 hi0.out hz0 hz1 hz2 rfl (by omega) _ (qs.length + 1) (cellsQ (qs ++ [r])) rfl (R4q.out.alloc _) ⟨wq.heap.size, 0, none⟩ 1 1 (cQ ⟨x, e2, x.attrs.length, f2, e3, x.after.length, f3⟩) rfl rfl ?_ (cQ_one _) (by omega) (by unfold maxLen; omega) (by omega) (by have := hsq.out; simp; omega) (wq.heap.size + 1) (by simp) ?_; (intro j u hu; rw [add_eq]; (match j, hu with | 0, hu => (simp [cQ] at hu; subst hu; simp [go_sem]) | 1, hu => (simp [cQ] at hu; subst hu; simp [go_sem]) | 2, hu => (simp [cQ] at hu; subst hu; simp [go_sem]) | 3, hu => (simp [cQ] at hu; subst hu; simp [go_sem]) | _ + 4, hu => (simp [cQ] at hu))); intro g5 c5 w5 hown5 hgrow5 hat_w5 hlt_w5))
            have WW : Wrote (w.heap.size + 1) (· = 29) wq w5 := (Wrote.refl (w.heap.size + 1) _ wq).grownAt R4q.out rfl hgrow5
            have BB := hide ((grown_kept hgrow5).heap B4q.out (notOwn R4q.out))
            go_roundw
            case rel =>
              have hl5 : ((qs ++ [r]) ++ [qx]).length = qs.length + 1 + 1 := by simp
              refine ⟨(qs ++ [r]) ++ [qx], some ⟨g5, 0, none⟩, c5, k + 1, true, by rw [hl5], rfl, by go_num, by omega, by rw [hl5]; omega, ?_, ?_, ?_, BB, X4q.out.wrote WW (Nat.le_succ _)⟩
              · show _ = _
                rw [← hgo.out, hqx]; simp [hne.out]
              · intro z hz
                simp only [List.mem_append, List.mem_singleton] at hz
                first
                  | (rcases hz with hz | rfl
                     · exact hok.out z hz
                     · exact hqi.out)
                  | (rcases hz with (hz | rfl) | rfl
                     · exact hok.out z hz
                     · exact hr.out
                     · exact hqi.out)
              · show World.ownsRow _ _ _ _ _ _ _
                rw [hl5, cellsQ_app]; exact (hqx ▸ hown5)
            case measure => simp [intOf]; omega
    · obtain rfl : k = l.length := by omega
      have hfin : Hid (qs.map ResC.x ++ (if dn = true then [] else [r.x]) = putS l r.x) := by
        show _ = _
        rw [← hgo.out, List.drop_length]; cases dn <;> simp [putGo]
      cases dn with
      | true =>
        have hc : Hid (qs.map ResC.x = putS l r.x) := by show _ = _; have := hfin.out; simpa using this
        go_wp2_with fail
        go_ret
        exact ⟨qs, po, co, rfl, hc, hok, hrow, by omega, hX⟩
      | false =>
        have hc : Hid ((qs ++ [r]).map ResC.x = putS l r.x) := by show _ = _; have := hfin.out; simpa using this
        obtain ⟨q0, q1, q2, q3⟩ := boxIs hbx.out
        have hs3 : Hid (w.heap.size + 1 ≤ wr.heap.size) := (Array.getElem?_eq_some_iff.1 hbx.out).1
        go_wp2_with (at_builtin; go_loud (refine wpList_append_lies _ rfl (.tmp 49) (.tmp 51) 36 rfl (w.heap.size + 1) 29 i0 (.agg #[.string ⟨#[]⟩, .string ⟨#[]⟩, .slice none 0 0, .slice none 0 0]) 4 80 Tryz.underlying36 hi0.out hz0 hz1 hz2 rfl (by omega) _ qs.length (cellsQ qs) rfl (hrow.out.alloc _) ⟨wr.heap.size, 0, none⟩ 1 1 (cQ r) rfl rfl ?_ (cQ_one _) (by omega) (by unfold maxLen; omega) (by omega) (by have := hs3.out; simp; omega) (wr.heap.size + 1) (by simp) ?_; (intro j u hu; rw [add_eq]; (match j, hu with | 0, hu => (simp [cQ] at hu; subst hu; simp [go_sem]) | 1, hu => (simp [cQ] at hu; subst hu; simp [go_sem]) | 2, hu => (simp [cQ] at hu; subst hu; simp [go_sem]) | 3, hu => (simp [cQ] at hu; subst hu; simp [go_sem]) | _ + 4, hu => (simp [cQ] at hu))); intro g5 c5 w5 hown5 hgrow5 hat_w5 hlt_w5))
        have W5 : Wrote (w.heap.size + 1) (· = 29) wr w5 := (Wrote.refl (w.heap.size + 1) _ wr).grownAt hrow.out rfl hgrow5
        have X5 := hX.out.wrote W5 (Nat.le_succ _)
        go_ret
        have hl5 : (qs ++ [r]).length = qs.length + 1 := by simp
        refine ⟨qs ++ [r], some ⟨g5, 0, none⟩, c5, by rw [hl5]; rfl, hc, ?_, ?_, by rw [hl5]; omega, X5⟩
        · intro z hz
          rcases List.mem_append.1 hz with hz | hz
          · exact hok.out z hz
          · obtain rfl : z = r := by simpa using hz
            exact hr.out
        · show World.ownsRow _ _ _ _ _ _ _
          rw [hl5, cellsQ_app]; exact hown5

theorem cellsQ_at {B : Nat} {w : World} {v : Value} {qs : List ResC} (h : w.ownsRow B 29 4 v qs.length (cellsQ qs)) {bx ox n cap k : Nat} {q q' : ResC} (hv : v = .slice (some ⟨bx, ox, none⟩) n cap) (hq : qs[k]? = some q) (hx : q.x = q'.x) (h2 : w.cell? ⟨bx, ox + k * 4 + 2, none⟩ = some q'.c2) (h3 : w.cell? ⟨bx, ox + k * 4 + 3, none⟩ = some q'.c3) : q' = q := by
  rcases h.2 with ⟨rfl, h0⟩ | ⟨g, cap', cur, rfl, _, hg, hc, hm, hs, ht⟩
  · cases hv
  · injection hv with e1 e2 e3
    injection e1 with e1
    injection e1 with e1 e4 e5
    subst e1 e4
    have hlt : k < qs.length := (List.getElem?_eq_some_iff.1 hq).1
    have key : ∀ r, r < 4 → w.cell? ⟨g, 0 + k * 4 + r, none⟩ = (cQ q)[r]? := fun r hr => by
      have h1 : (cellsQ qs)[k * 4 + r]? = (cQ q)[r]? := flat_get cQ_len hq hr
      rw [← h1, ← ht, List.getElem?_take, if_pos (by omega), Nat.zero_add]
      simp [World.cell?, hg]
    have k2 := (key 2 (by omega)).symm.trans h2
    have k3 := (key 3 (by omega)).symm.trans h3
    obtain ⟨x, a2, n2, p2, a3, n3, p3⟩ := q
    obtain ⟨x', a2', n2', p2', a3', n3', p3'⟩ := q'
    simp [cQ, ResC.c2] at k2
    simp [cQ, ResC.c3] at k3
    obtain ⟨rfl, rfl, rfl⟩ := k2
    obtain ⟨rfl, rfl, rfl⟩ := k3
    simp only at hx
    rw [hx]
/-- put on a list of our own: what it leaves was there, or is what was put. -/
theorem putQ (v : Value) (qs : List ResC) (r : ResC) (w : World) (B : Nat) (hrow : w.ownsRow B 29 4 v qs.length (cellsQ qs)) (hin : ∀ q ∈ qs, q.In w) (hl : qs.length ≤ 500) (hr : r.In w) :
    Calls Tryz.prog 23 #[v, .agg #[.string r.x.id.kind, .string r.x.id.name, .slice r.a2 r.n2 r.p2, .slice r.a3 r.n3 r.p3]] w (PutR w (fun q => q ∈ qs ∨ q = r) (putS (qs.map ResC.x) r.x)) := by
  refine putP (fun q => q ∈ qs ∨ q = r) v _ r w (ressV_own hrow (by omega) hin) (by rw [List.length_map]; exact hl) ⟨hr, .inr rfl⟩ ?_
  intro bx ox n cap k q hv hk h2 h3
  rw [List.getElem?_map] at hk
  obtain ⟨q', hq', hx⟩ := Option.map_eq_some_iff.1 hk
  have := cellsQ_at hrow hv hq' hx h2 h3
  subst this
  exact .inl (List.mem_of_getElem? hq')
end Go.Proofs.YtfmcgdglalljgaaGreatDoor
