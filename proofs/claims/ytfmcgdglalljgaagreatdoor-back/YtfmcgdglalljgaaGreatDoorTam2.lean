/-
  IDs with one more, in their order.
-/
import Derived.Test.YtfmcgdglalljgaaGreatDoorJ13
import Derived.Test.YtfmcgdglalljgaaGreatDoorJ22
import Derived.Test.YtfmcgdglalljgaaGreatDoorJ12
import Derived.Deep.AppendLies
import Derived.Deep.RegionHeld3
namespace Go.Proofs.YtfmcgdglalljgaaGreatDoor
open Go.RowKit

attribute [local go_sem] Go.World.cell?_alloc_some
theorem idsV_own {B : Nat} {w : World} {v : Value} {l : List IDd} (h : w.ownsRow B 25 2 v l.length (cellsI l)) (hn : l.length ≤ 1000) (hok : ∀ x ∈ l, okI x) : IDsV w v l := by
  refine ⟨?_, by omega, hok⟩
  rcases h.2 with ⟨rfl, h0⟩ | ⟨g, cap, cur, rfl, _, hg, hc, hm, hs, ht⟩
  · exact ⟨none, 0, by rw [h0], by omega, by decide, .inl (List.eq_nil_of_length_eq_zero h0)⟩
  · unfold maxLen at hm
    refine ⟨some ⟨g, 0, none⟩, cap, rfl, hc, by omega, .inr ⟨g, 0, rfl, fun i x hx => ?_⟩⟩
    have hlt : i < l.length := (List.getElem?_eq_some_iff.1 hx).1
    have key : ∀ r, r < 2 → w.cell? ⟨g, 0 + i * 2 + r, none⟩ = (cI x)[r]? := fun r hr => by
      have h1 : (cellsI l)[i * 2 + r]? = (cI x)[r]? := flat_get cI_len hx hr
      rw [← h1, ← ht, List.getElem?_take, if_pos (by omega), Nat.zero_add]
      simp [World.cell?, hg]
    exact ⟨key 0 (by omega), key 1 (by omega)⟩
theorem notOwn {B : Nat} {w : World} {T : TypeId} {sz n : Nat} {v : Value} {xs : List Value} (h : w.ownsRow (B + 1) T sz v n xs) : ¬ some B = v.ownBlock := fun e => by have := (h.lt _ e.symm).1; omega
theorem rowMore {B n : Nat} {w : World} {v : Value} {cs : List IDd} {a : IDd} (h : w.ownsRow B 25 2 v n (cellsI cs ++ cI a)) : w.ownsRow B 25 2 v n (cellsI (cs ++ [a])) := by
  rw [show cellsI (cs ++ [a]) = cellsI cs ++ cI a by simp [cellsI]]; exact h
theorem laidGo_step (r x : IDd) (dn : Bool) (l : List IDd) : laidGo r dn (x :: l) = (if lessI r x = true ∧ dn = false then [r] else []) ++ (x :: laidGo r (dn || lessI r x) l) := rfl

set_option maxRecDepth 100000 in
set_option maxHeartbeats 3200000 in
theorem laidL (v : Value) (l : List IDd) (a : IDd) (w : World) (hv : IDsV w v l) (hl : l.length ≤ 6) (ha : okI a) :
    Calls Tryz.prog 22 #[v, .agg #[.string a.kind, .string a.name]] w fun e w' => ∃ pa cap, e = .returned (.slice pa (laidS l a).length cap) ∧ Hid (IDsV w' (.slice pa (laidS l a).length cap) (laidS l a)) ∧ Hid (Ext w w') ∧ Hid (¬ l.length = 6 → w'.ownsRow (w.heap.size + 1) 25 2 (.slice pa (laidS l a).length cap) (laidS l a).length (cellsI (laidS l a))) := by
  obtain ⟨pa, cap, rfl, c1, c2, hin⟩ := hv.shape
  obtain ⟨i0, hi0, hz0, hz1, hz2⟩ := info_of infoID
  have hokl := hide hv.ok
  have Bx0 := hide (heap_alloc_new w (.cells #[.string a.kind, .string a.name] 25))
  have X0 := hide ((Ext.refl w).alloc (.cells #[.string a.kind, .string a.name] 25))
  replace hv := hide hv; replace hin := hide hin; replace hi0 := hide hi0; replace ha := hide ha
  go_enter Tryz.func22, Tryz.ntmps22
  by_cases h6 : l.length = 6
  · have h6b : ((l.length : Int) == 6) = true := by simp [h6]
    have hs : Hid (laidS l a = l) := if_pos h6
    replace h6 := hide h6
    go_wp2_with fail
    go_ret
    exact ⟨pa, cap, by rw [hs.out]; rfl, by rw [hs.out]; exact hv.out.ext X0.out, X0, fun h => absurd h6.out h⟩
  · have h6b : ((l.length : Int) == 6) = false := by simp; omega
    have hs : Hid (laidS l a = laidGo a false l) := if_neg h6
    replace h6 := hide h6
    go_wp2_with fail
    go_loopw [5, 6, 7] (fun ov dv kv wr => ∃ (cs : List IDd) (po : Option Addr) (co k : Nat) (dn : Bool), ov = .slice po cs.length co ∧ dv = .bool dn ∧ kv = .int .i64 k ∧ k ≤ l.length ∧ cs.length ≤ k + 1 ∧ Hid (dn = false → cs.length ≤ k) ∧ Hid (cs ++ laidGo a dn (l.drop k) = laidGo a false l) ∧ Hid (∀ x ∈ cs, okI x) ∧ Hid (wr.ownsRow (w.heap.size + 1) 25 2 (.slice po cs.length co) cs.length (cellsI cs)) ∧ Hid (wr.heap[w.heap.size]? = some (.cells #[.string a.kind, .string a.name] 25 (0, 0))) ∧ Hid (Ext w wr)) (fun _ _ kv _ => l.length - (intOf kv).toNat)
    case atStart => exact ⟨[], none, 0, 0, false, rfl, rfl, rfl, Nat.zero_le _, by simp, fun _ => Nat.le_refl _, by simp [Hid], fun x hx => (by cases hx), World.ownsRow_nil _ _ _ _, Bx0, X0⟩
    case round =>
      obtain ⟨cs, po, co, k, dn, rfl, rfl, rfl, hk, hcs, hcs', hgo, hok, hrow, hbx, hX⟩ := hrel
      by_cases hlt : k < l.length
      · obtain ⟨x, hx⟩ := some_of_lt hlt
        rcases hin.out with hh | ⟨bx, ox, rfl, hxi⟩
        · rw [hh] at hlt; simp at hlt
        obtain ⟨p0, p1⟩ := hxi k x hx
        have P0 := hide p0; have P1 := hide p1
        replace p0 := hX.out.cells p0; replace p1 := hX.out.cells p1
        obtain ⟨q0, q1⟩ := twoAt hbx.out
        have k2 : (k : Int) < (l.length : Int) := by omega
        have k4 : (0 : Int) ≤ (k : Int) := by omega
        have hdrop : l.drop k = x :: l.drop (k + 1) := by
          obtain ⟨h1, h2⟩ := List.getElem?_eq_some_iff.1 hx
          rw [← h2]; exact List.drop_eq_getElem_cons h1
        rw [hdrop, laidGo_step] at hgo
        have hokx := hide (hokl.out x (List.mem_of_getElem? hx))
        replace hx := hide hx; replace hxi := hide hxi; replace hdrop := hide hdrop
        go_wp2_with fail
        go_region_held3 (fun w' => w'.cell? ⟨w.heap.size, 0, none⟩ = some (.string a.kind) ∧ w'.cell? ⟨w.heap.size, 1, none⟩ = some (.string a.name) ∧ w'.cell? ⟨bx, ox + k * 2, none⟩ = some (.string x.kind) ∧ w'.cell? ⟨bx, ox + k * 2 + 1, none⟩ = some (.string x.name)) (go_keep)
          ((go_at_call 48; refine (lessL a x _).mono ?_; rintro e3 w3 ⟨rfl, he3⟩; go_must (have E3 : Hid (Ext wr w3) := (Ext.refl wr).drew.trans he3; have B3 := hide (ext_at E3.out hbx.out); obtain ⟨y0, y1⟩ := twoAt B3.out; have y2 := E3.out.cells p0; have y3 := E3.out.cells p1; replace he3 := hide he3)))
        have X3 := hide (hX.out.trans E3.out)
        have R3 : Hid (w3.ownsRow (w.heap.size + 1) 25 2 (.slice po cs.length co) cs.length (cellsI cs)) := ownsRow_wrote hrow.out (Wrote.ext (B := 0) (T := fun _ => False) E3.out) id rfl
        have hs3 : Hid (w.heap.size + 1 ≤ w3.heap.size) := (Array.getElem?_eq_some_iff.1 B3.out).1
        clear p0 p1 q0 q1
        cases hb : lessI a x with
        | true =>
          cases dn with
          | false =>
            rw [hb] at hgo
            have hck : cs.length ≤ k := hcs'.out rfl
            replace hb := hide hb
            go_wp2_with (at_builtin; first
              | (have zz := R4; refine wpList_append_lies _ rfl (.tmp 34) (.tmp 39) 27 rfl (w.heap.size + 1) 25 i0 (.agg #[.string ⟨#[]⟩, .string ⟨#[]⟩]) 2 32 Tryz.underlying27 hi0.out hz0 hz1 hz2 rfl (by omega) _ (cs.length + 1) (cellsI (cs ++ [a])) rfl (R4.out.alloc _) ⟨w4.heap.size, 0, none⟩ 1 1 (cI x) rfl rfl ?_ (cI_one _) (by omega) (by unfold maxLen; omega) (by omega) (by have := hs4.out; simp; omega) (w4.heap.size + 1) (by simp) ?_; (intro j u hu; rw [add_eq]; (match j, hu with | 0, hu => (simp [cI] at hu; subst hu; simp [go_sem]) | 1, hu => (simp [cI] at hu; subst hu; simp [go_sem]) | _ + 2, hu => (simp [cI] at hu))); intro g5 c5 w5 hown5 hgrow5 hat_w5 hlt_w5)
              | (refine wpList_append_lies _ rfl (.tmp 30) (.tmp 32) 27 rfl (w.heap.size + 1) 25 i0 (.agg #[.string ⟨#[]⟩, .string ⟨#[]⟩]) 2 32 Tryz.underlying27 hi0.out hz0 hz1 hz2 rfl (by omega) _ cs.length (cellsI cs) rfl (R3.out.alloc _) ⟨w3.heap.size, 0, none⟩ 1 1 (cI a) rfl rfl ?_ (cI_one _) (by omega) (by unfold maxLen; omega) (by omega) (by have := hs3.out; simp; omega) (w3.heap.size + 1) (by simp) ?_; (intro j u hu; rw [add_eq]; (match j, hu with | 0, hu => (simp [cI] at hu; subst hu; simp [go_sem]) | 1, hu => (simp [cI] at hu; subst hu; simp [go_sem]) | _ + 2, hu => (simp [cI] at hu))); intro g4 c4 w4 hown4 hgrow4 hat_w4 hlt_w4; have W4 : Wrote (w.heap.size + 1) (· = 25) w3 w4 := (Wrote.refl (w.heap.size + 1) _ w3).grownAt R3.out rfl hgrow4; have X4 := hide (X3.out.wrote W4 (Nat.le_succ _)); have y4 := X4.out.cells P0.out; have y5 := X4.out.cells P1.out; have B4 := hide ((grown_kept hgrow4).heap B3.out (notOwn R3.out)); have R4 := hide (rowMore hown4); have hs4 : Hid (w.heap.size + 1 ≤ w4.heap.size) := (Array.getElem?_eq_some_iff.1 B4.out).1; replace W4 := hide W4; replace hown4 := hide hown4; replace hgrow4 := hide hgrow4; clear y0 y1 y2 y3))
            have W5 : Wrote (w.heap.size + 1) (· = 25) w4 w5 := (Wrote.refl (w.heap.size + 1) _ w4).grownAt R4.out rfl hgrow5
            have B5 := hide ((grown_kept hgrow5).heap B4.out (fun e => by have := (R4.out.lt _ e.symm).1; omega))
            go_roundw
            case rel =>
              have hl5 : (cs ++ [a] ++ [x]).length = cs.length + 1 + 1 := by simp
              refine ⟨cs ++ [a] ++ [x], some ⟨g5, 0, none⟩, c5, k + 1, true, by rw [hl5], rfl, by go_num, by omega, by rw [hl5]; omega, fun h => (by cases h), ?_, ?_, ?_, B5, X4.out.wrote W5 (Nat.le_succ _)⟩
              · show _ = _
                rw [← hgo.out]; simp
              · intro z hz
                rcases List.mem_append.1 hz with hz | hz
                · rcases List.mem_append.1 hz with hz | hz
                  · exact hok.out z hz
                  · obtain rfl : z = a := by simpa using hz
                    exact ha.out
                · obtain rfl : z = x := by simpa using hz
                  exact hokx.out
              · show World.ownsRow _ _ _ _ _ _ _
                rw [hl5, show cellsI (cs ++ [a] ++ [x]) = cellsI (cs ++ [a]) ++ cI x by simp [cellsI]]; exact hown5
            case measure => simp [intOf]; omega
          | true =>
            rw [hb] at hgo
            replace hb := hide hb
            go_wp2_with (at_builtin; go_loud (refine wpList_append_lies _ rfl (.tmp 34) (.tmp 39) 27 rfl (w.heap.size + 1) 25 i0 (.agg #[.string ⟨#[]⟩, .string ⟨#[]⟩]) 2 32 Tryz.underlying27 hi0.out hz0 hz1 hz2 rfl (by omega) _ cs.length (cellsI cs) rfl (R3.out.alloc _) ⟨w3.heap.size, 0, none⟩ 1 1 (cI x) rfl rfl ?_ (cI_one _) (by omega) (by unfold maxLen; omega) (by omega) (by have := hs3.out; simp; omega) (w3.heap.size + 1) (by simp) ?_; (intro j u hu; rw [add_eq]; (match j, hu with | 0, hu => (simp [cI] at hu; subst hu; simp [go_sem]) | 1, hu => (simp [cI] at hu; subst hu; simp [go_sem]) | _ + 2, hu => (simp [cI] at hu))); intro g5 c5 w5 hown5 hgrow5 hat_w5 hlt_w5))
            have W5 : Wrote (w.heap.size + 1) (· = 25) w3 w5 := (Wrote.refl (w.heap.size + 1) _ w3).grownAt R3.out rfl hgrow5
            have B5 := hide ((grown_kept hgrow5).heap B3.out (fun e => by have := (R3.out.lt _ e.symm).1; omega))
            go_roundw
            case rel =>
              have hl5 : (cs ++ [x]).length = cs.length + 1 := by simp
              refine ⟨cs ++ [x], some ⟨g5, 0, none⟩, c5, k + 1, true, by rw [hl5], rfl, by go_num, by omega, by rw [hl5]; omega, fun h => (by cases h), ?_, ?_, ?_, B5, X3.out.wrote W5 (Nat.le_succ _)⟩
              · show _ = _
                rw [← hgo.out]; simp
              · intro z hz
                rcases List.mem_append.1 hz with hz | hz
                · exact hok.out z hz
                · obtain rfl : z = x := by simpa using hz
                  exact hokx.out
              · show World.ownsRow _ _ _ _ _ _ _
                rw [hl5, show cellsI (cs ++ [x]) = cellsI cs ++ cI x by simp [cellsI]]; exact hown5
            case measure => simp [intOf]; omega
        | false =>
          rw [hb] at hgo
          replace hb := hide hb
          go_wp2_with (at_builtin; go_loud (refine wpList_append_lies _ rfl (.tmp 34) (.tmp 39) 27 rfl (w.heap.size + 1) 25 i0 (.agg #[.string ⟨#[]⟩, .string ⟨#[]⟩]) 2 32 Tryz.underlying27 hi0.out hz0 hz1 hz2 rfl (by omega) _ cs.length (cellsI cs) rfl (R3.out.alloc _) ⟨w3.heap.size, 0, none⟩ 1 1 (cI x) rfl rfl ?_ (cI_one _) (by omega) (by unfold maxLen; omega) (by omega) (by have := hs3.out; simp; omega) (w3.heap.size + 1) (by simp) ?_; (intro j u hu; rw [add_eq]; (match j, hu with | 0, hu => (simp [cI] at hu; subst hu; simp [go_sem]) | 1, hu => (simp [cI] at hu; subst hu; simp [go_sem]) | _ + 2, hu => (simp [cI] at hu))); intro g5 c5 w5 hown5 hgrow5 hat_w5 hlt_w5))
          have W5 : Wrote (w.heap.size + 1) (· = 25) w3 w5 := (Wrote.refl (w.heap.size + 1) _ w3).grownAt R3.out rfl hgrow5
          have B5 := hide ((grown_kept hgrow5).heap B3.out (fun e => by have := (R3.out.lt _ e.symm).1; omega))
          go_roundw
          case rel =>
            have hl5 : (cs ++ [x]).length = cs.length + 1 := by simp
            refine ⟨cs ++ [x], some ⟨g5, 0, none⟩, c5, k + 1, dn, by rw [hl5], rfl, by go_num, by omega, by rw [hl5]; omega, fun h => (by have := hcs'.out h; rw [hl5]; omega), ?_, ?_, ?_, B5, X3.out.wrote W5 (Nat.le_succ _)⟩
            · show _ = _
              rw [← hgo.out]; simp
            · intro z hz
              rcases List.mem_append.1 hz with hz | hz
              · exact hok.out z hz
              · obtain rfl : z = x := by simpa using hz
                exact hokx.out
            · show World.ownsRow _ _ _ _ _ _ _
              rw [hl5, show cellsI (cs ++ [x]) = cellsI cs ++ cI x by simp [cellsI]]; exact hown5
          case measure => simp [intOf]; omega
      · obtain rfl : k = l.length := by omega
        have hfin : Hid (cs ++ (if dn = true then [] else [a]) = laidS l a) := by
          show _ = _
          rw [hs.out, ← hgo.out, List.drop_length]; rfl
        cases dn with
        | true =>
          have hc : Hid (cs = laidS l a) := by show _ = _; have := hfin.out; simpa using this
          go_wp2_with fail
          go_ret
          refine ⟨po, co, by rw [← hc.out]; rfl, ?_, hX, fun _ => ?_⟩
          · rw [← hc.out]
            exact idsV_own (B := w.heap.size + 1) hrow.out (by omega) hok.out
          · rw [← hc.out]; exact hrow.out
        | false =>
          have hc : Hid (cs ++ [a] = laidS l a) := by show _ = _; have := hfin.out; simpa using this
          obtain ⟨q0, q1⟩ := twoAt hbx.out
          have hs3 : Hid (w.heap.size + 1 ≤ wr.heap.size) := (Array.getElem?_eq_some_iff.1 hbx.out).1
          go_wp2_with (at_builtin; go_loud (refine wpList_append_lies _ rfl (.tmp 43) (.tmp 45) 27 rfl (w.heap.size + 1) 25 i0 (.agg #[.string ⟨#[]⟩, .string ⟨#[]⟩]) 2 32 Tryz.underlying27 hi0.out hz0 hz1 hz2 rfl (by omega) _ cs.length (cellsI cs) rfl (hrow.out.alloc _) ⟨wr.heap.size, 0, none⟩ 1 1 (cI a) rfl rfl ?_ (cI_one _) (by omega) (by unfold maxLen; omega) (by omega) (by have := hs3.out; simp; omega) (wr.heap.size + 1) (by simp) ?_; (intro j u hu; rw [add_eq]; (match j, hu with | 0, hu => (simp [cI] at hu; subst hu; simp [go_sem]) | 1, hu => (simp [cI] at hu; subst hu; simp [go_sem]) | _ + 2, hu => (simp [cI] at hu))); intro g5 c5 w5 hown5 hgrow5 hat_w5 hlt_w5))
          have W5 : Wrote (w.heap.size + 1) (· = 25) wr w5 := (Wrote.refl (w.heap.size + 1) _ wr).grownAt hrow.out rfl hgrow5
          go_ret
          have hl5 : (cs ++ [a]).length = cs.length + 1 := by simp
          have ho5 : w5.ownsRow (w.heap.size + 1) 25 2 (.slice (some ⟨g5, 0, none⟩) (cs ++ [a]).length c5) (cs ++ [a]).length (cellsI (cs ++ [a])) := by
            rw [hl5, show cellsI (cs ++ [a]) = cellsI cs ++ cI a by simp [cellsI]]; exact hown5
          refine ⟨some ⟨g5, 0, none⟩, c5, by rw [← hc.out, hl5]; rfl, ?_, hX.out.wrote W5 (Nat.le_succ _), fun _ => by rw [← hc.out]; exact ho5⟩
          rw [← hc.out]
          refine idsV_own (B := w.heap.size + 1) ho5 (by rw [hl5]; omega) ?_
          intro z hz
          rcases List.mem_append.1 hz with hz | hz
          · exact hok.out z hz
          · obtain rfl : z = a := by simpa using hz
            exact ha.out
end Go.Proofs.YtfmcgdglalljgaaGreatDoor
