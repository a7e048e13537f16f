/-
  The document's circles: who waits for itself.
-/
/-
  The document's Whole.
-/
import Derived.Test.YtodhhjlemmmjcaaGreatJ5
import Derived.Test.YtodhhjlemmmjcaaGreatJ6
import Derived.Deep.OwnRows
namespace Go.Proofs.YtodhhjlemmmjcaaGreat
open Go.RowKit

def rowB (w : World) (b : Nat) (r : List Bool) : Prop := w.rowIs b 4 r.length (fun j => .bool (r.getD j false))
theorem rowB.cell {w : World} {b : Nat} {r : List Bool} (h : rowB w b r) {i : Nat} {q : Bool} (hi : r[i]? = some q) : w.cell? ⟨b, i, none⟩ = some (.bool q) := by
  rw [World.rowIs.cell h (List.getElem?_eq_some_iff.1 hi).1, List.getD_eq_getElem?_getD, hi]; rfl
theorem rowB.set {w : World} {b : Nat} {r : List Bool} (h : rowB w b r) (i : Nat) (q : Bool) : rowB (w.setCell ⟨b, i, none⟩ (.bool q)) b (r.set i q) := by
  have := World.rowIs.set h i (.bool q)
  unfold rowB
  rw [List.length_set]
  refine World.rowIs.congr this fun j hj => ?_
  simp only [List.getD_eq_getElem?_getD, List.getElem?_set]
  split
  · rename_i e; subst e; simp [hj]
  · rename_i e; rw [if_neg (fun e' => e e'.symm)]
theorem rowB.ext {w w' : World} {b : Nat} {r : List Bool} (h : rowB w b r) (e : Ext w w') : rowB w' b r := World.rowIs.of_block h (Below.block e b (World.rowIs.lt h))
theorem make_bools (n : Nat) (hn : n ≤ 2000000) : ∀ w : World, (Instr.makeSlice 49 (.int .i64 (n : Int)) (.int .i64 (n : Int))).run Tryz.prog w = .ok (.slice (some ⟨w.heap.size, 0, none⟩) n n) (w.alloc (.cells (madeCells #[.bool false] n) 4)) := by
  intro w
  have infoB : (Tryz.prog.info? 4).map (fun i => (i.zero, i.size, i.bytes)) = some (some (.bool false), 1, 1) := by kernel_rfl
  obtain ⟨i, hi, z0, z1, z2⟩ : ∃ i, Tryz.prog.info? 4 = some i ∧ i.zero = some (.bool false) ∧ i.size = 1 ∧ i.bytes = 1 := by
    cases hi : Tryz.prog.info? 4 with
    | none => rw [hi] at infoB; cases infoB
    | some i => rw [hi] at infoB; simp at infoB; exact ⟨i, rfl, infoB.1, infoB.2.1, infoB.2.2⟩
  have := run_make (P := Tryz.prog) w 49 4 i (.bool false) Tryz.underlying49 hi z0 .i64 .i64 (n : Int) (n : Int) (by omega) (by omega) (by rw [z2]; omega) (by omega)
  rw [this, show ((n : Int)).toNat = n by omega, z1, Nat.mul_one]; rfl
theorem rowB_made (w : World) (n : Nat) : rowB (w.alloc (.cells (madeCells #[.bool false] n) 4)) w.heap.size (List.replicate n false) := by
  unfold rowB
  rw [List.length_replicate]
  refine World.rowIs.congr (World.rowIs_made w (.bool false) n 4) fun j hj => ?_
  simp [List.getD_eq_getElem?_getD, hj]

def InC (w : World) (i Rb : Nat) (q : List Bool) (wr : World) (r : List Bool) (qi : Bool) : Prop := rowB wr w.heap.size (q.set i qi) ∧ rowB wr Rb r ∧ Ext w wr
theorem InC.ext {w wr wr' : World} {i Rb : Nat} {q r : List Bool} {qi : Bool} (h : InC w i Rb q wr r qi) (e : Ext wr wr') : InC w i Rb q wr' r qi := ⟨h.1.ext e, h.2.1.ext e, h.2.2.trans e⟩
theorem InC.mark {w wr : World} {i Rb : Nat} {q r : List Bool} {qi : Bool} (h : InC w i Rb q wr r qi) (hlt : w.heap.size < Rb) (b : Bool) (j : Nat) : InC w i Rb q ((wr.setCell ⟨w.heap.size, i, none⟩ (.bool b)).setCell ⟨Rb, j, none⟩ (.bool true)) (r.set j true) b := by
  obtain ⟨h1, h2, h3⟩ := h
  have k1 := h1.set i b
  rw [List.set_set] at k1
  have k2 : rowB (wr.setCell ⟨w.heap.size, i, none⟩ (.bool b)) Rb r := World.rowIs.setOther h2 (show Rb ≠ w.heap.size by omega) _
  refine ⟨World.rowIs.setOther k1 (show w.heap.size ≠ Rb by omega) _, k2.set j true, ?_⟩
  have e1 : Ext w (wr.setCell ⟨w.heap.size, i, none⟩ (.bool b)) := h3.since (kept_setCell wr _ _) (fun j hj => by subst hj; exact Nat.le_refl _)
  exact e1.since (kept_setCell _ _ _) (fun j hj => by subst hj; exact Nat.le_of_lt hlt)
theorem set_same {q : List Bool} {i : Nat} {b : Bool} (h : q[i]? = some b) : q.set i b = q := by
  obtain ⟨hj, h⟩ := List.getElem?_eq_some_iff.1 h
  rw [← h]; exact List.set_getElem_self hj
theorem Rounds.begin {l : List Resd} {i : Nat} (hi : i < l.length) : Rounds l i 0 ((List.replicate l.length false).set i true) false := by
  refine ⟨by simp, by simp [hi], fun k hk => ?_, fun h => (by cases h), .inr ?_⟩
  · rw [List.getElem?_set] at hk
    split at hk
    · rename_i e; subst e; exact .here
    · simp [List.getElem?_replicate] at hk
  · rw [marks_set (by simp [hi])]; omega

set_option maxRecDepth 100000 in
set_option maxHeartbeats 3200000 in
theorem refCircles (v : Value) (l : List Resd) (w : World) (hv : RessV w v l) (hn : l.length ≤ 1000) :
    Calls Tryz.prog 35 #[v] w fun e w' => ∃ q : List Bool, e = .returned (.slice (some ⟨w.heap.size, 0, none⟩) l.length l.length) ∧ q.length = l.length ∧ (∀ i : Nat, i < l.length → (q[i]? = some true ↔ Circ l i)) ∧ rowB w' w.heap.size q ∧ Ext w w' := by
  obtain ⟨pa, cap, rfl, hc1, hc2, hin⟩ := hv.shape
  have hmk := make_bools l.length (by omega)
  replace hin := hide hin; replace hv := hide hv
  go_enter Tryz.func35, Tryz.ntmps35
  go_wp2_with fail
  go_loopw [4] (fun iv wr => ∃ (i : Nat) (q : List Bool), i ≤ l.length ∧ iv = .int .i64 i ∧ Hid (q.length = l.length ∧ (∀ a : Nat, a < i → (q[a]? = some true ↔ Circ l a)) ∧ (∀ a : Nat, i ≤ a → a < l.length → q[a]? = some false)) ∧ Hid (rowB wr w.heap.size q) ∧ Hid (Ext w wr)) (fun iv _ => l.length - (intOf iv).toNat)
  case atStart => exact ⟨0, List.replicate l.length false, Nat.zero_le _, rfl, ⟨by simp, fun a h => by omega, fun a _ h => by simp [h]⟩, rowB_made w _, (Ext.refl _).alloc _⟩
  case round =>
    obtain ⟨i, q, hi, rfl, hq, hQ, hx⟩ := hrel
    by_cases hlt : i < l.length
    · have i2 : (i : Int) < (l.length : Int) := by omega
      have i4 : (0 : Int) ≤ (i : Int) := by omega
      obtain ⟨wo, rfl⟩ : ∃ wo : World, wo = wr := ⟨_, rfl⟩
      have hR0 := rowB_made wo l.length
      have c0 := hR0.cell (i := i) (q := false) (by simp [hlt])
      have f0 := World.rowIs.frozen hR0 i
      replace hR0 := hide hR0
      go_wp2_with fail
      have hsz := hide hx.out.size
      have hOb : w.heap.size < wo.heap.size := World.rowIs.lt hQ.out
      have hI0 : Hid (InC w i wo.heap.size q ((wo.alloc (.cells (madeCells #[.bool false] l.length) 4)).setCell ⟨wo.heap.size, i, none⟩ (.bool true)) ((List.replicate l.length false).set i true) false) := by
        refine ⟨?_, hR0.out.set i true, ?_⟩
        · rw [set_same (hq.out.2.2 i (Nat.le_refl _) hlt)]
          exact World.rowIs.setOther (World.rowIs.alloc hQ.out _) (show w.heap.size ≠ wo.heap.size by omega) _
        · exact (hx.out.trans ((Ext.refl wo).alloc _)).since (kept_setCell _ _ _) (fun j hj => by subst hj; exact Nat.le_of_lt hOb)
      have hE : (wo.alloc (.cells (madeCells #[.bool false] l.length) 4)).setCell ⟨wo.heap.size, i, none⟩ (.bool true) = wo.alloc (.cells ((madeCells #[.bool false] l.length).setIfInBounds i (.bool true)) 4) := by simp [go_sem]
      rw [hE] at hI0
      clear c0 f0 hR0 hE
      replace hOb := hide hOb
      go_loopw [6] (fun nv wr => ∃ (n : Nat) (r : List Bool) (qi : Bool), n ≤ l.length + 1 ∧ nv = .int .i64 n ∧ Hid (Rounds l i n r qi) ∧ Hid (InC w i wo.heap.size q wr r qi)) (fun nv _ => l.length + 1 - (intOf nv).toNat)
      case atStart => exact ⟨0, _, false, by omega, rfl, Rounds.begin hlt, hI0⟩
      case round =>
        obtain ⟨n, r, qi, hn1, rfl, hr, hI⟩ := hrel
        by_cases hltn : n ≤ l.length
        · have n2 : (n : Int) ≤ (l.length : Int) := by omega
          obtain ⟨wn, rfl⟩ : ∃ wn : World, wn = wr := ⟨_, rfl⟩
          go_wp2_with fail
          go_loopw [7] (fun kv wr => ∃ (k : Nat) (r' : List Bool) (q' : Bool), k ≤ l.length ∧ kv = .int .i64 k ∧ Hid (MoreM r r' ∧ (∀ a : Nat, r'[a]? = some true → Comes l i a) ∧ (q' = true → Circ l i) ∧ (∀ a j : Nat, a < k → r[a]? = some true → Edge l a j → r'[j]? = some true ∧ (j = i → q' = true))) ∧ Hid (InC w i wo.heap.size q wr r' q')) (fun kv _ => l.length - (intOf kv).toNat)
          case atStart => exact ⟨0, r, qi, Nat.zero_le _, rfl, ⟨MoreM.refl _, hr.out.sound, hr.out.told, fun _ _ h => absurd h (by omega)⟩, hI⟩
          case round =>
            obtain ⟨k, r', q', hk1, rfl, hr', hI'⟩ := hrel
            by_cases hltk : k < l.length
            · have k2 : (k : Int) < (l.length : Int) := by omega
              have k4 : (0 : Int) ≤ (k : Int) := by omega
              obtain ⟨wk, rfl⟩ : ∃ wk : World, wk = wr := ⟨_, rfl⟩
              obtain ⟨x, hxk⟩ := some_of_lt hltk
              rcases hin.out with h | ⟨b, off, rfl, hres⟩
              · rw [h] at hltk; simp at hltk
              obtain ⟨-, -, c2, c3, -, g3, hR⟩ := hres k x hxk
              obtain ⟨p3, t3, rfl, d1, d2, hids⟩ := hR.after.shape
              have G3 := hide g3
              have nF := hR.after.few
              replace hres := hide hres; replace hR := hide hR; replace hids := hide hids; replace hxk := hide hxk
              clear g3
              go_wp2_with fail
              go_loopw [8] (fun mv wr => ∃ (m : Nat) (r2 : List Bool) (q2 : Bool), m ≤ x.after.length ∧ mv = .int .i64 m ∧ Hid (MoreM r' r2 ∧ (q' = true → q2 = true) ∧ (∀ a : Nat, r2[a]? = some true → Comes l i a) ∧ (q2 = true → Circ l i) ∧ (∀ (t j : Nat) (a : IDd), t < m → x.after[t]? = some a → placeL l a = some j → r2[j]? = some true ∧ (j = i → q2 = true))) ∧ Hid (InC w i wo.heap.size q wr r2 q2)) (fun mv _ => x.after.length - (intOf mv).toNat)
              case atStart => exact ⟨0, r', q', Nat.zero_le _, rfl, ⟨MoreM.refl _, id, hr'.out.2.1, hr'.out.2.2.1, fun _ _ _ h => absurd h (by omega)⟩, hI'⟩
              case round =>
                obtain ⟨m, r2, q2, hm1, rfl, hr2, hI2⟩ := hrel
                have hlen2 : r2.length = l.length := hr2.out.1.1.trans (hr'.out.1.1.trans hr.out.len)
                obtain ⟨rk, hrk⟩ : ∃ rk, r2[k]? = some rk := ⟨_, List.getElem?_eq_getElem (by omega)⟩
                have ck := hI2.out.2.1.cell hrk
                have g3 := hI2.out.2.2.cells G3.out
                cases rk
                · replace hrk := hide hrk
                  go_wp2_with fail
                  go_roundw
                  case rel =>
                    obtain ⟨a1, a2, a3, a4⟩ := hr'.out
                    obtain ⟨b1, b2, b3, b4, b5⟩ := hr2.out
                    refine ⟨k + 1, r2, q2, by omega, by go_num, ⟨a1.trans b1, b3, b4, fun a j ha hra he => ?_⟩, hI2⟩
                    by_cases hak : a = k
                    · subst hak
                      have := (a1.trans b1).2 a hra
                      rw [hrk.out] at this; cases this
                    · obtain ⟨h1, h2⟩ := a4 a j (by omega) hra he
                      exact ⟨b1.2 j h1, fun e => b2 (h2 e)⟩
                  case measure => simp [intOf]; omega
                · by_cases hltm : m < x.after.length
                  · obtain ⟨a, ham⟩ := some_of_lt hltm
                    rcases hids.out with h | ⟨b3, off3, rfl, hids3⟩
                    · rw [h] at hltm; simp at hltm
                    obtain ⟨e0, e1⟩ := hids3 m a ham
                    replace e0 := hI2.out.2.2.cells e0
                    replace e1 := hI2.out.2.2.cells e1
                    have m2 : (m : Int) < (x.after.length : Int) := by omega
                    have m4 : (0 : Int) ≤ (m : Int) := by omega
                    replace hrk := hide hrk; replace ham := hide ham; replace hids3 := hide hids3
                    go_wp2_with fail
                    refine (refFind _ l a _ (hv.out.ext hI2.out.2.2)).mono ?_
                    rintro e w1 ⟨rfl, he1⟩
                    have hI3 := hide (hI2.out.ext he1)
                    clear he1 ck g3 e0 e1
                    cases hpl : placeL l a with
                    | none =>
                      have hpi : placeI l a = -1 := by unfold placeI; rw [hpl]
                      rw [hpi]
                      replace hpl := hide hpl; replace hpi := hide hpi
                      go_wp2_with fail
                      go_roundw
                      case rel =>
                        obtain ⟨b1, b2, b3, b4, b5⟩ := hr2.out
                        refine ⟨m + 1, r2, q2, by omega, by go_num, ⟨b1, b2, b3, b4, fun t j c ht hc hp => ?_⟩, hI3⟩
                        by_cases htm : t = m
                        · subst htm
                          obtain rfl : a = c := by simpa using ham.out.symm.trans hc
                          rw [hpl.out] at hp; cases hp
                        · exact b5 t j c (by omega) hc hp
                      case measure => simp [intOf]; omega
                    | some j =>
                      have hpi : placeI l a = (j : Int) := by unfold placeI; rw [hpl]
                      rw [hpi]
                      have hjl : j < l.length := place_lt hpl
                      have hedge : Hid (Edge l k j) := ⟨x, a, hxk.out, List.mem_of_getElem? ham.out, hpl⟩
                      have hck : Hid (Comes l i k) := hr2.out.2.2.1 k hrk.out
                      obtain ⟨rj, hrj⟩ : ∃ rj, r2[j]? = some rj := ⟨_, List.getElem?_eq_getElem (by omega)⟩
                      have cO := hI3.out.1.cell (i := i) (q := q2) (by rw [List.getElem?_set, if_pos rfl, if_pos (by rw [hq.out.1]; exact hlt)])
                      have cR := hI3.out.2.1.cell hrj
                      have fO := World.rowIs.frozen hI3.out.1 i
                      have fR := World.rowIs.frozen hI3.out.2.1 j
                      have ne1 : ¬ w.heap.size = wo.heap.size := by have := hOb.out; omega
                      have ne2 : ¬ wo.heap.size = w.heap.size := by have := hOb.out; omega
                      have j2 : (j : Int) < (l.length : Int) := by omega
                      have j4 : (0 : Int) ≤ (j : Int) := by omega
                      have j5 : ¬ (j : Int) < 0 := by omega
                      have fin : ∀ b : Bool, (q2 = true → b = true) → (j = i → b = true) → (b = true → q2 = true ∨ j = i) → Hid (MoreM r' (r2.set j true) ∧ (q' = true → b = true) ∧ (∀ a : Nat, (r2.set j true)[a]? = some true → Comes l i a) ∧ (b = true → Circ l i) ∧ (∀ (t j' : Nat) (a : IDd), t < m + 1 → x.after[t]? = some a → placeL l a = some j' → (r2.set j true)[j']? = some true ∧ (j' = i → b = true))) := by
                        intro b h1 h2 h3
                        obtain ⟨b1, b2, b3, b4, b5⟩ := hr2.out
                        refine ⟨b1.trans (MoreM.set _ _), fun h => h1 (b2 h), fun c hc => ?_, fun h => ?_, fun t j' c ht hc hp => ?_⟩
                        · rw [List.getElem?_set] at hc
                          split at hc
                          · rename_i e; subst e; exact hck.out.step hedge.out
                          · exact b3 c hc
                        · rcases h3 h with h | h
                          · exact b4 h
                          · subst h; exact ⟨k, hck.out, hedge.out⟩
                        · by_cases htm : t = m
                          · subst htm
                            obtain rfl : a = c := by simpa using ham.out.symm.trans hc
                            obtain rfl : j = j' := by simpa using hpl.symm.trans hp
                            exact ⟨by rw [List.getElem?_set, if_pos rfl, if_pos (by omega)], h2⟩
                          · obtain ⟨h4, h5⟩ := b5 t j' c (by omega) hc hp
                            exact ⟨(MoreM.set r2 j).2 j' h4, fun e => h1 (h5 e)⟩
                      replace fin := hide fin; replace hpl := hide hpl; replace hpi := hide hpi; replace hrj := hide hrj
                      cases q2
                      · by_cases hji : j = i
                        · obtain rfl := hji
                          go_wp2_with fail
                          go_roundw
                          case rel => exact ⟨m + 1, r2.set j true, true, by omega, by go_num, fin.out true (fun _ => rfl) (fun _ => rfl) (fun _ => .inr (by trivial)), hI3.out.mark hOb.out true j⟩
                          case measure => simp [intOf]; omega
                        · have ji : ((j : Int) == (i : Int)) = false := by simpa using (by omega : ¬ (j : Int) = (i : Int))
                          have ji2 : ¬ (j : Int) = (i : Int) := by omega
                          go_wp2_with fail
                          go_roundw
                          case rel => exact ⟨m + 1, r2.set j true, false, by omega, by go_num, fin.out false (fun h => by cases h) (fun h => absurd h hji) (fun h => by cases h), hI3.out.mark hOb.out false j⟩
                          case measure => simp [intOf]; omega
                      · go_wp2_with fail
                        go_roundw
                        case rel => exact ⟨m + 1, r2.set j true, true, by omega, by go_num, fin.out true (fun _ => rfl) (fun _ => rfl) (fun _ => .inl (by trivial)), hI3.out.mark hOb.out true j⟩
                        case measure => simp [intOf]; omega
                  · obtain rfl : m = x.after.length := by omega
                    replace hrk := hide hrk
                    go_wp2_with fail
                    go_roundw
                    case rel =>
                      obtain ⟨a1, a2, a3, a4⟩ := hr'.out
                      obtain ⟨b1, b2, b3, b4, b5⟩ := hr2.out
                      refine ⟨k + 1, r2, q2, by omega, by go_num, ⟨a1.trans b1, b3, b4, fun a j ha hra he => ?_⟩, hI2⟩
                      by_cases hak : a = k
                      · subst hak
                        obtain ⟨y, c, hy, hc, hp⟩ := he
                        obtain rfl : x = y := by simpa using hxk.out.symm.trans hy
                        obtain ⟨t, ht, rfl⟩ := List.getElem_of_mem hc
                        exact b5 t j _ ht (List.getElem?_eq_getElem ht) hp
                      · obtain ⟨h1, h2⟩ := a4 a j (by omega) hra he
                        exact ⟨b1.2 j h1, fun e => b2 (h2 e)⟩
                    case measure => simp [intOf]; omega
            · obtain rfl : k = l.length := by omega
              go_wp2_with fail
              go_roundw
              case rel =>
                obtain ⟨a1, a2, a3, a4⟩ := hr'.out
                exact ⟨n + 1, r', q', by omega, by go_num, hr.out.step a1 a2 a3 (fun a j ha he => a4 a j (edge_lt' he) ha he), hI'⟩
              case measure => simp [intOf]; omega
        · obtain rfl : n = l.length + 1 := by omega
          have n3 : ¬ ((l.length + 1 : Nat) : Int) ≤ (l.length : Int) := by omega
          go_wp2_with fail
          go_roundw
          case rel =>
            refine ⟨i + 1, q.set i qi, by omega, by go_num, ⟨by rw [List.length_set]; exact hq.out.1, fun a ha => ?_, fun a ha hl => ?_⟩, hI.out.1, hI.out.2.2⟩
            · rw [List.getElem?_set]
              by_cases hai : i = a
              · subst hai
                rw [if_pos rfl, if_pos (by rw [hq.out.1]; exact hlt), ← hr.out.done]; simp
              · rw [if_neg hai]; exact hq.out.2.1 a (by omega)
            · rw [List.getElem?_set, if_neg (by omega)]; exact hq.out.2.2 a (by omega) hl
          case measure => simp [intOf]; omega
    · obtain rfl : i = l.length := by omega
      go_wp2_with fail
      go_ret
      exact ⟨q, rfl, hq.out.1, fun a ha => hq.out.2.1 a ha, hQ.out, hx.out⟩
end Go.Proofs.YtodhhjlemmmjcaaGreat

namespace Go.Proofs.YtodhhjlemmmjcaaGreat
open Go.RowKit

/-- What is waited for is there, and nobody waits for itself. -/
def WholeP (l : List Resd) : Prop := (∀ (i : Nat) x, l[i]? = some x → ∀ (k : Nat) a, x.after[k]? = some a → ∃ j, placeL l a = some j) ∧ ∀ i, i < l.length → ¬ Circ l i

set_option maxRecDepth 100000 in
set_option maxHeartbeats 3200000 in
theorem refWhole (v : Value) (l : List Resd) (w : World) (hv : RessV w v l) (hn : l.length ≤ 1000) :
    Calls Tryz.prog 12 #[v] w fun e w' => ∃ b : Bool, e = .returned (.bool b) ∧ (b = true ↔ WholeP l) ∧ Ext w w' := by
  obtain ⟨pa, cap, rfl, hc1, hc2, hin⟩ := hv.shape
  replace hin := hide hin; replace hv := hide hv
  go_enter Tryz.func12, Tryz.ntmps12
  go_wp2_with fail
  go_loopw [3] (fun iv wr => ∃ i : Nat, i ≤ l.length ∧ iv = .int .i64 i ∧ Hid (∀ (t : Nat) x, t < i → l[t]? = some x → ∀ (k : Nat) a, x.after[k]? = some a → ∃ j, placeL l a = some j) ∧ Hid (Ext w wr)) (fun iv _ => l.length - (intOf iv).toNat)
  case atStart => exact ⟨0, Nat.zero_le _, rfl, fun _ _ h => absurd h (by omega), Ext.refl _⟩
  case round =>
    obtain ⟨i, hi, rfl, hall, hx⟩ := hrel
    by_cases hlt : i < l.length
    · have i2 : (i : Int) < (l.length : Int) := by omega
      have i4 : (0 : Int) ≤ (i : Int) := by omega
      obtain ⟨wo, rfl⟩ : ∃ wo : World, wo = wr := ⟨_, rfl⟩
      obtain ⟨x, hxk⟩ := some_of_lt hlt
      rcases hin.out with h | ⟨b, off, rfl, hres⟩
      · rw [h] at hlt; simp at hlt
      obtain ⟨-, -, c2, c3, -, g3, hR⟩ := hres i x hxk
      obtain ⟨p3, t3, rfl, d1, d2, hids⟩ := hR.after.shape
      have G3 := hide g3
      have nF := hR.after.few
      replace hres := hide hres; replace hR := hide hR; replace hids := hide hids; replace hxk := hide hxk
      clear g3
      go_wp2_with fail
      go_loopw [4] (fun kv wr => ∃ k : Nat, k ≤ x.after.length ∧ kv = .int .i64 k ∧ Hid (∀ (t : Nat) a, t < k → x.after[t]? = some a → ∃ j, placeL l a = some j) ∧ Hid (Ext w wr)) (fun kv _ => x.after.length - (intOf kv).toNat)
      case atStart => exact ⟨0, Nat.zero_le _, rfl, fun _ _ h => absurd h (by omega), hx⟩
      case round =>
        obtain ⟨k, hk1, rfl, hin2, hx2⟩ := hrel
        have g3 := hx2.out.cells G3.out
        by_cases hltm : k < x.after.length
        · obtain ⟨a, ham⟩ := some_of_lt hltm
          rcases hids.out with h | ⟨b3, off3, rfl, hids3⟩
          · rw [h] at hltm; simp at hltm
          obtain ⟨e0, e1⟩ := hids3 k a ham
          replace e0 := hx2.out.cells e0
          replace e1 := hx2.out.cells e1
          have m2 : (k : Int) < (x.after.length : Int) := by omega
          have m4 : (0 : Int) ≤ (k : Int) := by omega
          replace ham := hide ham; replace hids3 := hide hids3
          go_wp2_with fail
          refine (refFind _ l a _ (hv.out.ext hx2.out)).mono ?_
          rintro e w1 ⟨rfl, he1⟩
          have X1 := hide (hx2.out.trans he1)
          clear he1 g3 e0 e1
          cases hpl : placeL l a with
          | none =>
            have hpi : placeI l a = -1 := by unfold placeI; rw [hpl]
            rw [hpi]
            replace hpl := hide hpl; replace hpi := hide hpi
            go_wp2_with fail
            go_ret
            refine ⟨false, rfl, ⟨fun h => (by cases h), fun h => ?_⟩, X1.out⟩
            obtain ⟨j, hj⟩ := h.1 i x hxk.out k a ham.out
            rw [hpl.out] at hj; cases hj
          | some j =>
            have hpi : placeI l a = (j : Int) := by unfold placeI; rw [hpl]
            rw [hpi]
            have j5 : ¬ (j : Int) < 0 := by omega
            replace hpl := hide hpl; replace hpi := hide hpi
            go_wp2_with fail
            go_roundw
            case rel =>
              refine ⟨k + 1, by omega, by go_num, fun t c ht hc => ?_, X1⟩
              by_cases htm : t = k
              · subst htm
                obtain rfl : a = c := by simpa using ham.out.symm.trans hc
                exact ⟨j, hpl.out⟩
              · exact hin2.out t c (by omega) hc
            case measure => simp [intOf]; omega
        · obtain rfl : k = x.after.length := by omega
          go_wp2_with fail
          go_roundw
          case rel =>
            refine ⟨i + 1, by omega, by go_num, fun t y ht hy k a ha => ?_, hx2⟩
            by_cases hti : t = i
            · subst hti
              obtain rfl : x = y := by simpa using hxk.out.symm.trans hy
              exact hin2.out k a (List.getElem?_eq_some_iff.1 ha).1 ha
            · exact hall.out t y (by omega) hy k a ha
          case measure => simp [intOf]; omega
    · obtain rfl : i = l.length := by omega
      go_wp2_with fail
      refine (refCircles _ l _ (hv.out.ext hx.out) hn).mono ?_
      rintro e w1 ⟨q, rfl, hq1, hq2, hq3, he1⟩
      have X1 := hide (hx.out.trans he1)
      clear he1
      replace hq1 := hide hq1; replace hq2 := hide hq2; replace hq3 := hide hq3
      go_wp2_with fail
      obtain ⟨wa, rfl⟩ : ∃ wa : World, wa = wr := ⟨_, rfl⟩
      go_loopw [6] (fun iv w2 => ∃ i : Nat, i ≤ l.length ∧ iv = .int .i64 i ∧ Hid (∀ t : Nat, t < i → ¬ Circ l t) ∧ w2 = w1) (fun iv _ => l.length - (intOf iv).toNat)
      case atStart => exact ⟨0, Nat.zero_le _, rfl, fun _ h => absurd h (by omega), rfl⟩
      case round =>
        obtain ⟨i, hi2, rfl, hno, rfl⟩ := hrel
        by_cases hlt2 : i < l.length
        · obtain ⟨b, hb⟩ : ∃ b, q[i]? = some b := ⟨_, List.getElem?_eq_getElem (by have := hq1.out; omega)⟩
          have cq := hq3.out.cell hb
          have i2 : (i : Int) < (l.length : Int) := by omega
          have i4 : (0 : Int) ≤ (i : Int) := by omega
          replace hb := hide hb
          cases b
          · go_wp2_with fail
            go_roundw
            case rel =>
              refine ⟨i + 1, by omega, by go_num, fun t ht => ?_, trivial⟩
              by_cases hti : t = i
              · subst hti
                intro hc
                have := (hq2.out t hlt2).2 hc
                rw [hb.out] at this; cases this
              · exact hno.out t (by omega)
            case measure => simp [intOf]; omega
          · go_wp2_with fail
            go_ret
            exact ⟨false, rfl, ⟨fun h => (by cases h), fun h => absurd ((hq2.out i hlt2).1 hb.out) (h.2 i hlt2)⟩, X1.out⟩
        · obtain rfl : i = l.length := by omega
          go_wp2_with fail
          go_ret
          exact ⟨true, rfl, ⟨fun _ => ⟨fun t x hx => hall.out t x (List.getElem?_eq_some_iff.1 hx).1 hx, hno.out⟩, fun _ => rfl⟩, X1.out⟩
end Go.Proofs.YtodhhjlemmmjcaaGreat
