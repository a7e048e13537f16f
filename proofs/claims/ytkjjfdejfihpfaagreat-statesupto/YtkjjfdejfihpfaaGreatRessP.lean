/-
  Lists of resources of our own, and their lists; what the program's function that reads one answers.
-/
import Derived.Test.YtkjjfdejfihpfaaGreatJ11
import Derived.Test.YtkjjfdejfihpfaaGreatRefRead2
namespace Go.Proofs.YtkjjfdejfihpfaaGreat
open Go.RowKit

/-- A resource in memory. -/
structure ResP where
  x : Resd
  c2 : Value
  c3 : Value
def cRs (p : ResP) : List Value := [.string p.x.id.kind, .string p.x.id.name, p.c2, p.c3]
theorem cRs_len (p : ResP) : (cRs p).length = 4 := rfl
def cellsP (l : List ResP) : List Value := l.flatMap cRs
theorem cellsP_app (l : List ResP) (x : ResP) : cellsP (l ++ [x]) = cellsP l ++ cRs x := by simp [cellsP]
theorem cRs_one {x : Resd} {pa2 pa3 : Option Addr} {n2 n3 cap2 cap3 : Nat} : ∀ u ∈ cRs ⟨x, .slice pa2 n2 cap2, .slice pa3 n3 cap3⟩, u.oneCell' = true := by
  intro u hu
  simp [cRs] at hu
  rcases hu with rfl | rfl | rfl | rfl <;> rfl
/-- No list lies in two resources. -/
def ApartQ (p q : ResP) : Prop := (∀ g, p.c2.ownBlock = some g → q.c2.ownBlock ≠ some g) ∧ (∀ g, p.c3.ownBlock = some g → q.c3.ownBlock ≠ some g)
/-- A list of resources of our own, and theirs. -/
structure RessAt (B : Nat) (w : World) (v : Value) (ps : List ResP) : Prop where
  row : w.ownsRow B 40 4 v ps.length (cellsP ps)
  each : ∀ p ∈ ps, OwnR B w p.c2 p.c3 p.x ∧ okS p.x
  apart : ps.Pairwise ApartQ
theorem RessAt.ext {B : Nat} {w w' : World} {v : Value} {ps : List ResP} (h : RessAt B w v ps) (e : Ext w w') : RessAt B w' v ps :=
  ⟨ownsRow_wrote h.row (Wrote.ext (B := 0) (T := fun _ => False) e) id rfl, fun p hp => ⟨(h.each p hp).1.ext e, (h.each p hp).2⟩, h.apart⟩
theorem RessAt.low {B B' : Nat} {w : World} {v : Value} {ps : List ResP} (h : RessAt B w v ps) (hb : B' ≤ B) : RessAt B' w v ps :=
  ⟨ownsRow_low h.row hb, fun p hp => ⟨(h.each p hp).1.low hb, (h.each p hp).2⟩, h.apart⟩
theorem RessAt.nil (B : Nat) (w : World) : RessAt B w (.slice none 0 0) [] := ⟨World.ownsRow_nil _ _ _ _, fun p hp => (by cases hp), List.Pairwise.nil⟩
theorem RessAt.ressV {B : Nat} {w : World} {v : Value} {ps : List ResP} (h : RessAt B w v ps) (hn : ps.length ≤ 1000) : RessV w v (ps.map ResP.x) := by
  have hl : (ps.map ResP.x).length = ps.length := List.length_map ..
  refine ⟨?_, by rw [hl]; omega⟩
  rcases h.row.2 with ⟨rfl, h0⟩ | ⟨g, cap, cur, rfl, _, hg, hc, hm, hs, ht⟩
  · have : ps = [] := List.eq_nil_of_length_eq_zero h0
    subst this
    exact ⟨none, 0, rfl, Nat.le_refl _, by decide, .inl rfl⟩
  · refine ⟨some ⟨g, 0, none⟩, cap, by rw [hl], by rw [hl]; exact hc, by unfold maxLen at hm; omega, .inr ⟨g, 0, rfl, ?_⟩⟩
    intro i x hx
    rw [List.getElem?_map] at hx
    obtain ⟨p, hp, rfl⟩ := Option.map_eq_some_iff.1 hx
    have hlt : i < ps.length := (List.getElem?_eq_some_iff.1 hp).1
    have key : ∀ r, r < 4 → w.cell? ⟨g, 0 + i * 4 + r, none⟩ = (cRs p)[r]? := by
      intro r hr
      have h1 : (cellsP ps)[i * 4 + r]? = (cRs p)[r]? := flat_get cRs_len hp hr
      rw [← h1, ← ht, List.getElem?_take, if_pos (by omega), Nat.zero_add]
      simp [World.cell?, hg]
    obtain ⟨ho, hok⟩ := h.each p (List.mem_of_getElem? hp)
    exact ⟨key 0 (by omega), key 1 (by omega), p.c2, p.c3, key 2 (by omega), key 3 (by omega), ho.resV hok⟩
/-- One more. -/
theorem RessAt.snoc {B g3 c3 : Nat} {w1 w3 : World} {v : Value} {ps : List ResP} {x : Resd} {d2 d3 : Value} (h : RessAt B w1 v ps) (ho : OwnR B w1 d2 d3 x) (hok : okS x) (hnew : ∀ p ∈ ps, ApartQ p ⟨x, d2, d3⟩)
    {o : Obj} (hgrow : (w1.alloc o).grownBy w3 v.ownBlock) (hown : w3.ownsRow B 40 4 (.slice (some ⟨g3, 0, none⟩) (ps.length + 1) c3) (ps.length + 1) (cellsP ps ++ cRs ⟨x, d2, d3⟩)) :
    RessAt B w3 (.slice (some ⟨g3, 0, none⟩) (ps.length + 1) c3) (ps ++ [⟨x, d2, d3⟩]) := by
  have hl : (ps ++ [(⟨x, d2, d3⟩ : ResP)]).length = ps.length + 1 := by simp
  have keep : ∀ {e : TypeId} {size n : Nat} {u : Value} {xs : List Value}, e ≠ 40 → w1.ownsRow B e size u n xs → w3.ownsRow B e size u n xs := fun hne hh =>
    ownsRow_keep hh (grown_kept hgrow) fun g c hg => ownsRow_ne h.row hg hne
  refine ⟨by rw [hl, cellsP_app]; exact hown, ?_, ?_⟩
  · intro p hp
    rcases List.mem_append.1 hp with hp | hp
    · obtain ⟨h1, h2⟩ := h.each p hp
      exact ⟨⟨h1.f2, h1.f3, keep (by decide) h1.attrs, keep (by decide) h1.after⟩, h2⟩
    · obtain rfl : p = _ := by simpa using hp
      exact ⟨⟨ho.f2, ho.f3, keep (by decide) ho.attrs, keep (by decide) ho.after⟩, hok⟩
  · refine List.pairwise_append.2 ⟨h.apart, List.pairwise_singleton _ _, fun p hp p' hp' => ?_⟩
    obtain rfl : p' = _ := by simpa using hp'
    exact hnew p hp
/-- What is new lies apart. -/
theorem RessAt.fresh {B : Nat} {w w1 : World} {v : Value} {ps : List ResP} {x : Resd} {d2 d3 : Value} (h : RessAt B w v ps) (ho : OwnR w.heap.size w1 d2 d3 x) : ∀ p ∈ ps, ApartQ p ⟨x, d2, d3⟩ := fun p hp => by
  obtain ⟨h1, _⟩ := h.each p hp
  constructor
  · intro g hg hg'
    have k1 := (h1.attrs.lt g hg).2
    have k2 := (ho.attrs.lt g hg').1
    omega
  · intro g hg hg'
    have k1 := (h1.after.lt g hg).2
    have k2 := (ho.after.lt g hg').1
    omega
theorem OwnR.wrote {B B' : Nat} {T : TypeId → Prop} {w w' : World} {c2 c3 : Value} {x : Resd} (h : OwnR B w c2 c3 x) (k : Wrote B' T w w') (h2 : ¬ T 42) (h3 : ¬ T 37) : OwnR B w' c2 c3 x :=
  ⟨h.f2, h.f3, ownsRow_wrote h.attrs k h2 rfl, ownsRow_wrote h.after k h3 rfl⟩
theorem RessAt.wrote {B B' : Nat} {T : TypeId → Prop} {w w' : World} {v : Value} {ps : List ResP} (h : RessAt B w v ps) (k : Wrote B' T w w') (h1 : ¬ T 40) (h2 : ¬ T 42) (h3 : ¬ T 37) : RessAt B w' v ps :=
  ⟨ownsRow_wrote h.row k h1 rfl, fun p hp => ⟨(h.each p hp).1.wrote k h2 h3, (h.each p hp).2⟩, h.apart⟩

/-- What the reading of such a list answers. -/
def RssIs (w : World) (R : Nat) (s : ByteArray) (e : Ending) (w' : World) : Prop :=
  ∃ (ps : List ResP) (pa : Option Addr) (cap : Nat) (s' : ByteArray), e = .returned (.slice pa ps.length cap) ∧ Hid (rdList rdRes s.data.toList = (ps.map ResP.x, s'.data.toList)) ∧ ps.length ≤ 255 ∧ Hid (RessAt w.heap.size w' (.slice pa ps.length cap) ps) ∧ Hid (Left w w' R s' s'.data.toList)

set_option maxRecDepth 100000 in
set_option maxHeartbeats 1600000 in
theorem readRess (R : Nat) (s : ByteArray) (w : World) (hR : RdAt w R s) (hs : s.size ≤ 1048576) :
    Calls Tryz.prog 48 #[.pointer (some ⟨R, 0, none⟩), .func (.func 49) #[] #[]] w (RssIs w R s) := by
  obtain ⟨i0, hi, hz0, hz1, hz2⟩ := info_of infoRes
  replace hi := hide hi
  replace hR := hide hR
  go_enter Tryz.func48, Tryz.ntmps48
  go_wp2_with fail
  refine (number R s 1 _ hR.out hs (by omega)).mono ?_
  rintro e w1 ⟨n, s1, rfl, hn, hn2, hL1⟩
  have hn3 : n < 256 := by
    have := num_lt 1 (s.data.toList.take 1) (by rw [List.length_take]; omega)
    rw [← hn.out] at this; exact this
  go_wp2_with fail
  go_loopw [5, 8] (fun v i wr => ∃ (ps : List ResP) (pa : Option Addr) (cap : Nat) (sk : ByteArray), ps.length ≤ n ∧ i = .int .i64 ps.length ∧ v = .slice pa ps.length cap ∧ Hid (rdMany rdRes n s1.data.toList = (ps.map ResP.x ++ (rdMany rdRes (n - ps.length) sk.data.toList).1, (rdMany rdRes (n - ps.length) sk.data.toList).2)) ∧ Hid (RessAt w.heap.size wr (.slice pa ps.length cap) ps) ∧ Hid (Left w wr R sk sk.data.toList)) (fun _ i _ => n - (intOf i).toNat)
  case atStart => exact ⟨[], none, 0, s1, Nat.zero_le _, rfl, rfl, rfl, RessAt.nil _ _, ⟨hL1.out.at_, rfl, hL1.out.wrote, hL1.out.few⟩⟩
  case round =>
    obtain ⟨ps, pa, cap, sk, hk, rfl, rfl, hrd, hps, hL⟩ := hrel
    by_cases hlt : ps.length < n
    · go_wp2_with (first
        | (go_at_call 49; refine (readResource R sk _ hL.out.at_ hL.out.few).mono ?_; rintro e w2 ⟨x, pa2, pa3, cap2, cap3, s2, rfl, hx, hok, hown, hL2⟩; go_must (have hps2 := hide (hps.out.wrote hL2.out.wrote (by decide) (by decide) (by decide)); have hsz2 := Nat.le_trans hL.out.wrote.size hL2.out.wrote.size))
        | (at_builtin; go_must (refine wpList_append_lies _ rfl (.tmp 10) (.tmp 14) 22 rfl w.heap.size 40 i0 (.agg #[.string ⟨#[]⟩, .string ⟨#[]⟩, .slice none 0 0, .slice none 0 0]) 4 80 Tryz.underlying22 hi.out hz0 hz1 hz2 rfl (by omega) _ ps.length (cellsP ps) rfl (hps2.out.row.alloc _) ⟨w2.heap.size, 0, none⟩ 1 1 (cRs ⟨x, .slice pa2 x.attrs.length cap2, .slice pa3 x.after.length cap3⟩) rfl rfl ?_ cRs_one (by omega) (by unfold maxLen; omega) (by omega) (by simp; omega) (w2.heap.size + 1) (by simp) ?_; (intro j u hu; rw [add_eq]; (match j, hu with | 0, hu => (simp [cRs] at hu; subst hu; simp [go_sem]) | 1, hu => (simp [cRs] at hu; subst hu; simp [go_sem]) | 2, hu => (simp [cRs] at hu; subst hu; simp [go_sem]) | 3, hu => (simp [cRs] at hu; subst hu; simp [go_sem]) | _ + 4, hu => (simp [cRs] at hu))); intro g1 cap1 w3 hown3 hgrow3 hat3 hlt3)))
      replace hgrow3 : (w2.alloc (.cells (cRs ⟨x, .slice pa2 x.attrs.length cap2, .slice pa3 x.after.length cap3⟩).toArray 40)).grownBy w3 (Value.slice pa ps.length cap).ownBlock := hgrow3
      go_roundw
      case rel =>
        have hl : (ps ++ [(⟨x, .slice pa2 x.attrs.length cap2, .slice pa3 x.after.length cap3⟩ : ResP)]).length = ps.length + 1 := by simp
        refine ⟨ps ++ [⟨x, .slice pa2 x.attrs.length cap2, .slice pa3 x.after.length cap3⟩], some ⟨g1, 0, none⟩, cap1, s2, by rw [hl]; omega, by rw [hl]; go_num, by rw [hl], ?_, ?_, ?_⟩
        · show _ = _
          rw [hrd.out, hl]
          obtain ⟨q, hq⟩ : ∃ q, n - ps.length = q + 1 := ⟨n - ps.length - 1, by omega⟩
          rw [hq, show n - (ps.length + 1) = q by omega]
          simp only [rdMany]
          rw [hx.out]; simp
        · rw [hl]
          exact hps2.out.snoc (hown.out.low hL.out.wrote.size) hok.out (hps.out.fresh hown.out) hgrow3 hown3
        · exact ⟨hL2.out.at_.grown hps2.out.row (by decide) hgrow3, rfl, (hL.out.wrote.trans hL2.out.wrote).grownNew hps2.out.row hgrow3, hL2.out.few⟩
      case measure => simp [intOf]; omega
    · obtain hnx : ps.length = n := by omega
      have hfin : Hid (rdList rdRes s.data.toList = (ps.map ResP.x, sk.data.toList)) := by
        show _ = _
        unfold rdList
        rw [← hn.out, ← hL1.out.list, hrd.out, hnx, Nat.sub_self]
        simp [rdMany]
      replace hnx := hide hnx
      go_wp2
      go_ret
      exact ⟨ps, pa, cap, sk, rfl, hfin, by have := hnx.out; omega, hps, hL⟩
end Go.Proofs.YtkjjfdejfihpfaaGreat
