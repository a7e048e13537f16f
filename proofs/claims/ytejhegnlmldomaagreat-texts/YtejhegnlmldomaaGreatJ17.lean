/-
  The books are looked at, where there are lists of resources, too.
-/
/-
  What the second list that is owned leaves of the first one's marks.
-/
/-
  Tokens: a text is cut.
-/
import Derived.Test.YtejhegnlmldomaaGreatJ16
import Derived.Test.YtejhegnlmldomaaGreatBookQ
import Derived.Test.YtejhegnlmldomaaGreatJ6
import Derived.Test.YtejhegnlmldomaaGreatJ2
namespace Go.Proofs.YtejhegnlmldomaaGreat
open Go.RowKit

def mrkR (k : Nat) : Resd := ⟨⟨textD k, ⟨#[]⟩⟩, [], []⟩
theorem digs_len : ∀ (n : Nat) (k : Int), (digs n k).length = n
  | 0, _ => rfl
  | n + 1, k => by simp [digs, digs_len n]
theorem mrkR_resV (w : World) (k : Nat) : ResV w (.slice none 0 0) (.slice none 0 0) (mrkR k) := by
  have hz : (textD k).size = 12 := by
    show (markL ++ digs 8 k).toArray.size = 12
    simp [digs_len, markL]
  exact ⟨⟨by show (textD k).size ≤ _; omega, Nat.zero_le _⟩, ⟨⟨none, 0, rfl, Nat.le_refl _, by decide, .inl rfl⟩, Nat.zero_le _, fun x h => (by cases h)⟩, ⟨⟨none, 0, rfl, Nat.le_refl _, by decide, .inl rfl⟩, Nat.zero_le _, fun x h => (by cases h)⟩⟩

set_option maxRecDepth 100000 in
set_option maxHeartbeats 3200000 in
theorem booksLookQ (B O : Nat) (w : World) (va vi vc : Value) (ea ei ec : List (Value × Nat)) (hb : BkAt B w O va vi (.slice none 0 0) vc (.slice none 0 0) (.slice none 0 0) ea ei) (hc : w.ownsRow B 78 2 vc ec.length (cellsE ec)) (he : ea.length ≤ 3000000) (hf : ei.length ≤ 3000000) (hg : ec.length ≤ 1000) (hA : ∀ x ∈ ea, MarkG 129 4 mkA w x) (hI : ∀ x ∈ ei, MarkG 53 2 mkI w x) (hC : ∀ x ∈ ec, MarkG 74 4 mkQ w x) :
    Calls Tryz.prog 8 #[.pointer (some ⟨O, 0, none⟩)] w fun e w' => e = .returned (.bool true) ∧ Ext w w' := by
  obtain ⟨pe, ce, rfl⟩ := ownsRow_form hc
  obtain ⟨o0, o1, o2, o3, o4, o5⟩ := six_celB hb.o
  have O3 := hide o3; have O4 := hide o4; have O5 := hide o5
  replace hb := hide hb; replace hA := hide hA; replace hI := hide hI; replace hC := hide hC; replace hc := hide hc
  go_enter Tryz.func8, Tryz.ntmps8
  go_wp2_with fail
  clear o0 o1 o2 o3 o4 o5
  go_loopw [3] (fun i wr => ∃ j : Nat, j ≤ ec.length ∧ i = .int .i64 j ∧ Ext w wr) (fun i _ => ec.length - (intOf i).toNat)
  case atStart => exact ⟨0, Nat.zero_le _, rfl, Ext.refl _⟩
  case round =>
    obtain ⟨j, hj, rfl, hx⟩ := hrel
    have o3 := hx.cells O3.out
    by_cases hlt : j < ec.length
    · obtain ⟨x, hxj⟩ := some_of_lt hlt
      obtain ⟨g, cap, hv, k0, k1⟩ := ent_cells hc.out hxj
      obtain ⟨rfl, rfl⟩ : pe = some ⟨g, 0, none⟩ ∧ ce = cap := by simpa using hv
      clear hv
      obtain ⟨hk, pa, n, ca, h1, h2, h3, h4, h5⟩ := hC.out x (List.mem_of_getElem? hxj)
      rw [h1] at k0
      have K0 := hide k0; have K1 := hide k1
      have j2 : (j : Int) < (ec.length : Int) := by omega
      have j4 : (0 : Int) ≤ (j : Int) := by omega
      replace hxj := hide hxj; replace h1 := hide h1; replace hx := hide hx
      clear o3 k0 k1
      have o3 := hx.out.cells O3.out; have k0 := hx.out.cells K0.out; have k1 := hx.out.cells K1.out
      have hcall := hide (resourceOf (x.2 : Int) wr (by omega) (by omega))
      go_wp2_with fail
      refine hcall.out.mono ?_
      rintro e w4 ⟨rfl, he4⟩
      have hx4 := hide (hx.out.trans he4)
      clear o3 k0 k1 hcall
      have o3 := hx4.out.cells O3.out; have k0 := hx4.out.cells K0.out; have k1 := hx4.out.cells K1.out
      replace he4 := hide he4
      go_wp2_with fail
      clear o3 k0 k1
      have X5 : Ext w (w4.alloc (.cells #[.string (textD x.2), .string ⟨#[]⟩, .slice none 0 0, .slice none 0 0] 74)) := hx4.out.alloc _
      obtain ⟨w5, hw5⟩ : ∃ w5 : World, w5 = w4.alloc (.cells #[.string (textD x.2), .string ⟨#[]⟩, .slice none 0 0, .slice none 0 0] 74) := ⟨_, rfl⟩
      rw [← hw5] at X5
      have hM : w5.heap[w4.heap.size]? = some (.cells #[.string (textD x.2), .string ⟨#[]⟩, .slice none 0 0, .slice none 0 0] 74 (0, 0)) := by rw [hw5]; exact heap_alloc_new w4 _
      replace X5 := hide X5; replace hM := hide hM; replace hw5 := hide hw5
      go_loopw [5] (fun i w2 => ∃ q : Nat, q ≤ n ∧ i = .int .i64 q ∧ Ext w5 w2) (fun i _ => n - (intOf i).toNat)
      case atStart => exact ⟨0, Nat.zero_le _, rfl, by rw [hw5.out]; exact Ext.refl _⟩
      case round =>
        obtain ⟨q, hq, rfl, e2⟩ := hrel
        have E2 : Ext w wr := X5.out.trans e2
        have o3 := E2.cells O3.out
        have k0 := E2.cells K0.out
        have k1 := E2.cells K1.out
        by_cases hltq : q < n
        · rcases h5 with h5 | ⟨g', c, rfl, hg', ht⟩
          · omega
          have c0 := E2.cells (mark_cell (r := 0) (sz := 4) (m := mkQ x.2) (u := .string (textD x.2)) rfl hg' ht hltq rfl)
          have c1 := E2.cells (mark_cell (r := 1) (sz := 4) (m := mkQ x.2) (u := .string ⟨#[]⟩) rfl hg' ht hltq rfl)
          have c2 := E2.cells (mark_cell (r := 2) (sz := 4) (m := mkQ x.2) (u := .slice none 0 0) rfl hg' ht hltq rfl)
          have c3 := E2.cells (mark_cell (r := 3) (sz := 4) (m := mkQ x.2) (u := .slice none 0 0) rfl hg' ht hltq rfl)
          rw [Nat.add_zero] at c0
          obtain ⟨d0, d1, d2, d3⟩ := four_cells (ext_heap e2 hM.out)
          have i2 : (q : Int) < (n : Int) := by omega
          have i4 : (0 : Int) ≤ (q : Int) := by omega
          have hsame := hide (sameRes (.slice none 0 0) (.slice none 0 0) (.slice none 0 0) (.slice none 0 0) (mrkR x.2) wr.drew (mrkR_resV _ _) (mrkR_resV _ _))
          replace E2 := hide E2; replace e2 := hide e2; replace hg' := hide hg'; replace ht := hide ht
          go_wp2_with fail
          go_region_held3 (fun w' => w'.cell? ⟨O, 3, none⟩ = some (.slice (some ⟨g, 0, none⟩) ec.length ce) ∧ w'.cell? ⟨g, j * 2, none⟩ = some (.slice (some ⟨g', 0, none⟩) n ca) ∧ w'.cell? ⟨g', q * 4, none⟩ = some (.string (textD x.2)) ∧ w'.cell? ⟨g', q * 4 + 1, none⟩ = some (.string ⟨#[]⟩) ∧ w'.cell? ⟨g', q * 4 + 2, none⟩ = some (.slice none 0 0) ∧ w'.cell? ⟨g', q * 4 + 3, none⟩ = some (.slice none 0 0) ∧ w'.cell? ⟨w4.heap.size, 0, none⟩ = some (.string (textD x.2)) ∧ w'.cell? ⟨w4.heap.size, 1, none⟩ = some (.string ⟨#[]⟩) ∧ w'.cell? ⟨w4.heap.size, 2, none⟩ = some (.slice none 0 0) ∧ w'.cell? ⟨w4.heap.size, 3, none⟩ = some (.slice none 0 0)) (go_keep)
            ((go_at_call 22; refine hsame.out.mono ?_; rintro e w7 ⟨rfl, he7⟩; go_must (have p0 := he7.cells (p := ⟨O, 3, none⟩) (v := .slice (some ⟨g, 0, none⟩) ec.length ce) (by simpa using o3); have p1 := he7.cells (p := ⟨g, j * 2, none⟩) (v := .slice (some ⟨g', 0, none⟩) n ca) (by simpa using k0); have p2 := he7.cells (p := ⟨g', q * 4, none⟩) (v := .string (textD x.2)) (by simpa using c0); have p3 := he7.cells (p := ⟨g', q * 4 + 1, none⟩) (v := .string ⟨#[]⟩) (by simpa using c1); have p4 := he7.cells (p := ⟨g', q * 4 + 2, none⟩) (v := .slice none 0 0) (by simpa using c2); have p5 := he7.cells (p := ⟨g', q * 4 + 3, none⟩) (v := .slice none 0 0) (by simpa using c3); have p6 := he7.cells (p := ⟨w4.heap.size, 0, none⟩) (v := .string (textD x.2)) (by simpa using d0); have p7 := he7.cells (p := ⟨w4.heap.size, 1, none⟩) (v := .string ⟨#[]⟩) (by simpa using d1); have p8 := he7.cells (p := ⟨w4.heap.size, 2, none⟩) (v := .slice none 0 0) (by simpa using d2); have p9 := he7.cells (p := ⟨w4.heap.size, 3, none⟩) (v := .slice none 0 0) (by simpa using d3)); replace he7 := hide he7))
          go_wp2_with fail
          go_roundw
          case rel => exact ⟨q + 1, by omega, by go_num, (e2.out.drew).trans he7.out⟩
          case measure => simp [intOf]; omega
        · replace E2 := hide E2; replace e2 := hide e2; replace h5 := hide h5
          go_wp2_with fail
          go_roundw
          case rel => exact ⟨j + 1, by omega, by go_num, E2.out⟩
          case measure => simp [intOf]; omega
    · have o4 := hx.cells O4.out
      have o5 := hx.cells O5.out
      have hxw := hide hx
      clear hx
      obtain ⟨wo, rfl⟩ : ∃ wo : World, wo = wr := ⟨_, rfl⟩
      go_wp2_with fail
      go_loop [7] (fun i => i = .int .i64 0) (fun _ => 0)
      case atStart => rfl
      case round =>
        subst hrel
        go_wp2_with fail
        go_loop [11] (fun i => i = .int .i64 0) (fun _ => 0)
        case atStart => rfl
        case round =>
          subst hrel
          go_wp2_with fail
          refine (bookLooks B O _ va vi _ _ _ ea ei (hb.out.ext hxw.out) he hf (fun y hy => (hA.out y hy).ext hxw.out) (fun y hy => (hI.out y hy).ext hxw.out)).mono ?_
          rintro e w1 ⟨rfl, he1⟩
          replace he1 := hide he1
          go_wp2_with fail
          go_ret
          exact ⟨rfl, hxw.out.trans he1.out⟩
end Go.Proofs.YtejhegnlmldomaaGreat

namespace Go.Proofs.YtejhegnlmldomaaGreat
open Go.RowKit

theorem RessAt.stay {B : Nat} {w3 w6 w7 : World} {v : Value} {ps : List ResP} {D : Nat → Prop} (h : RessAt B w3 v ps) (x : Ext w3 w6) (hk : Kept D w6 w7) (hD : ∀ g, B ≤ g → g < w3.heap.size → ¬ D g) : RessAt B w7 v ps := by
  have h6 := h.ext x
  refine ⟨ownsRow_keptR h6.row hk fun g hg => hD g (h.row.lt g hg).1 (h.row.lt g hg).2, fun p hp => ⟨?_, (h.each p hp).2⟩, h.apart⟩
  obtain ⟨o3, _⟩ := h.each p hp
  obtain ⟨o6, _⟩ := h6.each p hp
  exact ⟨o6.f2, o6.f3, ownsRow_keptR o6.attrs hk fun g hg => hD g (o3.attrs.lt g hg).1 (o3.attrs.lt g hg).2, ownsRow_keptR o6.after hk fun g hg => hD g (o3.after.lt g hg).1 (o3.after.lt g hg).2⟩
/-- What is turned lies at or above the bound. -/
theorem turnQ_low {B O : Nat} {w : World} {va vi vn vc vs vr v : Value} {ea ei ec : List (Value × Nat)} {ps : List ResP} (hb : BkAt B w O va vi vn vc vs vr ea ei) (hc : w.ownsRow B 78 2 vc ec.length (cellsE ec)) (hps : RessAt B w v ps) {g : Nat} (h : TurnQ ps v va vi vc O g) : B ≤ g := by
  rcases h with (⟨p, hp, h | h⟩ | h | h | h) | h | h
  · exact ((hps.each p hp).1.attrs.lt g h.symm).1
  · exact ((hps.each p hp).1.after.lt g h.symm).1
  · exact (hb.a.lt g h.symm).1
  · exact (hb.i.lt g h.symm).1
  · rw [h]; exact hb.low
  · exact (hps.row.lt g h.symm).1
  · exact (hc.lt g h.symm).1
/-- A mark that lies outside what the second list reaches stays. -/
theorem mark_stayQ {B L O : Nat} {w3 w7 w8 : World} {va vi vn vc vs vr v : Value} {ea ei ec : List (Value × Nat)} {ps : List ResP} {T : TypeId} {sz : Nat} {mk : Nat → List Value} {x : Value × Nat} (hm : MarkG T sz mk w7 x) (hb : BkAt B w7 O va vi vn vc vs vr ea ei) (hc : w7.ownsRow B 78 2 vc ec.length (cellsE ec)) (hps : RessAt L w3 v ps) (hk : Kept (TurnQ ps v va vi vc O) w7 w8)
    (h1 : T ≠ 143) (h2 : T ≠ 145) (h3 : T ≠ 78) (h4 : T ≠ 37) (hr : ∀ g, x.1.ownBlock = some g → g < L ∨ w3.heap.size ≤ g) : MarkG T sz mk w8 x := by
  refine hm.kept fun g c hg hcg => hk.heap hcg ?_
  have hn : ∀ {T' : TypeId} {n sz' : Nat} {u : Value} {xs : List Value}, w3.ownsRow L T' sz' u n xs → some g = u.ownBlock → False := fun ho h => by
    have h5 := ho.lt g h.symm
    rcases hr g hg with h6 | h6 <;> omega
  rintro ((⟨p, hp, h | h⟩ | h | h | h) | h | h)
  · exact hn (hps.each p hp).1.attrs h
  · exact hn (hps.each p hp).1.after h
  · exact ownsRow_ne hb.a hcg h1 h
  · exact ownsRow_ne hb.i hcg h2 h
  · exact tag_ne hcg hb.o h4 h
  · exact hn hps.row h
  · exact ownsRow_ne hc hcg h3 h

theorem turnQ_not {L O : Nat} {w2 w3 : World} {v : Value} {qs : List ResP} (hr2 : RessAt L w2 v qs) (h3 : w3.heap.size ≤ O) : ∀ g, w2.heap.size ≤ g → g < w3.heap.size → ¬ TurnQ qs v (.slice none 0 0) (.slice none 0 0) (.slice none 0 0) O g := by
  rintro g hg1 hg2 ((⟨p, hp, h | h⟩ | h | h | h) | h | h)
  · have := ((hr2.each p hp).1.attrs.lt g h.symm).2; omega
  · have := ((hr2.each p hp).1.after.lt g h.symm).2; omega
  · cases h
  · cases h
  · omega
  · have := (hr2.row.lt g h.symm).2; omega
  · cases h
end Go.Proofs.YtejhegnlmldomaaGreat

namespace Go.Proofs.YtejhegnlmldomaaGreat
open Go.RowKit

def cTk (t : Tok) : List Value := [.int .i64 t.kind, .int .i64 t.place, .string t.text, .int .i64 t.value]
theorem cTk_len (t : Tok) : (cTk t).length = 4 := rfl
def cellsT (l : List Tok) : List Value := l.flatMap cTk
theorem cellsT_app (l : List Tok) (x : Tok) : cellsT (l ++ [x]) = cellsT l ++ cTk x := by simp [cellsT]
theorem cTk_one {x : Tok} : ∀ u ∈ cTk x, u.oneCell' = true := by
  intro u hu
  simp [cTk] at hu
  rcases hu with rfl | rfl | rfl | rfl <;> rfl
theorem infoTok : (Tryz.prog.info? 102).map (fun i => (i.zero, i.size, i.bytes)) = some (some (.agg #[.int .i64 0, .int .i64 0, .string ⟨#[]⟩, .int .i64 0]), 4, 40) := by kernel_rfl

/-- What the cutting answers. -/
def CutIs (w : World) (r : List Tok × (Int × Nat)) (e : Ending) (w' : World) : Prop :=
  Hid (Ext w w') ∧ ∃ (pa : Option Addr) (cap : Nat), e = .returned (.tuple #[.slice pa r.1.length cap, .agg #[.int .i64 r.2.1, .int .i64 r.2.2]]) ∧ Hid (w'.ownsRow w.heap.size 102 4 (.slice pa r.1.length cap) r.1.length (cellsT r.1))

theorem cell_of {w : World} {k : Nat} {cs : Array Value} {t : TypeId} {fz : Nat × Nat} (h : w.heap[k]? = some (.cells cs t fz)) (j : Nat) : w.cell? ⟨k, j, none⟩ = cs[j]? := by simp [World.cell?, h]
theorem ownsRow_other {w : World} {base g n cap m size : Nat} {e : TypeId} {xs : List Value} {base' : Nat} (h : w.ownsRow base e size (.slice (some ⟨g, 0, none⟩) n cap) m xs) {p : Addr} (hne : g ≠ p.block) (hb : base' ≤ base) (u : Value) : (w.setCell p u).ownsRow base' e size (.slice (some ⟨g, 0, none⟩) n cap) m xs := by
  obtain ⟨h1, h2⟩ := h
  refine ⟨h1, ?_⟩
  rcases h2 with ⟨hv, _⟩ | ⟨g', cap', cur, hv, hg, hh, r⟩
  · cases hv
  · cases hv
    exact .inr ⟨_, _, cur, rfl, by omega, by rw [Below.heap_setCell _ _ _ _ hne]; exact hh, r⟩
theorem tk_ok {w w' : World} {r : (Tok × Nat) ⊕ Int} {e : Ending} {t : Tok} {b : Nat} (h : TkIs w r e w') (hr : r = .inl (t, b)) : Hid (Ext w w') ∧ e = .returned (.tuple #[.agg #[.int .i64 t.kind, .int .i64 0, .string t.text, .int .i64 t.value], .int .i64 b, .int .i64 0]) := by
  subst hr
  obtain ⟨hx, ⟨t', b', h1, h2⟩ | ⟨en, h1, _⟩⟩ := h
  · have := h1.out; cases this; exact ⟨hx, h2⟩
  · have := h1.out; cases this
theorem tk_bad {w w' : World} {r : (Tok × Nat) ⊕ Int} {e : Ending} {en : Int} (h : TkIs w r e w') (hr : r = .inr en) : Hid (Ext w w') ∧ e = .returned (.tuple #[.agg #[.int .i64 0, .int .i64 0, .string ⟨#[]⟩, .int .i64 0], .int .i64 0, .int .i64 en]) := by
  subst hr
  obtain ⟨hx, ⟨t', b', h1, h2⟩ | ⟨en, h1, _, h3⟩⟩ := h
  · have := h1.out; cases this
  · have := h1.out; cases this; exact ⟨hx, h3⟩

set_option maxRecDepth 100000 in
set_option maxHeartbeats 3200000 in
theorem cutP (s : ByteArray) (w : World) (hs : s.size ≤ 1000000) :
    Calls Tryz.prog 15 #[.string s] w (CutIs w (cutL s.data.toList)) := by
  have hlen : s.data.toList.length = s.size := Array.length_toList
  obtain ⟨i0, hi, hz0, hz1, hz2⟩ := info_of infoTok
  replace hi := hide hi
  have hsk := hide (skipP s 0 (w.alloc (.cells #[.int .i64 0, .int .i64 0] 62)) hs (by omega))
  rw [show ((0 : Nat) : Int) = 0 from rfl] at hsk
  go_enter Tryz.func15, Tryz.ntmps15
  go_wp2_with fail
  refine hsk.out.mono ?_
  rintro e w' ⟨rfl, rfl⟩
  go_wp2_with fail
  generalize hWx : w.alloc (.cells #[.int .i64 0, .int .i64 0] 62) = wx
  have hxx : Hid (Ext w wx) := by subst hWx; exact (Ext.refl w).alloc _
  have hx2 : Hid (wx.heap[w.heap.size]? = some (.cells #[.int .i64 0, .int .i64 0] 62)) := by subst hWx; exact heap_alloc_new w _
  replace hWx := hide hWx; replace hsk := hide hsk
  go_loopw [4, 5] (fun v at_ wr => ∃ (f b : Nat) (acc : List Tok) (pa : Option Addr) (cap : Nat), b ≤ s.size ∧ s.size + 1 ≤ f + b ∧ acc.length ≤ b ∧ at_ = .int .i64 (skipL s.data.toList b) ∧ v = .slice pa acc.length cap ∧ Hid (cutL s.data.toList = comb acc (cutF s.data.toList f b)) ∧ Hid (wr.ownsRow wx.heap.size 102 4 (.slice pa acc.length cap) acc.length (cellsT acc)) ∧ Hid (Ext wx wr)) (fun _ at_ _ => s.size - (intOf at_).toNat)
  case atStart =>
    exact ⟨s.size + 1, 0, [], none, 0, by omega, by omega, by simp, rfl, rfl, by show _ = _; rw [comb_nil]; unfold cutL; rw [hlen], World.ownsRow_nil _ _ _ _, Ext.refl _⟩
  case round =>
    obtain ⟨f, b, acc, pa, cap, hb, hf, hab, rfl, rfl, hcut, hown, hx⟩ := hrel
    have hsl := skip_le (l := s.data.toList) (a := b) (by omega)
    rw [hlen] at hsl
    generalize hk : skipL s.data.toList b = k at *
    obtain ⟨k1, k2⟩ := hsl
    by_cases hlt : k < s.size
    · obtain ⟨c, hc1, hc2⟩ := byteAt hlt
      have hrd := hide (readP s k c wr hs hlt hc1)
      have fx : wr.heap[w.heap.size]? = some (.cells #[.int .i64 0, .int .i64 0] 62) := by
        rw [← hx2.out]; exact Below.block hx.out _ (Array.getElem?_eq_some_iff.1 hx2.out).1
      replace fx := hide fx
      cases htk : tokL s.data.toList k c with
      | inr en =>
        have hne := tok_bad htk
        have hrd2 := hide (hrd.out.mono fun e w' hh => tk_bad hh htk)
        have hfin : Hid (cutL s.data.toList = ([], (en, k))) := by
          show _ = _
          obtain ⟨f', rfl⟩ : ∃ f', f = f' + 1 := ⟨f - 1, by omega⟩
          rw [hcut.out, comb_bad (c := c) (e := en) (by rw [hk]; exact hc1) (by rw [hk]; exact htk) hne, hk]
        have hne' : (en != 0) = true := by simpa using hne
        replace hc1 := hide hc1; replace hk := hide hk; replace hc2 := hide hc2; replace hlen := hide hlen; replace htk := hide htk; replace hne := hide hne
        go_wp2_with (go_at_call 36; refine hrd2.out.mono ?_; rintro e w1 ⟨he1, rfl⟩; go_must (have F2 := ext_heap ((Ext.refl w1).alloc (.cells #[.int .i64 0, .int .i64 0, .string ⟨#[]⟩, .int .i64 0] 102)) (ext_heap he1.out fx.out); have o0 := cell_of F2 0; have o1 := cell_of F2 1; simp at o0 o1; have fO := row_frozen F2; replace F2 := hide F2))
        refine bodyPost_ret (v := .tuple #[.slice none 0 0, .agg #[.int .i64 en, .int .i64 k]]) (by simp [results, Tryz.results15, go_sem, o0, o1]) rfl ?_
        rw [hfin.out]
        have hX : Ext w w1 := hxx.out.trans (hx.out.trans he1.out)
        refine ⟨((hX.alloc _).setCell (p := ⟨w.heap.size, 0, none⟩) (Nat.le_refl _) _).setCell (p := ⟨w.heap.size, 1, none⟩) (Nat.le_refl _) _, none, 0, rfl, World.ownsRow_nil _ _ _ _⟩
      | inl r =>
        obtain ⟨t, b'⟩ := r
        obtain ⟨hpl, hb1, hb2, hk1, hk2⟩ := tok_at hc1 htk
        obtain ⟨kd, pl, tx, vl⟩ := t
        simp only at hpl hk1 hk2
        subst hpl
        rw [hlen] at hb2
        have hrd2 := hide (hrd.out.mono fun e w' hh => tk_ok hh htk)
        have hstep : Hid (cutL s.data.toList = comb (acc ++ [⟨kd, pl, tx, vl⟩]) (cutF s.data.toList (f - 1) b')) := by
          show _ = _
          obtain ⟨f', rfl⟩ : ∃ f', f = f' + 1 := ⟨f - 1, by omega⟩
          rw [hcut.out, comb_step (c := c) (b := b') (t := ⟨kd, pl, tx, vl⟩) (by rw [hk]; exact hc1) (by rw [hk]; exact htk)]
          rfl
        have hsz := hide (Ext.size hx.out)
        replace hc1 := hide hc1; replace hk := hide hk; replace hc2 := hide hc2; replace hlen := hide hlen; replace htk := hide htk
        go_wp2_with (first
          | (go_at_call 36; refine hrd2.out.mono ?_; rintro e w1 ⟨he1, rfl⟩; go_must (have hown1 := hide (ownsRow_wrote hown.out (Wrote.ext (B := 0) (T := fun _ => False) he1.out) id rfl); have hsz1 := hide (Nat.le_trans hsz.out (Ext.size he1.out))))
          | (at_builtin; go_must (refine wpList_append_lies _ rfl _ _ 60 rfl wx.heap.size 102 i0 (.agg #[.int .i64 0, .int .i64 0, .string ⟨#[]⟩, .int .i64 0]) 4 40 Tryz.underlying60 hi.out hz0 hz1 hz2 rfl (by omega) _ acc.length (cellsT acc) rfl ((hown1.out.alloc _).alloc _) ⟨w1.heap.size + 1, 0, none⟩ 1 1 (cTk ⟨kd, pl, tx, vl⟩) rfl rfl ?_ cTk_one (by omega) (by unfold maxLen; omega) (by omega) (by have := hsz1.out; simp; omega) (w1.heap.size + 2) (by simp) ?_; (intro j u hu; rw [add_eq]; (match j, hu with | 0, hu => (simp [cTk] at hu; subst hu; simp [go_sem]) | 1, hu => (simp [cTk] at hu; subst hu; simp [go_sem]) | 2, hu => (simp [cTk] at hu; subst hu; simp [go_sem]) | 3, hu => (simp [cTk] at hu; subst hu; simp [go_sem]) | _ + 4, hu => (simp [cTk] at hu))); intro g1 cap1 w3 hown3 hgrow3 hat3 hlt3))
          | (go_at_call 35; refine (skipP s b' _ hs hb2).mono ?_; rintro e w' ⟨rfl, rfl⟩))
        replace hgrow3 : ((w1.alloc (.cells (cTk ⟨kd, pl, tx, vl⟩).toArray 102)).alloc (.cells (cTk ⟨kd, pl, tx, vl⟩).toArray 102)).grownBy w' (Value.slice pa acc.length cap).ownBlock := hgrow3
        have hl : (acc ++ [(⟨kd, pl, tx, vl⟩ : Tok)]).length = acc.length + 1 := by simp
        have hx3 : Ext wx w' := ((Wrote.ext (B := wx.heap.size) (T := (· = 102)) ((hx.out.trans he1.out).alloc _)).grownAt (hown1.out.alloc _) rfl hgrow3).toExt
        go_roundw
        case rel =>
          refine ⟨f - 1, b', acc ++ [⟨kd, pl, tx, vl⟩], some ⟨g1, 0, none⟩, cap1, hb2, by omega, by rw [hl]; omega, rfl, by rw [hl], hstep, ?_, hx3⟩
          show World.ownsRow _ _ _ _ _ _ _
          rw [hl, cellsT_app]; exact hown3
        case measure =>
          have := skip_le (l := s.data.toList) (a := b') (by rw [hlen.out]; omega)
          simp [intOf]; omega
    · have heq : k = s.size := by omega
      have hfin : Hid (cutL s.data.toList = (acc ++ [endTok s.size], (0, 0))) := by
        show _ = _
        obtain ⟨f', rfl⟩ : ∃ f', f = f' + 1 := ⟨f - 1, by omega⟩
        rw [hcut.out, comb_end (by rw [hk, hlen]; omega), hlen]
      subst heq
      have hO := ext_heap hx.out hx2.out
      have o0 := cell_of hO 0; have o1 := cell_of hO 1; have fO := row_frozen hO
      simp at o0 o1
      have hsz := hide (Ext.size hx.out)
      replace hO := hide hO; replace hk := hide hk; replace hlen := hide hlen
      go_wp2_with (at_builtin; go_must (refine wpList_append_lies _ rfl _ _ 60 rfl wx.heap.size 102 i0 (.agg #[.int .i64 0, .int .i64 0, .string ⟨#[]⟩, .int .i64 0]) 4 40 Tryz.underlying60 hi.out hz0 hz1 hz2 rfl (by omega) _ acc.length (cellsT acc) rfl (hown.out.alloc _) ⟨wr.heap.size, 0, none⟩ 1 1 (cTk (endTok s.size)) rfl rfl ?_ cTk_one (by omega) (by unfold maxLen; omega) (by omega) (by have := hsz.out; simp; omega) (wr.heap.size + 1) (by simp) ?_; (intro j u hu; rw [add_eq]; (match j, hu with | 0, hu => (simp [cTk, endTok] at hu; subst hu; simp [go_sem]) | 1, hu => (simp [cTk, endTok] at hu; subst hu; simp [go_sem]) | 2, hu => (simp [cTk, endTok] at hu; subst hu; simp [go_sem]) | 3, hu => (simp [cTk, endTok] at hu; subst hu; simp [go_sem]) | _ + 4, hu => (simp [cTk] at hu))); intro g1 cap1 w3 hown3 hgrow3 hat3 hlt3; have hgr : (wr.alloc (.cells (cTk (endTok s.size)).toArray 102)).grownBy w3 (Value.slice pa acc.length cap).ownBlock := hgrow3; have hX3 : Ext wx w3 := ((Wrote.ext (B := wx.heap.size) (T := (· = 102)) hx.out).grownAt hown.out rfl hgr).toExt; clear hgrow3 hat3; have hO3 := ext_heap hX3 hx2.out; have p0 := cell_of hO3 0; have p1 := cell_of hO3 1; have pO := row_frozen hO3; simp at p0 p1; replace hO3 := hide hO3; replace hX3 := hide hX3; replace hgr := hide hgr))
      refine bodyPost_ret (v := .tuple #[.slice (some ⟨g1, 0, none⟩) (acc.length + 1) cap1, .agg #[.int .i64 0, .int .i64 0]]) (by simp [results, Tryz.results15, go_sem, p0, p1]) rfl ?_
      rw [hfin.out]
      have hl : (acc ++ [endTok s.size]).length = acc.length + 1 := by simp
      have hsx := Ext.size hxx.out
      refine ⟨((hxx.out.trans hX3.out).setCell (p := ⟨w.heap.size, 0, none⟩) (Nat.le_refl _) _).setCell (p := ⟨w.heap.size, 1, none⟩) (Nat.le_refl _) _, some ⟨g1, 0, none⟩, cap1, by rw [hl]; rfl, ?_⟩
      show World.ownsRow _ _ _ _ _ _ _
      rw [hl, cellsT_app]
      have hne : g1 ≠ w.heap.size := by
        have k1 := (hown3.lt g1 (by simp [Value.ownBlock])).1
        have k2 := (Array.getElem?_eq_some_iff.1 hx2.out).1
        omega
      exact ownsRow_other (ownsRow_other hown3 hne hsx _) hne (Nat.le_refl _) _
end Go.Proofs.YtejhegnlmldomaaGreat
