/-
  The book of names is looked at; two lists of names are the same.
-/
/-
  A disk on both sides: how it lies in memory.
-/
/-
  A disk on both sides: a file is read; its names come out.
-/
import Derived.Test.YtpkhmgonkbpjjaaBookN
import Derived.Test.YtpkhmgonkbpjjaaJ8
import Derived.Test.YtpkhmgonkbpjjaaDkZ
import Derived.Test.YtpkhmgonkbpjjaaRfAg
import Derived.Test.YtpkhmgonkbpjjaaRfNm
import Derived.Deep.RegionHeld3
namespace Go.Proofs.Ytpkhmgonkbpjjaa
open Go.RowKit

set_option maxRecDepth 100000 in
set_option maxHeartbeats 3200000 in
theorem bookLooksN (B O : Nat) (w : World) (vn : Value) (en : List (Value × Nat)) (hb : BkN B w O vn en) (he : en.length ≤ 10000000000000) (hN : ∀ x ∈ en, MarkG 9 1 mkN w x) :
    Calls Try.prog 34 #[.pointer (some ⟨O, 0, none⟩)] w fun e w' => e = .returned (.bool true) ∧ Ext w w' := by
  obtain ⟨pe, ce, rfl⟩ := ownsRow_form hb.n
  obtain ⟨o0, o1, o2, o3, o4, o5⟩ := six_celB hb.o
  have O2 := hide o2
  clear o3 o4 o5
  replace hb := hide hb; replace hN := hide hN
  go_enter Try.func34, Try.ntmps34
  go_wp2_with fail
  go_loop [3] (fun i => i = .int .i64 0) (fun _ => 0)
  case atStart => rfl
  case round =>
    subst hrel
    go_wp2_with fail
    go_loop [6] (fun i => i = .int .i64 0) (fun _ => 0)
    case atStart => rfl
    case round =>
      subst hrel
      go_wp2_with fail
      clear o0 o1 o2
      go_loopw [9] (fun i wr => ∃ j : Nat, j ≤ en.length ∧ i = .int .i64 j ∧ Ext w wr) (fun i _ => en.length - (intOf i).toNat)
      case atStart => exact ⟨0, Nat.zero_le _, rfl, Ext.refl _⟩
      case round =>
        obtain ⟨j, hj, rfl, hx⟩ := hrel
        have o2 := hx.cells O2.out
        by_cases hlt : j < en.length
        · obtain ⟨x, hxj⟩ := some_of_lt hlt
          obtain ⟨g, cap, hv, k0, k1⟩ := ent_cells hb.out.n hxj
          obtain ⟨rfl, rfl⟩ : pe = some ⟨g, 0, none⟩ ∧ ce = cap := by simpa using hv
          clear hv
          obtain ⟨hk, pa, n, ca, h1, h2, h3, h4, h5⟩ := hN.out x (List.mem_of_getElem? hxj)
          rw [h1] at k0
          have K0 := hide k0; have K1 := hide k1
          replace k0 := hx.cells k0; replace k1 := hx.cells k1
          have j2 : (j : Int) < (en.length : Int) := by omega
          have j4 : (0 : Int) ≤ (j : Int) := by omega
          replace hxj := hide hxj; replace h1 := hide h1; replace hx := hide hx
          go_wp2_with fail
          refine (textOf x.2 _ (by omega) (by omega)).mono ?_
          rintro e wo ⟨rfl, heo⟩
          have hxo := hide (hx.out.trans heo)
          clear o2 k0 k1 heo
          go_wp2_with fail
          go_loopw [11] (fun i w2 => ∃ q : Nat, q ≤ n ∧ i = .int .i64 q ∧ Ext wo w2) (fun i _ => n - (intOf i).toNat)
          case atStart => exact ⟨0, Nat.zero_le _, rfl, Ext.refl _⟩
          case round =>
            obtain ⟨q, hq, rfl, e2⟩ := hrel
            have E2 : Ext w wr := hxo.out.trans e2
            have p0 := E2.cells O2.out
            have k0 := E2.cells K0.out
            have k1 := E2.cells K1.out
            by_cases hltq : q < n
            · rcases h5 with h5 | ⟨g', c, rfl, hg, ht⟩
              · omega
              have c0 := E2.cells (mark_cell (r := 0) (sz := 1) (m := mkN x.2) (u := .string (textD x.2)) rfl hg ht hltq rfl)
              rw [Nat.mul_one, Nat.add_zero] at c0
              have i2 : (q : Int) < (n : Int) := by omega
              have i4 : (0 : Int) ≤ (q : Int) := by omega
              replace E2 := hide E2; replace e2 := hide e2; replace hg := hide hg; replace ht := hide ht
              go_wp2_with fail
              go_roundw
              case rel => exact ⟨q + 1, by omega, by go_num, e2.out⟩
              case measure => simp [intOf]; omega
            · replace E2 := hide E2; replace e2 := hide e2; replace h5 := hide h5
              go_wp2_with fail
              go_roundw
              case rel => exact ⟨j + 1, by omega, by go_num, E2.out⟩
              case measure => simp [intOf]; omega
        · replace hx := hide hx
          go_wp2_with fail
          go_ret
          exact ⟨rfl, hx.out⟩

set_option maxRecDepth 100000 in
set_option maxHeartbeats 1600000 in
theorem looksN (B O : Nat) (w : World) (vn : Value) (en : List (Value × Nat)) (hb : BkN B w O vn en) (he : en.length ≤ 10000000000000) (hN : ∀ x ∈ en, MarkG 9 1 mkN w x) :
    Calls Try.prog 7 #[.pointer (some ⟨O, 0, none⟩)] w fun e w' => e = .returned (.bool true) ∧ Hid (Ext w w') := by
  have hbl := hide (bookLooksN B O w vn en hb he hN)
  obtain ⟨o0, o1, o2, o3, o4, o5⟩ := six_celB hb.o
  replace hb := hide hb; replace hN := hide hN
  go_enter Try.func7, Try.ntmps7
  go_wp2_with fail
  go_loop [3] (fun i => i = .int .i64 0) (fun _ => 0)
  case atStart => rfl
  case round =>
    subst hrel
    go_wp2_with fail
    go_loop [7] (fun i => i = .int .i64 0) (fun _ => 0)
    case atStart => rfl
    case round =>
      subst hrel
      go_wp2_with fail
      go_loop [11] (fun i => i = .int .i64 0) (fun _ => 0)
      case atStart => rfl
      case round =>
        subst hrel
        go_wp2_with fail
        refine hbl.out.mono ?_
        rintro e w1 ⟨rfl, X⟩
        replace X := hide X
        go_wp2_with fail
        go_ret
        exact ⟨rfl, X⟩

theorem own_someT {w : World} {B cap : Nat} {pa : Option Addr} {e : TypeId} {size n : Nat} {xs : List Value} (h : w.ownsRow B e size (.slice pa n cap) n xs) (hn : 0 < n) : ∃ g, pa = some ⟨g, 0, none⟩ := by
  rcases h.2 with ⟨_, h0⟩ | ⟨g', cap', cur, hv, hb, hg, hc, hm, hs, ht⟩
  · omega
  · cases hv
    exact ⟨g', rfl⟩
theorem own_capT {w : World} {B cap : Nat} {pa : Option Addr} {e : TypeId} {size n : Nat} {xs : List Value} (h : w.ownsRow B e size (.slice pa n cap) n xs) : n ≤ cap ∧ cap ≤ 9223372036854775807 := by
  rcases h.2 with ⟨hv, h0⟩ | ⟨g', cap', cur, hv, hb, hg, hc, hm, hs, ht⟩
  · cases hv; omega
  · cases hv
    exact ⟨hc, by unfold maxLen at hm; omega⟩
theorem text_cell {w : World} {B g cap : Nat} {l : List ByteArray} (h : w.ownsRow B 9 1 (.slice (some ⟨g, 0, none⟩) l.length cap) l.length (cellsT l)) {j : Nat} {x : ByteArray} (hx : l[j]? = some x) : w.cell? ⟨g, j, none⟩ = some (.string x) := by
  have hlt := (List.getElem?_eq_some_iff.1 hx).1
  rw [h.cellAt j (by omega)]
  simp [cellsT, hx]

set_option maxRecDepth 100000 in
set_option maxHeartbeats 1600000 in
theorem sameNamesL (w : World) (l : List ByteArray) (B B' : Nat) (pa pb : Option Addr) (ca cb : Nat) (ha : w.ownsRow B 9 1 (.slice pa l.length ca) l.length (cellsT l)) (hb : w.ownsRow B' 9 1 (.slice pb l.length cb) l.length (cellsT l)) (hf : l.length ≤ 2000000000000) :
    Calls Try.prog 26 #[.slice pa l.length ca, .slice pb l.length cb] w fun e w' => e = .returned (.bool true) ∧ Hid (Ext w w') := by
  have ka := own_capT ha
  have kb := own_capT hb
  replace ha := hide ha; replace hb := hide hb
  go_enter Try.func26, Try.ntmps26
  go_wp2_with fail
  go_loopw [5] (fun i wr => ∃ j : Nat, j ≤ l.length ∧ i = .int .i64 j ∧ Hid (Ext w wr)) (fun i _ => l.length - (intOf i).toNat)
  case atStart => exact ⟨0, Nat.zero_le _, rfl, Ext.refl _⟩
  case round =>
    obtain ⟨j, hj, rfl, hx⟩ := hrel
    by_cases hlt : j < l.length
    · obtain ⟨x, hxj⟩ := some_of_lt hlt
      obtain ⟨ga, rfl⟩ := own_someT ha.out (by omega)
      obtain ⟨gb, rfl⟩ := own_someT hb.out (by omega)
      have a0 := hx.out.cells (text_cell ha.out hxj)
      have b0 := hx.out.cells (text_cell hb.out hxj)
      have j2 : (j : Int) < (l.length : Int) := by omega
      have j4 : (0 : Int) ≤ (j : Int) := by omega
      replace hxj := hide hxj
      go_wp2_with fail
      go_quiet (fail)
      go_wp2_with fail
      go_roundw
      case rel => exact ⟨j + 1, by omega, by go_num, hx.out.drewN _⟩
      case measure => simp [intOf]; omega
    · obtain rfl : j = l.length := by omega
      go_wp2_with fail
      go_ret
      exact ⟨rfl, hx⟩
end Go.Proofs.Ytpkhmgonkbpjjaa

namespace Go.Proofs.Ytpkhmgonkbpjjaa
open Go.RowKit

theorem DiskAt.kept {O E : Nat → Prop} {w w' : World} {d : Nat} {D : DskS} (h : DiskAt O w d D) (k : Kept E w w') (hd : ∀ j, O j → ¬ E j) : DiskAt O w' d D := by
  obtain ⟨nm, tn, tl, vn, vl, vc, kc, sc, fs, gs, rn, rl, h, hO⟩ := h
  exact ⟨nm, tn, tl, vn, vl, vc, kc, sc, fs, gs, rn, rl, h.kept k (fun j hj => hd j (hO j hj)), hO⟩
theorem RefAt.kept {O E : Nat → Prop} {w w' : World} {y : Nat} {D : DskS} (h : RefAt O w y D) (k : Kept E w w') (hd : ∀ j, O j → ¬ E j) : RefAt O w' y D := by
  obtain ⟨vF, vC, kc, sc, h, hO⟩ := h
  exact ⟨vF, vC, kc, sc, h.kept k (fun j hj => hd j (hO j hj)), hO⟩
theorem RefTo.at {O : Nat → Prop} {w w' : World} {y : Nat} {vF vC : Value} {kc sc : Int} {R : DskS} (h : RefTo w y vF vC kc sc R w') (hO : ∀ k, RFoot y vF vC k → O k) : RefAt (Grow O w w') w' y R ∧ Kept O w w' := by
  obtain ⟨vF', vC', h1, h2, h3⟩ := h
  exact ⟨⟨vF', vC', kc, sc, h1, fun k hk => (h3 k hk).imp (hO k) fun h => ⟨h, h1.lt hk⟩⟩, h2.mono fun k _ hk => hO k hk⟩
/-- A disk on both sides, and the book of the names that came out: apart from one another. -/
structure DeskIn (W0 : Nat) (w : World) (d x y b : Nat) (Ox Oy Ob : Nat → Prop) (vn : Value) (en : List (Value × Nat)) (Dx Dy : DskS) : Prop where
  box : w.heap[d]? = some (.cells #[.pointer (some ⟨x, 0, none⟩), .pointer (some ⟨y, 0, none⟩), .pointer (some ⟨b, 0, none⟩)] 43 (0, 0))
  dx : DiskAt Ox w x Dx
  dy : RefAt Oy w y Dy
  bk : BkN W0 w b vn en
  ma : ∀ e ∈ en, MarkG 9 1 mkN w e
  ob : Ob b
  on : ∀ g, vn.ownBlock = some g → Ob g
  oe : ∀ e ∈ en, ∀ g, e.1.ownBlock = some g → elen e = 0 ∨ Ob g
  xy : ∀ k, Ox k → ¬ Oy k
  xb : ∀ k, Ox k → ¬ Ob k
  yb : ∀ k, Oy k → ¬ Ob k
  nx : ¬ Ox d
  ny : ¬ Oy d
  nb : ¬ Ob d
  rx : ∀ k, Ox k → W0 ≤ k ∧ k < w.heap.size
  ry : ∀ k, Oy k → W0 ≤ k ∧ k < w.heap.size
  rb : ∀ k, Ob k → W0 ≤ k ∧ k < w.heap.size
  rd : W0 ≤ d
theorem MarkG.keptS {w w' : World} {D : Nat → Prop} {e : Value × Nat} (h : MarkG 9 1 mkN w e) (k : Kept D w w') (hd : ∀ g, e.1.ownBlock = some g → elen e = 0 ∨ ¬ D g) : MarkG 9 1 mkN w' e := by
  obtain ⟨h1, pa, n, cap, h2, h3, h4, h5, h6⟩ := h
  refine ⟨h1, pa, n, cap, h2, h3, h4, h5, ?_⟩
  rcases h6 with h6 | ⟨g, c, e3, hg, ht⟩
  · exact .inl h6
  · have he : elen e = n := by unfold elen; rw [h2]
    rcases hd g (by rw [h2, e3]; rfl) with h7 | h7
    · exact .inl (by omega)
    · exact .inr ⟨g, c, e3, k.heap hg h7, ht⟩
section
variable {W0 : Nat} {w w' : World} {d x y b : Nat} {Ox Oy Ob : Nat → Prop} {vn : Value} {en : List (Value × Nat)} {Dx Dy : DskS}
theorem DeskIn.ltd (h : DeskIn W0 w d x y b Ox Oy Ob vn en Dx Dy) : d < w.heap.size := (Array.getElem?_eq_some_iff.1 h.box).1
theorem DeskIn.ext (h : DeskIn W0 w d x y b Ox Oy Ob vn en Dx Dy) (e : Ext w w') : DeskIn W0 w' d x y b Ox Oy Ob vn en Dx Dy :=
  have k := e.kept (fun _ => False)
  have s := Ext.size e
  ⟨ext_heap e h.box, h.dx.kept k (fun _ _ => id), h.dy.kept k (fun _ _ => id), h.bk.ext e, fun q hq => (h.ma q hq).keptS k (fun _ _ => .inr id), h.ob, h.on, h.oe, h.xy, h.xb, h.yb, h.nx, h.ny, h.nb, fun q hq => ⟨(h.rx q hq).1, Nat.lt_of_lt_of_le (h.rx q hq).2 s⟩, fun q hq => ⟨(h.ry q hq).1, Nat.lt_of_lt_of_le (h.ry q hq).2 s⟩, fun q hq => ⟨(h.rb q hq).1, Nat.lt_of_lt_of_le (h.rb q hq).2 s⟩, h.rd⟩
theorem DeskIn.size (h : DeskIn W0 w d x y b Ox Oy Ob vn en Dx Dy) : W0 ≤ w.heap.size := Nat.le_trans h.rd (Nat.le_of_lt h.ltd)
/-- The program's side has turned. -/
theorem DeskIn.stepX {R : DskS} (h : DeskIn W0 w d x y b Ox Oy Ob vn en Dx Dy) (hd : DiskAt (Grow Ox w w') w' x R) (k : Kept Ox w w') : DeskIn W0 w' d x y b (Grow Ox w w') Oy Ob vn en R Dy := by
  have s := k.size
  have hW := h.size
  refine ⟨k.heap h.box h.nx, hd, h.dy.kept k (fun q hq hx => h.xy q hx hq), h.bk.kept k (fun hx => h.xb b hx h.ob) (fun g hg hx => h.xb g hx (h.on g hg)), fun q hq => (h.ma q hq).keptS k (fun g hg => (h.oe q hq g hg).imp id fun ho hx => h.xb g hx ho), h.ob, h.on, h.oe, ?_, ?_, h.yb, ?_, h.ny, h.nb, ?_, fun q hq => ⟨(h.ry q hq).1, Nat.lt_of_lt_of_le (h.ry q hq).2 s⟩, fun q hq => ⟨(h.rb q hq).1, Nat.lt_of_lt_of_le (h.rb q hq).2 s⟩, h.rd⟩
  · rintro q (hq | hq) hy
    · exact h.xy q hq hy
    · have := (h.ry q hy).2; omega
  · rintro q (hq | hq) hy
    · exact h.xb q hq hy
    · have := (h.rb q hy).2; omega
  · rintro (hq | hq)
    · exact h.nx hq
    · have := h.ltd; omega
  · rintro q (hq | hq)
    · exact ⟨(h.rx q hq).1, Nat.lt_of_lt_of_le (h.rx q hq).2 s⟩
    · exact ⟨by omega, hq.2⟩
/-- The reference's side has turned. -/
theorem DeskIn.stepY {R : DskS} (h : DeskIn W0 w d x y b Ox Oy Ob vn en Dx Dy) (hd : RefAt (Grow Oy w w') w' y R) (k : Kept Oy w w') : DeskIn W0 w' d x y b Ox (Grow Oy w w') Ob vn en Dx R := by
  have s := k.size
  have hW := h.size
  refine ⟨k.heap h.box h.ny, h.dx.kept k (fun q hq hy => h.xy q hq hy), hd, h.bk.kept k (fun hx => h.yb b hx h.ob) (fun g hg hx => h.yb g hx (h.on g hg)), fun q hq => (h.ma q hq).keptS k (fun g hg => (h.oe q hq g hg).imp id fun ho hx => h.yb g hx ho), h.ob, h.on, h.oe, ?_, h.xb, ?_, h.nx, ?_, h.nb, fun q hq => ⟨(h.rx q hq).1, Nat.lt_of_lt_of_le (h.rx q hq).2 s⟩, ?_, fun q hq => ⟨(h.rb q hq).1, Nat.lt_of_lt_of_le (h.rb q hq).2 s⟩, h.rd⟩
  · rintro q hx (hq | hq)
    · exact h.xy q hx hq
    · have := (h.rx q hx).2; omega
  · rintro q (hq | hq) hy
    · exact h.yb q hq hy
    · have := (h.rb q hy).2; omega
  · rintro (hq | hq)
    · exact h.ny hq
    · have := h.ltd; omega
  · rintro q (hq | hq)
    · exact ⟨(h.ry q hq).1, Nat.lt_of_lt_of_le (h.ry q hq).2 s⟩
    · exact ⟨by omega, hq.2⟩
end
/-- A disk on both sides, with so many lists in the book at most. -/
def DeskAt (W0 : Nat) (w : World) (d x y b : Nat) (D : DskS) (m : Nat) : Prop := ∃ Ox Oy Ob vn en, DeskIn W0 w d x y b Ox Oy Ob vn en D D ∧ en.length ≤ m
/-- What a deed leaves. -/
def DeedIs (W0 : Nat) (w : World) (d x y b : Nat) (D : DskS) (m : Nat) (e : Ending) (w' : World) : Prop :=
  e = .returned (.bool true) ∧ Hid (∃ D', DeskAt W0 w' d x y b D' (m + 4) ∧ D'.chs.length ≤ D.chs.length + 1 ∧ D'.files.length ≤ D.files.length + 1) ∧ Hid (Kept (fun k => W0 ≤ k) w w')
/-- A deed, as it is handed in. -/
def deedV (kind K keep stay : Int) (name dst txt : ByteArray) : Value := .agg #[.int .i64 kind, .int .i64 K, .int .i64 keep, .int .i64 stay, .string name, .string dst, .string txt]
theorem names_one {D : DskS} {l m : List ByteArray} (hl : NamesOf D l) (hm : NamesOf D m) : l = m := by
  have hp : l.Perm m := hl.1.trans hm.1.symm
  refine hp.eq_of_pairwise (le := fun a b => cmpS a b < 0) (fun a b _ _ h1 h2 => ?_) hl.2 hm.2
  have := cmpS_flip a b
  omega
theorem act_len {D : DskS} {f : DskS → DskS × Int} (h1 : ∀ e : DskS, (f e).1.chs.length ≤ e.chs.length + 1) (h2 : ∀ e : DskS, (f e).1.files.length ≤ e.files.length + 1) : (D.act f).1.chs.length ≤ D.chs.length + 1 ∧ (D.act f).1.files.length ≤ D.files.length + 1 := by
  have e1 := h1 D.begin
  have e2 := h2 D.begin
  have b1 : D.begin.chs.length = D.chs.length := rfl
  have b2 : D.begin.files.length = D.files.length := rfl
  unfold DskS.act
  split
  · refine ⟨?_, ?_⟩
    · simp only [DskS.crash, DskS.settle, List.length_take]; omega
    · simp only [DskS.crash, crashF_len, DskS.settle]; omega
  · omega
theorem sync_len {D : DskS} {f : DskS → DskS × Int} (h1 : ∀ e : DskS, (f e).1.chs.length ≤ e.chs.length + 1) (h2 : ∀ e : DskS, (f e).1.files.length ≤ e.files.length + 1) : (D.syncAct f).1.chs.length ≤ D.chs.length + 1 ∧ (D.syncAct f).1.files.length ≤ D.files.length + 1 := by
  have e1 := h1 D.begin
  have e2 := h2 D.begin
  have b1 : D.begin.chs.length = D.chs.length := rfl
  have b2 : D.begin.files.length = D.files.length := rfl
  unfold DskS.syncAct
  split
  · refine ⟨?_, ?_⟩
    · simp only [DskS.crash, DskS.settle, List.length_take]; omega
    · simp only [DskS.crash, crashF_len, DskS.settle]; omega
  · omega
theorem crash_len (D : DskS) (keep names : Int) : (D.crash keep names).chs.length ≤ D.chs.length + 1 ∧ (D.crash keep names).files.length ≤ D.files.length + 1 := by
  refine ⟨?_, ?_⟩
  · simp only [DskS.crash, DskS.settle, List.length_take]; omega
  · simp only [DskS.crash, crashF_len, DskS.settle]; omega
theorem break_len (D : DskS) (k keep names : Int) : (D.break k keep names).1.chs.length ≤ D.chs.length + 1 ∧ (D.break k keep names).1.files.length ≤ D.files.length + 1 := by
  unfold DskS.break
  split <;> simp
theorem l_write (name s : ByteArray) (e : DskS) : (e.write1 name s).1.chs.length ≤ e.chs.length + 1 ∧ (e.write1 name s).1.files.length ≤ e.files.length + 1 := by
  unfold DskS.write1
  split
  · split <;> simp
  · simp
theorem l_append (name s : ByteArray) (e : DskS) : (e.append1 name s).1.chs.length ≤ e.chs.length + 1 ∧ (e.append1 name s).1.files.length ≤ e.files.length + 1 := by
  unfold DskS.append1
  split
  · split <;> simp
  · simp
theorem l_sync (name : ByteArray) (e : DskS) : (e.sync1 name).1.chs.length ≤ e.chs.length + 1 ∧ (e.sync1 name).1.files.length ≤ e.files.length + 1 := by
  unfold DskS.sync1
  split <;> simp
theorem l_rename (a c : ByteArray) (e : DskS) : (e.rename1 a c).1.chs.length ≤ e.chs.length + 1 ∧ (e.rename1 a c).1.files.length ≤ e.files.length + 1 := by
  unfold DskS.rename1
  split
  · split <;> simp
  · simp
theorem l_remove (name : ByteArray) (e : DskS) : (e.remove1 name).1.chs.length ≤ e.chs.length + 1 ∧ (e.remove1 name).1.files.length ≤ e.files.length + 1 := by
  unfold DskS.remove1
  split <;> simp
theorem l_syncN (e : DskS) : e.syncN1.1.chs.length ≤ e.chs.length + 1 ∧ e.syncN1.1.files.length ≤ e.files.length + 1 := by
  unfold DskS.syncN1
  simp
end Go.Proofs.Ytpkhmgonkbpjjaa

namespace Go.Proofs.Ytpkhmgonkbpjjaa
open Go.RowKit

attribute [local go_sem] Go.World.cell?_alloc_some

set_option maxRecDepth 100000 in
set_option maxHeartbeats 1600000 in
theorem deed7 (W0 : Nat) (w : World) (d x y b : Nat) (Ox Oy Ob : Nat → Prop) (vn : Value) (en : List (Value × Nat)) (D : DskS) (K keep stay : Int) (name dst txt : ByteArray) (h : DeskIn W0 w d x y b Ox Oy Ob vn en D D) (hc : D.chs.length + 2 ≤ 2000000000000) (hz : name.size ≤ 4611686018427387904) :
    Calls Try.prog 6 #[.pointer (some ⟨d, 0, none⟩), deedV 7 K keep stay name dst txt] w fun e w' => e = .returned (.bool true) ∧ Hid (Ext w w') := by
  unfold deedV
  obtain ⟨S, E, hrv⟩ : ∃ S E, readV D name = .tuple #[.string S, .int .i64 E] := ⟨_, _, rfl⟩
  have X1 := (Ext.refl w).alloc (.cells #[.int .i64 7, .int .i64 K, .int .i64 keep, .int .i64 stay, .string name, .string dst, .string txt] 46)
  have hW := h.ext X1.drew
  have hx := readP Ox _ x D name hW.dx (by omega)
  rw [hrv] at hx
  obtain ⟨b0, b1, b2, b3, b4, b5, b6⟩ := seven_at (heap_alloc_new w (.cells #[.int .i64 7, .int .i64 K, .int .i64 keep, .int .i64 stay, .string name, .string dst, .string txt] 46))
  have d0 : (w.alloc (.cells #[.int .i64 7, .int .i64 K, .int .i64 keep, .int .i64 stay, .string name, .string dst, .string txt] 46)).cell? ⟨d, 0, none⟩ = some (.pointer (some ⟨x, 0, none⟩)) := by simp [World.cell?, ext_heap X1 h.box]
  replace hx := hide hx; replace hW := hide hW; replace X1 := hide X1; replace h := hide h
  go_enter Try.func6, Try.ntmps6
  go_wp2_with fail
  go_region_held3 (fun w' => w'.cell? ⟨d, 0, none⟩ = some (.pointer (some ⟨x, 0, none⟩)) ∧ w'.cell? ⟨w.heap.size, 4, none⟩ = some (.string name)) (go_keep) ((go_at_call 22; refine hx.out.mono ?_; rintro e1 w1 ⟨rfl, Y1⟩; go_must (have k0 := Y1.out.cells (p := ⟨d, 0, none⟩) (v := .pointer (some ⟨x, 0, none⟩)) (by simpa using d0); have k4 := Y1.out.cells (p := ⟨w.heap.size, 4, none⟩) (v := .string name) (by simp))))
  have hI1 := hW.out.ext Y1.out
  have dy : w1.cell? ⟨d, 1, none⟩ = some (.pointer (some ⟨y, 0, none⟩)) := by simp [World.cell?, hI1.box]
  obtain ⟨vF, vC, kc, sc, hRI, hOy⟩ := hI1.dy
  have hy := refRead w1.drew y vF vC kc sc D name (hRI.ext (Ext.refl w1).drew) (by omega) (by omega)
  rw [hrv] at hy
  replace hy := hide hy; replace hI1 := hide hI1; replace hRI := hide hRI
  clear k0
  go_wp2_with fail
  go_region_held3 (fun w' => w'.cell? ⟨d, 1, none⟩ = some (.pointer (some ⟨y, 0, none⟩)) ∧ w'.cell? ⟨w.heap.size, 4, none⟩ = some (.string name)) (go_keep) ((go_at_call 23; refine hy.out.mono ?_; rintro e2 w2 ⟨rfl, Y2⟩; go_must (have j0 := Y2.out.cells (p := ⟨d, 1, none⟩) (v := .pointer (some ⟨y, 0, none⟩)) (by simpa using dy); have j4 := Y2.out.cells (p := ⟨w.heap.size, 4, none⟩) (v := .string name) (by simpa using k4))))
  go_wp2_with fail
  go_ret
  exact ⟨rfl, ((X1.out.drew.trans Y1.out).drew).trans Y2.out⟩
/-- The book has turned: a list more. -/
theorem DeskIn.stepB {W0 : Nat} {w w1 w' : World} {d x y b : Nat} {Ox Oy Ob : Nat → Prop} {vn vn' l : Value} {en ex : List (Value × Nat)} {D : DskS} (h : DeskIn W0 w d x y b Ox Oy Ob vn en D D) (X : Ext w w1) (hl : ∀ g, l.ownBlock = some g → w.heap.size ≤ g)
    (hb : BkN W0 w' b vn' (en ++ ex)) (hm : ∀ q ∈ ex, MarkG 9 1 mkN w' q) (he : ∀ q ∈ ex, ∀ g, q.1.ownBlock = some g → l.ownBlock = some g ∨ w1.heap.size ≤ g) (k : Kept (TurnA l vn b) w1 w') (hv : ∀ g, vn'.ownBlock = some g → vn.ownBlock = some g ∨ w1.heap.size ≤ g) :
    DeskIn W0 w' d x y b Ox Oy (Grow Ob w w') vn' (en ++ ex) D D := by
  have h1 := h.ext X
  have s1 := Ext.size X
  have s2 := k.size
  have hW := h.size
  have hin : ∀ q, q < w.heap.size → TurnA l vn b q → Ob q := fun q hq ht => by
    rcases ht with e | e | e
    · have := hl q e.symm; omega
    · exact h.on q e.symm
    · rw [e]; exact h.ob
  have hlt : ∀ g c t fz, w'.heap[g]? = some (.cells c t fz) → g < w'.heap.size := fun g c t fz hg => (Array.getElem?_eq_some_iff.1 hg).1
  refine ⟨k.heap h1.box (fun e => h.nb (hin d h.ltd e)), h1.dx.kept k (fun q hq e => h.xb q hq (hin q (h.rx q hq).2 e)), h1.dy.kept k (fun q hq e => h.yb q hq (hin q (h.ry q hq).2 e)), hb, fun q hq => ?_, .inl h.ob, fun g hg => ?_, fun q hq g hg => ?_, h.xy, ?_, ?_, h.nx, h.ny, ?_, fun q hq => ⟨(h.rx q hq).1, by have := (h.rx q hq).2; omega⟩, fun q hq => ⟨(h.ry q hq).1, by have := (h.ry q hq).2; omega⟩, ?_, h.rd⟩
  · rcases List.mem_append.1 hq with hq | hq
    · obtain ⟨m1, pa, n, cap, m2, m3, m4, m5, m6⟩ := h1.ma q hq
      refine ⟨m1, pa, n, cap, m2, m3, m4, m5, ?_⟩
      rcases m6 with m6 | ⟨g, c, m7, hc, ht⟩
      · exact .inl m6
      · have hen : elen q = n := by unfold elen; rw [m2]
        rcases h.oe q hq g (by rw [m2, m7]; rfl) with m8 | m8
        · exact .inl (by omega)
        · refine .inr ⟨g, c, m7, k.heap hc fun e => ?_, ht⟩
          have hgl := (h.rb g m8).2
          rcases e with e | e | e
          · have := hl g e.symm; omega
          · exact ownsRow_ne h1.bk.n hc (by decide) e
          · exact tag_ne hc h1.bk.o (by decide) e
    · exact hm q hq
  · rcases hv g hg with e | e
    · exact .inl (h.on g e)
    · have := (hb.n.lt g hg).2
      exact .inr ⟨by omega, this⟩
  · rcases List.mem_append.1 hq with hq' | hq'
    · exact (h.oe q hq' g hg).imp id .inl
    · obtain ⟨_, pa, n, cap, e1, _, _, _, e2⟩ := hm q hq'
      rcases e2 with e2 | ⟨g', c, e3, e4, _⟩
      · left; unfold elen; rw [e1]; exact e2
      · right
        have hw : w.heap.size ≤ g := (he q hq' g hg).elim (hl g) (fun h => Nat.le_trans s1 h)
        rw [e1, e3] at hg
        obtain rfl : g' = g := by simpa [Value.ownBlock] using hg
        exact .inr ⟨hw, hlt _ _ _ _ e4⟩
  · rintro q hq (hb' | hb')
    · exact h.xb q hq hb'
    · have := (h.rx q hq).2; omega
  · rintro q hq (hb' | hb')
    · exact h.yb q hq hb'
    · have := (h.ry q hq).2; omega
  · rintro (hb' | hb')
    · exact h.nb hb'
    · have := h.ltd; omega
  · rintro q (hb' | hb')
    · exact ⟨(h.rb q hb').1, by have := (h.rb q hb').2; omega⟩
    · exact ⟨by omega, hb'.2⟩
end Go.Proofs.Ytpkhmgonkbpjjaa
