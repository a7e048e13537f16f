/-
  A disk on both sides: its names come out, and are the caller's; any deed.
-/
import Derived.Test.YtpkhmgonkbpjjaaDeskB
import Derived.Test.YtpkhmgonkbpjjaaDeskC
import Derived.Test.YtpkhmgonkbpjjaaJ12
namespace Go.Proofs.Ytpkhmgonkbpjjaa
open Go.RowKit

attribute [local go_sem] Go.World.cell?_alloc_some
theorem names_len {D : DskS} {l : List ByteArray} (h : NamesOf D l) : l.length ≤ D.chs.length := by
  have h1 := h.1.length_eq
  rw [List.length_map] at h1
  have h2 : D.names.length ≤ D.chs.length := play_len D.chs
  omega

set_option maxRecDepth 100000 in
set_option maxHeartbeats 1600000 in
theorem deed8 (W0 : Nat) (w : World) (d x y b : Nat) (Ox Oy Ob : Nat → Prop) (vn : Value) (en : List (Value × Nat)) (D : DskS) (m : Nat) (K keep stay : Int) (name dst txt : ByteArray) (h : DeskIn W0 w d x y b Ox Oy Ob vn en D D) (hm : en.length ≤ m) (hm2 : m ≤ 7036874417568) (hc : D.chs.length + 2 ≤ 2000000000000) :
    Calls Try.prog 6 #[.pointer (some ⟨d, 0, none⟩), deedV 8 K keep stay name dst txt] w (DeedIs W0 w d x y b D m) := by
  unfold deedV
  have X1 := (Ext.refl w).alloc (.cells #[.int .i64 8, .int .i64 K, .int .i64 keep, .int .i64 stay, .string name, .string dst, .string txt] 46)
  have hW := h.ext X1
  have hx := hide (namesP Ox _ x D hW.dx)
  have d0 : (w.alloc (.cells #[.int .i64 8, .int .i64 K, .int .i64 keep, .int .i64 stay, .string name, .string dst, .string txt] 46)).cell? ⟨d, 0, none⟩ = some (.pointer (some ⟨x, 0, none⟩)) := by simp [World.cell?, ext_heap X1 h.box]
  have hsW : w.heap.size ≤ (w.alloc (.cells #[.int .i64 8, .int .i64 K, .int .i64 keep, .int .i64 stay, .string name, .string dst, .string txt] 46)).heap.size := Ext.size X1
  replace hsW := hide hsW
  replace hW := hide hW; replace X1 := hide X1; replace h := hide h
  go_enter Try.func6, Try.ntmps6
  go_wp2_with fail
  refine hx.out.mono ?_
  rintro e1 w1 ⟨l, pa, ca, rfl, hN1, hr1, Y1⟩
  have hI1 := hW.out.ext Y1.out
  have dy : w1.cell? ⟨d, 1, none⟩ = some (.pointer (some ⟨y, 0, none⟩)) := by simp [World.cell?, hI1.box]
  obtain ⟨vF, vC, kc, sc, hRI, hOy⟩ := hI1.dy
  have hy := hide (refNames w1 y vF vC kc sc D hRI (by omega))
  replace hI1 := hide hI1; replace hRI := hide hRI
  clear d0
  go_wp2_with fail
  refine hy.out.mono ?_
  rintro e2 w2 ⟨l2, pb, cb, rfl, hN2, hr2, Y2⟩
  obtain rfl := names_one hN1.out hN2.out
  have hll := names_len hN1.out
  have hr1' := hide (ownsRow_wrote hr1.out (Wrote.ext (B := 0) (T := fun _ => False) Y2.out) id rfl)
  go_wp2_with fail
  refine (sameNamesL w2 l _ _ pa pb ca cb hr1'.out hr2.out (by omega)).mono ?_
  rintro e3 w3 ⟨rfl, Y3⟩
  have hI3 := hI1.out.ext (Y2.out.trans Y3.out)
  have db : w3.cell? ⟨d, 2, none⟩ = some (.pointer (some ⟨b, 0, none⟩)) := by simp [World.cell?, hI3.box]
  have hr3 := ownsRow_wrote hr1'.out (Wrote.ext (B := 0) (T := fun _ => False) Y3.out) id rfl
  have hlo : Hid (∀ g, (Value.slice pa l.length ca).ownBlock = some g → w.heap.size ≤ g) := fun g hg => Nat.le_trans hsW.out (hr3.lt g hg).1
  have how := hide (ownNames W0 b w3 vn en (.slice pa l.length ca) l.length (cellsT l) hI3.bk hI3.size (ownsRow_low hr3 (Nat.le_trans h.out.size hsW.out)) (by omega) (by omega))
  replace hI3 := hide hI3; replace hr3 := hide hr3
  clear dy
  go_wp2_with fail
  refine how.out.mono ?_
  rintro e4 w4 ⟨vn', ex, rfl, q1, q2, q3, q4, q5, q6⟩
  have X3 : Ext w w3 := ((X1.out.trans Y1.out).trans Y2.out).trans Y3.out
  have hfin := hide (h.out.stepB X3 hlo.out q1.out q3.out q4.out q5.out q6.out)
  go_wp2_with fail
  go_ret
  refine ⟨rfl, ⟨D, ⟨_, _, _, _, _, hfin.out, by rw [List.length_append]; omega⟩, by omega, by omega⟩, ?_⟩
  refine (X3.kept (fun k => W0 ≤ k)).trans q5.out fun k _ hk => ?_
  rcases hk with e | e | e
  · exact Nat.le_trans h.out.size (hlo.out k e.symm)
  · exact (h.out.rb k (h.out.on k e.symm)).1
  · rw [e]; exact (h.out.rb b h.out.ob).1

set_option maxRecDepth 100000 in
set_option maxHeartbeats 1600000 in
theorem deed0 (W0 : Nat) (w : World) (d x y b : Nat) (D : DskS) (m : Nat) (kind K keep stay : Int) (name dst txt : ByteArray) (h : DeskAt W0 w d x y b D m) (hk : kind < 1 ∨ 10 < kind) :
    Calls Try.prog 6 #[.pointer (some ⟨d, 0, none⟩), deedV kind K keep stay name dst txt] w (DeedIs W0 w d x y b D m) := by
  unfold deedV
  have X1 := (Ext.refl w).alloc (.cells #[.int .i64 kind, .int .i64 K, .int .i64 keep, .int .i64 stay, .string name, .string dst, .string txt] 46)
  have k1 : (kind == 1) = false := by simp; omega
  have k2 : (kind == 2) = false := by simp; omega
  have k3 : (kind == 3) = false := by simp; omega
  have k4 : (kind == 4) = false := by simp; omega
  have k5 : (kind == 5) = false := by simp; omega
  have k6 : (kind == 6) = false := by simp; omega
  have k7 : (kind == 7) = false := by simp; omega
  have k8 : (kind == 8) = false := by simp; omega
  have k9 : (kind == 9) = false := by simp; omega
  have k10 : (kind == 10) = false := by simp; omega
  replace X1 := hide X1; replace h := hide h; replace hk := hide hk
  go_enter Try.func6, Try.ntmps6
  go_wp2_with fail
  go_ret
  obtain ⟨Ox, Oy, Ob, vn, en, hI, hl⟩ := h.out
  exact ⟨rfl, ⟨D, ⟨Ox, Oy, Ob, vn, en, hI.ext X1.out, by omega⟩, by omega, by omega⟩, X1.out.kept _⟩
/-- Any deed. -/
theorem deedP (W0 : Nat) (w : World) (d x y b : Nat) (D : DskS) (m : Nat) (kind K keep stay : Int) (name dst txt : ByteArray) (h : DeskAt W0 w d x y b D m) (hm : m ≤ 7036874417568) (hc : D.chs.length + 2 ≤ 2000000000000) (hf : D.files.length + 1 ≤ 2000000000000) (hz : name.size ≤ 4611686018427387904) (hzt : dst.size ≤ 4611686018427387904) (hzs : txt.size ≤ 4611686018427387904) (hK : K ≤ 9223372036854775807) (hst : stay ≤ 9223372036854775807) :
    Calls Try.prog 6 #[.pointer (some ⟨d, 0, none⟩), deedV kind K keep stay name dst txt] w (DeedIs W0 w d x y b D m) := by
  by_cases hk : kind < 1 ∨ 10 < kind
  · exact deed0 W0 w d x y b D m kind K keep stay name dst txt h hk
  · obtain ⟨Ox, Oy, Ob, vn, en, hI, hl⟩ := h
    have : kind = 1 ∨ kind = 2 ∨ kind = 3 ∨ kind = 4 ∨ kind = 5 ∨ kind = 6 ∨ kind = 7 ∨ kind = 8 ∨ kind = 9 ∨ kind = 10 := by omega
    rcases this with rfl | rfl | rfl | rfl | rfl | rfl | rfl | rfl | rfl | rfl
    · exact deed1 W0 w d x y b Ox Oy Ob vn en D m K keep stay name dst txt hI hl hc hf hz hzs
    · exact deed2 W0 w d x y b Ox Oy Ob vn en D m K keep stay name dst txt hI hl hc hz hzs
    · exact deed3 W0 w d x y b Ox Oy Ob vn en D m K keep stay name dst txt hI hl hc hz
    · exact deed4 W0 w d x y b Ox Oy Ob vn en D m K keep stay name dst txt hI hl hc hz hzt
    · exact deed5 W0 w d x y b Ox Oy Ob vn en D m K keep stay name dst txt hI hl hc hz
    · exact deed6 W0 w d x y b Ox Oy Ob vn en D m K keep stay name dst txt hI hl hc
    · refine (deed7 W0 w d x y b Ox Oy Ob vn en D K keep stay name dst txt hI hc hz).mono ?_
      rintro e w' ⟨rfl, X⟩
      exact ⟨rfl, ⟨D, ⟨Ox, Oy, Ob, vn, en, hI.ext X.out, by omega⟩, by omega, by omega⟩, X.out.kept _⟩
    · exact deed8 W0 w d x y b Ox Oy Ob vn en D m K keep stay name dst txt hI hl hm hc
    · exact deed9 W0 w d x y b Ox Oy Ob vn en D m K keep stay name dst txt hI hl hK hst
    · exact deed10 W0 w d x y b Ox Oy Ob vn en D m K keep stay name dst txt hI hl hc hst
end Go.Proofs.Ytpkhmgonkbpjjaa
