/-
  A disk: append and remove as they are called.
-/
import Derived.Test.YtpkhmgonkbpjjaaDkY
import Derived.Test.YtpkhmgonkbpjjaaFilA
namespace Go.Proofs.Ytpkhmgonkbpjjaa
open Go.RowKit Go.Shelf

attribute [local go_sem] Go.World.cell?_alloc_some
theorem len_append (D : DskS) (name s : ByteArray) : ((DskS.append1 name s) D).1.chs.length ≤ D.chs.length + 1 := by
  unfold DskS.append1
  split
  · split <;> simp
  · simp
theorem len_remove (D : DskS) (name : ByteArray) : ((DskS.remove1 name) D).1.chs.length ≤ D.chs.length + 1 := by
  unfold DskS.remove1
  split <;> simp

set_option maxRecDepth 100000 in
theorem doAppend (O : Nat → Prop) (W : World) (d b0 b1 b2 : Nat) (D : DskS) (kc sc : Int) (name s : ByteArray) (hK : DiskK O W d D kc sc) (hb0 : W.cell? ⟨b0, 0, none⟩ = some (.pointer (some ⟨d, 0, none⟩))) (hb1 : W.cell? ⟨b1, 0, none⟩ = some (.string name)) (hb2 : W.cell? ⟨b2, 0, none⟩ = some (.string s)) (hq0 : name.size ≤ 9223372036854775807) (hq1 : s.size ≤ 9223372036854775807) (hfew : D.chs.length + 1 ≤ 2000000000000) :
    Calls Try.prog 45 #[.pointer (some ⟨b0, 0, none⟩), .pointer (some ⟨b1, 0, none⟩), .pointer (some ⟨b2, 0, none⟩)] W (InIs O W d kc sc (DskS.append1 name s D)) := by
  have hin := hide (appendI O W d D kc sc name s hK hq0 hq1 (by omega))
  replace hK := hide hK
  go_enter Try.func45, Try.ntmps45
  go_wp2_with fail
  refine hin.out.mono ?_
  rintro e1 w1 ⟨rfl, h1, h2⟩
  go_wp2_with fail
  go_ret
  exact ⟨rfl, h1, h2⟩

set_option maxRecDepth 100000 in
set_option maxHeartbeats 800000 in
theorem actAppend (O : Nat → Prop) (W : World) (d b0 b1 b2 : Nat) (D : DskS) (name s : ByteArray) (h : DiskAt O W d D) (hb0 : W.cell? ⟨b0, 0, none⟩ = some (.pointer (some ⟨d, 0, none⟩))) (hb1 : W.cell? ⟨b1, 0, none⟩ = some (.string name)) (hb2 : W.cell? ⟨b2, 0, none⟩ = some (.string s)) (hO : ¬ O b0 ∧ ¬ O b1 ∧ ¬ O b2) (hq0 : name.size ≤ 9223372036854775807) (hq1 : s.size ≤ 9223372036854775807) (hfew : D.chs.length + 2 ≤ 2000000000000) (hlen : ((DskS.append1 name s) D.begin).1.chs.length ≤ D.chs.length + 1) :
    Calls Try.prog 38 #[.pointer (some ⟨d, 0, none⟩), .func (.func 45) #[] #[.pointer (some ⟨b0, 0, none⟩), .pointer (some ⟨b1, 0, none⟩), .pointer (some ⟨b2, 0, none⟩)]] W (OpIs O W d (D.act (DskS.append1 name s))) := by
  obtain ⟨kc, sc, hK, hbr⟩ := h.k
  have hbn := hide (breaksNowP O W d D kc sc hK hbr)
  replace h := hide h; replace hK := hide hK; replace hbr := hide hbr
  go_enter Try.func38, Try.ntmps38
  go_wp2_with fail
  refine hbn.out.mono ?_
  rintro e1 w1 ⟨rfl, k1, k2⟩
  have c0 := k2.out.cell hb0 (hO.1)
  have c1 := k2.out.cell hb1 (hO.2.1)
  have c2 := k2.out.cell hb2 (hO.2.2)
  have hdo := hide (doAppend O w1 d b0 b1 b2 D.begin kc sc name s k1.out c0 c1 c2 hq0 hq1 (by show D.chs.length + 1 ≤ 2000000000000; omega))
  by_cases hz : D.due = 1
  · have hb : decide (D.due = 1) = true := by simp [hz]
    rw [hb]
    have hr : D.act (DskS.append1 name s) = (((DskS.append1 name s) D.begin).1.crash D.keep D.stay, 14) := by unfold DskS.act; rw [if_pos hz]
    obtain ⟨q1, q2⟩ := hbr.out (by omega)
    replace hz := hide hz; replace hr := hide hr
    go_wp2_with fail
    refine hdo.out.mono ?_
    rintro e2 w2 ⟨rfl, k3, k4⟩
    go_wp2_with fail
    refine (fallP _ w2 d _ kc sc k3.out (by omega)).mono ?_
    rintro e3 w3 ⟨rfl, k5, k6⟩
    go_wp2_with fail
    go_ret
    rw [hr.out]
    subst q1 q2
    refine ⟨rfl, (k5.out.mono fun k hk hg => ?_).at, k2.out.trans (k4.out.grow k6.out) (fun _ _ h => h)⟩
    have := Grow.step k4.out.size k6.out.size hg
    exact this.imp id fun h => ⟨Nat.le_trans k2.out.size h.1, h.2⟩
  · have hb : decide (D.due = 1) = false := by simp [hz]
    rw [hb]
    have hr : D.act (DskS.append1 name s) = (DskS.append1 name s) D.begin := by unfold DskS.act; rw [if_neg hz]
    replace hz := hide hz; replace hr := hide hr
    go_wp2_with fail
    refine hdo.out.mono ?_
    rintro e2 w2 ⟨rfl, k3, k4⟩
    go_wp2_with fail
    go_ret
    rw [hr.out]
    exact ⟨rfl, (k3.out.mono fun k hk hg => hg.imp id fun h => ⟨Nat.le_trans k2.out.size h.1, h.2⟩).at, k2.out.trans k4.out (fun _ _ h => h)⟩

set_option maxRecDepth 100000 in
set_option maxHeartbeats 800000 in
theorem opAppend (O : Nat → Prop) (w : World) (d : Nat) (D : DskS) (name s : ByteArray) (h : DiskAt O w d D) (hO : ∀ k, O k → k < w.heap.size) (hq0 : name.size ≤ 9223372036854775807) (hq1 : s.size ≤ 9223372036854775807) (hfew : D.chs.length + 2 ≤ 2000000000000) :
    Calls Try.prog 12 #[.pointer (some ⟨d, 0, none⟩), .string name, .string s] w (OpIs O w d (D.append name s)) := by
  have X0 := ((((Ext.refl w).alloc (.cells #[.pointer (some ⟨d, 0, none⟩)] 23)).alloc (.cells #[.string name] 9)).alloc (.cells #[.string s] 9))
  have sz : w.heap.size ≤ (((w.alloc (.cells #[.pointer (some ⟨d, 0, none⟩)] 23)).alloc (.cells #[.string name] 9)).alloc (.cells #[.string s] 9)).heap.size := Ext.size X0
  have x0 : (((w.alloc (.cells #[.pointer (some ⟨d, 0, none⟩)] 23)).alloc (.cells #[.string name] 9)).alloc (.cells #[.string s] 9)).cell? ⟨w.heap.size, 0, none⟩ = some (.pointer (some ⟨d, 0, none⟩)) := by simp [go_sem]
  have x1 : (((w.alloc (.cells #[.pointer (some ⟨d, 0, none⟩)] 23)).alloc (.cells #[.string name] 9)).alloc (.cells #[.string s] 9)).cell? ⟨w.heap.size + 1, 0, none⟩ = some (.string name) := by simp [go_sem]
  have x2 : (((w.alloc (.cells #[.pointer (some ⟨d, 0, none⟩)] 23)).alloc (.cells #[.string name] 9)).alloc (.cells #[.string s] 9)).cell? ⟨w.heap.size + 2, 0, none⟩ = some (.string s) := by simp [go_sem]
  have hac := hide (actAppend O (((w.alloc (.cells #[.pointer (some ⟨d, 0, none⟩)] 23)).alloc (.cells #[.string name] 9)).alloc (.cells #[.string s] 9)) d (w.heap.size) (w.heap.size + 1) (w.heap.size + 2) D name s (h.ext X0) x0 x1 x2 ⟨fun hk => by have := hO _ hk; omega, fun hk => by have := hO _ hk; omega, fun hk => by have := hO _ hk; omega⟩ hq0 hq1 hfew (len_append D.begin name s))
  replace h := hide h; replace X0 := hide X0
  go_enter Try.func12, Try.ntmps12
  go_wp2_with fail
  refine hac.out.mono ?_
  rintro e1 w1 ⟨rfl, k1, k2⟩
  go_wp2_with fail
  go_ret
  exact ⟨rfl, k1.out.mono fun k _ hg => hg.imp id fun h => ⟨Nat.le_trans sz h.1, h.2⟩, (X0.out.kept _).trans k2.out fun _ _ h => h⟩

set_option maxRecDepth 100000 in
theorem doRemove (O : Nat → Prop) (W : World) (d b0 b1 : Nat) (D : DskS) (kc sc : Int) (name : ByteArray) (hK : DiskK O W d D kc sc) (hb0 : W.cell? ⟨b0, 0, none⟩ = some (.pointer (some ⟨d, 0, none⟩))) (hb1 : W.cell? ⟨b1, 0, none⟩ = some (.string name)) (hq0 : name.size ≤ 9223372036854775807) (hfew : D.chs.length + 1 ≤ 2000000000000) :
    Calls Try.prog 54 #[.pointer (some ⟨b0, 0, none⟩), .pointer (some ⟨b1, 0, none⟩)] W (InIs O W d kc sc (DskS.remove1 name D)) := by
  have hin := hide (removeI O W d D kc sc name hK hq0 (by omega))
  replace hK := hide hK
  go_enter Try.func54, Try.ntmps54
  go_wp2_with fail
  refine hin.out.mono ?_
  rintro e1 w1 ⟨rfl, h1, h2⟩
  go_wp2_with fail
  go_ret
  exact ⟨rfl, h1, h2⟩

set_option maxRecDepth 100000 in
set_option maxHeartbeats 800000 in
theorem actRemove (O : Nat → Prop) (W : World) (d b0 b1 : Nat) (D : DskS) (name : ByteArray) (h : DiskAt O W d D) (hb0 : W.cell? ⟨b0, 0, none⟩ = some (.pointer (some ⟨d, 0, none⟩))) (hb1 : W.cell? ⟨b1, 0, none⟩ = some (.string name)) (hO : ¬ O b0 ∧ ¬ O b1) (hq0 : name.size ≤ 9223372036854775807) (hfew : D.chs.length + 2 ≤ 2000000000000) (hlen : ((DskS.remove1 name) D.begin).1.chs.length ≤ D.chs.length + 1) :
    Calls Try.prog 38 #[.pointer (some ⟨d, 0, none⟩), .func (.func 54) #[] #[.pointer (some ⟨b0, 0, none⟩), .pointer (some ⟨b1, 0, none⟩)]] W (OpIs O W d (D.act (DskS.remove1 name))) := by
  obtain ⟨kc, sc, hK, hbr⟩ := h.k
  have hbn := hide (breaksNowP O W d D kc sc hK hbr)
  replace h := hide h; replace hK := hide hK; replace hbr := hide hbr
  go_enter Try.func38, Try.ntmps38
  go_wp2_with fail
  refine hbn.out.mono ?_
  rintro e1 w1 ⟨rfl, k1, k2⟩
  have c0 := k2.out.cell hb0 (hO.1)
  have c1 := k2.out.cell hb1 (hO.2)
  have hdo := hide (doRemove O w1 d b0 b1 D.begin kc sc name k1.out c0 c1 hq0 (by show D.chs.length + 1 ≤ 2000000000000; omega))
  by_cases hz : D.due = 1
  · have hb : decide (D.due = 1) = true := by simp [hz]
    rw [hb]
    have hr : D.act (DskS.remove1 name) = (((DskS.remove1 name) D.begin).1.crash D.keep D.stay, 14) := by unfold DskS.act; rw [if_pos hz]
    obtain ⟨q1, q2⟩ := hbr.out (by omega)
    replace hz := hide hz; replace hr := hide hr
    go_wp2_with fail
    refine hdo.out.mono ?_
    rintro e2 w2 ⟨rfl, k3, k4⟩
    go_wp2_with fail
    refine (fallP _ w2 d _ kc sc k3.out (by omega)).mono ?_
    rintro e3 w3 ⟨rfl, k5, k6⟩
    go_wp2_with fail
    go_ret
    rw [hr.out]
    subst q1 q2
    refine ⟨rfl, (k5.out.mono fun k hk hg => ?_).at, k2.out.trans (k4.out.grow k6.out) (fun _ _ h => h)⟩
    have := Grow.step k4.out.size k6.out.size hg
    exact this.imp id fun h => ⟨Nat.le_trans k2.out.size h.1, h.2⟩
  · have hb : decide (D.due = 1) = false := by simp [hz]
    rw [hb]
    have hr : D.act (DskS.remove1 name) = (DskS.remove1 name) D.begin := by unfold DskS.act; rw [if_neg hz]
    replace hz := hide hz; replace hr := hide hr
    go_wp2_with fail
    refine hdo.out.mono ?_
    rintro e2 w2 ⟨rfl, k3, k4⟩
    go_wp2_with fail
    go_ret
    rw [hr.out]
    exact ⟨rfl, (k3.out.mono fun k hk hg => hg.imp id fun h => ⟨Nat.le_trans k2.out.size h.1, h.2⟩).at, k2.out.trans k4.out (fun _ _ h => h)⟩

set_option maxRecDepth 100000 in
set_option maxHeartbeats 800000 in
theorem opRemove (O : Nat → Prop) (w : World) (d : Nat) (D : DskS) (name : ByteArray) (h : DiskAt O w d D) (hO : ∀ k, O k → k < w.heap.size) (hq0 : name.size ≤ 9223372036854775807) (hfew : D.chs.length + 2 ≤ 2000000000000) :
    Calls Try.prog 18 #[.pointer (some ⟨d, 0, none⟩), .string name] w (OpIs O w d (D.remove name)) := by
  have X0 := (((Ext.refl w).alloc (.cells #[.pointer (some ⟨d, 0, none⟩)] 23)).alloc (.cells #[.string name] 9))
  have sz : w.heap.size ≤ ((w.alloc (.cells #[.pointer (some ⟨d, 0, none⟩)] 23)).alloc (.cells #[.string name] 9)).heap.size := Ext.size X0
  have x0 : ((w.alloc (.cells #[.pointer (some ⟨d, 0, none⟩)] 23)).alloc (.cells #[.string name] 9)).cell? ⟨w.heap.size, 0, none⟩ = some (.pointer (some ⟨d, 0, none⟩)) := by simp [go_sem]
  have x1 : ((w.alloc (.cells #[.pointer (some ⟨d, 0, none⟩)] 23)).alloc (.cells #[.string name] 9)).cell? ⟨w.heap.size + 1, 0, none⟩ = some (.string name) := by simp [go_sem]
  have hac := hide (actRemove O ((w.alloc (.cells #[.pointer (some ⟨d, 0, none⟩)] 23)).alloc (.cells #[.string name] 9)) d (w.heap.size) (w.heap.size + 1) D name (h.ext X0) x0 x1 ⟨fun hk => by have := hO _ hk; omega, fun hk => by have := hO _ hk; omega⟩ hq0 hfew (len_remove D.begin name))
  replace h := hide h; replace X0 := hide X0
  go_enter Try.func18, Try.ntmps18
  go_wp2_with fail
  refine hac.out.mono ?_
  rintro e1 w1 ⟨rfl, k1, k2⟩
  go_wp2_with fail
  go_ret
  exact ⟨rfl, k1.out.mono fun k _ hg => hg.imp id fun h => ⟨Nat.le_trans sz h.1, h.2⟩, (X0.out.kept _).trans k2.out fun _ _ h => h⟩
end Go.Proofs.Ytpkhmgonkbpjjaa
