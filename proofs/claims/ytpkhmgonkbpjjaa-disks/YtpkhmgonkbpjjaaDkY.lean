/-
  A disk: its acts as they are called.
-/
import Derived.Test.YtpkhmgonkbpjjaaDkX
namespace Go.Proofs.Ytpkhmgonkbpjjaa
open Go.RowKit Go.Shelf

attribute [local go_sem] Go.World.cell?_alloc_some
/-- What a call at a disk leaves, and answers. -/
def OpIs (O : Nat → Prop) (w : World) (d : Nat) (R : DskS × Int) (e : Ending) (w' : World) : Prop :=
  e = .returned (.int .i64 R.2) ∧ Hid (DiskAt (Grow O w w') w' d R.1) ∧ Hid (Kept O w w')
theorem len_write (D : DskS) (name s : ByteArray) : ((DskS.write1 name s) D).1.chs.length ≤ D.chs.length + 1 := by
  unfold DskS.write1
  split
  · split <;> simp
  · simp
theorem len_rename (D : DskS) (src dst : ByteArray) : ((DskS.rename1 src dst) D).1.chs.length ≤ D.chs.length + 1 := by
  unfold DskS.rename1
  split
  · split <;> simp
  · simp

set_option maxRecDepth 100000 in
theorem doWrite (O : Nat → Prop) (W : World) (d b0 b1 b2 : Nat) (D : DskS) (kc sc : Int) (name s : ByteArray) (hK : DiskK O W d D kc sc) (hb0 : W.cell? ⟨b0, 0, none⟩ = some (.pointer (some ⟨d, 0, none⟩))) (hb1 : W.cell? ⟨b1, 0, none⟩ = some (.string name)) (hb2 : W.cell? ⟨b2, 0, none⟩ = some (.string s)) (hq0 : name.size ≤ 9223372036854775807) (hq1 : s.size ≤ 9223372036854775807) (hfew : D.chs.length + 1 ≤ 2000000000000) :
    Calls Try.prog 39 #[.pointer (some ⟨b0, 0, none⟩), .pointer (some ⟨b1, 0, none⟩), .pointer (some ⟨b2, 0, none⟩)] W (InIs O W d kc sc (DskS.write1 name s D)) := by
  have hin := hide (writeI O W d D kc sc name s hK hq0 hq1 (by omega))
  replace hK := hide hK
  go_enter Try.func39, Try.ntmps39
  go_wp2_with fail
  refine hin.out.mono ?_
  rintro e1 w1 ⟨rfl, h1, h2⟩
  go_wp2_with fail
  go_ret
  exact ⟨rfl, h1, h2⟩

set_option maxRecDepth 100000 in
set_option maxHeartbeats 800000 in
theorem actWrite (O : Nat → Prop) (W : World) (d b0 b1 b2 : Nat) (D : DskS) (name s : ByteArray) (h : DiskAt O W d D) (hb0 : W.cell? ⟨b0, 0, none⟩ = some (.pointer (some ⟨d, 0, none⟩))) (hb1 : W.cell? ⟨b1, 0, none⟩ = some (.string name)) (hb2 : W.cell? ⟨b2, 0, none⟩ = some (.string s)) (hO : ¬ O b0 ∧ ¬ O b1 ∧ ¬ O b2) (hq0 : name.size ≤ 9223372036854775807) (hq1 : s.size ≤ 9223372036854775807) (hfew : D.chs.length + 2 ≤ 2000000000000) (hlen : ((DskS.write1 name s) D.begin).1.chs.length ≤ D.chs.length + 1) :
    Calls Try.prog 38 #[.pointer (some ⟨d, 0, none⟩), .func (.func 39) #[] #[.pointer (some ⟨b0, 0, none⟩), .pointer (some ⟨b1, 0, none⟩), .pointer (some ⟨b2, 0, none⟩)]] W (OpIs O W d (D.act (DskS.write1 name s))) := by
  obtain ⟨kc, sc, hK, hbr⟩ := h.k
  have hbn := hide (breaksNowP O W d D kc sc hK hbr)
  replace h := hide h; replace hK := hide hK; replace hbr := hide hbr
  go_enter Try.func38, Try.ntmps38
  go_wp2_with fail
  refine hbn.out.mono ?_
  rintro e1 w1 ⟨rfl, k1, k2⟩
  have c0 := k2.out.cell hb0 (hO.1)
  have c1 := k2.out.cell hb1 (hO.2.1)
  have c2 := k2.out.cell hb2 (hO.2.2)
  have hdo := hide (doWrite O w1 d b0 b1 b2 D.begin kc sc name s k1.out c0 c1 c2 hq0 hq1 (by show D.chs.length + 1 ≤ 2000000000000; omega))
  by_cases hz : D.due = 1
  · have hb : decide (D.due = 1) = true := by simp [hz]
    rw [hb]
    have hr : D.act (DskS.write1 name s) = (((DskS.write1 name s) D.begin).1.crash D.keep D.stay, 14) := by unfold DskS.act; rw [if_pos hz]
    obtain ⟨q1, q2⟩ := hbr.out (by omega)
    replace hz := hide hz; replace hr := hide hr
    go_wp2_with fail
    refine hdo.out.mono ?_
    rintro e2 w2 ⟨rfl, k3, k4⟩
    go_wp2_with fail
    refine (fallP _ w2 d _ kc sc k3.out (by omega)).mono ?_
    rintro e3 w3 ⟨rfl, k5, k6⟩
    go_wp2_with fail
    go_ret
    rw [hr.out]
    subst q1 q2
    refine ⟨rfl, (k5.out.mono fun k hk hg => ?_).at, k2.out.trans (k4.out.grow k6.out) (fun _ _ h => h)⟩
    have := Grow.step k4.out.size k6.out.size hg
    exact this.imp id fun h => ⟨Nat.le_trans k2.out.size h.1, h.2⟩
  · have hb : decide (D.due = 1) = false := by simp [hz]
    rw [hb]
    have hr : D.act (DskS.write1 name s) = (DskS.write1 name s) D.begin := by unfold DskS.act; rw [if_neg hz]
    replace hz := hide hz; replace hr := hide hr
    go_wp2_with fail
    refine hdo.out.mono ?_
    rintro e2 w2 ⟨rfl, k3, k4⟩
    go_wp2_with fail
    go_ret
    rw [hr.out]
    exact ⟨rfl, (k3.out.mono fun k hk hg => hg.imp id fun h => ⟨Nat.le_trans k2.out.size h.1, h.2⟩).at, k2.out.trans k4.out (fun _ _ h => h)⟩

set_option maxRecDepth 100000 in
set_option maxHeartbeats 800000 in
theorem opWrite (O : Nat → Prop) (w : World) (d : Nat) (D : DskS) (name s : ByteArray) (h : DiskAt O w d D) (hO : ∀ k, O k → k < w.heap.size) (hq0 : name.size ≤ 9223372036854775807) (hq1 : s.size ≤ 9223372036854775807) (hfew : D.chs.length + 2 ≤ 2000000000000) :
    Calls Try.prog 10 #[.pointer (some ⟨d, 0, none⟩), .string name, .string s] w (OpIs O w d (D.write name s)) := by
  have X0 := ((((Ext.refl w).alloc (.cells #[.pointer (some ⟨d, 0, none⟩)] 23)).alloc (.cells #[.string name] 9)).alloc (.cells #[.string s] 9))
  have sz : w.heap.size ≤ (((w.alloc (.cells #[.pointer (some ⟨d, 0, none⟩)] 23)).alloc (.cells #[.string name] 9)).alloc (.cells #[.string s] 9)).heap.size := Ext.size X0
  have x0 : (((w.alloc (.cells #[.pointer (some ⟨d, 0, none⟩)] 23)).alloc (.cells #[.string name] 9)).alloc (.cells #[.string s] 9)).cell? ⟨w.heap.size, 0, none⟩ = some (.pointer (some ⟨d, 0, none⟩)) := by simp [go_sem]
  have x1 : (((w.alloc (.cells #[.pointer (some ⟨d, 0, none⟩)] 23)).alloc (.cells #[.string name] 9)).alloc (.cells #[.string s] 9)).cell? ⟨w.heap.size + 1, 0, none⟩ = some (.string name) := by simp [go_sem]
  have x2 : (((w.alloc (.cells #[.pointer (some ⟨d, 0, none⟩)] 23)).alloc (.cells #[.string name] 9)).alloc (.cells #[.string s] 9)).cell? ⟨w.heap.size + 2, 0, none⟩ = some (.string s) := by simp [go_sem]
  have hac := hide (actWrite O (((w.alloc (.cells #[.pointer (some ⟨d, 0, none⟩)] 23)).alloc (.cells #[.string name] 9)).alloc (.cells #[.string s] 9)) d (w.heap.size) (w.heap.size + 1) (w.heap.size + 2) D name s (h.ext X0) x0 x1 x2 ⟨fun hk => by have := hO _ hk; omega, fun hk => by have := hO _ hk; omega, fun hk => by have := hO _ hk; omega⟩ hq0 hq1 hfew (len_write D.begin name s))
  replace h := hide h; replace X0 := hide X0
  go_enter Try.func10, Try.ntmps10
  go_wp2_with fail
  refine hac.out.mono ?_
  rintro e1 w1 ⟨rfl, k1, k2⟩
  go_wp2_with fail
  go_ret
  exact ⟨rfl, k1.out.mono fun k _ hg => hg.imp id fun h => ⟨Nat.le_trans sz h.1, h.2⟩, (X0.out.kept _).trans k2.out fun _ _ h => h⟩

set_option maxRecDepth 100000 in
theorem doRename (O : Nat → Prop) (W : World) (d b0 b1 b2 : Nat) (D : DskS) (kc sc : Int) (src dst : ByteArray) (hK : DiskK O W d D kc sc) (hb0 : W.cell? ⟨b0, 0, none⟩ = some (.pointer (some ⟨d, 0, none⟩))) (hb1 : W.cell? ⟨b1, 0, none⟩ = some (.string src)) (hb2 : W.cell? ⟨b2, 0, none⟩ = some (.string dst)) (hq0 : src.size ≤ 9223372036854775807) (hq1 : dst.size ≤ 9223372036854775807) (hfew : D.chs.length + 1 ≤ 2000000000000) :
    Calls Try.prog 52 #[.pointer (some ⟨b0, 0, none⟩), .pointer (some ⟨b1, 0, none⟩), .pointer (some ⟨b2, 0, none⟩)] W (InIs O W d kc sc (DskS.rename1 src dst D)) := by
  have hin := hide (renameI O W d D kc sc src dst hK hq0 hq1 (by omega))
  replace hK := hide hK
  go_enter Try.func52, Try.ntmps52
  go_wp2_with fail
  refine hin.out.mono ?_
  rintro e1 w1 ⟨rfl, h1, h2⟩
  go_wp2_with fail
  go_ret
  exact ⟨rfl, h1, h2⟩

set_option maxRecDepth 100000 in
set_option maxHeartbeats 800000 in
theorem actRename (O : Nat → Prop) (W : World) (d b0 b1 b2 : Nat) (D : DskS) (src dst : ByteArray) (h : DiskAt O W d D) (hb0 : W.cell? ⟨b0, 0, none⟩ = some (.pointer (some ⟨d, 0, none⟩))) (hb1 : W.cell? ⟨b1, 0, none⟩ = some (.string src)) (hb2 : W.cell? ⟨b2, 0, none⟩ = some (.string dst)) (hO : ¬ O b0 ∧ ¬ O b1 ∧ ¬ O b2) (hq0 : src.size ≤ 9223372036854775807) (hq1 : dst.size ≤ 9223372036854775807) (hfew : D.chs.length + 2 ≤ 2000000000000) (hlen : ((DskS.rename1 src dst) D.begin).1.chs.length ≤ D.chs.length + 1) :
    Calls Try.prog 38 #[.pointer (some ⟨d, 0, none⟩), .func (.func 52) #[] #[.pointer (some ⟨b0, 0, none⟩), .pointer (some ⟨b1, 0, none⟩), .pointer (some ⟨b2, 0, none⟩)]] W (OpIs O W d (D.act (DskS.rename1 src dst))) := by
  obtain ⟨kc, sc, hK, hbr⟩ := h.k
  have hbn := hide (breaksNowP O W d D kc sc hK hbr)
  replace h := hide h; replace hK := hide hK; replace hbr := hide hbr
  go_enter Try.func38, Try.ntmps38
  go_wp2_with fail
  refine hbn.out.mono ?_
  rintro e1 w1 ⟨rfl, k1, k2⟩
  have c0 := k2.out.cell hb0 (hO.1)
  have c1 := k2.out.cell hb1 (hO.2.1)
  have c2 := k2.out.cell hb2 (hO.2.2)
  have hdo := hide (doRename O w1 d b0 b1 b2 D.begin kc sc src dst k1.out c0 c1 c2 hq0 hq1 (by show D.chs.length + 1 ≤ 2000000000000; omega))
  by_cases hz : D.due = 1
  · have hb : decide (D.due = 1) = true := by simp [hz]
    rw [hb]
    have hr : D.act (DskS.rename1 src dst) = (((DskS.rename1 src dst) D.begin).1.crash D.keep D.stay, 14) := by unfold DskS.act; rw [if_pos hz]
    obtain ⟨q1, q2⟩ := hbr.out (by omega)
    replace hz := hide hz; replace hr := hide hr
    go_wp2_with fail
    refine hdo.out.mono ?_
    rintro e2 w2 ⟨rfl, k3, k4⟩
    go_wp2_with fail
    refine (fallP _ w2 d _ kc sc k3.out (by omega)).mono ?_
    rintro e3 w3 ⟨rfl, k5, k6⟩
    go_wp2_with fail
    go_ret
    rw [hr.out]
    subst q1 q2
    refine ⟨rfl, (k5.out.mono fun k hk hg => ?_).at, k2.out.trans (k4.out.grow k6.out) (fun _ _ h => h)⟩
    have := Grow.step k4.out.size k6.out.size hg
    exact this.imp id fun h => ⟨Nat.le_trans k2.out.size h.1, h.2⟩
  · have hb : decide (D.due = 1) = false := by simp [hz]
    rw [hb]
    have hr : D.act (DskS.rename1 src dst) = (DskS.rename1 src dst) D.begin := by unfold DskS.act; rw [if_neg hz]
    replace hz := hide hz; replace hr := hide hr
    go_wp2_with fail
    refine hdo.out.mono ?_
    rintro e2 w2 ⟨rfl, k3, k4⟩
    go_wp2_with fail
    go_ret
    rw [hr.out]
    exact ⟨rfl, (k3.out.mono fun k hk hg => hg.imp id fun h => ⟨Nat.le_trans k2.out.size h.1, h.2⟩).at, k2.out.trans k4.out (fun _ _ h => h)⟩

set_option maxRecDepth 100000 in
set_option maxHeartbeats 800000 in
theorem opRename (O : Nat → Prop) (w : World) (d : Nat) (D : DskS) (src dst : ByteArray) (h : DiskAt O w d D) (hO : ∀ k, O k → k < w.heap.size) (hq0 : src.size ≤ 9223372036854775807) (hq1 : dst.size ≤ 9223372036854775807) (hfew : D.chs.length + 2 ≤ 2000000000000) :
    Calls Try.prog 16 #[.pointer (some ⟨d, 0, none⟩), .string src, .string dst] w (OpIs O w d (D.rename src dst)) := by
  have X0 := ((((Ext.refl w).alloc (.cells #[.pointer (some ⟨d, 0, none⟩)] 23)).alloc (.cells #[.string src] 9)).alloc (.cells #[.string dst] 9))
  have sz : w.heap.size ≤ (((w.alloc (.cells #[.pointer (some ⟨d, 0, none⟩)] 23)).alloc (.cells #[.string src] 9)).alloc (.cells #[.string dst] 9)).heap.size := Ext.size X0
  have x0 : (((w.alloc (.cells #[.pointer (some ⟨d, 0, none⟩)] 23)).alloc (.cells #[.string src] 9)).alloc (.cells #[.string dst] 9)).cell? ⟨w.heap.size, 0, none⟩ = some (.pointer (some ⟨d, 0, none⟩)) := by simp [go_sem]
  have x1 : (((w.alloc (.cells #[.pointer (some ⟨d, 0, none⟩)] 23)).alloc (.cells #[.string src] 9)).alloc (.cells #[.string dst] 9)).cell? ⟨w.heap.size + 1, 0, none⟩ = some (.string src) := by simp [go_sem]
  have x2 : (((w.alloc (.cells #[.pointer (some ⟨d, 0, none⟩)] 23)).alloc (.cells #[.string src] 9)).alloc (.cells #[.string dst] 9)).cell? ⟨w.heap.size + 2, 0, none⟩ = some (.string dst) := by simp [go_sem]
  have hac := hide (actRename O (((w.alloc (.cells #[.pointer (some ⟨d, 0, none⟩)] 23)).alloc (.cells #[.string src] 9)).alloc (.cells #[.string dst] 9)) d (w.heap.size) (w.heap.size + 1) (w.heap.size + 2) D src dst (h.ext X0) x0 x1 x2 ⟨fun hk => by have := hO _ hk; omega, fun hk => by have := hO _ hk; omega, fun hk => by have := hO _ hk; omega⟩ hq0 hq1 hfew (len_rename D.begin src dst))
  replace h := hide h; replace X0 := hide X0
  go_enter Try.func16, Try.ntmps16
  go_wp2_with fail
  refine hac.out.mono ?_
  rintro e1 w1 ⟨rfl, k1, k2⟩
  go_wp2_with fail
  go_ret
  exact ⟨rfl, k1.out.mono fun k _ hg => hg.imp id fun h => ⟨Nat.le_trans sz h.1, h.2⟩, (X0.out.kept _).trans k2.out fun _ _ h => h⟩

set_option maxRecDepth 100000 in
theorem doSync (O : Nat → Prop) (W : World) (d b0 b1 : Nat) (D : DskS) (kc sc : Int) (name : ByteArray) (hK : DiskK O W d D kc sc) (hb0 : W.cell? ⟨b0, 0, none⟩ = some (.pointer (some ⟨d, 0, none⟩))) (hb1 : W.cell? ⟨b1, 0, none⟩ = some (.string name)) (hq0 : name.size ≤ 9223372036854775807) :
    Calls Try.prog 50 #[.pointer (some ⟨b0, 0, none⟩), .pointer (some ⟨b1, 0, none⟩)] W (InIs O W d kc sc (DskS.sync1 name D)) := by
  have hin := hide (syncI O W d D kc sc name hK hq0)
  replace hK := hide hK
  go_enter Try.func50, Try.ntmps50
  go_wp2_with fail
  refine hin.out.mono ?_
  rintro e1 w1 ⟨rfl, h1, h2⟩
  go_wp2_with fail
  go_ret
  exact ⟨rfl, h1, h2⟩

set_option maxRecDepth 100000 in
set_option maxHeartbeats 800000 in
theorem actSync (O : Nat → Prop) (W : World) (d b0 b1 : Nat) (D : DskS) (name : ByteArray) (h : DiskAt O W d D) (hb0 : W.cell? ⟨b0, 0, none⟩ = some (.pointer (some ⟨d, 0, none⟩))) (hb1 : W.cell? ⟨b1, 0, none⟩ = some (.string name)) (hO : ¬ O b0 ∧ ¬ O b1) (hq0 : name.size ≤ 9223372036854775807) (hfew : D.chs.length + 2 ≤ 2000000000000) :
    Calls Try.prog 49 #[.pointer (some ⟨d, 0, none⟩), .func (.func 50) #[] #[.pointer (some ⟨b0, 0, none⟩), .pointer (some ⟨b1, 0, none⟩)]] W (OpIs O W d (D.syncAct (DskS.sync1 name))) := by
  obtain ⟨kc, sc, hK, hbr⟩ := h.k
  have hbn := hide (breaksNowP O W d D kc sc hK hbr)
  replace h := hide h; replace hK := hide hK; replace hbr := hide hbr
  go_enter Try.func49, Try.ntmps49
  go_wp2_with fail
  refine hbn.out.mono ?_
  rintro e1 w1 ⟨rfl, k1, k2⟩
  by_cases hz : D.due = 1
  · have hb : decide (D.due = 1) = true := by simp [hz]
    rw [hb]
    have hr : D.syncAct (DskS.sync1 name) = (D.begin.crash D.keep D.stay, 14) := by unfold DskS.syncAct; rw [if_pos hz]
    obtain ⟨q1, q2⟩ := hbr.out (by omega)
    replace hz := hide hz; replace hr := hide hr
    go_wp2_with fail
    refine (fallP _ w1 d _ kc sc k1.out (by show D.chs.length + 1 ≤ 2000000000000; omega)).mono ?_
    rintro e3 w3 ⟨rfl, k5, k6⟩
    go_wp2_with fail
    go_ret
    rw [hr.out]
    subst q1 q2
    exact ⟨rfl, (k5.out.mono fun k hk hg => hg.imp id fun h => ⟨Nat.le_trans k2.out.size h.1, h.2⟩).at, k2.out.trans k6.out (fun _ _ h => h)⟩
  · have hb : decide (D.due = 1) = false := by simp [hz]
    rw [hb]
    have hr : D.syncAct (DskS.sync1 name) = (DskS.sync1 name) D.begin := by unfold DskS.syncAct; rw [if_neg hz]
    have c0 := k2.out.cell hb0 (hO.1)
    have c1 := k2.out.cell hb1 (hO.2)
    have hdo := hide (doSync O w1 d b0 b1 D.begin kc sc name k1.out c0 c1 hq0)
    replace hz := hide hz; replace hr := hide hr
    go_wp2_with fail
    refine hdo.out.mono ?_
    rintro e2 w2 ⟨rfl, k3, k4⟩
    go_wp2_with fail
    go_ret
    rw [hr.out]
    exact ⟨rfl, (k3.out.mono fun k hk hg => hg.imp id fun h => ⟨Nat.le_trans k2.out.size h.1, h.2⟩).at, k2.out.trans k4.out (fun _ _ h => h)⟩

set_option maxRecDepth 100000 in
set_option maxHeartbeats 800000 in
theorem opSync (O : Nat → Prop) (w : World) (d : Nat) (D : DskS) (name : ByteArray) (h : DiskAt O w d D) (hO : ∀ k, O k → k < w.heap.size) (hq0 : name.size ≤ 9223372036854775807) (hfew : D.chs.length + 2 ≤ 2000000000000) :
    Calls Try.prog 14 #[.pointer (some ⟨d, 0, none⟩), .string name] w (OpIs O w d (D.sync name)) := by
  have X0 := (((Ext.refl w).alloc (.cells #[.pointer (some ⟨d, 0, none⟩)] 23)).alloc (.cells #[.string name] 9))
  have sz : w.heap.size ≤ ((w.alloc (.cells #[.pointer (some ⟨d, 0, none⟩)] 23)).alloc (.cells #[.string name] 9)).heap.size := Ext.size X0
  have x0 : ((w.alloc (.cells #[.pointer (some ⟨d, 0, none⟩)] 23)).alloc (.cells #[.string name] 9)).cell? ⟨w.heap.size, 0, none⟩ = some (.pointer (some ⟨d, 0, none⟩)) := by simp [go_sem]
  have x1 : ((w.alloc (.cells #[.pointer (some ⟨d, 0, none⟩)] 23)).alloc (.cells #[.string name] 9)).cell? ⟨w.heap.size + 1, 0, none⟩ = some (.string name) := by simp [go_sem]
  have hac := hide (actSync O ((w.alloc (.cells #[.pointer (some ⟨d, 0, none⟩)] 23)).alloc (.cells #[.string name] 9)) d (w.heap.size) (w.heap.size + 1) D name (h.ext X0) x0 x1 ⟨fun hk => by have := hO _ hk; omega, fun hk => by have := hO _ hk; omega⟩ hq0 hfew)
  replace h := hide h; replace X0 := hide X0
  go_enter Try.func14, Try.ntmps14
  go_wp2_with fail
  refine hac.out.mono ?_
  rintro e1 w1 ⟨rfl, k1, k2⟩
  go_wp2_with fail
  go_ret
  exact ⟨rfl, k1.out.mono fun k _ hg => hg.imp id fun h => ⟨Nat.le_trans sz h.1, h.2⟩, (X0.out.kept _).trans k2.out fun _ _ h => h⟩

set_option maxRecDepth 100000 in
set_option maxHeartbeats 1600000 in
theorem syncNI (O : Nat → Prop) (w : World) (d : Nat) (D : DskS) (kc sc : Int) (h : DiskK O w d D kc sc) (hfew : D.chs.length + 1 ≤ 2000000000000) :
    Calls Try.prog 56 #[.pointer (some ⟨d, 0, none⟩)] w (InIs O w d kc sc D.syncN1) := by
  obtain ⟨nm, tn, tl, vn, vl, vc, fs, gs, rn, rl, h, hO⟩ := h
  obtain ⟨pc, cc, rfl⟩ := ownsRow_form h.names.rows
  obtain ⟨c0, c1, c2, c3, c4⟩ := five_cells h.box
  obtain ⟨n0, n1, n2⟩ := three_at h.names.nbox
  have hle := h.names.le
  have hs := hide (settleN w.drew nm tn tl vn vl _ fs rn rl D.chs D.last (D.chs.length - D.last) (h.names.ext (Ext.refl w).drew) hfew (by omega))
  replace h := hide h; replace hle := hide hle
  go_enter Try.func56, Try.ntmps56
  go_upto_region 1 with fail
  go_cut [] (fun wx => Hid (SetIs w nm tn tl vn vl (.slice pc (D.chs.length - D.last) cc) fs D.chs D.last (D.chs.length - D.last) (.returned (.tuple #[])) wx))
  case first =>
    go_region_with (go_at_call 61; refine hs.out.mono ?_; rintro e1 w1 ⟨tn', vn', vl', rn', rl', rfl, k1, k2⟩; go_must (have hS : SetIs w nm tn tl vn vl (.slice pc (D.chs.length - D.last) cc) fs D.chs D.last (D.chs.length - D.last) (.returned (.tuple #[])) w1 := ⟨tn', vn', vl', rn', rl', rfl, k1, ((Ext.refl w).drew.kept _).trans k2.out.1 (fun _ _ h => h), k2.out.2⟩; replace hS := hide hS))
    all_goals
      go_wp2_with fail
      go_meet
      exact hS
  case rest =>
    obtain ⟨w1, rfl⟩ : ∃ w1 : World, w1 = wc := ⟨_, rfl⟩
    go_wp2_with fail
    go_ret
    obtain ⟨tn', vn', vl', rn', rl', -, k1, k2⟩ := hcut.out
    have e1 : D.last + (D.chs.length - D.last) = D.chs.length := by have := hle.out; omega
    have N1 := k1.out
    rw [e1, List.take_length] at N1
    have nf : ∀ k c t fz, w.heap[k]? = some (.cells c t fz) → ¬ NTy t → ¬ NFoot nm tn tl vn vl (.slice pc (D.chs.length - D.last) cc) k := fun k c t fz hk ht => h.out.names.not hk ht
    have F2 := h.out.files.kept k2.out.1 (fun q hq => by obtain ⟨c, fz, hc⟩ := h.out.files.fs_at hq; exact nf _ _ _ _ hc (by unfold NTy; decide)) (fun q hq => by obtain ⟨c, fz, hc⟩ := h.out.files.gs_at hq; exact nf _ _ _ _ hc (by unfold NTy; decide))
    have B2 := k2.out.1.heap h.out.box (nf _ _ _ _ h.out.box (by unfold NTy; decide))
    have D2 : DiskIn w1 d nm tn' tl vn' vl' (.slice none 0 0) kc sc fs gs rn' rl' D.syncN1.1 := ⟨B2, N1, F2, h.out.ok.syncN1, h.out.due, h.out.brk⟩
    refine ⟨rfl, ⟨nm, tn', tl, vn', vl', .slice none 0 0, fs, gs, rn', rl', D2, fun k hk => ?_⟩, k2.out.1.mono fun k _ hk => hO k (.inr (.inl hk))⟩
    have hlt := D2.lt hk
    rcases hk with hk | hk | hk | hk
    · exact .inl (hO k (.inl hk))
    · rcases k2.out.2 k hk with h1 | h1
      · exact .inl (hO k (.inr (.inl h1)))
      · exact .inr ⟨h1, hlt⟩
    · exact .inl (hO k (.inr (.inr (.inl hk))))
    · exact .inl (hO k (.inr (.inr (.inr hk))))

set_option maxRecDepth 100000 in
set_option maxHeartbeats 800000 in
theorem actSyncN (O : Nat → Prop) (W : World) (d : Nat) (D : DskS) (h : DiskAt O W d D) (hfew : D.chs.length + 2 ≤ 2000000000000) :
    Calls Try.prog 49 #[.pointer (some ⟨d, 0, none⟩), .func (.func 56) #[.pointer (some ⟨d, 0, none⟩)] #[]] W (OpIs O W d D.syncN) := by
  obtain ⟨kc, sc, hK, hbr⟩ := h.k
  have hbn := hide (breaksNowP O W d D kc sc hK hbr)
  replace h := hide h; replace hK := hide hK; replace hbr := hide hbr
  go_enter Try.func49, Try.ntmps49
  go_wp2_with fail
  refine hbn.out.mono ?_
  rintro e1 w1 ⟨rfl, k1, k2⟩
  by_cases hz : D.due = 1
  · have hb : decide (D.due = 1) = true := by simp [hz]
    rw [hb]
    have hr : D.syncN = (D.begin.crash D.keep D.stay, 14) := by unfold DskS.syncN DskS.syncAct; rw [if_pos hz]
    obtain ⟨q1, q2⟩ := hbr.out (by omega)
    replace hz := hide hz; replace hr := hide hr
    go_wp2_with fail
    refine (fallP _ w1 d _ kc sc k1.out (by show D.chs.length + 1 ≤ 2000000000000; omega)).mono ?_
    rintro e3 w3 ⟨rfl, k5, k6⟩
    go_wp2_with fail
    go_ret
    rw [hr.out]
    subst q1 q2
    exact ⟨rfl, (k5.out.mono fun k hk hg => hg.imp id fun h => ⟨Nat.le_trans k2.out.size h.1, h.2⟩).at, k2.out.trans k6.out (fun _ _ h => h)⟩
  · have hb : decide (D.due = 1) = false := by simp [hz]
    rw [hb]
    have hr : D.syncN = D.begin.syncN1 := by unfold DskS.syncN DskS.syncAct; rw [if_neg hz]
    have hdo := hide (syncNI O w1 d D.begin kc sc k1.out (by show D.chs.length + 1 ≤ 2000000000000; omega))
    replace hz := hide hz; replace hr := hide hr
    go_wp2_with fail
    refine hdo.out.mono ?_
    rintro e2 w2 ⟨rfl, k3, k4⟩
    go_wp2_with fail
    go_ret
    rw [hr.out]
    exact ⟨rfl, (k3.out.mono fun k hk hg => hg.imp id fun h => ⟨Nat.le_trans k2.out.size h.1, h.2⟩).at, k2.out.trans k4.out (fun _ _ h => h)⟩

set_option maxRecDepth 100000 in
theorem opSyncN (O : Nat → Prop) (w : World) (d : Nat) (D : DskS) (h : DiskAt O w d D) (hfew : D.chs.length + 2 ≤ 2000000000000) :
    Calls Try.prog 20 #[.pointer (some ⟨d, 0, none⟩)] w (OpIs O w d D.syncN) := by
  have hac := hide (actSyncN O w d D h hfew)
  replace h := hide h
  go_enter Try.func20, Try.ntmps20
  go_wp2_with fail
  refine hac.out.mono ?_
  rintro e1 w1 ⟨rfl, k1, k2⟩
  go_wp2_with fail
  go_ret
  exact ⟨rfl, k1, k2⟩

theorem set_three {w : World} {k : Nat} {a b c d f : Value} {t : TypeId} {fz : Nat × Nat} (hk : w.heap[k]? = some (.cells #[a, b, c, d, f] t fz)) (x y z : Value) : (((w.setCell ⟨k, 2, none⟩ x).setCell ⟨k, 3, none⟩ y).setCell ⟨k, 4, none⟩ z).heap[k]? = some (.cells #[a, b, x, y, z] t fz) := by
  simp [World.setCell, Array.getElem?_modify, hk]
set_option maxRecDepth 100000 in
set_option maxHeartbeats 800000 in
theorem opBreak (O : Nat → Prop) (w : World) (d : Nat) (D : DskS) (k keep names : Int) (h : DiskAt O w d D) (hk : k ≤ 9223372036854775807) :
    Calls Try.prog 28 #[.pointer (some ⟨d, 0, none⟩), .int .i64 k, .int .i64 keep, .int .i64 names] w (OpIs O w d (D.break k keep names)) := by
  have h' := h
  obtain ⟨nm, tn, tl, vn, vl, vc, kc, sc, fs, gs, rn, rl, h, hO⟩ := h
  obtain ⟨c0, c1, c2, c3, c4⟩ := five_cells h.box
  have fz := row_frozen h.box
  by_cases hz : k < 0
  · have hr : D.break k keep names = (D, 11) := by unfold DskS.break; rw [if_pos hz]
    have hb : decide (k < 0) = true := by simp [hz]
    replace h := hide h; replace hr := hide hr; replace hz := hide hz; replace h' := hide h'
    go_enter Try.func28, Try.ntmps28
    go_wp2_with fail
    go_ret
    rw [hr.out]
    exact ⟨rfl, h'.out.mono fun _ _ h => .inl h, Kept.refl _ _⟩
  · obtain ⟨n, rfl⟩ : ∃ n : Nat, k = (n : Int) := ⟨k.toNat, by omega⟩
    have hr : D.break (n : Int) keep names = ({ D with due := n, keep := keep, stay := names }, 0) := by unfold DskS.break; rw [if_neg hz, Int.toNat_natCast]
    have hb : decide ((n : Int) < 0) = false := by simp
    have K1 : Kept (· = d) w (((w.setCell ⟨d, 2, none⟩ (.int .i64 (n : Int))).setCell ⟨d, 3, none⟩ (.int .i64 keep)).setCell ⟨d, 4, none⟩ (.int .i64 names)) := ((kept_setCell w ⟨d, 2, none⟩ _).trans (kept_setCell _ ⟨d, 3, none⟩ _) (fun _ _ h => h)).trans (kept_setCell _ ⟨d, 4, none⟩ _) (fun _ _ h => h)
    have hI := h.boxed (due := n) (kp := keep) (st := names) (kc' := keep) (sc' := names) K1 (set_three h.box _ _ _) (by omega) (fun _ => ⟨rfl, rfl⟩)
    replace h := hide h; replace hr := hide hr; replace hz := hide hz; replace h' := hide h'; replace K1 := hide K1; replace hI := hide hI
    go_enter Try.func28, Try.ntmps28
    go_wp2_with fail
    go_ret
    rw [hr.out]
    exact ⟨rfl, ⟨nm, tn, tl, vn, vl, vc, keep, names, fs, gs, rn, rl, hI.out, fun k hk => .inl (hO k hk)⟩, K1.out.mono fun k _ e => e ▸ hO d (.inl rfl)⟩
theorem opCrash (O : Nat → Prop) (w : World) (d : Nat) (D : DskS) (keep names : Int) (h : DiskAt O w d D) (hfew : D.chs.length + 1 ≤ 2000000000000) :
    Calls Try.prog 30 #[.pointer (some ⟨d, 0, none⟩), .int .i64 keep, .int .i64 names] w fun e w' => e = .returned (.tuple #[]) ∧ Hid (DiskAt (Grow O w w') w' d (D.crash keep names)) ∧ Hid (Kept O w w') := by
  obtain ⟨nm, tn, tl, vn, vl, vc, kc, sc, fs, gs, rn, rl, h, hO⟩ := h
  refine (crashP w d nm tn tl vn vl vc kc sc fs gs rn rl D keep names hfew h).mono ?_
  rintro e w' ⟨tn', vn', vl', rn', rl', rfl, k1, k2⟩
  exact ⟨rfl, ⟨nm, tn', tl, vn', vl', .slice none 0 0, 0, 0, fs, gs, rn', rl', k1.out, fun k hk => (k2.out.2 k hk).elim (fun h => .inl (hO k h)) (fun h => .inr ⟨h, k1.out.lt hk⟩)⟩, k2.out.1.mono fun k _ hk => hO k hk⟩
end Go.Proofs.Ytpkhmgonkbpjjaa
