/-
  A disk: a new one; which act breaks off; what it does then.
-/
import Derived.Test.YtpkhmgonkbpjjaaDkC
namespace Go.Proofs.Ytpkhmgonkbpjjaa
open Go.RowKit Go.Shelf

attribute [local go_sem] Go.World.cell?_alloc_some
theorem DiskIn.kept {E : Nat → Prop} {w w' : World} {d nm tn tl : Nat} {vn vl vc : Value} {kc sc : Int} {fs gs : List Nat} {rn rl : List RowF} {D : DskS} (h : DiskIn w d nm tn tl vn vl vc kc sc fs gs rn rl D) (k : Kept E w w') (hd : ∀ j, DFoot d nm tn tl vn vl vc fs gs j → ¬ E j) : DiskIn w' d nm tn tl vn vl vc kc sc fs gs rn rl D :=
  ⟨k.heap h.box (hd _ (.inl rfl)), h.names.kept k (fun j hj => hd j (.inr (.inl hj))), h.files.kept k (fun b hb => hd b (.inr (.inr (.inl hb)))) (fun b hb => hd b (.inr (.inr (.inr hb)))), h.ok, h.due, h.brk⟩
theorem DiskIn.ext {w w' : World} {d nm tn tl : Nat} {vn vl vc : Value} {kc sc : Int} {fs gs : List Nat} {rn rl : List RowF} {D : DskS} (h : DiskIn w d nm tn tl vn vl vc kc sc fs gs rn rl D) (e : Ext w w') : DiskIn w' d nm tn tl vn vl vc kc sc fs gs rn rl D := h.kept (e.kept fun _ => False) fun _ _ => id
theorem DiskIn.lt {w : World} {d nm tn tl : Nat} {vn vl vc : Value} {kc sc : Int} {fs gs : List Nat} {rn rl : List RowF} {D : DskS} (h : DiskIn w d nm tn tl vn vl vc kc sc fs gs rn rl D) {k : Nat} (hk : DFoot d nm tn tl vn vl vc fs gs k) : k < w.heap.size := by
  have hs : ∀ {c t fz}, w.heap[k]? = some (.cells c t fz) → k < w.heap.size := fun h => (Array.getElem?_eq_some_iff.1 h).1
  rcases hk with rfl | hk | hk | hk
  · exact hs h.box
  · obtain ⟨c, t, fz, h1, _⟩ := h.names.at hk; exact hs h1
  · obtain ⟨c, fz, h1⟩ := h.files.fs_at hk; exact hs h1
  · obtain ⟨c, fz, h1⟩ := h.files.gs_at hk; exact hs h1
/-- The box of the disk alone has turned. -/
theorem DiskIn.boxed {w w' : World} {d nm tn tl : Nat} {vn vl vc : Value} {kc sc kc' sc' : Int} {fs gs : List Nat} {rn rl : List RowF} {D : DskS} {due : Nat} {kp st : Int} (h : DiskIn w d nm tn tl vn vl vc kc sc fs gs rn rl D) (k : Kept (· = d) w w')
    (hb : w'.heap[d]? = some (.cells #[.int .i64 (D.room : Int), .pointer (some ⟨nm, 0, none⟩), .int .i64 (due : Int), .int .i64 kc', .int .i64 sc'] 54 (0, 0))) (hd : due ≤ 9223372036854775807) (hbr : due ≠ 0 → kc' = kp ∧ sc' = st) : DiskIn w' d nm tn tl vn vl vc kc' sc' fs gs rn rl { D with due := due, keep := kp, stay := st } :=
  ⟨hb, h.names.kept k (fun j hj e => by subst e; exact h.names.not h.box (by unfold NTy; decide) hj), h.files.kept k (fun b hm e => by obtain ⟨c, fz, hc⟩ := h.files.fs_at hm; exact tells hc h.box (by decide) e) (fun b hm e => by obtain ⟨c, fz, hc⟩ := h.files.gs_at hm; exact tells hc h.box (by decide) e), ⟨h.ok.room0, h.ok.room1, h.ok.last, h.ok.chs, h.ok.files⟩, hd, hbr⟩
theorem set_two {w : World} {k : Nat} {a b c d f : Value} {t : TypeId} {fz : Nat × Nat} (hk : w.heap[k]? = some (.cells #[a, b, c, d, f] t fz)) (v : Value) : (w.setCell ⟨k, 2, none⟩ v).heap[k]? = some (.cells #[a, b, v, d, f] t fz) := by
  simp [World.setCell, Array.getElem?_modify, hk]

set_option maxRecDepth 100000 in
set_option maxHeartbeats 800000 in
theorem newP (room : Int) (w : World) : Calls Try.prog 4 #[.int .i64 room] w fun e w' => (room < 1000 ∨ 20000 < room) ∧ e = .returned (.tuple #[.pointer none, .int .i64 11]) ∧ Hid (Ext w w') ∨
    ∃ (r : Nat) (d : Nat), room = (r : Int) ∧ 1000 ≤ r ∧ r ≤ 20000 ∧ e = .returned (.tuple #[.pointer (some ⟨d, 0, none⟩), .int .i64 0]) ∧ Hid (DiskAt (fun k => w.heap.size ≤ k ∧ k < w'.heap.size) w' d (DskS.new r)) ∧ Hid (Ext w w') := by
  by_cases h1 : room < 1000
  · have b1 : decide (room < 1000) = true := by simp [h1]
    replace h1 := hide h1
    go_enter Try.func4, Try.ntmps4
    go_wp2_with fail
    go_ret2
    exact .inl ⟨.inl h1.out, rfl, Ext.refl w⟩
  · by_cases h2 : 20000 < room
    · have b1 : decide (room < 1000) = false := by simp; omega
      have b2 : decide (20000 < room) = true := by simp [h2]
      replace h1 := hide h1; replace h2 := hide h2
      go_enter Try.func4, Try.ntmps4
      go_wp2_with fail
      go_ret2
      exact .inl ⟨.inr h2.out, rfl, Ext.refl w⟩
    · obtain ⟨r, rfl⟩ : ∃ r : Nat, room = (r : Int) := ⟨room.toNat, by omega⟩
      have b1 : decide ((r : Int) < 1000) = false := by simp; omega
      have b2 : decide (20000 < (r : Int)) = false := by simp; omega
      replace h1 := hide h1; replace h2 := hide h2
      go_enter Try.func4, Try.ntmps4
      go_wp2_with fail
      refine (newNamesP w).mono ?_
      rintro e1 w1 ⟨nm, tn, tl, vn, vl, rn, rl, rfl, hN, X1, hF⟩
      go_wp2_with fail
      go_ret2
      have E2 := (Ext.refl w1).alloc (.cells #[.int .i64 (r : Int), .pointer (some ⟨nm, 0, none⟩), .int .i64 0, .int .i64 0, .int .i64 0] 54)
      have s1 := Ext.size X1.out
      have g1 := h1.out
      have g2 := h2.out
      have hNw := hN.out.ext E2
      refine .inr ⟨r, w1.heap.size, rfl, by omega, by omega, rfl, ⟨nm, tn, tl, vn, vl, .slice none 0 0, 0, 0, [], [], rn, rl, ⟨heap_alloc_new w1 _, hNw, ⟨rfl, rfl, fun i b g f hb => by simp at hb, List.nodup_nil, List.nodup_nil⟩, DskS.Ok.new (by omega) (by omega), by simp [DskS.new], fun hz => absurd rfl hz⟩, fun k hk => ?_⟩, X1.out.trans E2⟩
      rcases hk with hk | hk | hk | hk
      · subst hk; simp; exact s1
      · obtain ⟨c, t, fz, h3, _⟩ := hNw.at hk
        exact ⟨hF.out k hk, (Array.getElem?_eq_some_iff.1 h3).1⟩
      · cases hk
      · cases hk
/-- A disk lies in memory, with what it holds of an act that breaks off. -/
def DiskK (O : Nat → Prop) (w : World) (d : Nat) (D : DskS) (kc sc : Int) : Prop :=
  ∃ nm tn tl vn vl vc fs gs rn rl, DiskIn w d nm tn tl vn vl vc kc sc fs gs rn rl D ∧ ∀ k, DFoot d nm tn tl vn vl vc fs gs k → O k
theorem DiskAt.k {O : Nat → Prop} {w : World} {d : Nat} {D : DskS} (h : DiskAt O w d D) : ∃ kc sc, DiskK O w d D kc sc ∧ (D.due ≠ 0 → kc = D.keep ∧ sc = D.stay) := by
  obtain ⟨nm, tn, tl, vn, vl, vc, kc, sc, fs, gs, rn, rl, h, hO⟩ := h
  exact ⟨kc, sc, ⟨nm, tn, tl, vn, vl, vc, fs, gs, rn, rl, h, hO⟩, h.brk⟩
theorem DiskK.at {O : Nat → Prop} {w : World} {d : Nat} {D : DskS} {kc sc : Int} (h : DiskK O w d D kc sc) : DiskAt O w d D := by
  obtain ⟨nm, tn, tl, vn, vl, vc, fs, gs, rn, rl, h, hO⟩ := h
  exact ⟨nm, tn, tl, vn, vl, vc, kc, sc, fs, gs, rn, rl, h, hO⟩
theorem DiskK.ext {O : Nat → Prop} {w w' : World} {d : Nat} {D : DskS} {kc sc : Int} (h : DiskK O w d D kc sc) (e : Ext w w') : DiskK O w' d D kc sc := by
  obtain ⟨nm, tn, tl, vn, vl, vc, fs, gs, rn, rl, h, hO⟩ := h
  exact ⟨nm, tn, tl, vn, vl, vc, fs, gs, rn, rl, h.ext e, hO⟩
theorem DiskK.mono {O O' : Nat → Prop} {w : World} {d : Nat} {D : DskS} {kc sc : Int} (h : DiskK O w d D kc sc) (hO : ∀ k, k < w.heap.size → O k → O' k) : DiskK O' w d D kc sc := by
  obtain ⟨nm, tn, tl, vn, vl, vc, fs, gs, rn, rl, h, h'⟩ := h
  exact ⟨nm, tn, tl, vn, vl, vc, fs, gs, rn, rl, h, fun k hk => hO k (h.lt hk) (h' k hk)⟩
theorem DiskAt.ext {O : Nat → Prop} {w w' : World} {d : Nat} {D : DskS} (h : DiskAt O w d D) (e : Ext w w') : DiskAt O w' d D := by
  obtain ⟨kc, sc, hk, -⟩ := h.k
  exact (hk.ext e).at
theorem DiskAt.mono {O O' : Nat → Prop} {w : World} {d : Nat} {D : DskS} (h : DiskAt O w d D) (hO : ∀ k, k < w.heap.size → O k → O' k) : DiskAt O' w d D := by
  obtain ⟨kc, sc, hk, -⟩ := h.k
  exact (hk.mono hO).at
theorem Grow.step {O : Nat → Prop} {a b c : World} (hab : a.heap.size ≤ b.heap.size) (hbc : b.heap.size ≤ c.heap.size) {k : Nat} (h : Grow (Grow O a b) b c k) : Grow O a c k := by
  rcases h with (h | h) | h
  · exact .inl h
  · exact .inr ⟨h.1, by omega⟩
  · exact .inr ⟨by omega, h.2⟩
theorem Kept.grow {O : Nat → Prop} {a b c : World} (h : Kept O a b) (k : Kept (Grow O a b) b c) : Kept O a c := h.trans k fun j hj hg => hg.elim id fun h => absurd hj (by omega)

set_option maxRecDepth 100000 in
set_option maxHeartbeats 800000 in
theorem breaksNowP (O : Nat → Prop) (w : World) (d : Nat) (D : DskS) (kc sc : Int) (h : DiskK O w d D kc sc) (hb : D.due ≠ 0 → kc = D.keep ∧ sc = D.stay) :
    Calls Try.prog 69 #[.pointer (some ⟨d, 0, none⟩)] w fun e w' => e = .returned (.bool (decide (D.due = 1))) ∧ Hid (DiskK O w' d D.begin kc sc) ∧ Hid (Kept O w w') := by
  obtain ⟨nm, tn, tl, vn, vl, vc, fs, gs, rn, rl, h, hO⟩ := h
  obtain ⟨c0, c1, c2, c3, c4⟩ := five_cells h.box
  have fz := row_frozen h.box
  have hdue := h.due
  by_cases hz : D.due = 0
  · have e0 : D.begin = D := by
      unfold DskS.begin
      rw [hz]
      cases D; simp at hz; subst hz; rfl
    have b0 : ((D.due : Int) == 0) = true := by simp [hz]
    replace h := hide h; replace hz := hide hz; replace hdue := hide hdue
    go_enter Try.func69, Try.ntmps69
    go_wp2_with fail
    go_ret
    exact ⟨by simp [hz.out], by rw [e0]; exact ⟨nm, tn, tl, vn, vl, vc, fs, gs, rn, rl, h.out, hO⟩, Kept.refl _ _⟩
  · have b0 : ((D.due : Int) == 0) = false := by simp; omega
    obtain ⟨m, hm⟩ : ∃ m, m = D.due - 1 := ⟨_, rfl⟩
    have e1 : IntKind.i64.wrap ((D.due : Int) - 1) = (m : Int) := by rw [IntKind.wrap_i64]; omega
    obtain ⟨d0, d1, d2, d3, d4⟩ := five_cells (set_two h.box (.int .i64 (m : Int)))
    have hq : (((m : Int)) == 0) = decide (D.due = 1) := by
      by_cases h1 : D.due = 1
      · simp [h1, hm]
      · simp [h1]; omega
    have K1 := kept_setCell w ⟨d, 2, none⟩ (.int .i64 (m : Int))
    have hI : DiskIn (w.setCell ⟨d, 2, none⟩ (.int .i64 (m : Int))) d nm tn tl vn vl vc kc sc fs gs rn rl D.begin := by
      have := h.boxed (due := m) (kc' := kc) (sc' := sc) (kp := D.keep) (st := D.stay) K1 (set_two h.box _) (by omega) (fun _ => hb hz)
      rw [hm] at this
      rw [hm]
      exact this
    have hdd := hO d (.inl rfl)
    replace h := hide h; replace hz := hide hz; replace hm := hide hm; replace hI := hide hI; replace K1 := hide K1; replace hdue := hide hdue
    go_enter Try.func69, Try.ntmps69
    go_wp2_with fail
    go_ret
    refine ⟨by rw [← hq]; rfl, ⟨nm, tn, tl, vn, vl, vc, fs, gs, rn, rl, hI.out, hO⟩, K1.out.mono fun k _ e => e ▸ hdd⟩

set_option maxRecDepth 100000 in
set_option maxHeartbeats 800000 in
theorem fallP (O : Nat → Prop) (w : World) (d : Nat) (D : DskS) (kc sc : Int) (h : DiskK O w d D kc sc) (hfew : D.chs.length + 1 ≤ 2000000000000) :
    Calls Try.prog 70 #[.pointer (some ⟨d, 0, none⟩)] w fun e w' => e = .returned (.int .i64 14) ∧ Hid (DiskK (Grow O w w') w' d (D.crash kc sc) 0 0) ∧ Hid (Kept O w w') := by
  obtain ⟨nm, tn, tl, vn, vl, vc, fs, gs, rn, rl, h, hO⟩ := h
  obtain ⟨c0, c1, c2, c3, c4⟩ := five_cells h.box
  have hcr := hide (crashP w.drew d nm tn tl vn vl vc kc sc fs gs rn rl D kc sc hfew (h.ext (Ext.refl w).drew))
  replace h := hide h
  go_enter Try.func70, Try.ntmps70
  go_upto_region 1 with fail
  go_cut [] (fun wx => ∃ tn' vn' vl' rn' rl', Hid (DiskIn wx d nm tn' tl vn' vl' (.slice none 0 0) 0 0 fs gs rn' rl' (D.crash kc sc)) ∧ Hid (Kept (DFoot d nm tn tl vn vl vc fs gs) w wx ∧ ∀ k, DFoot d nm tn' tl vn' vl' (.slice none 0 0) fs gs k → DFoot d nm tn tl vn vl vc fs gs k ∨ w.heap.size ≤ k))
  case first =>
    go_region_with (go_at_call 30; refine hcr.out.mono ?_; rintro e1 w1 ⟨tn', vn', vl', rn', rl', rfl, k1, k2⟩)
    all_goals
      go_wp2_with fail
      go_meet
      exact ⟨tn', vn', vl', rn', rl', k1, ((Ext.refl w).drew.kept _).trans k2.out.1 (fun _ _ h => h), k2.out.2⟩
  case rest =>
    obtain ⟨tn', vn', vl', rn', rl', k1, k2⟩ := hcut
    go_wp2_with fail
    go_ret
    exact ⟨rfl, ⟨nm, tn', tl, vn', vl', .slice none 0 0, fs, gs, rn', rl', k1.out, fun k hk => (k2.out.2 k hk).elim (fun h => .inl (hO k h)) (fun h => .inr ⟨h, k1.out.lt hk⟩)⟩, k2.out.1.mono fun k _ hk => hO k hk⟩
end Go.Proofs.Ytpkhmgonkbpjjaa
