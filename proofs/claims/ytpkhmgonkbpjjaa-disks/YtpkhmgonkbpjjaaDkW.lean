/-
  A disk: a file is written.
-/
import Derived.Test.YtpkhmgonkbpjjaaDkA
namespace Go.Proofs.Ytpkhmgonkbpjjaa
open Go.RowKit Go.Shelf

attribute [local go_sem] Go.World.cell?_alloc_some
/-- What an act leaves, and answers. -/
def InIs (O : Nat → Prop) (w : World) (d : Nat) (kc sc : Int) (R : DskS × Int) (e : Ending) (w' : World) : Prop :=
  e = .returned (.int .i64 R.2) ∧ Hid (DiskK (Grow O w w') w' d R.1 kc sc) ∧ Hid (Kept O w w')
theorem DiskK.still {O : Nat → Prop} {w w' : World} {d : Nat} {D : DskS} {kc sc : Int} (h : DiskK O w d D kc sc) (e : Ext w w') : DiskK (Grow O w w') w' d D kc sc := (h.ext e).mono fun _ _ hk => .inl hk
theorem word_size {name : ByteArray} (h : wordB name.data.toList = true) : name.size ≤ 12 := by
  by_cases hl : 12 < name.data.toList.length
  · rw [wordB_long hl] at h; cases h
  · have : name.data.toList.length = name.size := Array.length_toList
    omega
theorem ptr_is {rn : List RowF} {fs : List Nat} {l : List NmS} (h : rn.Perm (l.map (rowN fs))) (hn : (l.map Prod.fst).Nodup) (a : ByteArray) : ptrF a rn = (lookN a l).map fun i => ⟨fs.getD i 0, 0, none⟩ := by
  unfold ptrF lookN
  rw [look_is h hn]
  cases lookK Prod.fst a l <;> rfl
/-- How many bytes the file of a name has, if there is one. -/
noncomputable def oldSz (D : DskS) (name : ByteArray) : Nat := match lookN name (playN D.chs) with
  | some i => sizeF D.files i
  | none => 0
theorem sizeO (w : World) (d nm tn tl : Nat) (vn vl vc : Value) (kc sc : Int) (fs gs : List Nat) (rn rl : List RowF) (D : DskS) (name : ByteArray) (p : Option Addr) (h : DiskIn w d nm tn tl vn vl vc kc sc fs gs rn rl D) (hp : p = ptrF name rn) :
    Calls Try.prog 74 #[.pointer p] w fun e w' => e = .returned (.int .i64 (oldSz D name : Int)) ∧ w' = w := by
  rw [ptr_is h.names.isNow (play_nodup D.chs) name] at hp
  unfold oldSz
  cases hl : lookN name (playN D.chs) with
  | none =>
    rw [hl] at hp
    subst hp
    exact sizeNil w
  | some i =>
    rw [hl] at hp
    have hi : i < D.files.length := by
      unfold lookN at hl
      cases e1 : lookK Prod.fst name (playN D.chs) with
      | none => rw [e1] at hl; cases hl
      | some x =>
        rw [e1] at hl
        obtain rfl : x.2 = i := by simpa using hl
        exact (play_ok h.ok.chs x (lookK_some e1).1).2
    obtain ⟨b, g, f, h1, h2, h3, h4⟩ := h.files.get hi
    have e : p = some ⟨b, 0, none⟩ := by rw [hp]; simp [List.getD_eq_getElem?_getD, h1]
    subst e
    refine (sizeP b g f w h4).mono ?_
    rintro e w' ⟨rfl, rfl⟩
    exact ⟨by simp [sizeF, h3], rfl⟩
theorem ChIs.ret {w w' : World} {nm tn tl : Nat} {vn vl vc : Value} {fs : List Nat} {rl : List RowF} {chs : List ChgS} {last : Nat} {c : ChgS} {e : Ending} (h : ChIs w nm tn tl vn vl vc fs rl chs last c e w') : e = .returned (.tuple #[]) := by
  obtain ⟨_, _, _, h, _⟩ := h
  exact h
theorem changeNew (w : World) (nm tn tl : Nat) (vn vl vc : Value) (fs : List Nat) (rn rl : List RowF) (chs : List ChgS) (last b n : Nat) (name : ByteArray) (h : NamesIn w nm tn tl vn vl vc (fs ++ [b]) rn rl chs last) (hn : n = fs.length) (hfew : chs.length + 1 ≤ 2000000000000) (hs : name.size ≤ 12) :
    Calls Try.prog 75 #[.pointer (some ⟨nm, 0, none⟩), .agg #[.string name, .string name, .pointer (some ⟨b, 0, none⟩)]] w (ChIs w nm tn tl vn vl vc (fs ++ [b]) rl chs last (.wr name n)) := by
  have e : chgC (fs ++ [b]) (.wr name n) = (name, name, some ⟨b, 0, none⟩) := by subst hn; simp [chgC]
  have := changeP w nm tn tl vn vl vc (fs ++ [b]) rn rl chs last (.wr name n) h hfew (by rw [e]; simp only; omega) (by rw [e]; simp only; omega)
  rw [e] at this
  exact this
/-- A file is made, and a change of names: the disk with both. -/
theorem put_done {O : Nat → Prop} {w wa wb w' : World} {d nm tn tl b g : Nat} {vn vl vc : Value} {kc sc : Int} {fs gs : List Nat} {rn rl : List RowF} {D : DskS} {c : ChgS} {f : FileS} (h : DiskIn w d nm tn tl vn vl vc kc sc fs gs rn rl D) (hO : ∀ k, DFoot d nm tn tl vn vl vc fs gs k → O k)
    (Xa : Ext w wa) (Xb : Ext wa wb) (hf : FileAt wb b g f) (hbg : wa.heap.size ≤ b ∧ wa.heap.size ≤ g) (hc : ChIs wb nm tn tl vn vl vc (fs ++ [b]) rl D.chs D.last c (.returned (.tuple #[])) w') (hok : ({ D with files := D.files ++ [f], chs := D.chs ++ [c] } : DskS).Ok) :
    DiskK (Grow O w w') w' d { D with files := D.files ++ [f], chs := D.chs ++ [c] } kc sc ∧ Kept O w w' := by
  obtain ⟨vn', vc', rn', -, hN, hK⟩ := hc
  have ha := h.ext Xa
  have sa := Ext.size Xa
  have sb := Ext.size Xb
  have F1 := ha.files.push Xb hf hbg.1 hbg.2
  have N1 := (ha.names.ext Xb).more (by rw [h.files.flen]; exact h.ok.chs) b
  have nf : ∀ k c t fz, wb.heap[k]? = some (.cells c t fz) → ¬ NTy t → ¬ NFoot nm tn tl vn vl vc k := fun k c t fz hk ht => N1.not hk ht
  have F2 := F1.kept hK.out.1 (fun q hq => by obtain ⟨c, fz, hc⟩ := F1.fs_at hq; exact nf _ _ _ _ hc (by unfold NTy; decide)) (fun q hq => by obtain ⟨c, fz, hc⟩ := F1.gs_at hq; exact nf _ _ _ _ hc (by unfold NTy; decide))
  have B1 := ext_heap Xb ha.box
  have B2 := hK.out.1.heap B1 (nf _ _ _ _ B1 (by unfold NTy; decide))
  have D2 : DiskIn w' d nm tn tl vn' vl vc' kc sc (fs ++ [b]) (gs ++ [g]) rn' rl { D with files := D.files ++ [f], chs := D.chs ++ [c] } := ⟨B2, hN.out, F2, hok, h.due, h.brk⟩
  have KK : Kept (NFoot nm tn tl vn vl vc) w w' := ((Xa.trans Xb).kept _).trans hK.out.1 (fun _ _ h => h)
  refine ⟨⟨nm, tn, tl, vn', vl, vc', fs ++ [b], gs ++ [g], rn', rl, D2, fun k hk => ?_⟩, KK.mono fun k _ hk => hO k (.inr (.inl hk))⟩
  have hlt := D2.lt hk
  rcases hk with hk | hk | hk | hk
  · exact .inl (hO k (.inl hk))
  · rcases hK.out.2 k hk with h1 | h1
    · exact .inl (hO k (.inr (.inl h1)))
    · exact .inr ⟨by omega, hlt⟩
  · rcases List.mem_append.1 hk with h1 | h1
    · exact .inl (hO k (.inr (.inr (.inl h1))))
    · obtain rfl : k = b := by simpa using h1
      exact .inr ⟨by omega, hlt⟩
  · rcases List.mem_append.1 hk with h1 | h1
    · exact .inl (hO k (.inr (.inr (.inr h1))))
    · obtain rfl : k = g := by simpa using h1
      exact .inr ⟨by omega, hlt⟩

set_option maxRecDepth 100000 in
set_option maxHeartbeats 3200000 in
theorem writeI (O : Nat → Prop) (w : World) (d : Nat) (D : DskS) (kc sc : Int) (name s : ByteArray) (h : DiskK O w d D kc sc) (hnm : name.size ≤ 9223372036854775807) (hss : s.size ≤ 9223372036854775807) (hfew : D.chs.length + 1 ≤ 2000000000000) :
    Calls Try.prog 40 #[.pointer (some ⟨d, 0, none⟩), .string name, .string s] w (InIs O w d kc sc (D.write1 name s)) := by
  have hK0 := h
  obtain ⟨nm, tn, tl, vn, vl, vc, fs, gs, rn, rl, h, hO⟩ := h
  replace h := hide h; replace hK0 := hide hK0
  go_enter Try.func40, Try.ntmps40
  go_wp2_with fail
  refine (isWord name w hnm).mono ?_
  rintro e1 w1 ⟨rfl, X1⟩
  replace X1 := hide X1
  cases hw : wordB name.data.toList with
  | false =>
    have hf : D.write1 name s = (D, 11) := by unfold DskS.write1; simp [hw]
    replace hw := hide hw; replace hf := hide hf
    go_wp2_with fail
    go_ret
    rw [hf.out]
    exact ⟨rfl, hK0.out.still X1.out, X1.out.kept _⟩
  | true =>
    obtain ⟨c0, c1, c2, c3, c4⟩ := five_cells (ext_heap X1.out h.out.box)
    obtain ⟨n0, n1, n2⟩ := three_at (ext_heap X1.out h.out.names.nbox)
    have hns := word_size hw
    replace hw := hide hw
    go_wp2_with fail
    refine (tabGetF 0 vn rn name tn _ (h.out.names.now.ext X1.out)).mono ?_
    rintro e2 w2 ⟨rfl, X2⟩
    obtain ⟨p, hp⟩ : ∃ p, p = ptrF name rn := ⟨_, rfl⟩
    rw [← hp]
    replace hp := hide hp
    have Y2 := hide (X1.out.trans X2.out)
    have hfr := hide (freeP w2 d nm tn tl vn vl vc kc sc fs gs rn rl D (by omega) (h.out.ext Y2.out))
    clear c0 c1 c2 c3 c4 n0 n1 n2
    go_wp2_with fail
    refine hfr.out.mono ?_
    rintro e3 w3 ⟨rfl, X3⟩
    replace X3 := hide X3
    have Y3 := hide (Y2.out.trans X3.out)
    have h3 := hide (h.out.ext Y3.out)
    -- the old file's size
    have hud : usedN D.files (playN D.chs) = usedN D.files (dropN name (playN D.chs)) + oldSz D name := used_drop (fs := D.files) (play_nodup D.chs) name
    have hub := used_le (fun f hf => (h.out.ok.files f hf).2) (playN D.chs)
    have hpl := play_len D.chs
    have hr1 := h.out.ok.room1
    have hso := hide (sizeO w3 d nm tn tl vn vl vc kc sc fs gs rn rl D name p h3.out hp.out)
    obtain ⟨z, hz⟩ : ∃ z : Int, z = (D.room : Int) - (usedN D.files (dropN name (playN D.chs)) : Int) := ⟨_, rfl⟩
    have hwz : IntKind.i64.wrap ((D.room : Int) - (usedN D.files D.names : Int) + (oldSz D name : Int)) = z := by
      rw [IntKind.wrap_i64]; unfold DskS.names; omega
    replace hud := hide hud; replace hub := hide hub; replace hpl := hide hpl
    go_wp2_with fail
    refine hso.out.mono ?_
    rintro e4 w4 ⟨rfl, rfl⟩
    by_cases hfull : D.room < usedN D.files (dropN name (playN D.chs)) + s.size
    · have hb : decide (z < (s.size : Int)) = true := by simp; omega
      have hf : D.write1 name s = (D, 13) := by unfold DskS.write1 DskS.names; rw [if_pos hw.out, if_pos hfull]
      replace hfull := hide hfull; replace hf := hide hf; replace hz := hide hz
      go_wp2_with fail
      go_ret
      rw [hf.out]
      exact ⟨rfl, hK0.out.still Y3.out, Y3.out.kept _⟩
    · have hb : decide (z < (s.size : Int)) = false := by simp; omega
      have hf : D.write1 name s = ({ D with files := D.files ++ [(s.data.toList, 0)], chs := D.chs ++ [.wr name D.files.length] }, 0) := by unfold DskS.write1 DskS.names; rw [if_pos hw.out, if_neg hfull]
      have hok : (D.write1 name s).1.Ok := h.out.ok.write1 name s
      have hsl : s.size ≤ maxLen := by unfold maxLen; omega
      have hd3 := five_cells h3.out.box
      have c1 := hd3.2.1
      have cd := five_cells (ext_heap (Ext.refl w4).drew h3.out.box)
      clear hd3 cd
      rw [hf] at hok
      replace hfull := hide hfull; replace hf := hide hf; replace hz := hide hz; replace hok := hide hok
      have h4 := h3.out
      go_upto_region 6 with fail
      go_cut [] (fun wx => Hid (DiskK (Grow O w wx) wx d { D with files := D.files ++ [(s.data.toList, 0)], chs := D.chs ++ [.wr name D.files.length] } kc sc ∧ Kept O w wx))
      case first =>
        go_region_with ((first
          | (go_at_call 76; refine (newFileP s _ hsl).mono ?_; rintro e5 w5 ⟨b, g, rfl, hF5, hb5, X5⟩; go_must (have X5' := (Ext.refl w4).drew.trans X5.out; have q1 := X5'.cells c1; replace X5' := hide X5'))
          | (go_at_call 75; refine (changeNew w5 nm tn tl vn vl vc fs rn rl D.chs D.last b D.files.length name ((h4.names.ext X5'.out).more (by rw [h4.files.flen]; exact h4.ok.chs) b) h4.files.flen.symm hfew hns).mono ?_; rintro e6 w6 hc6; go_must (have he6 := hc6.ret; subst he6; replace hc6 := hide hc6))))
        all_goals
          have hfin := put_done h.out hO Y3.out X5'.out hF5.out hb5.out hc6.out hok.out
          replace hfin := hide hfin
          go_wp2_with fail
          go_meet
          exact hfin
      case rest =>
        go_wp2_with fail
        go_ret
        rw [hf.out]
        exact ⟨rfl, hcut.out.1, hcut.out.2⟩
end Go.Proofs.Ytpkhmgonkbpjjaa
