/-
  A disk: a file gets another name; its bytes last; the names last; a file is read.
-/
import Derived.Test.YtpkhmgonkbpjjaaDkW
namespace Go.Proofs.Ytpkhmgonkbpjjaa
open Go.RowKit Go.Shelf

attribute [local go_sem] Go.World.cell?_alloc_some
theorem find_ways (D : DskS) (name : ByteArray) : (∃ i, D.find name = .inl i) ∨ ∃ e : Int, D.find name = .inr e ∧ (e = 11 ∨ e = 12) := by
  unfold DskS.find
  split
  · cases lookN name D.names with
    | some i => exact .inl ⟨i, rfl⟩
    | none => exact .inr ⟨12, rfl, .inr rfl⟩
  · exact .inr ⟨11, rfl, .inl rfl⟩
theorem DiskIn.file {w : World} {d nm tn tl : Nat} {vn vl vc : Value} {kc sc : Int} {fs gs : List Nat} {rn rl : List RowF} {D : DskS} (h : DiskIn w d nm tn tl vn vl vc kc sc fs gs rn rl D) {name : ByteArray} {i : Nat} (hf : D.find name = .inl i) :
    ∃ b g f, fs[i]? = some b ∧ gs[i]? = some g ∧ D.files[i]? = some f ∧ FileAt w b g f ∧ findV D fs name = .tuple #[.pointer (some ⟨b, 0, none⟩), .int .i64 0] := by
  obtain ⟨b, g, f, h1, h2, h3, h4⟩ := h.files.get (DskS.find_in h.ok hf).2.2
  refine ⟨b, g, f, h1, h2, h3, h4, ?_⟩
  unfold findV
  rw [hf]
  simp [List.getD_eq_getElem?_getD, h1]
/-- A change of names alone. -/
theorem chg_done {O : Nat → Prop} {w wb w' : World} {d nm tn tl : Nat} {vn vl vc : Value} {kc sc : Int} {fs gs : List Nat} {rn rl : List RowF} {D : DskS} {c : ChgS} (h : DiskIn w d nm tn tl vn vl vc kc sc fs gs rn rl D) (hO : ∀ k, DFoot d nm tn tl vn vl vc fs gs k → O k)
    (Xb : Ext w wb) (hc : ChIs wb nm tn tl vn vl vc fs rl D.chs D.last c (.returned (.tuple #[])) w') (hok : ({ D with chs := D.chs ++ [c] } : DskS).Ok) :
    DiskK (Grow O w w') w' d { D with chs := D.chs ++ [c] } kc sc ∧ Kept O w w' := by
  obtain ⟨vn', vc', rn', -, hN, hK⟩ := hc
  have hb := h.ext Xb
  have sb := Ext.size Xb
  have nf : ∀ k c t fz, wb.heap[k]? = some (.cells c t fz) → ¬ NTy t → ¬ NFoot nm tn tl vn vl vc k := fun k c t fz hk ht => hb.names.not hk ht
  have F2 := hb.files.kept hK.out.1 (fun q hq => by obtain ⟨c, fz, hc⟩ := hb.files.fs_at hq; exact nf _ _ _ _ hc (by unfold NTy; decide)) (fun q hq => by obtain ⟨c, fz, hc⟩ := hb.files.gs_at hq; exact nf _ _ _ _ hc (by unfold NTy; decide))
  have B2 := hK.out.1.heap hb.box (nf _ _ _ _ hb.box (by unfold NTy; decide))
  have D2 : DiskIn w' d nm tn tl vn' vl vc' kc sc fs gs rn' rl { D with chs := D.chs ++ [c] } := ⟨B2, hN.out, F2, hok, h.due, h.brk⟩
  refine ⟨⟨nm, tn, tl, vn', vl, vc', fs, gs, rn', rl, D2, fun k hk => ?_⟩, ((Xb.kept _).trans hK.out.1 (fun _ _ h => h)).mono fun k _ hk => hO k (.inr (.inl hk))⟩
  have hlt := D2.lt hk
  rcases hk with hk | hk | hk | hk
  · exact .inl (hO k (.inl hk))
  · rcases hK.out.2 k hk with h1 | h1
    · exact .inl (hO k (.inr (.inl h1)))
    · exact .inr ⟨by omega, hlt⟩
  · exact .inl (hO k (.inr (.inr (.inl hk))))
  · exact .inl (hO k (.inr (.inr (.inr hk))))
/-- One file has turned, in its own blocks. -/
theorem fil_done {O : Nat → Prop} {w wb w' : World} {d nm tn tl i b g : Nat} {vn vl vc : Value} {kc sc : Int} {fs gs : List Nat} {rn rl : List RowF} {D : DskS} {f : FileS} {h0 : FileS → FileS} {g' : Nat} (h : DiskIn w d nm tn tl vn vl vc kc sc fs gs rn rl D) (hO : ∀ k, DFoot d nm tn tl vn vl vc fs gs k → O k)
    (Xb : Ext w wb) (hb : fs[i]? = some b) (hg : gs[i]? = some g) (hf : D.files[i]? = some f) (hF : FileAt w' b g' (h0 f)) (hgn : g' = g ∨ wb.heap.size ≤ g') (k : Kept (fun k => k = b ∨ k = g) wb w') (hok : ({ D with files := D.files.modify i h0 } : DskS).Ok) :
    DiskK (Grow O w w') w' d { D with files := D.files.modify i h0 } kc sc ∧ Kept O w w' := by
  have hw := h.ext Xb
  have sb := Ext.size Xb
  have bm := List.mem_of_getElem? hb
  have gm := List.mem_of_getElem? hg
  obtain ⟨cb, fb, hcb⟩ := hw.files.fs_at bm
  obtain ⟨cg, fg, hcg⟩ := hw.files.gs_at gm
  have F2 := hw.files.one (h0 := h0) hb hg hf k hF hgn
  have N2 := hw.names.kept k (fun j hj e => by
    rcases e with rfl | rfl
    · exact hw.names.not hcb (by unfold NTy; decide) hj
    · exact hw.names.not hcg (by unfold NTy; decide) hj)
  have B2 := k.heap hw.box (fun e => by
    rcases e with e | e
    · exact tells hw.box hcb (by decide) e
    · exact tells hw.box hcg (by decide) e)
  have D2 : DiskIn w' d nm tn tl vn vl vc kc sc fs (gs.set i g') rn rl { D with files := D.files.modify i h0 } := ⟨B2, N2, F2, hok, h.due, h.brk⟩
  refine ⟨⟨nm, tn, tl, vn, vl, vc, fs, gs.set i g', rn, rl, D2, fun q hq => ?_⟩, ((Xb.kept _).trans k (fun _ _ h => h)).mono fun q _ hq => ?_⟩
  · have hlt := D2.lt hq
    rcases hq with hq | hq | hq | hq
    · exact .inl (hO q (.inl hq))
    · exact .inl (hO q (.inr (.inl hq)))
    · exact .inl (hO q (.inr (.inr (.inl hq))))
    · rcases List.mem_or_eq_of_mem_set hq with h1 | h1
      · exact .inl (hO q (.inr (.inr (.inr h1))))
      · subst h1
        rcases hgn with h2 | h2
        · subst h2; exact .inl (hO q (.inr (.inr (.inr gm))))
        · exact .inr ⟨by omega, hlt⟩
  · rcases hq with rfl | rfl
    · exact hO q (.inr (.inr (.inl bm)))
    · exact hO q (.inr (.inr (.inr gm)))

set_option maxRecDepth 100000 in
set_option maxHeartbeats 1600000 in
theorem renameI (O : Nat → Prop) (w : World) (d : Nat) (D : DskS) (kc sc : Int) (src dst : ByteArray) (h : DiskK O w d D kc sc) (hsm : src.size ≤ 9223372036854775807) (hdm : dst.size ≤ 9223372036854775807) (hfew : D.chs.length + 1 ≤ 2000000000000) :
    Calls Try.prog 53 #[.pointer (some ⟨d, 0, none⟩), .string src, .string dst] w (InIs O w d kc sc (D.rename1 src dst)) := by
  have hK0 := h
  obtain ⟨nm, tn, tl, vn, vl, vc, fs, gs, rn, rl, h, hO⟩ := h
  replace h := hide h; replace hK0 := hide hK0
  go_enter Try.func53, Try.ntmps53
  go_wp2_with fail
  refine (isWord dst w hdm).mono ?_
  rintro e1 w1 ⟨rfl, X1⟩
  replace X1 := hide X1
  cases hw : wordB dst.data.toList with
  | false =>
    have hf : D.rename1 src dst = (D, 11) := by unfold DskS.rename1; simp [hw]
    replace hw := hide hw; replace hf := hide hf
    go_wp2_with fail
    go_ret
    rw [hf.out]
    exact ⟨rfl, hK0.out.still X1.out, X1.out.kept _⟩
  | true =>
    have hds := word_size hw
    have hr1 : D.rename1 src dst = match D.find src with
      | .inl i => ({ D with chs := D.chs ++ [.rn src dst i] }, 0)
      | .inr e => (D, e) := by unfold DskS.rename1; rw [if_pos hw]; cases D.find src <;> rfl
    replace hw := hide hw; replace hr1 := hide hr1
    go_wp2_with fail
    refine (findP w1 d nm tn tl vn vl vc kc sc fs gs rn rl D src hsm (h.out.ext X1.out)).mono ?_
    rintro e2 w2 ⟨rfl, X2⟩
    have Y2 := hide (X1.out.trans X2.out)
    rcases find_ways D src with ⟨i, hi⟩ | ⟨e, he, hee⟩
    · have hr := hr1.out
      rw [hi] at hr
      have hok := h.out.ok.rename1 src dst
      rw [hr] at hok
      have hss := word_size (DskS.find_in h.out.ok hi).1
      obtain ⟨b, g, f, q1, q2, q3, q4, q5⟩ := (h.out.ext Y2.out).file hi
      have hcc : chgC fs (.rn src dst i) = (src, dst, some ⟨b, 0, none⟩) := by simp [chgC, List.getD_eq_getElem?_getD, q1]
      have hch := changeP w2 nm tn tl vn vl vc fs rn rl D.chs D.last (.rn src dst i) (h.out.ext Y2.out).names hfew (by rw [hcc]; simp only; omega) (by rw [hcc]; simp only; omega)
      rw [hcc] at hch
      simp only at hch
      rw [q5]
      have c1 := (five_cells (h.out.ext Y2.out).box).2.1
      replace hi := hide hi; replace hr := hide hr; replace hok := hide hok; replace hch := hide hch; replace q1 := hide q1; replace q2 := hide q2; replace q3 := hide q3; replace q4 := hide q4; replace q5 := hide q5; replace hcc := hide hcc
      go_wp2_with fail
      refine hch.out.mono ?_
      rintro e3 w3 hc3
      have he3 := hc3.ret
      subst he3
      have hfin := hide (chg_done h.out hO Y2.out hc3 hok.out)
      replace hc3 := hide hc3
      go_wp2_with fail
      go_ret
      rw [hr.out]
      exact ⟨rfl, hfin.out.1, hfin.out.2⟩
    · have hr := hr1.out
      rw [he] at hr
      have hv : findV D fs src = .tuple #[.pointer none, .int .i64 e] := by unfold findV; rw [he]
      rw [hv]
      have hne : (e == 0) = false := by rcases hee with rfl | rfl <;> rfl
      have hne' : (e != 0) = true := by rcases hee with rfl | rfl <;> rfl
      replace hr := hide hr; replace he := hide he; replace hv := hide hv; replace hee := hide hee
      go_wp2_with fail
      go_ret
      rw [hr.out]
      exact ⟨rfl, hK0.out.still Y2.out, Y2.out.kept _⟩

set_option maxRecDepth 100000 in
set_option maxHeartbeats 1600000 in
theorem syncI (O : Nat → Prop) (w : World) (d : Nat) (D : DskS) (kc sc : Int) (name : ByteArray) (h : DiskK O w d D kc sc) (hsm : name.size ≤ 9223372036854775807) :
    Calls Try.prog 51 #[.pointer (some ⟨d, 0, none⟩), .string name] w (InIs O w d kc sc (D.sync1 name)) := by
  have hK0 := h
  obtain ⟨nm, tn, tl, vn, vl, vc, fs, gs, rn, rl, h, hO⟩ := h
  replace h := hide h; replace hK0 := hide hK0
  go_enter Try.func51, Try.ntmps51
  go_wp2_with fail
  refine (findP w d nm tn tl vn vl vc kc sc fs gs rn rl D name hsm h.out).mono ?_
  rintro e2 w2 ⟨rfl, X2⟩
  rcases find_ways D name with ⟨i, hi⟩ | ⟨e, he, hee⟩
  · have hr : D.sync1 name = ({ D with files := D.files.modify i fun f => (f.1, f.1.length) }, 0) := by unfold DskS.sync1; rw [hi]
    have hok := h.out.ok.sync1 name
    rw [hr] at hok
    obtain ⟨b, g, f, q1, q2, q3, q4, q5⟩ := (h.out.ext X2.out).file hi
    rw [q5]
    have hsz := hide (sizeP b g f w2 q4)
    have hse := settleP b g f f.1.length w2 q4 (Nat.le_refl _)
    rw [List.take_length] at hse
    replace hi := hide hi; replace hr := hide hr; replace hok := hide hok; replace hse := hide hse; replace q1 := hide q1; replace q2 := hide q2; replace q3 := hide q3; replace q4 := hide q4; replace q5 := hide q5
    go_wp2_with fail
    refine hsz.out.mono ?_
    rintro e3 w3 ⟨rfl, hw3⟩
    subst hw3
    go_wp2_with fail
    refine hse.out.mono ?_
    rintro e4 w4 ⟨rfl, hF4, hK4⟩
    have hfin := hide (fil_done (h0 := fun f => (f.1, f.1.length)) h.out hO X2.out q1.out q2.out q3.out hF4.out (.inl rfl) (hK4.out.mono fun _ _ e => .inl e) hok.out)
    go_wp2_with fail
    go_ret
    rw [hr.out]
    exact ⟨rfl, hfin.out.1, hfin.out.2⟩
  · have hr : D.sync1 name = (D, e) := by unfold DskS.sync1; rw [he]
    have hv : findV D fs name = .tuple #[.pointer none, .int .i64 e] := by unfold findV; rw [he]
    rw [hv]
    have hne : (e == 0) = false := by rcases hee with rfl | rfl <;> rfl
    have hne' : (e != 0) = true := by rcases hee with rfl | rfl <;> rfl
    replace hr := hide hr; replace he := hide he; replace hv := hide hv; replace hee := hide hee
    go_wp2_with fail
    go_ret
    rw [hr.out]
    exact ⟨rfl, hK0.out.still X2.out, X2.out.kept _⟩

/-- The bytes of a file, as a text. -/
noncomputable def readV (D : DskS) (name : ByteArray) : Value := .tuple #[.string ⟨(D.read name).1.toArray⟩, .int .i64 (D.read name).2]
set_option maxRecDepth 100000 in
set_option maxHeartbeats 1600000 in
theorem readP (O : Nat → Prop) (w : World) (d : Nat) (D : DskS) (name : ByteArray) (h : DiskAt O w d D) (hsm : name.size ≤ 9223372036854775807) :
    Calls Try.prog 22 #[.pointer (some ⟨d, 0, none⟩), .string name] w fun e w' => e = .returned (readV D name) ∧ Hid (Ext w w') := by
  obtain ⟨nm, tn, tl, vn, vl, vc, kc, sc, fs, gs, rn, rl, h, hO⟩ := h
  replace h := hide h
  go_enter Try.func22, Try.ntmps22
  go_wp2_with fail
  refine (findP w d nm tn tl vn vl vc kc sc fs gs rn rl D name hsm h.out).mono ?_
  rintro e2 w2 ⟨rfl, X2⟩
  rcases find_ways D name with ⟨i, hi⟩ | ⟨e, he, hee⟩
  · obtain ⟨b, g, f, q1, q2, q3, q4, q5⟩ := (h.out.ext X2.out).file hi
    have hr : readV D name = .tuple #[.string ⟨f.1.toArray⟩, .int .i64 0] := by unfold readV DskS.read; rw [hi]; simp [q3]
    rw [q5]
    obtain ⟨cap, hb, ho⟩ := q4
    have c0 := tabF_c0 hb
    have hcv := ho.conv rfl
    replace hi := hide hi; replace hr := hide hr; replace hb := hide hb; replace ho := hide ho; replace q1 := hide q1; replace q2 := hide q2; replace q3 := hide q3; replace q5 := hide q5
    go_wp2_with fail
    go_ret2
    exact ⟨by rw [hr.out]; rfl, X2⟩
  · have hv : findV D fs name = .tuple #[.pointer none, .int .i64 e] := by unfold findV; rw [he]
    have hr : readV D name = .tuple #[.string ⟨#[]⟩, .int .i64 e] := by unfold readV DskS.read; rw [he]
    rw [hv]
    have hne : (e == 0) = false := by rcases hee with rfl | rfl <;> rfl
    have hne' : (e != 0) = true := by rcases hee with rfl | rfl <;> rfl
    replace hr := hide hr; replace he := hide he; replace hv := hide hv; replace hee := hide hee
    go_wp2_with fail
    go_ret2
    exact ⟨by rw [hr.out]; rfl, X2⟩
end Go.Proofs.Ytpkhmgonkbpjjaa
