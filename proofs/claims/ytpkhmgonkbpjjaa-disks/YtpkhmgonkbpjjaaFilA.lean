/-
  A file in memory: bytes are put behind its own; a disk: append, remove.
-/
import Derived.Test.YtpkhmgonkbpjjaaDkX
namespace Go.Proofs.Ytpkhmgonkbpjjaa
open Go.RowKit Go.Shelf

attribute [local go_sem] Go.World.cell?_alloc_some
/-- append of a text to a row of our own: where it lies then. -/
theorem run_append_XT {P : Program} (w : World) (t u ty : TypeId) (e : TypeId) (i : TypeInfo) (ht : P.underlying t = some (.slice e)) (hu : P.underlying u = some .string) (hi : P.info? e = some i) (hz : i.zero = some (.int .u8 0)) (hsize : i.size = 1) (hby : i.bytes = 1)
    (g0 cap0 n : Nat) (xs : List Value) (hown : OwnX w 0 e 1 (.slice (some ⟨g0, 0, none⟩) n cap0) n xs) (s : ByteArray) (h63 : n + s.size ≤ maxLen) (hbytes : n + s.size ≤ 140737488355328) :
    ∃ g cap w', (Builtin.append_ #[t, u] ty #[.slice (some ⟨g0, 0, none⟩) n cap0, .string s]).run P w = .ok (.slice (some ⟨g, 0, none⟩) (n + s.size) cap) w' ∧ OwnX w' 0 e 1 (.slice (some ⟨g, 0, none⟩) (n + s.size) cap) (n + s.size) (xs ++ Lib.strCells s) ∧ w.grownBy w' (some g0) ∧ (g = g0 ∨ g = w.heap.size) := by
  rcases hown.2 with ⟨h, _⟩ | ⟨g1, cap1, cur, fz, hv, hbg, hg, hf, hnc, hcm, hcs, htake⟩
  · cases h
  simp at hv
  obtain ⟨rfl, rfl⟩ := hv
  by_cases hroom : n + s.size ≤ cap0
  · have hfc := Lib.run_firstCells_string (P := P) w 1 s
    have hst := run_storeCells_cells (P := P) g0 n (Lib.strCells s) 0 w (fun j hj => by rw [Lib.strCells_length] at hj; simp [World.cell?, hg]; omega) (fun j hj => by rw [Lib.strCells_length] at hj; exact notFrozen hg hf (by omega)) (Lib.strCells_oneCell s)
    simp only [Nat.add_zero] at hst
    have hr : (Builtin.append_ #[t, u] ty #[.slice (some ⟨g0, 0, none⟩) n cap0, .string s]).run P w = .ok (.slice (some ⟨g0, 0, none⟩) (n + s.size) cap0) (w.setCells g0 n (Lib.strCells s)) := by
      simp [Builtin.append_, run_underlying ht, run_underlying hu, sizeOf, typeInfo, hi, hsize, Builtin.lenOf, hroom, hfc, Addr.add_lit, hst]
    have hk := setCells_kept g0 (Lib.strCells s) n w
    have hO := OwnX.room (m := s.size) hown.1 hbg hg hf hcm hcs htake (by rw [Lib.strCells_length, Nat.mul_one]) hroom
    rw [Nat.mul_one] at hO
    exact ⟨_, _, _, hr, hO, ⟨hk.os, hk.tape, hk.output, hk.size, fun k hk' hn => hk.block k hk' fun e => hn (by rw [e])⟩, .inl rfl⟩
  · have hxl : xs.length = n := by simpa using hown.1
    have hr := Lib.run_append_grow_string (P := P) w t u ty e i (.int .u8 0) ht hu hi hz ⟨g0, 0, none⟩ n cap0 xs (by rw [hsize]; simpa using hxl) (hown.cells rfl) s (by omega) (by unfold maxLen at h63; omega) (by rw [hby]; exact growslice_fits (by omega) (by omega))
    have hge := grownCap_ge w (n + s.size) cap0 e
    have hcm2 := grownCap_le_maxLen w (n + s.size) cap0 e h63
    have hlen : (xs ++ Lib.strCells s).length = (n + s.size) * 1 := by rw [List.length_append, hxl, Lib.strCells_length, Nat.mul_one]
    refine ⟨_, _, _, hr, ⟨hlen, .inr ⟨w.heap.size, _, _, (0, 0), rfl, Nat.zero_le _, heap_alloc_new w.drew _, .inl rfl, hge, hcm2, ?_, ?_⟩⟩, ⟨rfl, rfl, rfl, by simp, fun k hk _ => Below.heap_alloc w.drew _ k hk⟩, .inr rfl⟩
    · have hz1 : (Value.int IntKind.u8 0).cells.size = 1 := rfl
      simp only [Array.size_append, List.size_toArray, size_zeroCells, hz1, hxl, Lib.strCells_length]
      omega
    · simp only [Array.toList_append]
      rw [List.append_assoc, ← List.append_assoc, ← hlen]
      exact List.take_left
theorem strCells_is (s : ByteArray) : Lib.strCells s = cellsB s.data.toList := by
  simp [Lib.strCells, cellsB]
set_option maxRecDepth 100000 in
set_option maxHeartbeats 800000 in
theorem fileAppend (b g : Nat) (f : FileS) (s : ByteArray) (w : World) (h : FileAt w b g f) (hm : f.1.length + s.size ≤ 2000000000000) : Calls Try.prog 79 #[.pointer (some ⟨b, 0, none⟩), .string s] w fun e w' => ∃ g', e = .returned (.tuple #[]) ∧ Hid (FileAt w' b g' (f.1 ++ s.data.toList, f.2)) ∧ Hid (g' = g ∨ w.heap.size ≤ g') ∧ Hid (Kept (fun k => k = b ∨ k = g) w w') := by
  have hlt := h.lt
  obtain ⟨cap, h3, h4⟩ := h
  obtain ⟨i0, hi0, hz0, hz1, hz2⟩ := info_of infoByte
  obtain ⟨g', cap', w1, hr, hO, hg, hat⟩ := run_append_XT (P := Try.prog) w 111 9 111 5 i0 Try.underlying111 Try.underlying9 hi0 hz0 hz1 hz2 g cap f.1.length (cellsB f.1) h4 s (by unfold maxLen; omega) (by omega)
  have K1 : Kept (fun k => k = g) w w1 := ⟨hg.os, hg.tape, hg.output, hg.size, fun k hk hn => hg.block k hk fun e => hn (Option.some.inj e)⟩
  have h31 := K1.heap h3 hlt.2.2
  have c0 := tabF_c0 h3
  have c1 := tabF_c0 h31
  have f1 := row_frozen h31
  have hsl : s.data.toList.length = s.size := Array.length_toList
  replace h3 := hide h3; replace h4 := hide h4; replace hlt := hide hlt; replace hO := hide hO; replace hg := hide hg; replace hat := hide hat; replace K1 := hide K1; replace h31 := hide h31; replace hsl := hide hsl; replace hi0 := hide hi0
  go_enter Try.func79, Try.ntmps79
  go_wp2_with (at_builtin; refine Lib.wpList_append_run _ rfl _ _ 111 9 rfl _ _ rfl rfl _ _ hr ?_)
  refine ⟨rfl, .tuple #[], by simp [results, Try.results79], g', rfl, ⟨cap', ?_, ?_⟩, hat.out.imp id fun h => by omega, ?_⟩
  · have e : (f.1 ++ s.data.toList).length = f.1.length + s.size := by rw [List.length_append, hsl.out]
    simp only
    rw [e]
    simp [World.setCell, Array.getElem?_modify, h31.out]
  · have e : (f.1 ++ s.data.toList).length = f.1.length + s.size := by rw [List.length_append, hsl.out]
    simp only
    rw [e, cellsB_append, ← strCells_is]
    refine hO.out.kept (kept_setCell w1 ⟨b, 0, none⟩ _) fun q hq e' => ?_
    obtain rfl : g' = q := by simpa [Value.ownBlock] using hq
    have hb : b < w.heap.size := hlt.out.1
    rcases hat.out with h | h
    · exact hlt.out.2.2 (e'.symm.trans h)
    · have e2 : g' = b := e'
      omega
  · exact (K1.out.mono fun k _ e => .inr e).trans (kept_setCell w1 ⟨b, 0, none⟩ _) fun k _ e => .inl e

theorem append_fits {D : DskS} (h : D.Ok) {name s : ByteArray} {i : Nat} {f : FileS} (hi : D.find name = .inl i) (hf : D.files[i]? = some f) (hr : ¬ D.room < usedN D.files D.names + s.size) : f.1.length + s.size ≤ 20000 := by
  have h1 := used_one (fs := D.files) (play_nodup D.chs) (DskS.find_in h hi).2.1
  have h2 : sizeF D.files i = f.1.length := by simp [sizeF, hf]
  have h3 := h.room1
  unfold DskS.names at hr
  omega
set_option maxRecDepth 100000 in
set_option maxHeartbeats 1600000 in
theorem appendI (O : Nat → Prop) (w : World) (d : Nat) (D : DskS) (kc sc : Int) (name s : ByteArray) (h : DiskK O w d D kc sc) (hsm : name.size ≤ 9223372036854775807) (_hss : s.size ≤ 9223372036854775807) (hfew : D.chs.length + 1 ≤ 2000000000000) :
    Calls Try.prog 46 #[.pointer (some ⟨d, 0, none⟩), .string name, .string s] w (InIs O w d kc sc (D.append1 name s)) := by
  have hK0 := h
  obtain ⟨nm, tn, tl, vn, vl, vc, fs, gs, rn, rl, h, hO⟩ := h
  replace h := hide h; replace hK0 := hide hK0
  go_enter Try.func46, Try.ntmps46
  go_wp2_with fail
  refine (findP w d nm tn tl vn vl vc kc sc fs gs rn rl D name hsm h.out).mono ?_
  rintro e2 w2 ⟨rfl, X2⟩
  rcases find_ways D name with ⟨i, hi⟩ | ⟨e, he, hee⟩
  · obtain ⟨b, g, f, q1, q2, q3, q4, q5⟩ := (h.out.ext X2.out).file hi
    rw [q5]
    have hub := used_le (fun f hf => (h.out.ok.files f hf).2) (playN D.chs)
    have hpl := play_len D.chs
    have hr1 := h.out.ok.room1
    have hfr := hide (freeP w2 d nm tn tl vn vl vc kc sc fs gs rn rl D (by omega) (h.out.ext X2.out))
    obtain ⟨z, hz⟩ : ∃ z : Int, z = (D.room : Int) - (usedN D.files D.names : Int) := ⟨_, rfl⟩
    rw [← hz] at hfr
    replace hi := hide hi; replace q1 := hide q1; replace q2 := hide q2; replace q3 := hide q3; replace q4 := hide q4; replace q5 := hide q5; replace hub := hide hub; replace hpl := hide hpl
    go_wp2_with fail
    refine hfr.out.mono ?_
    rintro e3 w3 ⟨rfl, X3⟩
    replace X3 := hide X3
    have Y3 := hide (X2.out.trans X3.out)
    by_cases hfull : D.room < usedN D.files D.names + s.size
    · have hr : D.append1 name s = (D, 13) := by unfold DskS.append1; rw [hi.out]; simp only; rw [if_pos hfull]
      have hb : decide (z < (s.size : Int)) = true := by simp; omega
      replace hfull := hide hfull; replace hr := hide hr; replace hz := hide hz
      go_wp2_with fail
      go_ret
      rw [hr.out]
      exact ⟨rfl, hK0.out.still Y3.out, Y3.out.kept _⟩
    · have hr : D.append1 name s = ({ D with files := D.files.modify i fun f => (f.1 ++ s.data.toList, f.2) }, 0) := by unfold DskS.append1; rw [hi.out]; simp only; rw [if_neg hfull]
      have hb : decide (z < (s.size : Int)) = false := by simp; omega
      have hok := h.out.ok.append1 name s
      rw [hr] at hok
      have hfit := append_fits h.out.ok hi.out q3.out hfull
      have hap := hide (fileAppend b g f s w3 (q4.out.ext X3.out) (by omega))
      replace hfull := hide hfull; replace hr := hide hr; replace hz := hide hz; replace hok := hide hok; replace hfit := hide hfit
      go_wp2_with fail
      refine hap.out.mono ?_
      rintro e4 w4 ⟨g', rfl, hF4, hg4, hK4⟩
      have hfin := hide (fil_done (h0 := fun f => (f.1 ++ s.data.toList, f.2)) h.out hO Y3.out q1.out q2.out q3.out hF4.out hg4.out hK4.out hok.out)
      go_wp2_with fail
      go_ret
      rw [hr.out]
      exact ⟨rfl, hfin.out.1, hfin.out.2⟩
  · have hr : D.append1 name s = (D, e) := by unfold DskS.append1; rw [he]
    have hv : findV D fs name = .tuple #[.pointer none, .int .i64 e] := by unfold findV; rw [he]
    rw [hv]
    have hne : (e == 0) = false := by rcases hee with rfl | rfl <;> rfl
    have hne' : (e != 0) = true := by rcases hee with rfl | rfl <;> rfl
    replace hr := hide hr; replace he := hide he; replace hv := hide hv; replace hee := hide hee
    go_wp2_with fail
    go_ret
    rw [hr.out]
    exact ⟨rfl, hK0.out.still X2.out, X2.out.kept _⟩

set_option maxRecDepth 100000 in
set_option maxHeartbeats 1600000 in
theorem removeI (O : Nat → Prop) (w : World) (d : Nat) (D : DskS) (kc sc : Int) (name : ByteArray) (h : DiskK O w d D kc sc) (hsm : name.size ≤ 9223372036854775807) (hfew : D.chs.length + 1 ≤ 2000000000000) :
    Calls Try.prog 55 #[.pointer (some ⟨d, 0, none⟩), .string name] w (InIs O w d kc sc (D.remove1 name)) := by
  have hK0 := h
  obtain ⟨nm, tn, tl, vn, vl, vc, fs, gs, rn, rl, h, hO⟩ := h
  replace h := hide h; replace hK0 := hide hK0
  go_enter Try.func55, Try.ntmps55
  go_wp2_with fail
  refine (findP w d nm tn tl vn vl vc kc sc fs gs rn rl D name hsm h.out).mono ?_
  rintro e2 w2 ⟨rfl, X2⟩
  rcases find_ways D name with ⟨i, hi⟩ | ⟨e, he, hee⟩
  · have hr : D.remove1 name = ({ D with chs := D.chs ++ [.rm name] }, 0) := by unfold DskS.remove1; rw [hi]
    have hok := h.out.ok.remove1 name
    rw [hr] at hok
    have hss := word_size (DskS.find_in h.out.ok hi).1
    obtain ⟨b, g, f, q1, q2, q3, q4, q5⟩ := (h.out.ext X2.out).file hi
    have hch := changeP w2 nm tn tl vn vl vc fs rn rl D.chs D.last (.rm name) (h.out.ext X2.out).names hfew (by show name.size ≤ 2000000000000; omega) (by show (⟨#[]⟩ : ByteArray).size ≤ 2000000000000; decide)
    simp only [chgC] at hch
    rw [q5]
    have c1 := (five_cells (h.out.ext X2.out).box).2.1
    replace hi := hide hi; replace hr := hide hr; replace hok := hide hok; replace hch := hide hch; replace q1 := hide q1; replace q2 := hide q2; replace q3 := hide q3; replace q4 := hide q4; replace q5 := hide q5
    go_wp2_with fail
    refine hch.out.mono ?_
    rintro e3 w3 hc3
    have he3 := hc3.ret
    subst he3
    have hfin := hide (chg_done h.out hO X2.out hc3 hok.out)
    replace hc3 := hide hc3
    go_wp2_with fail
    go_ret
    rw [hr.out]
    exact ⟨rfl, hfin.out.1, hfin.out.2⟩
  · have hr : D.remove1 name = (D, e) := by unfold DskS.remove1; rw [he]
    have hv : findV D fs name = .tuple #[.pointer none, .int .i64 e] := by unfold findV; rw [he]
    rw [hv]
    have hne : (e == 0) = false := by rcases hee with rfl | rfl <;> rfl
    have hne' : (e != 0) = true := by rcases hee with rfl | rfl <;> rfl
    replace hr := hide hr; replace he := hide he; replace hv := hide hv; replace hee := hide hee
    go_wp2_with fail
    go_ret
    rw [hr.out]
    exact ⟨rfl, hK0.out.still X2.out, X2.out.kept _⟩
end Go.Proofs.Ytpkhmgonkbpjjaa
