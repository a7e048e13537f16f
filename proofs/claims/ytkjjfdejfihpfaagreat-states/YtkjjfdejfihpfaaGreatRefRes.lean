/-
  A resource as bytes: what the reference's function answers.
-/
import Derived.Test.YtkjjfdejfihpfaaGreatJ5
import Derived.Test.YtkjjfdejfihpfaaGreatJ9
import Derived.Deep.RegionHeld3
import Derived.Deep.QuietTactic
import Derived.BigQuiet
namespace Go.Proofs.YtkjjfdejfihpfaaGreat
open Go.RowKit

/-- It answers a text, and all is as it was. -/
def StrIs (w : World) (l : List UInt8) (N : Nat) (e : Ending) (w' : World) : Prop := ∃ t : ByteArray, e = .returned (.string t) ∧ Hid (t.data.toList = l) ∧ t.size ≤ N ∧ Hid (Ext w w')
theorem StrIs.mk {w w' : World} {l : List UInt8} {N : Nat} {e : Ending} (h : e = .returned (.string ⟨l.toArray⟩)) (hl : l.length ≤ N) (he : Ext w w') : StrIs w l N e w' :=
  ⟨⟨l.toArray⟩, h, rfl, hl, he⟩
theorem refText' (s : ByteArray) (w : World) (N : Nat) (hs : s.size ≤ 1048576) (hN : s.size + 1 ≤ N) : Calls Tryz.prog 41 #[.string s] w (StrIs w (textL s) N) :=
  (refText s w hs).mono fun _ _ ⟨h, he⟩ => StrIs.mk h (by rw [textL_len]; exact hN) he
theorem refBig' (n : Int) (size : Nat) (w : World) (h0 : -2147483648 ≤ n) (h1 : n ≤ 9007199254740992) (hs : size ≤ 4) : Calls Tryz.prog 17 #[.int .i64 n, .int .i64 size] w (StrIs w (bigL size n) 4) :=
  (refBig n size w h0 h1 hs).mono fun _ _ ⟨h, he⟩ => StrIs.mk h (by rw [bigL_len]; exact hs) he
theorem dl_app (a b : ByteArray) : (a ++ b).data.toList = a.data.toList ++ b.data.toList := by simp
theorem sz_app (a b : ByteArray) : (a ++ b).size = a.size + b.size := ByteArray.size_append
theorem re_cells {w : World} {k : Nat} {a b c d : Value} {t : TypeId} {fz : Nat × Nat} (hk : w.heap[k]? = some (.cells #[a, b, c, d] t fz)) :
    w.cell? ⟨k, 0, none⟩ = some a ∧ w.cell? ⟨k, 1, none⟩ = some b ∧ w.cell? ⟨k, 2, none⟩ = some c ∧ w.cell? ⟨k, 3, none⟩ = some d := ⟨at_c0 hk, at_c1 hk, at_c2 hk, at_c3 hk⟩
theorem nof {a b : Nat} (h : a + b ≤ 9223372036854775807) : (9223372036854775807 < a + b) = False := eq_false (by omega)
theorem numA {x : Attrd} (h : attrB x = true) : x.isText = true ∨ (-1000000000 ≤ x.number ∧ x.number ≤ 1000000000) := by
  cases hx : x.isText
  · right
    simp [attrB, hx] at h
    exact ⟨h.2.2.1, h.2.2.2⟩
  · exact .inl rfl

set_option maxRecDepth 100000 in
set_option maxHeartbeats 3200000 in
theorem refRes (c2 c3 : Value) (x : Resd) (w : World) (hr : ResV w c2 c3 x) (hm : mayB x = true) :
    Calls Tryz.prog 18 #[.agg #[.string x.id.kind, .string x.id.name, c2, c3]] w fun e w' => e = .returned (.string ⟨(encR x).toArray⟩) ∧ Ext w w' := by
  obtain ⟨⟨s1, s2⟩, x2, x3, x4, x5⟩ := may_sh hm
  obtain ⟨hI, hA, hF⟩ := hr
  obtain ⟨a2, p2, rfl⟩ := hA.form
  obtain ⟨a3, p3, rfl⟩ := hF.form
  replace hA := hide hA; replace hF := hide hF; replace hI := hide hI; replace x2 := hide x2; replace x3 := hide x3; replace hm := hide hm
  go_enter Tryz.func18, Tryz.ntmps18
  go_wp2_with fail
  go_region_held3 (fun w' => w'.cell? ⟨w.heap.size, 0, none⟩ = some (.string x.id.kind) ∧ w'.cell? ⟨w.heap.size, 1, none⟩ = some (.string x.id.name) ∧ w'.cell? ⟨w.heap.size, 2, none⟩ = some (.slice a2 x.attrs.length p2)) (go_keep)
    (first
      | (go_at_call 17; refine (refBig' (x.attrs.length : Int) 1 w2 (by omega) (by omega) (by omega)).mono ?_; rintro e w3 ⟨t3, rfl, ht3, hz3, he3⟩; go_must (have hR3 := ext_heap0 he3.out hR2.out; clear q0 q1 q2 q3; obtain ⟨q0, q1, q2, q3⟩ := re_cells hR3; replace hR3 := hide hR3; have o2 := nof (a := t1.size + t2.size) (b := t3.size) (by omega)))
      | (go_at_call 41; refine (refText' x.id.name w1 256 (by omega) (by omega)).mono ?_; rintro e w2 ⟨t2, rfl, ht2, hz2, he2⟩; go_must (have hR2 := ext_heap0 he2.out hR1.out; clear q0 q1 q2 q3; obtain ⟨q0, q1, q2, q3⟩ := re_cells hR2; replace hR2 := hide hR2; have o1 := nof (a := t1.size) (b := t2.size) (by omega)))
      | (go_at_call 41; refine (refText' x.id.kind _ 256 (by omega) (by omega)).mono ?_; rintro e w1 ⟨t1, rfl, ht1, hz1, he1⟩; go_must (have hR1 := ext_heap0 he1.out (heap_alloc_new w _); obtain ⟨q0, q1, q2, q3⟩ := re_cells hR1; replace hR1 := hide hR1)))
  have X3 := hide ((((Ext.refl w).alloc _).drew.trans he1.out).trans (he2.out.trans he3.out))
  have hz : (t1 ++ t2 ++ t3).size ≤ 600 := by rw [sz_app, sz_app]; omega
  have hsb0 : Hid ((t1 ++ t2 ++ t3).data.toList = idL x.id ++ bigL 1 (x.attrs.length : Int)) := by show _ = _; rw [dl_app, dl_app, ht1.out, ht2.out, ht3.out]; rfl
  generalize t1 ++ t2 ++ t3 = sb0 at *
  clear q0 q1 q2 q3 o1 o2
  rename_i hHeld
  clear hHeld
  go_wp2_with fail
  go_loopw [3, 4] (fun v3 i wr => ∃ (k : Nat) (sb : ByteArray), k ≤ x.attrs.length ∧ i = .int .i64 k ∧ v3 = .string sb ∧ sb.size ≤ 600 + 600 * k ∧ Hid (sb.data.toList = idL x.id ++ bigL 1 (x.attrs.length : Int) ++ (x.attrs.take k).flatMap attrL) ∧ Ext w3 wr) (fun _ i _ => x.attrs.length - (intOf i).toNat)
  case atStart => exact ⟨0, sb0, Nat.zero_le _, rfl, rfl, by omega, by simp [Hid, hsb0.out], Ext.refl _⟩
  case round =>
    obtain ⟨k, sb, hk, rfl, rfl, hsz, hsb, he⟩ := hrel
    have hRw := ext_heap0 he hR3.out
    obtain ⟨q0, q1, q2, q3⟩ := re_cells hRw
    replace hRw := hide hRw
    by_cases hlt : k < x.attrs.length
    · obtain ⟨⟨aa, cc, hav, hcap, hmax, hs⟩, hfew, hok⟩ := hA.out
      obtain ⟨rfl, rfl⟩ : aa = a2 ∧ cc = p2 := by simpa using hav.symm
      clear hav
      rcases hs with hs | ⟨b, off, rfl, hin⟩
      · rw [hs] at hlt; simp at hlt
      obtain ⟨y, hy⟩ := some_of_lt hlt
      obtain ⟨g0, g1, g2, g3⟩ := (hin.ext (X3.out.trans he)) k y hy
      obtain ⟨l1, l2⟩ := x2.out y (List.mem_of_getElem? hy)
      have hat : attrB y = true := by
        have := hm.out; simp only [mayB, Bool.and_eq_true] at this
        exact List.all_eq_true.1 this.1.1.1.2 y (List.mem_of_getElem? hy)
      have hnum := numA hat
      have Ht := hide (flat_succ (f := attrL) hy)
      have j2 : (k : Int) < (x.attrs.length : Int) := by omega
      have j4 : (0 : Int) ≤ (k : Int) := by omega
      replace hin := hide hin; replace hok := hide hok; replace hy := hide hy; replace he := hide he; replace hat := hide hat
      obtain ⟨nm, t, tx, num⟩ := y
      dsimp only at g0 g1 g2 g3 l1 l2 hnum
      go_wp2_with fail
      refine (refText' nm _ 256 (by omega) (by omega)).mono ?_
      rintro e w4 ⟨t4, rfl, ht4, hz4, he4⟩
      have hY4 := ext_heap0 he4.out (heap_alloc_new wr _)
      obtain ⟨y0, y1, y2, y3⟩ := re_cells hY4
      replace hY4 := hide hY4
      have o4 := nof (a := sb.size) (b := t4.size) (by omega)
      have hz5 : (sb ++ t4).size ≤ 856 + 600 * k := by rw [sz_app]; omega
      have hl5 : Hid ((sb ++ t4).data.toList = sb.data.toList ++ textL nm) := by show _ = _; rw [dl_app, ht4.out]
      obtain ⟨sb5, e5⟩ : ∃ s5, sb ++ t4 = s5 := ⟨_, rfl⟩
      rw [e5] at hz5 hl5
      have X4 := hide (((Ext.refl wr).alloc _).trans he4.out)
      clear q0 q1 q2 q3 g0 g1 g2 g3 he4
      cases t
      · have hn2 := hnum.resolve_left (by simp)
        go_wp2_with fail
        go_region_held3 (fun w' => w'.cell? ⟨wr.heap.size, 3, none⟩ = some (.int .i64 num)) (go_keep)
          ((go_at_call 17; first
            | (refine (refBig' num 4 w6 (by omega) (by omega) (by omega)).mono ?_; rintro e w7 ⟨t7, rfl, ht7, hz7, he7⟩; go_must (have hY7 := ext_heap0 he7.out hY6.out; clear y0 y1 y2 y3; obtain ⟨y0, y1, y2, y3⟩ := re_cells hY7; replace hY7 := hide hY7; have o7 := nof (a := sb5.size + t6.size) (b := t7.size) (by omega)))
            | (refine (refBig' 0 1 _ (by omega) (by omega) (by omega)).mono ?_; rintro e w6 ⟨t6, rfl, ht6, hz6, he6⟩; go_must (have hY6 := ext_heap0 he6.out hY4.out; clear y0 y1 y2 y3; obtain ⟨y0, y1, y2, y3⟩ := re_cells hY6; replace hY6 := hide hY6; have o6 := nof (a := sb5.size) (b := t6.size) (by omega)))))
        go_wp2
        go_roundw
        case rel =>
          refine ⟨k + 1, sb5 ++ t6 ++ t7, by omega, by go_num, rfl, by rw [sz_app, sz_app]; omega, ?_, he.out.trans (X4.out.drew.trans (he6.out.trans he7.out))⟩
          show _ = _
          rw [dl_app, dl_app, hl5.out, hsb.out, ht6.out, ht7.out, Ht.out]; simp [attrL]
        case measure => simp [intOf]; omega
      · go_wp2_with fail
        go_region_held3 (fun w' => w'.cell? ⟨wr.heap.size, 2, none⟩ = some (.string tx)) (go_keep)
          (first
            | (go_at_call 41; refine (refText' tx w6 256 (by omega) (by omega)).mono ?_; rintro e w7 ⟨t7, rfl, ht7, hz7, he7⟩; go_must (have hY7 := ext_heap0 he7.out hY6.out; clear y0 y1 y2 y3; obtain ⟨y0, y1, y2, y3⟩ := re_cells hY7; replace hY7 := hide hY7; have o7 := nof (a := sb5.size + t6.size) (b := t7.size) (by omega)))
            | (go_at_call 17; refine (refBig' 1 1 _ (by omega) (by omega) (by omega)).mono ?_; rintro e w6 ⟨t6, rfl, ht6, hz6, he6⟩; go_must (have hY6 := ext_heap0 he6.out hY4.out; clear y0 y1 y2 y3; obtain ⟨y0, y1, y2, y3⟩ := re_cells hY6; replace hY6 := hide hY6; have o6 := nof (a := sb5.size) (b := t6.size) (by omega))))
        go_wp2
        go_roundw
        case rel =>
          refine ⟨k + 1, sb5 ++ t6 ++ t7, by omega, by go_num, rfl, by rw [sz_app, sz_app]; omega, ?_, he.out.trans (X4.out.drew.trans (he6.out.trans he7.out))⟩
          show _ = _
          rw [dl_app, dl_app, hl5.out, hsb.out, ht6.out, ht7.out, Ht.out]; simp [attrL]
        case measure => simp [intOf]; omega
    · have hsA : Hid (sb.data.toList = idL x.id ++ listL attrL x.attrs) := by
        show _ = _
        rw [hsb.out, List.take_of_length_le (by omega)]; simp [listL]
      have hz' : sb.size ≤ 153600 := by omega
      have XW := hide (X3.out.trans he)
      replace he := hide he
      go_wp2_with fail
      refine (refBig' (x.after.length : Int) 1 _ (by omega) (by omega) (by omega)).mono ?_
      rintro e w4 ⟨t4, rfl, ht4, hz4, he4⟩
      have hR4 := ext_heap0 he4.out hRw.out
      replace hR4 := hide hR4
      have XW4 := hide (XW.out.trans he4.out)
      have hz5 : (sb ++ t4).size ≤ 154000 := by rw [sz_app]; omega
      have hl5 : Hid ((sb ++ t4).data.toList = idL x.id ++ listL attrL x.attrs ++ bigL 1 (x.after.length : Int)) := by show _ = _; rw [dl_app, ht4.out, hsA.out]
      obtain ⟨sb5, e5⟩ : ∃ s5, sb ++ t4 = s5 := ⟨_, rfl⟩
      rw [e5] at hz5 hl5
      clear q0 q1 q2 q3
      go_wp2_with fail
      go_loopw [3, 6] (fun v3 i wr => ∃ (k : Nat) (sb : ByteArray), k ≤ x.after.length ∧ i = .int .i64 k ∧ v3 = .string sb ∧ sb.size ≤ 154000 + 600 * k ∧ Hid (sb.data.toList = idL x.id ++ listL attrL x.attrs ++ bigL 1 (x.after.length : Int) ++ (x.after.take k).flatMap idL) ∧ Ext w4 wr) (fun _ i _ => x.after.length - (intOf i).toNat)
      case atStart => exact ⟨0, sb5, Nat.zero_le _, rfl, rfl, by omega, by simp [Hid, hl5.out], Ext.refl _⟩
      case round =>
        clear e5
        obtain ⟨m, sc, hml, rfl, rfl, hcz, hsc, hem⟩ := hrel
        have hRm := ext_heap0 hem hR4.out
        obtain ⟨q0, q1, q2, q3⟩ := re_cells hRm
        replace hRm := hide hRm
        by_cases hlt2 : m < x.after.length
        · obtain ⟨⟨aa, cc, hav, hcap, hmax, hs⟩, hfew, hok⟩ := hF.out
          obtain ⟨rfl, rfl⟩ : aa = a3 ∧ cc = p3 := by simpa using hav.symm
          clear hav
          rcases hs with hs | ⟨b, off, rfl, hin⟩
          · rw [hs] at hlt2; simp at hlt2
          obtain ⟨y, hy⟩ := some_of_lt hlt2
          have hIn := hide (hin.ext XW4.out)
          obtain ⟨g0, g1⟩ := (hIn.out.ext hem) m y hy
          obtain ⟨l1, l2⟩ := x3.out y (List.mem_of_getElem? hy)
          have Ht := hide (flat_succ (f := idL) hy)
          have j2 : (m : Int) < (x.after.length : Int) := by omega
          have j4 : (0 : Int) ≤ (m : Int) := by omega
          replace hin := hide hin; replace hok := hide hok; replace hem := hide hem
          go_wp2_with fail
          go_region_held3 (fun w' => w'.cell? ⟨w.heap.size, 3, none⟩ = some (.slice (some ⟨b, off, none⟩) x.after.length cc) ∧ w'.cell? ⟨b, off + m * 2, none⟩ = some (.string y.kind) ∧ w'.cell? ⟨b, off + m * 2 + 1, none⟩ = some (.string y.name)) (go_keep)
            ((go_at_call 41; first
              | (refine (refText' y.name w6 256 (by omega) (by omega)).mono ?_; rintro e w7 ⟨t7, rfl, ht7, hz7, he7⟩; go_must (have hR7 := ext_heap0 he7.out hR6.out; clear q0 q1 q2 q3 g0 g1; obtain ⟨q0, q1, q2, q3⟩ := re_cells hR7; obtain ⟨g0, g1⟩ := (hIn.out.ext (hem.out.drew.trans (he6.out.trans he7.out))) m y hy; replace hR7 := hide hR7; have o7 := nof (a := sc.size + t6.size) (b := t7.size) (by omega)))
              | (refine (refText' y.kind _ 256 (by omega) (by omega)).mono ?_; rintro e w6 ⟨t6, rfl, ht6, hz6, he6⟩; go_must (have hR6 := ext_heap0 he6.out hRm.out; clear q0 q1 q2 q3 g0 g1; obtain ⟨q0, q1, q2, q3⟩ := re_cells hR6; obtain ⟨g0, g1⟩ := (hIn.out.ext (hem.out.drew.trans he6.out)) m y hy; replace hR6 := hide hR6; have o6 := nof (a := sc.size) (b := t6.size) (by omega)))))
          go_wp2
          go_roundw
          case rel =>
            refine ⟨m + 1, sc ++ t6 ++ t7, by omega, by go_num, rfl, by rw [sz_app, sz_app]; omega, ?_, hem.out.drew.trans (he6.out.trans he7.out)⟩
            show _ = _
            rw [dl_app, dl_app, hsc.out, ht6.out, ht7.out, Ht.out]; simp [idL]
          case measure => simp [intOf]; omega
        · have hfin : Hid (sc.data.toList = encR x) := by
            show _ = _
            rw [hsc.out, List.take_of_length_le (by omega)]; simp [encR, listL]
          replace hem := hide hem
          go_wp2
          go_ret
          refine ⟨retS (ByteArray.ext ?_), XW4.out.trans hem.out⟩
          rw [← hfin.out]
end Go.Proofs.YtkjjfdejfihpfaaGreat
