/-
  The argument of Disks, opened, as long as the form's reach lets it be: a script of deeds.
-/
/-
  Disks returns true, and its arguments read behind the call as they read before: for every room and every script of calls at a disk, in every order, what the program's disk answers is what the document's reference answers, at each call; and in the end all its names and what their files have, and what is left of them behind a crash; the lists of names that came out are the caller's own.
  No condition on what comes in (the first form): the form's own reach bounds the script and each text.
-/
import Derived.Test.YtpkhmgonkbpjjaaJ5
import Derived.Test.YtpkhmgonkbpjjaaLawDk
import Derived.Test.YtpkhmgonkbpjjaaBroad
namespace Go.Proofs.Ytpkhmgonkbpjjaa
open Go.ChangeShapes Go.WideShapes Go.ChangeAt Go.RowKit Go.Deep

instance : Inhabited DeedS := ⟨⟨0, 0, 0, 0, ⟨#[]⟩, ⟨#[]⟩, ⟨#[]⟩⟩⟩
theorem cellsDeed : Try.prog.cellsOf 46 = 7 := by kernel_rfl
theorem bytesDeed : Try.prog.bytesOf 46 = 80 := by kernel_rfl
section
variable {H : Type} {enc : TypeId × Value → H} {w : World} {base : Nat} {spare : Nat → Bool} {held : Bool}
theorem trod_seven {t : TypeId} {f0 f1 f2 f3 f4 f5 f6 : Field} {fuel : Nat} {cs : List Value} {x : DataW H × List MemPlace} (ht : Try.prog.underlying t = some (.struct #[f0, f1, f2, f3, f4, f5, f6])) (h : DataW.trod enc Try.prog w base spare held fuel t cs = some x) :
    ∃ y0 y1 y2 y3 y4 y5 y6 n, x.1 = .agg [y0.1, y1.1, y2.1, y3.1, y4.1, y5.1, y6.1] ∧ cs.length = Try.prog.cellsOf t ∧ DataW.trod enc Try.prog w base spare held n f0.type ((cs.drop f0.offset).take (Try.prog.cellsOf f0.type)) = some y0 ∧
      DataW.trod enc Try.prog w base spare held n f1.type ((cs.drop f1.offset).take (Try.prog.cellsOf f1.type)) = some y1 ∧ DataW.trod enc Try.prog w base spare held n f2.type ((cs.drop f2.offset).take (Try.prog.cellsOf f2.type)) = some y2 ∧
      DataW.trod enc Try.prog w base spare held n f3.type ((cs.drop f3.offset).take (Try.prog.cellsOf f3.type)) = some y3 ∧ DataW.trod enc Try.prog w base spare held n f4.type ((cs.drop f4.offset).take (Try.prog.cellsOf f4.type)) = some y4 ∧
      DataW.trod enc Try.prog w base spare held n f5.type ((cs.drop f5.offset).take (Try.prog.cellsOf f5.type)) = some y5 ∧ DataW.trod enc Try.prog w base spare held n f6.type ((cs.drop f6.offset).take (Try.prog.cellsOf f6.type)) = some y6 := by
  obtain ⟨xs, n, _, rfl, hl, hlen, hf⟩ := DataW.trod_struct ht h
  match xs, hlen with
  | [y0, y1, y2, y3, y4, y5, y6], _ => exact ⟨y0, y1, y2, y3, y4, y5, y6, n, rfl, hl, by simpa using hf 0 f0 rfl, by simpa using hf 1 f1 rfl, by simpa using hf 2 f2 rfl, by simpa using hf 3 f3 rfl, by simpa using hf 4 f4 rfl, by simpa using hf 5 f5 rfl, by simpa using hf 6 f6 rfl⟩
set_option maxRecDepth 100000 in
theorem openDeed (n : Nat) (cs : List Value) (d : DataW H) (pl : List MemPlace) (h : DataW.trod enc Try.prog w base spare held n 46 cs = some (d, pl)) (hk : Light 46 d) : ∃ x : DeedS, cs = cDd x ∧ okDd x := by
  obtain ⟨y0, y1, y2, y3, y4, y5, y6, m, he, hl, h0, h1, h2, h3, h4, h5, h6⟩ := trod_seven Try.underlying46 h
  obtain rfl : d = _ := he
  rw [cellsDeed] at hl
  have hw := light_field Try.underlying46 hk
  simp only [List.map_cons, List.map_nil, DataW.weightsEach, List.append_nil, List.mem_append] at hw
  obtain ⟨z0, e0, _, _⟩ := DataW.trod_int Try.underlying3 h0
  obtain ⟨z1, e1, _, hz1⟩ := DataW.trod_int Try.underlying3 h1
  obtain ⟨z2, e2, _, _⟩ := DataW.trod_int Try.underlying3 h2
  obtain ⟨z3, e3, _, hz3⟩ := DataW.trod_int Try.underlying3 h3
  obtain ⟨s4, e4, k4⟩ := openStr h4 (fun n hn => hw n (.inr (.inr (.inr (.inr (.inl hn))))))
  obtain ⟨s5, e5, k5⟩ := openStr h5 (fun n hn => hw n (.inr (.inr (.inr (.inr (.inr (.inl hn)))))))
  obtain ⟨s6, e6, k6⟩ := openStr h6 (fun n hn => hw n (.inr (.inr (.inr (.inr (.inr (.inr hn)))))))
  match cs, hl with
  | [u0, u1, u2, u3, u4, u5, u6], _ =>
    simp only [cellsStr, cellsInt] at e0 e1 e2 e3 e4 e5 e6
    simp at e0 e1 e2 e3 e4 e5 e6
    simp only [Lit.wf, Bool.and_eq_true, decide_eq_true_eq] at hz1 hz3
    exact ⟨⟨z0, z1, z2, z3, s4, s5, s6⟩, by simp [cDd, e0, e1, e2, e3, e4, e5, e6], by exact hz1.2, by exact hz3.2, by show s4.size ≤ _; omega, by show s5.size ≤ _; omega, by show s6.size ≤ _; omega⟩
/-- The script. -/
theorem openDeeds {fuel : Nat} {cs : List Value} {x : DataW H × List MemPlace} (h : DataW.trod enc Try.prog w base spare held fuel 22 cs = some x) (hk : Light 22 x.1) :
    ∃ (v : Value) (l : List DeedS), cs = [v] ∧ DeedsV w v l ∧ l.length ≤ 1759218604390 ∧ ∀ q ∈ l, okDd q := by
  obtain ⟨l, a, cap, e1, a1, a2, a3, a4⟩ := openSlice Try.underlying22 cellsDeed bytesDeed (by omega) (good := fun (x : DeedS) cs => cs = cDd x ∧ okDd x) openDeed h hk
  refine ⟨_, l, e1, ⟨a, cap, rfl, a1, by unfold maxLen at a2; omega, a4.imp id ?_⟩, by unfold reachBytes at a3; omega, fun q hq => ?_⟩
  · rintro ⟨bb, off, rfl, hh⟩
    refine ⟨bb, off, rfl, fun i q hq j hj => ?_⟩
    obtain ⟨cs', ⟨rfl, _⟩, hc⟩ := hh i q hq
    exact hc j hj
  · rcases a4 with rfl | ⟨_, _, _, h⟩
    · cases hq
    · obtain ⟨i, hi, rfl⟩ := List.mem_iff_getElem.1 hq
      obtain ⟨_, ⟨_, hh⟩, _⟩ := h i _ (List.getElem?_eq_getElem hi)
      exact hh
end
end Go.Proofs.Ytpkhmgonkbpjjaa

namespace Go.Proofs.Ytpkhmgonkbpjjaa
open Go.ChangeShapes Go.WideShapes Go.ChangeAt Go.RowKit Go.Deep

set_option maxRecDepth 100000 in
theorem contract (H : Type) (enc : TypeId × Value → H) (W : World) (base : Nat) (args : Array Value) (ds gs : List (DataW H)) (before : List MemPlace)
    (hval : ∀ (j : Nat) t v, Try.f3.params[j]? = some t → args[j]? = some v → Value.okWide Try.prog W .any base t v)
    (hW : DataW.Whole enc Try.prog Try.f3.params.toList Rows.disksSpec.vars false W args.toList ds gs before) (hk : (DataW.weightsEach Try.prog (Try.f3.params.toList ++ Rows.disksSpec.plain.varTypes Try.prog) (ds ++ gs)).all (· ≤ reachBytes) = true) :
    Calls Try.prog 3 args W fun e W' => ∃ v, e = .returned v ∧ Rows.disksSpec.post enc Try.prog Try.f3 false true false false W args v W' := by
  have hW' := hW
  obtain ⟨p, q, hA0, hV, rfl, hfz, hnd⟩ := hW
  have hA : DataW.TrodAll enc Try.prog W 0 (fun _ => true) true Try.f3.params.toList args.toList ds p := hA0
  rw [Try.params3] at hA
  obtain ⟨v0, vs0, d0, ds0, p0, q0, hargs, rfl, rfl, h0, r0⟩ := trodAll_cons hA
  obtain ⟨v1, vs1, d1, ds1, p1, q1, hargs1, rfl, rfl, h1, r1⟩ := trodAll_cons r0
  obtain ⟨rfl, rfl, rfl⟩ := trodAll_nil r1
  obtain rfl : args = #[v0, v1] := by cases args; simp_all
  obtain ⟨rfl, rfl⟩ := trodVars_none hV
  clear hA0
  simp only [List.append_nil] at hW' hk
  rw [Try.params3] at hk
  have hb1 : Light 22 d1 := fun n hn => by
    simpa using List.all_eq_true.1 hk n (DataW.weights_mem_each (j := 1) (t := 22) rfl rfl n hn)
  obtain ⟨fuel, hf⟩ := h1
  have h1 : DataW.Trod enc Try.prog W 0 (fun _ => true) true 22 v1 d1 p1 := ⟨fuel, hf⟩
  rw [Try.params3] at hval
  obtain ⟨z, rfl⟩ := okWide_int Try.underlying3 (hval 0 3 v0 rfl rfl)
  obtain ⟨v', l, hcs', hv', hl', hok'⟩ := openDeeds hf hb1
  obtain ⟨a1, n1, c1, rfl⟩ := okWide_slice Try.underlying22 (hval 1 22 v1 rfl rfl)
  obtain rfl : Value.slice a1 n1 c1 = v' := (List.cons.inj hcs').1
  refine (disksLaw z _ l W hv' hl' hok').mono fun e W' ⟨he, hg⟩ => ?_
  subst he
  refine ⟨_, rfl, post_ext (pa := p0 ++ p1) (pv := []) hW' (fun _ _ _ => trodAll_cons_mk (shut_bool Try.underlying4 _) trodAll_mk0) (fun sp hsp => ?_) (fun _ _ => rfl) (by simp) hg (ok_one (by kernel_rfl) rfl (okWide_bool_mk Try.underlying4 _))⟩
  have hlt := hW'.lt
  have k0 : DataW.Trod enc Try.prog W' 0 sp true 3 _ d0 p0 := WideElems.Trod_stays laidOutAll (by kernel_rfl) (of_decide_eq_true (by kernel_rfl)) h0 (fun x hx => Below.same hg (hlt x (by simp [hx]))) (fun x hx => hsp x (by simp [hx]))
  have k1 : DataW.Trod enc Try.prog W' 0 sp true 22 _ d1 p1 := WideElems.Trod_stays laidOutAll (by kernel_rfl) (of_decide_eq_true (by kernel_rfl)) h1 (fun x hx => Below.same hg (hlt x (by simp [hx]))) (fun x hx => hsp x (by simp [hx]))
  have h3 := trodAll_cons_mk k0 (trodAll_cons_mk k1 (trodAll_mk0 (enc := enc) (P := Try.prog) (w := W') (base := 0) (spare := sp) (held := true)))
  rw [List.append_nil] at h3
  rw [Try.params3]
  exact h3

set_option maxRecDepth 100000 in
theorem lifted (os : Os) (started : os.Started) (H : Type) (enc : TypeId × Value → H) :
    ReturnsInHanded {} Try.checked os 3 .any (Rows.disksSpec.pre6 enc Try.prog Try.f3 Rows.disksRow.domain false) (Rows.disksSpec.post enc Try.prog Try.f3 false true false false) := by
  refine returnsInHanded_of_change_sized (C := Try.checked) ownOff started (by kernel_rfl) Try.func3
    (ChangeSpec.witness6 (enc := enc) (C := Try.checked) false ⟨#[], #[.int .i64 0, .slice none 0 0], []⟩ 16 (by kernel_rfl) (by kernel_rfl) (by kernel_rfl) (by kernel_rfl)) ?_
  intro W base args ds gs before hval hW _ hk _
  exact contract H enc W base args ds gs before hval hW hk

/-- Disks is true, whatever comes in. -/
theorem disks_holds : Rows.DisksSaid :=
  OpenClaim.holds_of_wide 3 Try.f3 rfl rfl rfl rfl rfl rfl rfl ⟨rfl, rfl, rfl, rfl, rfl⟩ rfl rfl rfl rfl rfl (by kernel_rfl) Try.func3 (by kernel_rfl)
    (of_decide_eq_true (by kernel_rfl)) (by unfold Func.isWrapper; first | (rw [if_pos (by decide +kernel)]; kernel_rfl) | (rw [if_neg (by decide +kernel)]; exact ⟨rfl, rfl⟩))
    (fun os started H enc _ => lifted os started H enc)
end Go.Proofs.Ytpkhmgonkbpjjaa
