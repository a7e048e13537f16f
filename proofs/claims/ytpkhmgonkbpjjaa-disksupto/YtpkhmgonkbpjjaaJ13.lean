/-
  The argument of Disks, opened: a script of deeds.
-/
/-
  Disks returns true, and its arguments read behind the call as they read before: for every room and every script of calls at a disk, in every order, what the program's disk answers is what the document's reference answers, at each call; and in the end all its names and what their files have, and what is left of them behind a crash; the lists of names that came out are the caller's own.
  The condition: what comes in is of bulk at most 1048576 (the second form).
-/
import Derived.Test.YtpkhmgonkbpjjaaJ5
import Derived.Test.YtpkhmgonkbpjjaaLawDk
namespace Go.Proofs.Ytpkhmgonkbpjjaa
open Go.ChangeShapes Go.WideShapes Go.ChangeAt Go.RowKit Go.Deep

instance : Inhabited DeedS := ⟨⟨0, 0, 0, 0, ⟨#[]⟩, ⟨#[]⟩, ⟨#[]⟩⟩⟩
theorem bulk_each {H : Type} {c : Nat} : ∀ l : List (DataW H), (∀ d ∈ l, c ≤ Rows.uptoBulk d) → l.length * c ≤ Rows.uptoBulkAll l
  | [], _ => by simp
  | x :: l, h => by
    have h1 := h x List.mem_cons_self
    have h2 := bulk_each l (fun d hd => h d (List.mem_cons_of_mem _ hd))
    simp only [Rows.uptoBulkAll, List.length_cons, Nat.succ_mul]
    omega
theorem cellsDeed : Try.prog.cellsOf 46 = 7 := by kernel_rfl
section
variable {H : Type} {enc : TypeId × Value → H} {w : World} {base : Nat} {spare : Nat → Bool} {held : Bool}
set_option maxRecDepth 100000 in
theorem openSliceC {α : Type} [Inhabited α] {t e : TypeId} {sz c : Nat} (ht : Try.prog.underlying t = some (.slice e)) (hc : Try.prog.cellsOf e = sz) (hsz : 0 < sz) {good : α → List Value → Prop}
    (elem : ∀ (n : Nat) (cs : List Value) (d : DataW H) (pl : List MemPlace), DataW.trod enc Try.prog w base spare held n e cs = some (d, pl) → Rows.uptoBulk d ≤ 1048576 → (∃ x, good x cs) ∧ c ≤ Rows.uptoBulk d)
    {fuel : Nat} {cs : List Value} {x : DataW H × List MemPlace} (h : DataW.trod enc Try.prog w base spare held fuel t cs = some x) (hk : Rows.uptoBulk x.1 ≤ 1048576) :
    ∃ (l : List α) (a : Option Addr) (cap : Nat), cs = [.slice a l.length cap] ∧ l.length ≤ cap ∧ cap ≤ maxLen ∧ l.length * c ≤ 1048576 ∧
      (l = [] ∨ ∃ b off, a = some ⟨b, off, none⟩ ∧ ∀ i x, l[i]? = some x → ∃ cs', good x cs' ∧ ∀ j, j < sz → w.cell? ⟨b, off + i * sz + j, none⟩ = cs'[j]?) := by
  rcases open_slice ht h with ⟨rfl, rfl⟩ | ⟨a, len, cap, m, n, D, Pl, rfl, hb, hl, hm, hmm, rfl, hx⟩
  · exact ⟨[], none, 0, rfl, by simp, by simp, by simp, .inl rfl⟩
  have hlm : len ≤ m := by rw [hmm]; split <;> omega
  simp only [Rows.uptoBulk] at hk
  have hD : ∀ i, i < len → Rows.uptoBulk (D i) ≤ 1048576 := fun i hi => by
    have := bulk_mem (List.mem_map_of_mem (f := D) (List.mem_range.2 hi)); omega
  rw [hc] at hx
  have each : ∀ i, i < len → ∃ y : α, ∃ cs', good y cs' ∧ cs'.length = sz ∧ c ≤ Rows.uptoBulk (D i) ∧ ∀ j, j < sz → w.cell? ((a.add (i * sz)).add j) = cs'[j]? := fun i hi => by
    obtain ⟨cs', h1, h2⟩ := hx i (by omega)
    obtain ⟨_, h3, h4⟩ := World.cells?_some h1
    obtain ⟨⟨y, hy⟩, hcb⟩ := elem n cs' _ _ h2 (hD i hi)
    exact ⟨y, cs', hy, h3, hcb, h4⟩
  have hlen : len * c ≤ 1048576 := by
    have := bulk_each (c := c) ((List.range len).map D) (fun d hd => by
      obtain ⟨i, hi, rfl⟩ := List.mem_map.1 hd
      obtain ⟨_, _, _, _, h5, _⟩ := each i (List.mem_range.1 hi)
      exact h5)
    simp only [List.length_map, List.length_range] at this; omega
  obtain ⟨f, hf⟩ := choose_lt each
  refine ⟨(List.range len).map f, some a, cap, by simp, by simpa using hl, hm, by simpa using hlen, ?_⟩
  by_cases h0 : len = 0
  · left; subst h0; rfl
  right
  have hsp : a.spot = none := by
    obtain ⟨cs', _, h3, _, h4⟩ := hf 0 (by omega)
    have h5 := h4 0 hsz
    rw [Nat.zero_mul] at h5
    have e : (a.add 0).add 0 = a := rfl
    rw [e, List.getElem?_eq_getElem (by omega)] at h5
    unfold World.cell? at h5
    split at h5
    · split at h5
      · cases h5
      · rename_i hs; simpa using hs
    · cases h5
  obtain ⟨b, off, spot⟩ := a
  obtain rfl : spot = none := hsp
  refine ⟨b, off, rfl, fun i x hx' => ?_⟩
  obtain ⟨hi, rfl⟩ := List.getElem?_eq_some_iff.1 hx'
  simp only [List.length_map, List.length_range] at hi
  obtain ⟨cs', h2, _, _, h4⟩ := hf i hi
  refine ⟨cs', by simpa using h2, fun j hj => ?_⟩
  rw [← h4 j hj]
  congr 1
  rw [add_add]
  unfold Addr.add; split <;> simp_all; omega
theorem trod_seven {t : TypeId} {f0 f1 f2 f3 f4 f5 f6 : Field} {fuel : Nat} {cs : List Value} {x : DataW H × List MemPlace} (ht : Try.prog.underlying t = some (.struct #[f0, f1, f2, f3, f4, f5, f6])) (h : DataW.trod enc Try.prog w base spare held fuel t cs = some x) :
    ∃ y0 y1 y2 y3 y4 y5 y6 n, x.1 = .agg [y0.1, y1.1, y2.1, y3.1, y4.1, y5.1, y6.1] ∧ cs.length = Try.prog.cellsOf t ∧ DataW.trod enc Try.prog w base spare held n f0.type ((cs.drop f0.offset).take (Try.prog.cellsOf f0.type)) = some y0 ∧
      DataW.trod enc Try.prog w base spare held n f1.type ((cs.drop f1.offset).take (Try.prog.cellsOf f1.type)) = some y1 ∧ DataW.trod enc Try.prog w base spare held n f2.type ((cs.drop f2.offset).take (Try.prog.cellsOf f2.type)) = some y2 ∧
      DataW.trod enc Try.prog w base spare held n f3.type ((cs.drop f3.offset).take (Try.prog.cellsOf f3.type)) = some y3 ∧ DataW.trod enc Try.prog w base spare held n f4.type ((cs.drop f4.offset).take (Try.prog.cellsOf f4.type)) = some y4 ∧
      DataW.trod enc Try.prog w base spare held n f5.type ((cs.drop f5.offset).take (Try.prog.cellsOf f5.type)) = some y5 ∧ DataW.trod enc Try.prog w base spare held n f6.type ((cs.drop f6.offset).take (Try.prog.cellsOf f6.type)) = some y6 := by
  obtain ⟨xs, n, _, rfl, hl, hlen, hf⟩ := DataW.trod_struct ht h
  match xs, hlen with
  | [y0, y1, y2, y3, y4, y5, y6], _ => exact ⟨y0, y1, y2, y3, y4, y5, y6, n, rfl, hl, by simpa using hf 0 f0 rfl, by simpa using hf 1 f1 rfl, by simpa using hf 2 f2 rfl, by simpa using hf 3 f3 rfl, by simpa using hf 4 f4 rfl, by simpa using hf 5 f5 rfl, by simpa using hf 6 f6 rfl⟩
set_option maxRecDepth 100000 in
theorem openDeed (n : Nat) (cs : List Value) (d : DataW H) (pl : List MemPlace) (h : DataW.trod enc Try.prog w base spare held n 46 cs = some (d, pl)) (hk : Rows.uptoBulk d ≤ 1048576) : (∃ x : DeedS, cs = cDd x ∧ okDd x) ∧ 8 ≤ Rows.uptoBulk d := by
  obtain ⟨y0, y1, y2, y3, y4, y5, y6, m, he, hl, h0, h1, h2, h3, h4, h5, h6⟩ := trod_seven Try.underlying46 h
  obtain rfl : d = _ := he
  rw [cellsDeed] at hl
  simp only [Rows.uptoBulk, Rows.uptoBulkAll] at hk
  have g0 := bulk_one y0.1
  have g1 := bulk_one y1.1
  have g2 := bulk_one y2.1
  have g3 := bulk_one y3.1
  have g4 := bulk_one y4.1
  have g5 := bulk_one y5.1
  have g6 := bulk_one y6.1
  refine ⟨?_, by simp only [Rows.uptoBulk, Rows.uptoBulkAll]; omega⟩
  obtain ⟨z0, e0, _, _⟩ := DataW.trod_int Try.underlying3 h0
  obtain ⟨z1, e1, _, hz1⟩ := DataW.trod_int Try.underlying3 h1
  obtain ⟨z2, e2, _, _⟩ := DataW.trod_int Try.underlying3 h2
  obtain ⟨z3, e3, _, hz3⟩ := DataW.trod_int Try.underlying3 h3
  obtain ⟨s4, e4, k4⟩ := openStr h4 (by omega)
  obtain ⟨s5, e5, k5⟩ := openStr h5 (by omega)
  obtain ⟨s6, e6, k6⟩ := openStr h6 (by omega)
  match cs, hl with
  | [u0, u1, u2, u3, u4, u5, u6], _ =>
    simp only [cellsStr, cellsInt] at e0 e1 e2 e3 e4 e5 e6
    simp at e0 e1 e2 e3 e4 e5 e6
    simp only [Lit.wf, Bool.and_eq_true, decide_eq_true_eq] at hz1 hz3
    exact ⟨⟨z0, z1, z2, z3, s4, s5, s6⟩, by simp [cDd, e0, e1, e2, e3, e4, e5, e6], by exact hz1.2, by exact hz3.2, k4, k5, k6⟩
/-- The script: none of it is long. -/
theorem openDeeds {fuel : Nat} {cs : List Value} {x : DataW H × List MemPlace} (h : DataW.trod enc Try.prog w base spare held fuel 22 cs = some x) (hk : Rows.uptoBulk x.1 ≤ 1048576) :
    ∃ (v : Value) (l : List DeedS), cs = [v] ∧ DeedsV w v l ∧ l.length ≤ 200000 ∧ ∀ q ∈ l, okDd q := by
  obtain ⟨l, a, cap, e1, a1, a2, a3, a4⟩ := openSliceC (c := 8) Try.underlying22 cellsDeed (by omega) (good := fun (x : DeedS) cs => cs = cDd x ∧ okDd x) openDeed h hk
  refine ⟨_, l, e1, ⟨a, cap, rfl, a1, by unfold maxLen at a2; omega, a4.imp id ?_⟩, by omega, fun q hq => ?_⟩
  · rintro ⟨bb, off, rfl, hh⟩
    refine ⟨bb, off, rfl, fun i q hq j hj => ?_⟩
    obtain ⟨cs', ⟨rfl, _⟩, hc⟩ := hh i q hq
    exact hc j hj
  · rcases a4 with rfl | ⟨_, _, _, h⟩
    · cases hq
    · obtain ⟨i, hi, rfl⟩ := List.mem_iff_getElem.1 hq
      obtain ⟨_, ⟨_, hh⟩, _⟩ := h i _ (List.getElem?_eq_getElem hi)
      exact hh
end
end Go.Proofs.Ytpkhmgonkbpjjaa

namespace Go.Proofs.Ytpkhmgonkbpjjaa
open Go.ChangeShapes Go.WideShapes Go.ChangeAt Go.RowKit Go.Deep

set_option maxRecDepth 100000 in
theorem contract (H : Type) (enc : TypeId × Value → H) (W : World) (base : Nat) (args : Array Value) (ds gs : List (DataW H)) (before : List MemPlace)
    (hval : ∀ (j : Nat) t v, Try.f3.params[j]? = some t → args[j]? = some v → Value.okWide Try.prog W .any base t v)
    (hW : DataW.Whole enc Try.prog Try.f3.params.toList Rows.disksSpec.vars false W args.toList ds gs before) (hk : Rows.uptoSmall H (ds ++ gs) = true) :
    Calls Try.prog 3 args W fun e W' => ∃ v, e = .returned v ∧ Rows.disksSpec.post enc Try.prog Try.f3 false true false false W args v W' := by
  have hW' := hW
  obtain ⟨p, q, hA0, hV, rfl, hfz, hnd⟩ := hW
  have hA : DataW.TrodAll enc Try.prog W 0 (fun _ => true) true Try.f3.params.toList args.toList ds p := hA0
  rw [Try.params3] at hA
  obtain ⟨v0, vs0, d0, ds0, p0, q0, hargs, rfl, rfl, h0, r0⟩ := trodAll_cons hA
  obtain ⟨v1, vs1, d1, ds1, p1, q1, hargs1, rfl, rfl, h1, r1⟩ := trodAll_cons r0
  obtain ⟨rfl, rfl, rfl⟩ := trodAll_nil r1
  obtain rfl : args = #[v0, v1] := by cases args; simp_all
  obtain ⟨rfl, rfl⟩ := trodVars_none hV
  clear hA0
  simp only [List.append_nil] at hW' hk
  have hb : Rows.uptoBulk d0 ≤ 1048576 ∧ Rows.uptoBulk d1 ≤ 1048576 := by
    have h : Rows.uptoBulkAll [d0, d1] ≤ 1048576 := of_decide_eq_true hk
    simp only [Rows.uptoBulkAll] at h; omega
  obtain ⟨fuel, hf⟩ := h1
  have h1 : DataW.Trod enc Try.prog W 0 (fun _ => true) true 22 v1 d1 p1 := ⟨fuel, hf⟩
  rw [Try.params3] at hval
  obtain ⟨z, rfl⟩ := okWide_int Try.underlying3 (hval 0 3 v0 rfl rfl)
  obtain ⟨v', l, hcs', hv', hl', hok'⟩ := openDeeds hf hb.2
  obtain ⟨a1, n1, c1, rfl⟩ := okWide_slice Try.underlying22 (hval 1 22 v1 rfl rfl)
  obtain rfl : Value.slice a1 n1 c1 = v' := (List.cons.inj hcs').1
  refine (disksLaw z _ l W hv' hl' hok').mono fun e W' ⟨he, hg⟩ => ?_
  subst he
  refine ⟨_, rfl, post_ext (pa := p0 ++ p1) (pv := []) hW' (fun _ _ _ => trodAll_cons_mk (shut_bool Try.underlying4 _) trodAll_mk0) (fun sp hsp => ?_) (fun _ _ => rfl) (by simp) hg (ok_one (by kernel_rfl) rfl (okWide_bool_mk Try.underlying4 _))⟩
  have hlt := hW'.lt
  have k0 : DataW.Trod enc Try.prog W' 0 sp true 3 _ d0 p0 := WideElems.Trod_stays laidOutAll (by kernel_rfl) (of_decide_eq_true (by kernel_rfl)) h0 (fun x hx => Below.same hg (hlt x (by simp [hx]))) (fun x hx => hsp x (by simp [hx]))
  have k1 : DataW.Trod enc Try.prog W' 0 sp true 22 _ d1 p1 := WideElems.Trod_stays laidOutAll (by kernel_rfl) (of_decide_eq_true (by kernel_rfl)) h1 (fun x hx => Below.same hg (hlt x (by simp [hx]))) (fun x hx => hsp x (by simp [hx]))
  have h3 := trodAll_cons_mk k0 (trodAll_cons_mk k1 (trodAll_mk0 (enc := enc) (P := Try.prog) (w := W') (base := 0) (spare := sp) (held := true)))
  rw [List.append_nil] at h3
  rw [Try.params3]
  exact h3

set_option maxRecDepth 100000 in
theorem lifted (os : Os) (started : os.Started) (H : Type) (enc : TypeId × Value → H) (F : Stop.Interp) :
    ReturnsInHanded {} Try.checked os 3 .any ((Rows.OpenSpec.upto Rows.disksSpec).pre6 enc Try.prog Try.f3 Rows.disksUptoRow.domain false) (((Rows.OpenSpec.upto Rows.disksSpec).at F).post enc Try.prog Try.f3 false true false false) := by
  refine returnsInHanded_of_cond (C := Try.checked) (s := Rows.OpenSpec.upto Rows.disksSpec) (k := Rows.uptoSmall) rfl ownOff started (by kernel_rfl) Try.func3
    (OpenSpec.witness (enc := enc) (C := Try.checked) (s := Rows.OpenSpec.upto Rows.disksSpec) (k := Rows.uptoSmall) rfl false ⟨#[], #[.int .i64 0, .slice none 0 0], []⟩ 16 (by kernel_rfl) (by kernel_rfl) (by kernel_rfl)
      (x := ([.lit (.int .i64 0), .nil], [], [])) (by kernel_rfl) rfl (by kernel_rfl)) ?_
  intro W base args ds gs before hval hW _ hk _
  exact contract H enc W base args ds gs before hval hW hk

/-- Disks is true wherever what comes in is of bulk at most 1048576. -/
theorem disksUpto_holds : Rows.DisksUptoSaid :=
  OpenClaim.holds_of_cond 3 Try.f3 rfl rfl rfl rfl rfl rfl rfl ⟨rfl, rfl, rfl, rfl, rfl⟩ rfl rfl rfl rfl rfl (by kernel_rfl) Try.func3 (by kernel_rfl)
    (of_decide_eq_true (by kernel_rfl)) (by unfold Func.isWrapper; first | (rw [if_pos (by decide +kernel)]; kernel_rfl) | (rw [if_neg (by decide +kernel)]; exact ⟨rfl, rfl⟩))
    (fun os started H enc _ F => lifted os started H enc F)
end Go.Proofs.Ytpkhmgonkbpjjaa
