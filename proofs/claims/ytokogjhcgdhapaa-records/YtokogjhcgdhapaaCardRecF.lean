/-
  Records returns true, and its arguments read behind the call as they read before: for every record and every text, what the program's Sum, Encode and Decode answer is what the document's reference answers, what was lent is as it was, and the lists that came out are the caller's own.
  No condition on what comes in (the first form): the form's own reach bounds each list and text.
-/
import Derived.Test.YtokogjhcgdhapaaOpenR
import Derived.Test.YtokogjhcgdhapaaLawRec
import Derived.WalkKit
import Derived.SizedLaws
import Derived.ProofKit
import Derived.OpenShut
namespace Go.Proofs.Ytokogjhcgdhapaa
open Go.ChangeShapes Go.WideShapes Go.ChangeAt Go.RowKit Go.Deep

theorem ownOff : ownKnob Try.prog.godebug = none := by kernel_rfl
theorem laidOutAll : laidOutB Try.prog = true := by kernel_rfl
theorem cellsRec : Try.prog.cellsOf 33 = 8 := by kernel_rfl
theorem cellsTok : Try.prog.cellsOf 23 = 2 := by kernel_rfl
theorem cellsStep : Try.prog.cellsOf 31 = 5 := by kernel_rfl

/-- What is asked behind a call that turned nothing of what was there. -/
theorem post_ext {H : Type} {enc : TypeId × Value → H} {P : Program} {f : Func} {s : ChangeSpec} {fresh handsOn again : Bool} {W W' : World} {args : Array Value} {v : Value} {ds gs : List (DataW H)} {before pa pv : List MemPlace}
    (hW : DataW.Whole enc P f.params.toList s.vars false W args.toList ds gs before)
    (hres : ∀ (b : Nat) (sp : Nat → Bool) (hd : Bool), DataW.TrodAll enc P W' b sp hd f.resultTypes.toList (v.resultList f.resultTypes.size) (s.fn H (ds ++ gs)).results [])
    (hargs : ∀ sp : Nat → Bool, (∀ p ∈ before, sp p.block = true) → DataW.TrodAll enc P W' 0 sp true f.params.toList args.toList (s.fn H (ds ++ gs)).args pa)
    (hvars : ∀ sp : Nat → Bool, (∀ p ∈ before, sp p.block = true) → DataW.TrodVars enc P W' sp s.vars (s.fn H (ds ++ gs)).vars pv)
    (hps : before = pa ++ pv) (he : Ext W W')
    (hok : ∀ (j : Nat) (t : TypeId) (r : Value), f.resultTypes[j]? = some t → (v.resultList f.resultTypes.size)[j]? = some r → Value.okWide P W' .any 0 t r) :
    s.post enc P f false fresh handsOn again W args v W' := by
  have hlt : ∀ p ∈ before, p.block < W.heap.size := fun p hp => hW.lt p hp
  have hold : ∀ p ∈ before, (fun b => decide (b < W.heap.size)) p.block = true := fun p hp => by simpa using hlt p hp
  refine ⟨ds, gs, before, [], pa, pv, hW, hres _ _ _, hargs _ hold, hvars _ hold, Below.frame he _, fun _ => ⟨hok, _, _, ([] ++ pa) ++ pv, ⟨[] ++ pa, pv, trodAll_append (hargs _ (fun _ _ => rfl)) (hres _ _ _), hvars _ (fun _ _ => rfl), rfl, ?_, fun h => by cases h⟩, ?_⟩⟩
  · obtain ⟨_, _, _, _, _, hz, _⟩ := hW
    intro b off hp
    have hp' : MemPlace.cell b off ∈ before := by rw [hps]; simpa using hp
    rw [Below.frozen he (hlt _ hp')]
    exact hz b off hp'
  · intro p hp _
    rw [hps]; simpa using hp

section
variable {H : Type} {enc : TypeId × Value → H} {w : World} {base : Nat} {spare : Nat → Bool} {held : Bool}
theorem openInt {n : Nat} {c : List Value} {y : DataW H × List MemPlace} (h : DataW.trod enc Try.prog w base spare held n 3 c = some y) : ∃ z : Int, c = [.int .i64 z] := by
  obtain ⟨z, e, _, _⟩ := DataW.trod_int Try.underlying3 h
  exact ⟨z, e⟩
set_option maxRecDepth 100000 in
theorem openRec (n : Nat) (cs : List Value) (d : DataW H) (pl : List MemPlace) (h : DataW.trod enc Try.prog w base spare held n 33 cs = some (d, pl)) (hk : Light 33 d) :
    ∃ (r : Recd) (c2 c3 : Value), cs = [.int .i64 r.kind, .int .i64 r.epoch, .int .i64 r.number, .int .i64 r.op, .string r.res.id.kind, .string r.res.id.name, c2, c3] ∧ ResV w c2 c3 r.res ∧ okR r.res := by
  obtain ⟨y0, y1, y2, m, he, hl, h0, h1, h2⟩ := trod_struct3 Try.underlying33 h
  obtain ⟨rfl, -⟩ := Prod.mk.inj he
  rw [cellsRec] at hl
  have hw := light_field Try.underlying33 hk
  simp only [List.map_cons, List.map_nil, DataW.weightsEach, List.append_nil, List.mem_append] at hw
  obtain ⟨k, e0⟩ := openInt h0
  obtain ⟨t0, t1, m1, he1, hl1, h10, h11⟩ := trod_struct2 Try.underlying23 h1
  obtain ⟨ep, e1⟩ := openInt h10
  obtain ⟨nu, e2⟩ := openInt h11
  obtain ⟨s0, s1, m2, he2, hl2, h20, h21⟩ := trod_struct2 Try.underlying31 h2
  obtain ⟨op, e3⟩ := openInt h20
  have hk2 : Light 29 s1.1 := by
    have : Light 31 y2.1 := fun n hn => hw n (.inr (.inr hn))
    rw [show y2.1 = _ from congrArg Prod.fst he2] at this
    have hw2 := light_field Try.underlying31 this
    simp only [List.map_cons, List.map_nil, DataW.weightsEach, List.append_nil, List.mem_append] at hw2
    exact fun n hn => hw2 n (.inr hn)
  obtain ⟨x, ⟨c2, c3, e4, hr⟩, hok⟩ := openRes _ _ s1.1 s1.2 h21 hk2
  match cs, hl with
  | [u0, u1, u2, u3, u4, u5, u6, u7], _ =>
    simp only [cellsInt, cellsTok, cellsStep, cellsRes] at e0 e1 e2 e3 e4
    simp at e0 e1 e2 e3 e4
    refine ⟨⟨k, ep, nu, op, x⟩, c2, c3, ?_, hr, hok⟩
    obtain ⟨rfl, rfl, rfl, rfl⟩ := e4
    subst e0 e1 e2 e3
    rfl
end

set_option maxRecDepth 100000 in
theorem contract (H : Type) (enc : TypeId × Value → H) (W : World) (base : Nat) (args : Array Value) (ds gs : List (DataW H)) (before : List MemPlace)
    (hval : ∀ (j : Nat) t v, Try.f3.params[j]? = some t → args[j]? = some v → Value.okWide Try.prog W .any base t v)
    (hW : DataW.Whole enc Try.prog Try.f3.params.toList Rows.recordsSpec.vars false W args.toList ds gs before) (hk : (DataW.weightsEach Try.prog (Try.f3.params.toList ++ Rows.recordsSpec.plain.varTypes Try.prog) (ds ++ gs)).all (· ≤ reachBytes) = true) :
    Calls Try.prog 3 args W fun e W' => ∃ v, e = .returned v ∧ Rows.recordsSpec.post enc Try.prog Try.f3 false true false false W args v W' := by
  have hW' := hW
  obtain ⟨p, q, hA0, hV, rfl, hfz, hnd⟩ := hW
  have hA : DataW.TrodAll enc Try.prog W 0 (fun _ => true) true Try.f3.params.toList args.toList ds p := hA0
  rw [Try.params3] at hA
  obtain ⟨v0, vs0, d0, ds0, p0, q0, hargs, rfl, rfl, h0, r0⟩ := trodAll_cons hA
  obtain ⟨v1, vs1, d1, ds1, p1, q1, hargs1, rfl, rfl, h1, r1⟩ := trodAll_cons r0
  obtain ⟨rfl, rfl, rfl⟩ := trodAll_nil r1
  obtain rfl : args = #[v0, v1] := by cases args; simp_all
  obtain ⟨rfl, rfl⟩ := trodVars_none hV
  clear hA0
  simp only [List.append_nil] at hW' hk
  rw [Try.params3] at hk
  have hb0 : Light 33 d0 := fun n hn => by
    simpa using List.all_eq_true.1 hk n (DataW.weights_mem_each (j := 0) (t := 33) rfl rfl n hn)
  have hb1 : Light 9 d1 := fun n hn => by
    simpa using List.all_eq_true.1 hk n (DataW.weights_mem_each (j := 1) (t := 9) rfl rfl n hn)
  obtain ⟨fuel, hf⟩ := h0
  have h0 : DataW.Trod enc Try.prog W 0 (fun _ => true) true 33 v0 d0 p0 := ⟨fuel, hf⟩
  obtain ⟨fuel1, hf1⟩ := h1
  have h1 : DataW.Trod enc Try.prog W 0 (fun _ => true) true 9 v1 d1 p1 := ⟨fuel1, hf1⟩
  rw [Try.params3] at hval
  obtain ⟨cs, rfl, hcs⟩ := okWide_struct Try.underlying33 (hval 0 33 v0 rfl rfl)
  obtain ⟨s, rfl⟩ := okWide_string Try.underlying9 (hval 1 9 v1 rfl rfl)
  obtain ⟨r, c2, c3, hcs2, hr, hok⟩ := openRec _ _ d0 p0 hf hb0
  obtain ⟨s', hs', hs⟩ := openStr hf1 hb1
  obtain rfl : s = s' := by
    have : [Value.string s] = [Value.string s'] := hs'
    simpa using this
  obtain rfl : cs = #[.int .i64 r.kind, .int .i64 r.epoch, .int .i64 r.number, .int .i64 r.op, .string r.res.id.kind, .string r.res.id.name, c2, c3] := by
    apply Array.toList_inj.1
    have : cs.toList = _ := hcs2
    rw [this]
  refine (recordsLaw r c2 c3 s W hr hok (by omega)).mono fun e W' ⟨he, hg⟩ => ?_
  subst he
  refine ⟨_, rfl, post_ext (pa := p0 ++ p1) (pv := []) hW' (fun _ _ _ => trodAll_cons_mk (shut_bool Try.underlying4 _) trodAll_mk0) (fun sp hsp => ?_) (fun _ _ => rfl) (by simp) hg (ok_one (by kernel_rfl) rfl (okWide_bool_mk Try.underlying4 _))⟩
  have hlt := hW'.lt
  have k0 : DataW.Trod enc Try.prog W' 0 sp true 33 _ d0 p0 := WideElems.Trod_stays laidOutAll (by kernel_rfl) (of_decide_eq_true (by kernel_rfl)) h0 (fun x hx => Below.same hg (hlt x (by simp [hx]))) (fun x hx => hsp x (by simp [hx]))
  have k1 : DataW.Trod enc Try.prog W' 0 sp true 9 _ d1 p1 := WideElems.Trod_stays laidOutAll (by kernel_rfl) (of_decide_eq_true (by kernel_rfl)) h1 (fun x hx => Below.same hg (hlt x (by simp [hx]))) (fun x hx => hsp x (by simp [hx]))
  have h2 := trodAll_cons_mk k0 (trodAll_cons_mk k1 (trodAll_mk0 (enc := enc) (P := Try.prog) (w := W') (base := 0) (spare := sp) (held := true)))
  rw [List.append_nil] at h2
  rw [Try.params3]
  exact h2

def noArg : Value := .agg #[.int .i64 0, .int .i64 0, .int .i64 0, .int .i64 0, .string ⟨#[]⟩, .string ⟨#[]⟩, .slice none 0 0, .slice none 0 0]

set_option maxRecDepth 100000 in
theorem lifted (os : Os) (started : os.Started) (H : Type) (enc : TypeId × Value → H) :
    ReturnsInHanded {} Try.checked os 3 .any (Rows.recordsSpec.pre6 enc Try.prog Try.f3 Rows.recordsRow.domain false) (Rows.recordsSpec.post enc Try.prog Try.f3 false true false false) := by
  refine returnsInHanded_of_change_sized (C := Try.checked) ownOff started (by kernel_rfl) Try.func3
    (ChangeSpec.witness6 (enc := enc) (C := Try.checked) false ⟨#[], #[noArg, .string ⟨#[]⟩], []⟩ 16 (by kernel_rfl) (by kernel_rfl) (by kernel_rfl) (by kernel_rfl)) ?_
  intro W base args ds gs before hval hW _ hk _
  exact contract H enc W base args ds gs before hval hW hk

/-- Records is true, whatever comes in. -/
theorem records_holds : Rows.RecordsSaid :=
  OpenClaim.holds_of_wide 3 Try.f3 rfl rfl rfl rfl rfl rfl rfl ⟨rfl, rfl, rfl, rfl, rfl⟩ rfl rfl rfl rfl rfl (by kernel_rfl) Try.func3 (by kernel_rfl)
    (of_decide_eq_true (by kernel_rfl)) (by unfold Func.isWrapper; first | (rw [if_pos (by decide +kernel)]; kernel_rfl) | (rw [if_neg (by decide +kernel)]; exact ⟨rfl, rfl⟩))
    (fun os started H enc _ => lifted os started H enc)
end Go.Proofs.Ytokogjhcgdhapaa
