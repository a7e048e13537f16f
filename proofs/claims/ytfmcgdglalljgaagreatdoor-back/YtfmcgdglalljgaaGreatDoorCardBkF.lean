/-
  Back returns true, and its arguments read behind the call as they read before: what is encoded is decoded as it was; a journal is read up to where it breaks off, or a byte is another one; a state with one byte less, more, or another one, is none; whatever bytes are decoded are just those of their record.
  No condition on what comes in: lists and texts of any length (the first form); the three listed tables are as the program's text lays them (the card ties them).
-/
import Derived.Test.YtfmcgdglalljgaaGreatDoorOpenW
import Derived.Test.YtfmcgdglalljgaaGreatDoorLawBk
import Derived.Test.YtfmcgdglalljgaaGreatDoorCards
import Derived.Test.YtfmcgdglalljgaaGreatDoorTie
import Derived.WalkKit
import Derived.Deep.DeepHandedRow
import Derived.Lib.LaidTab
namespace Go.Proofs.YtfmcgdglalljgaaGreatDoor
open Go.ChangeShapes Go.WideShapes Go.ChangeAt Go.RowKit Go.Deep

theorem ownOff : ownKnob Tryz.prog.godebug = none := by kernel_rfl
theorem laidOutAll : laidOutB Tryz.prog = true := by kernel_rfl
theorem gPow : Tryz.prog.globalNamed "internal/strconv.uint64pow10" = some 1 := by kernel_rfl
theorem gPowType : (Tryz.prog.globals[1]?).map (·.type) = some 251 := by kernel_rfl
theorem cellsPow : Tryz.prog.cellsOf 251 = 20 := by kernel_rfl
theorem cellsU64 : Tryz.prog.cellsOf 238 = 1 := by kernel_rfl

/-- What is laid behind the first one. -/
theorem laid_tail {P : Program} {x : String × DataW Unit} {rest : List (String × DataW Unit)} {W : World} (h : laidMet P (x :: rest) W) : laidMet P rest W := by
  obtain ⟨ps, hv, hn, ho⟩ := h
  obtain ⟨n, d⟩ := x
  obtain ⟨g, t, cs, fuel, p, q, _, _, _, _, hr, rfl⟩ := hv
  exact ⟨q, hr, (List.nodup_append.1 hn).2.1, fun b off hm => ho b off (List.mem_append_right _ hm)⟩
theorem powTable {W : World} (h : laidMetH Tryz.prog Rows.backRow.laid W) : TabP W :=
  Lib.tabIs_of_head (rest := []) gPow gPowType Tryz.underlying251 Tryz.underlying238 cellsU64 cellsPow (laid_tail (laid_tail h))

/-- What is asked behind a call that turned nothing of what was there. -/
theorem post_ext {H : Type} {enc : TypeId × Value → H} {P : Program} {f : Func} {s : ChangeSpec} {fresh handsOn again : Bool} {W W' : World} {args : Array Value} {v : Value} {ds gs : List (DataW H)} {before pa pv : List MemPlace}
    (hW : DataW.Whole enc P f.params.toList s.vars false W args.toList ds gs before)
    (hres : ∀ (b : Nat) (sp : Nat → Bool) (hd : Bool), DataW.TrodAll enc P W' b sp hd f.resultTypes.toList (v.resultList f.resultTypes.size) (s.fn H (ds ++ gs)).results [])
    (hargs : ∀ sp : Nat → Bool, (∀ p ∈ before, sp p.block = true) → DataW.TrodAll enc P W' 0 sp true f.params.toList args.toList (s.fn H (ds ++ gs)).args pa)
    (hvars : ∀ sp : Nat → Bool, (∀ p ∈ before, sp p.block = true) → DataW.TrodVars enc P W' sp s.vars (s.fn H (ds ++ gs)).vars pv)
    (hps : before = pa ++ pv) (he : Ext W W')
    (hok : ∀ (j : Nat) (t : TypeId) (r : Value), f.resultTypes[j]? = some t → (v.resultList f.resultTypes.size)[j]? = some r → Value.okWide P W' .any 0 t r) :
    s.post enc P f false fresh handsOn again W args v W' := by
  have hlt : ∀ p ∈ before, p.block < W.heap.size := fun p hp => hW.lt p hp
  have hold : ∀ p ∈ before, (fun b => decide (b < W.heap.size)) p.block = true := fun p hp => by simpa using hlt p hp
  refine ⟨ds, gs, before, [], pa, pv, hW, hres _ _ _, hargs _ hold, hvars _ hold, Below.frame he _, fun _ => ⟨hok, _, _, ([] ++ pa) ++ pv, ⟨[] ++ pa, pv, trodAll_append (hargs _ (fun _ _ => rfl)) (hres _ _ _), hvars _ (fun _ _ => rfl), rfl, ?_, fun h => by cases h⟩, ?_⟩⟩
  · obtain ⟨_, _, _, _, _, hz, _⟩ := hW
    intro b off hp
    have hp' : MemPlace.cell b off ∈ before := by rw [hps]; simpa using hp
    rw [Below.frozen he (hlt _ hp')]
    exact hz b off hp'
  · intro p hp _
    rw [hps]; simpa using hp

theorem cellsRec : Tryz.prog.cellsOf 33 = 8 := by kernel_rfl
theorem cellsTok : Tryz.prog.cellsOf 23 = 2 := by kernel_rfl
theorem cellsStep : Tryz.prog.cellsOf 31 = 5 := by kernel_rfl
section
variable {H : Type} {enc : TypeId × Value → H} {w : World} {base : Nat} {spare : Nat → Bool} {held : Bool}
theorem openInt {n : Nat} {c : List Value} {y : DataW H × List MemPlace} (h : DataW.trod enc Tryz.prog w base spare held n 3 c = some y) : ∃ z : Int, c = [.int .i64 z] := by
  obtain ⟨z, e, _, _⟩ := DataW.trod_int Tryz.underlying3 h
  exact ⟨z, e⟩
theorem openIntB {n : Nat} {c : List Value} {y : DataW H × List MemPlace} (h : DataW.trod enc Tryz.prog w base spare held n 3 c = some y) : ∃ z : Int, c = [.int .i64 z] ∧ -9223372036854775808 ≤ z ∧ z ≤ 9223372036854775807 := by
  obtain ⟨z, e, _, hz⟩ := DataW.trod_int Tryz.underlying3 h
  simp only [Lit.wf, Bool.and_eq_true, decide_eq_true_eq] at hz
  exact ⟨z, e, hz.1, hz.2⟩
set_option maxRecDepth 100000 in
theorem openRec (n : Nat) (cs : List Value) (d : DataW H) (pl : List MemPlace) (h : DataW.trod enc Tryz.prog w base spare held n 33 cs = some (d, pl)) :
    ∃ (r : Recd) (c2 c3 : Value), cs = [.int .i64 r.kind, .int .i64 r.epoch, .int .i64 r.number, .int .i64 r.op, .string r.res.id.kind, .string r.res.id.name, c2, c3] ∧ ResV w c2 c3 r.res ∧ okR r.res := by
  obtain ⟨y0, y1, y2, m, he, hl, h0, h1, h2⟩ := trod_struct3 Tryz.underlying33 h
  obtain ⟨rfl, -⟩ := Prod.mk.inj he
  rw [cellsRec] at hl
  obtain ⟨k, e0⟩ := openInt h0
  obtain ⟨t0, t1, m1, he1, hl1, h10, h11⟩ := trod_struct2 Tryz.underlying23 h1
  obtain ⟨ep, e1⟩ := openInt h10
  obtain ⟨nu, e2⟩ := openInt h11
  obtain ⟨s0, s1, m2, he2, hl2, h20, h21⟩ := trod_struct2 Tryz.underlying31 h2
  obtain ⟨op, e3⟩ := openInt h20
  obtain ⟨x, ⟨c2, c3, e4, hr⟩, hok⟩ := openRes _ _ s1.1 s1.2 h21
  match cs, hl with
  | [u0, u1, u2, u3, u4, u5, u6, u7], _ =>
    simp only [cellsInt, cellsTok, cellsStep, cellsRes] at e0 e1 e2 e3 e4
    simp at e0 e1 e2 e3 e4
    refine ⟨⟨k, ep, nu, op, x⟩, c2, c3, ?_, hr, hok⟩
    obtain ⟨rfl, rfl, rfl, rfl⟩ := e4
    subst e0 e1 e2 e3
    rfl
set_option maxRecDepth 100000 in
/-- A list of numbers, however long. -/
theorem openInts {fuel : Nat} {cs : List Value} {x : DataW H × List MemPlace} (h : DataW.trod enc Tryz.prog w base spare held fuel 34 cs = some x) : ∃ (v : Value) (l : List Int), cs = [v] ∧ IntsV w v l := by
  rcases open_slice Tryz.underlying34 h with ⟨rfl, rfl⟩ | ⟨a, len, cap, m, n, D, Pl, rfl, hb, hl, hm, hmm, rfl, hx⟩
  · exact ⟨_, [], rfl, ⟨⟨none, 0, rfl, Nat.le_refl _, by decide, .inl rfl⟩, fun x hx => (by cases hx)⟩⟩
  have hlm : len ≤ m := by rw [hmm]; split <;> omega
  rw [cellsInt] at hx
  have each : ∀ i, i < len → ∃ y : Int, (-9223372036854775808 ≤ y ∧ y ≤ 9223372036854775807) ∧ w.cell? ((a.add (i * 1)).add 0) = some (.int .i64 y) := fun i hi => by
    obtain ⟨cs', h1, h2⟩ := hx i (by omega)
    obtain ⟨_, h3, h4⟩ := World.cells?_some h1
    obtain ⟨z, e3, _, hz⟩ := DataW.trod_int Tryz.underlying3 h2
    simp only [Lit.wf, Bool.and_eq_true, decide_eq_true_eq] at hz
    refine ⟨z, ⟨hz.1, hz.2⟩, ?_⟩
    rw [h4 0 (by omega), e3]; rfl
  obtain ⟨f, hf⟩ := choose_lt each
  unfold maxLen at hm
  refine ⟨_, (List.range len).map f, rfl, ⟨some a, cap, by simp, by simpa using hl, by omega, ?_⟩, fun x hx' => ?_⟩
  · by_cases h0 : len = 0
    · left; subst h0; rfl
    right
    have hsp : a.spot = none := by
      have h5 := (hf 0 (by omega)).2
      rw [Nat.zero_mul] at h5
      have e : (a.add 0).add 0 = a := rfl
      rw [e] at h5
      unfold World.cell? at h5
      split at h5
      · split at h5
        · cases h5
        · rename_i hs; simpa using hs
      · cases h5
    obtain ⟨b, off, spot⟩ := a
    obtain rfl : spot = none := hsp
    refine ⟨b, off, rfl, fun i x hx' => ?_⟩
    obtain ⟨hi, rfl⟩ := List.getElem?_eq_some_iff.1 hx'
    simp only [List.length_map, List.length_range] at hi
    have h4 := (hf i hi).2
    simp only [List.getElem_map, List.getElem_range]
    rw [← h4]
    congr 1
    rw [add_add]
    unfold Addr.add; split <;> simp_all
  · obtain ⟨i, hi, rfl⟩ := List.mem_map.1 hx'
    exact (hf i (List.mem_range.1 hi)).1
end

set_option maxRecDepth 100000 in
theorem contract (H : Type) (enc : TypeId × Value → H) (W : World) (base : Nat) (args : Array Value) (ds gs : List (DataW H)) (before : List MemPlace)
    (hval : ∀ (j : Nat) t v, Tryz.f3.params[j]? = some t → args[j]? = some v → Value.okWide Tryz.prog W .any base t v)
    (hW : DataW.Whole enc Tryz.prog Tryz.f3.params.toList Rows.backSpec.vars false W args.toList ds gs before) (hL : laidMetH Tryz.prog Rows.backRow.laid W) :
    Calls Tryz.prog 3 args W fun e W' => ∃ v, e = .returned v ∧ Rows.backSpec.post enc Tryz.prog Tryz.f3 false true false false W args v W' := by
  have hW' := hW
  obtain ⟨p, q, hA0, hV, rfl, hfz, hnd⟩ := hW
  have hA : DataW.TrodAll enc Tryz.prog W 0 (fun _ => true) true Tryz.f3.params.toList args.toList ds p := hA0
  rw [Tryz.params3] at hA
  obtain ⟨v0, vs0, d0, ds0, p0, q0, hargs0, rfl, rfl, h0, r0⟩ := trodAll_cons hA
  obtain ⟨v1, vs1, d1, ds1, p1, q1, hargs1, rfl, rfl, h1, r1⟩ := trodAll_cons r0
  obtain ⟨v2, vs2, d2, ds2, p2, q2, hargs2, rfl, rfl, h2, r2⟩ := trodAll_cons r1
  obtain ⟨v3, vs3, d3, ds3, p3, q3, hargs3, rfl, rfl, h3, r3⟩ := trodAll_cons r2
  obtain ⟨v4, vs4, d4, ds4, p4, q4, hargs4, rfl, rfl, h4, r4⟩ := trodAll_cons r3
  obtain ⟨v5, vs5, d5, ds5, p5, q5, hargs5, rfl, rfl, h5, r5⟩ := trodAll_cons r4
  obtain ⟨rfl, rfl, rfl⟩ := trodAll_nil r5
  obtain rfl : args = #[v0, v1, v2, v3, v4, v5] := by cases args; simp_all
  obtain ⟨rfl, rfl⟩ := trodVars_none hV
  clear hA0
  simp only [List.append_nil] at hW'
  obtain ⟨fuel0, hf0⟩ := h0
  have h0 : DataW.Trod enc Tryz.prog W 0 (fun _ => true) true 33 v0 d0 p0 := ⟨fuel0, hf0⟩
  obtain ⟨fuel1, hf1⟩ := h1
  have h1 : DataW.Trod enc Tryz.prog W 0 (fun _ => true) true 34 v1 d1 p1 := ⟨fuel1, hf1⟩
  obtain ⟨fuel2, hf2⟩ := h2
  have h2 : DataW.Trod enc Tryz.prog W 0 (fun _ => true) true 3 v2 d2 p2 := ⟨fuel2, hf2⟩
  obtain ⟨fuel3, hf3⟩ := h3
  have h3 : DataW.Trod enc Tryz.prog W 0 (fun _ => true) true 3 v3 d3 p3 := ⟨fuel3, hf3⟩
  obtain ⟨fuel4, hf4⟩ := h4
  have h4 : DataW.Trod enc Tryz.prog W 0 (fun _ => true) true 3 v4 d4 p4 := ⟨fuel4, hf4⟩
  obtain ⟨fuel5, hf5⟩ := h5
  have h5 : DataW.Trod enc Tryz.prog W 0 (fun _ => true) true 9 v5 d5 p5 := ⟨fuel5, hf5⟩
  rw [Tryz.params3] at hval
  obtain ⟨cs, rfl, hcs⟩ := okWide_struct Tryz.underlying33 (hval 0 33 v0 rfl rfl)
  obtain ⟨a1, n1, c1, rfl⟩ := okWide_slice Tryz.underlying34 (hval 1 34 v1 rfl rfl)
  obtain ⟨z2, rfl⟩ := okWide_int Tryz.underlying3 (hval 2 3 v2 rfl rfl)
  obtain ⟨z3, rfl⟩ := okWide_int Tryz.underlying3 (hval 3 3 v3 rfl rfl)
  obtain ⟨z4, rfl⟩ := okWide_int Tryz.underlying3 (hval 4 3 v4 rfl rfl)
  obtain ⟨s, rfl⟩ := okWide_string Tryz.underlying9 (hval 5 9 v5 rfl rfl)
  obtain ⟨r, c2, c3, hcs2, hr, -⟩ := openRec _ _ d0 p0 hf0
  obtain ⟨u, l, hu1, hu⟩ := openInts hf1
  obtain rfl : Value.slice a1 n1 c1 = u := (List.cons.inj hu1).1
  obtain ⟨y2, e2, b2⟩ := openIntB hf2
  obtain ⟨y3, e3, b3⟩ := openIntB hf3
  obtain ⟨y4, e4, b4⟩ := openIntB hf4
  obtain rfl : z2 = y2 := by have : [Value.int .i64 z2] = [Value.int .i64 y2] := e2
                             simpa using this
  obtain rfl : z3 = y3 := by have : [Value.int .i64 z3] = [Value.int .i64 y3] := e3
                             simpa using this
  obtain rfl : z4 = y4 := by have : [Value.int .i64 z4] = [Value.int .i64 y4] := e4
                             simpa using this
  obtain ⟨s', hs', hs⟩ := openStr hf5
  obtain rfl : s = s' := by
    have : [Value.string s] = [Value.string s'] := hs'
    simpa using this
  obtain rfl : cs = #[.int .i64 r.kind, .int .i64 r.epoch, .int .i64 r.number, .int .i64 r.op, .string r.res.id.kind, .string r.res.id.name, c2, c3] := by
    apply Array.toList_inj.1
    have : cs.toList = _ := hcs2
    rw [this]
  refine (backLaw r c2 c3 _ l z2 z3 z4 s W hr hu b2 b3 b4 hs (powTable hL)).mono fun e W' ⟨he, hg⟩ => ?_
  subst he
  refine ⟨_, rfl, post_ext (pa := p0 ++ (p1 ++ (p2 ++ (p3 ++ (p4 ++ p5))))) (pv := []) hW' (fun _ _ _ => trodAll_cons_mk (shut_bool Tryz.underlying4 _) trodAll_mk0) (fun sp hsp => ?_) (fun _ _ => rfl) (by simp) hg (ok_one (by kernel_rfl) rfl (okWide_bool_mk Tryz.underlying4 _))⟩
  have hlt := hW'.lt
  have k0 : DataW.Trod enc Tryz.prog W' 0 sp true 33 _ d0 p0 := WideElems.Trod_stays laidOutAll (by kernel_rfl) (of_decide_eq_true (by kernel_rfl)) h0 (fun x hx => Below.same hg (hlt x (by simp [hx]))) (fun x hx => hsp x (by simp [hx]))
  have k1 : DataW.Trod enc Tryz.prog W' 0 sp true 34 _ d1 p1 := WideElems.Trod_stays laidOutAll (by kernel_rfl) (of_decide_eq_true (by kernel_rfl)) h1 (fun x hx => Below.same hg (hlt x (by simp [hx]))) (fun x hx => hsp x (by simp [hx]))
  have k2 : DataW.Trod enc Tryz.prog W' 0 sp true 3 _ d2 p2 := WideElems.Trod_stays laidOutAll (by kernel_rfl) (of_decide_eq_true (by kernel_rfl)) h2 (fun x hx => Below.same hg (hlt x (by simp [hx]))) (fun x hx => hsp x (by simp [hx]))
  have k3 : DataW.Trod enc Tryz.prog W' 0 sp true 3 _ d3 p3 := WideElems.Trod_stays laidOutAll (by kernel_rfl) (of_decide_eq_true (by kernel_rfl)) h3 (fun x hx => Below.same hg (hlt x (by simp [hx]))) (fun x hx => hsp x (by simp [hx]))
  have k4 : DataW.Trod enc Tryz.prog W' 0 sp true 3 _ d4 p4 := WideElems.Trod_stays laidOutAll (by kernel_rfl) (of_decide_eq_true (by kernel_rfl)) h4 (fun x hx => Below.same hg (hlt x (by simp [hx]))) (fun x hx => hsp x (by simp [hx]))
  have k5 : DataW.Trod enc Tryz.prog W' 0 sp true 9 _ d5 p5 := WideElems.Trod_stays laidOutAll (by kernel_rfl) (of_decide_eq_true (by kernel_rfl)) h5 (fun x hx => Below.same hg (hlt x (by simp [hx]))) (fun x hx => hsp x (by simp [hx]))
  have h9 := trodAll_cons_mk k0 (trodAll_cons_mk k1 (trodAll_cons_mk k2 (trodAll_cons_mk k3 (trodAll_cons_mk k4 (trodAll_cons_mk k5 (trodAll_mk0 (enc := enc) (P := Tryz.prog) (w := W') (base := 0) (spare := sp) (held := true)))))))
  rw [List.append_nil] at h9
  rw [Tryz.params3]
  exact h9

/-- The cells of a table that is laid. -/
def litCells : DataW Unit → Array Value
  | .agg l => (l.map fun | .lit (.int k n) => Value.int k n | _ => .bool false).toArray
  | _ => #[]
def putCells (cs : Array Value) : Obj → Obj
  | .cells _ t frozen => .cells cs t frozen
  | o => o
/-- A world in which the three tables are laid. -/
noncomputable def laidWorld (os : Os) : World :=
  { World.holding Tryz.prog os ⟨#[], #[], []⟩ with heap := (((World.holding Tryz.prog os ⟨#[], #[], []⟩).heap.modify 1 (putCells (litCells Rows.laid_internal_strconv_uint64pow10))).modify 2 (putCells (litCells Rows.laid_math_bits_deBruijn32tab))).modify 3 (putCells (litCells Rows.laid_math_bits_deBruijn64tab)) }
def noArg : Value := .agg #[.int .i64 0, .int .i64 0, .int .i64 0, .int .i64 0, .string ⟨#[]⟩, .string ⟨#[]⟩, .slice none 0 0, .slice none 0 0]
theorem laidThere (os : Os) : laidMet Tryz.prog Rows.backRow.laid ((laidWorld os).forCall (fun _ _ => 0) ⟨#[], #[noArg, .slice none 0 0, .int .i64 0, .int .i64 0, .int .i64 0, .string ⟨#[]⟩], []⟩).memory :=
  laidMet_of_run' 8 (by kernel_rfl) (by kernel_rfl)
theorem readsThere (os : Os) {H : Type} (enc : TypeId × Value → H) : ∃ places, DataW.whole enc Tryz.prog ((laidWorld os).forCall (fun _ _ => 0) ⟨#[], #[noArg, .slice none 0 0, .int .i64 0, .int .i64 0, .int .i64 0, .string ⟨#[]⟩], []⟩).memory Tryz.f3.params.toList Rows.backSpec.vars false (#[noArg, Value.slice none 0 0, Value.int .i64 0, Value.int .i64 0, Value.int .i64 0, Value.string ⟨#[]⟩] : Array Value).toList 16 = some ([.agg [.lit (.int .i64 0), .agg [.lit (.int .i64 0), .lit (.int .i64 0)], .agg [.lit (.int .i64 0), .agg [.agg [.lit (.string []), .lit (.string [])], .nil, .nil]]], .nil, .lit (.int .i64 0), .lit (.int .i64 0), .lit (.int .i64 0), .lit (.string [])], [], places) :=
  ⟨[], by kernel_rfl⟩

set_option maxRecDepth 100000 in
theorem lifted (os : Os) (started : os.Started) (H : Type) (enc : TypeId × Value → H) (F : Stop.Interp) :
    ReturnsInHanded {} Tryz.checked os 3 .any ((OpenSpec.ofChange Rows.backSpec).preRow enc Tryz.prog Tryz.f3 Rows.backRow.domain false Rows.backRow.laid) (((OpenSpec.ofChange Rows.backSpec).at F).post enc Tryz.prog Tryz.f3 false true false false) := by
  obtain ⟨places, hx⟩ := readsThere os enc
  refine returnsInHanded_of_row (C := Tryz.checked) (s := OpenSpec.ofChange Rows.backSpec) ownOff started (by kernel_rfl) Tryz.func3
    (witness_row_at (enc := enc) (C := Tryz.checked) false (laidWorld os) #[noArg, .slice none 0 0, .int .i64 0, .int .i64 0, .int .i64 0, .string ⟨#[]⟩] rfl (by kernel_rfl) (by kernel_rfl) (by kernel_rfl)
      (OpenSpec.preRow_of_cond 16 hx (by kernel_rfl) (fun k hk => by cases hk) (by kernel_rfl) (laidThere os))) ?_
  intro W base args ds gs before hval hW _ _ _ hL _ _
  exact contract H enc W base args ds gs before hval hW hL

theorem saidAll : Rows.BackSaid :=
  OpenClaim.holds_of_cond 3 Tryz.f3 rfl rfl rfl rfl rfl rfl rfl ⟨rfl, rfl, rfl, rfl, rfl⟩ rfl rfl rfl rfl rfl (by kernel_rfl) Tryz.func3 (by kernel_rfl)
    (of_decide_eq_true (by kernel_rfl)) (by unfold Func.isWrapper; first | (rw [if_pos (by decide +kernel)]; kernel_rfl) | (rw [if_neg (by decide +kernel)]; exact ⟨rfl, rfl⟩))
    (fun os started H enc _ F => by rw [OpenClaim.pre_eq_preRow]; exact lifted os started H enc F)

theorem noStandIn (f : FuncId) (fn : Func) (hf : Tryz.pinned.checked.prog.funcNamed "mason/masonlaw.Back" = some f) (hfn : Tryz.pinned.checked.prog.funcs[f]? = some fn) :
    false = Tryz.pinned.checked.prog.looks [] ∧ ∀ (j : Nat) t, fn.params[j]? = some t → Tryz.pinned.checked.prog.wantsStandIn t = false := by
  obtain rfl : f = 3 := Option.some.inj ((show Tryz.prog.funcNamed "mason/masonlaw.Back" = some 3 by kernel_rfl).symm.trans hf) |>.symm
  obtain rfl : fn = Tryz.f3 := (Option.some.inj (Tryz.func3.symm.trans hfn)).symm
  refine ⟨by kernel_rfl, fun j t ht => ?_⟩
  rw [Tryz.params3] at ht
  have hm : t = 33 ∨ t = 34 ∨ t = 3 ∨ t = 9 := by
    have := Array.mem_of_getElem? ht
    simp at this
    rcases this with h | h | h | h <;> simp [h]
  rcases hm with rfl | rfl | rfl | rfl
  · exact (show Tryz.prog.wantsStandIn 33 = false by kernel_rfl)
  · exact (show Tryz.prog.wantsStandIn 34 = false by kernel_rfl)
  · exact (show Tryz.prog.wantsStandIn 3 = false by kernel_rfl)
  · exact (show Tryz.prog.wantsStandIn 9 = false by kernel_rfl)

/-- The card: Back is true, whatever comes in. -/
theorem backCard_holds : Rows.BackCardSaid :=
  Claim7.holds_tied_plain_at .later [] _ _ _ _ saidAll (fun _ h => by cases h) (by kernel_rfl) (fun _ h => by cases h) back_row_tie rfl ⟨rfl, rfl⟩ (by kernel_rfl) rfl noStandIn (by kernel_rfl)
end Go.Proofs.YtfmcgdglalljgaaGreatDoor
